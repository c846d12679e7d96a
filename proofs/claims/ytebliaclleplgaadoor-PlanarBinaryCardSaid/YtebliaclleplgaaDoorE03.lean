import Derived.Test.YtebliaclleplgaaDoorE02
import Derived.Test.YtebliaclleplgaaDoorE01
/- Walk: cycles. -/
namespace Go.Proofs.YtebliaclleplgaaDoor
open Go.RowKit

/-- The test function 'func fid' answers P x, in every world after w. -/
def Asks (w : World) (fid : FuncId) (caps : Array Value) (p : Nat → Bool) (N : Nat) : Prop := ∀ (W : World) (x : Nat), Below w.heap.size w W → x < N →
  Calls Tryd.prog fid (#[.int .i64 (x : Nat)] ++ caps) W fun e W' => e = .returned (.bool (p x)) ∧ Below W.heap.size W W'

/-- Is h the first wanted one of its cycle? -/
def sel (f : Nat → Nat) (N : Nat) (p : Nat → Bool) (h : Nat) : Bool := p h && (cyc f N h).all (fun g => !(p g) || decide (h ≤ g))
def cycL (f : Nat → Nat) (N : Nat) (p : Nat → Bool) (k : Nat) : List (List Int) := ((List.range k).filter (sel f N p)).map (fun h => itl f h (per f N h))
theorem cycL_succ (f : Nat → Nat) (N : Nat) (p : Nat → Bool) (k : Nat) : cycL f N p (k + 1) = cycL f N p k ++ if sel f N p k then [itl f k (per f N k)] else [] := by
  unfold cycL; rw [List.range_succ, List.filter_append, List.map_append]
  cases h : sel f N p k <;> simp [h]
theorem cycL_length (f : Nat → Nat) (N : Nat) (p : Nat → Bool) (k : Nat) : (cycL f N p k).length ≤ k := by
  unfold cycL; rw [List.length_map]; exact Nat.le_trans (List.length_filter_le _ _) (by simp)
theorem Perm.sel_iff {f : Nat → Nat} {N : Nat} (q : Perm f N) (p : Nat → Bool) {h : Nat} (hh : h < N) : sel f N p h = true ↔ p h = true ∧ ∀ h', h' < h → p h' = true → ¬ Orb f h' h := by
  unfold sel
  rw [Bool.and_eq_true, List.all_eq_true]
  constructor
  · rintro ⟨h1, h2⟩
    refine ⟨h1, fun h' hlt hp o => ?_⟩
    have := h2 h' ((q.mem_cyc hh h').2 (q.orb_symm (by omega) o))
    rw [hp] at this; simp at this; omega
  · rintro ⟨h1, h2⟩
    refine ⟨h1, fun g hg => ?_⟩
    have o := (q.mem_cyc hh g).1 hg
    cases hp : p g with
    | false => rfl
    | true =>
      simp only [Bool.not_true, Bool.false_or, decide_eq_true_eq]
      by_cases hlt : g < h
      · exact absurd (q.orb_symm hh o) (h2 g hlt hp)
      · omega

/-- Block g tells which numbers are on the cycle of a wanted number below k. -/
def SeenP (f : Nat → Nat) (p : Nat → Bool) (N k : Nat) (g : Nat) (w : World) : Prop := ∃ S : Nat → Bool, Arr w g 4 N (bv S) ∧ ∀ x, x < N → (S x = true ↔ ∃ h, h < k ∧ p h = true ∧ Orb f h x)

/-- And those that the first j steps from k reach. -/
def SeenI (f : Nat → Nat) (N k j : Nat) (S : Nat → Bool) (g : Nat) (w : World) : Prop := ∃ S' : Nat → Bool, Arr w g 4 N (bv S') ∧ ∀ x, x < N → (S' x = true ↔ S x = true ∨ ∃ i, i < j ∧ it f i k = x)

def CycsPost (w : World) (xss : List (List Int)) (e : Ending) (w' : World) : Prop := ∃ v, e = .returned v ∧ OO w' w.heap.size v xss ∧ Below w.heap.size w w'

set_option maxHeartbeats 3200000 in
set_option maxRecDepth 100000 in
theorem cycles_any (fid fidp : FuncId) (gd N : Nat) (caps : Array Value) (f : Nat → Nat) (p : Nat → Bool) (w : World) (hcall : Enters fid) (hcallp : Enters fidp) (hn : Next w fid gd f N) (ha : Asks w fidp caps p N) (hp : Perm f N) (hN : N ≤ 256) :
    Calls Tryd.prog 46 #[.int .i64 (N : Nat), .func (.func fidp) #[] caps, .func (.func fid) #[] #[.pointer (some ⟨gd, 0, none⟩)]] w (CycsPost w (cycL f N p N)) := by
  have hcf : ∀ (args : Array Value) (W : World), (callFunc fidp args).run Tryd.prog W = .ok (.enter fidp args) W := hcallp
  clear hcallp
  have hmk := fun W => make_one (P := Tryd.prog) Tryd.underlying80 Tryd.infoBool rfl N (by omega) (by omega) W
  have HCE := Lib.hid hcall
  have HN := Lib.hid hn
  have HA := Lib.hid ha
  have HP := Lib.hid hp
  clear hn ha hp hcall
  have hs0 : SeenP f p N 0 w.heap.size (w.alloc (.cells (cellsN N fun _ => .bool false) 4)) := ⟨fun _ => false, Arr.new w N _ _, fun x _ => ⟨fun h => Bool.noConfusion h, fun ⟨_, h, _⟩ => absurd h (by omega)⟩⟩
  have hb0 := below_alloc w (.cells (cellsN N fun _ => .bool false) 4)
  go_enter Tryd.func46, Tryd.ntmps46
  go_wp2
  generalize w.alloc (.cells (cellsN N fun _ => .bool false) 4) = wA at hs0 hb0
  go_loopw [7, 9, 10, 12, 16] (fun v _ _ _ i wr => ∃ k : Nat, k ≤ N ∧ i = .int .i64 k ∧ Below w.heap.size w wr ∧ SeenP f p N k w.heap.size wr ∧ OO wr w.heap.size v (cycL f N p k)) (fun _ _ _ _ i _ => N - (intOf i).toNat)
  case atStart => exact ⟨0, by omega, rfl, hb0, hs0, OO.nil _ _⟩
  case round =>
    obtain ⟨k, hk, rfl, hbr, hsr, hown⟩ := hrel
    by_cases hlt : k < N
    · obtain ⟨S, hA, hS⟩ := hsr
      have hcS : wr.cell? ⟨w.heap.size, k, none⟩ = some (.bool (S k)) := hA.cell k hlt
      have hk0 : (0 : Int) ≤ (k : Int) := Int.natCast_nonneg _
      have hk1 : (k : Int) < (N : Int) := by omega
      cases hSk : S k with
      | true =>
        obtain ⟨h', h1, h2, h3⟩ := (hS k hlt).1 hSk
        have hsel : sel f N p k = false := by
          cases e : sel f N p k with
          | false => rfl
          | true => exact absurd h3 (((HP.out.sel_iff p hlt).1 e).2 h' h1 h2)
        have hsn : SeenP f p N (k + 1) w.heap.size wr := ⟨S, hA, fun x hx => (hS x hx).trans ⟨fun ⟨a, b, c⟩ => ⟨a, by omega, c⟩, fun ⟨a, b, c, d⟩ => by
          by_cases e : a = k
          · subst e; exact ⟨h', h1, h2, h3.trans d⟩
          · exact ⟨a, by omega, c, d⟩⟩⟩
        have hcy : cycL f N p (k + 1) = cycL f N p k := by rw [cycL_succ, hsel]; simp
        rw [← hcy] at hown
        rw [hSk] at hcS
        clear hS hA hSk hsel hcy
        go_wp2
        go_roundw
        case rel => exact ⟨k + 1, by omega, by go_num, hbr, hsn, hown⟩
        case measure => simp [intOf]; omega
      | false =>
        have CA := Lib.hid (HA.out wr k hbr hlt)
        cases hpk : p k with
        | false =>
          have hsel : sel f N p k = false := by simp [sel, hpk]
          have hcy : cycL f N p (k + 1) = cycL f N p k := by rw [cycL_succ, hsel]; simp
          have hsn : SeenP f p N (k + 1) w.heap.size wr := ⟨S, hA, fun x hx => (hS x hx).trans ⟨fun ⟨a, b, c⟩ => ⟨a, by omega, c⟩, fun ⟨a, b, c, d⟩ => by
            by_cases e : a = k
            · subst e; rw [hpk] at c; cases c
            · exact ⟨a, by omega, c, d⟩⟩⟩
          rw [← hcy] at hown
          rw [hSk] at hcS
          rw [hpk] at CA
          clear hS hA hSk hsel hcy hpk
          go_wp2_with ((with_reducible refine CA.out.mono ?_); rintro e w1 ⟨rfl, hb1⟩)
          go_roundw
          case rel => exact ⟨k + 1, by omega, by go_num, below_step hbr hb1, by
            obtain ⟨S', hA', hS'⟩ := hsn
            exact ⟨S', hA'.keep hb1, hS'⟩, hown.keep hb1⟩
          case measure => simp [intOf]; omega
        | true =>
          have hsel : sel f N p k = true := (HP.out.sel_iff p hlt).2 ⟨hpk, fun h' h1 h2 h3 => by
            rw [(hS k hlt).2 ⟨h', h1, h2, h3⟩] at hSk; cases hSk⟩
          have hcy : cycL f N p (k + 1) = cycL f N p k ++ [itl f k (per f N k)] := by rw [cycL_succ, hsel]; simp
          have HCY := Lib.hid hcy
          rw [hSk] at hcS
          rw [hpk] at CA
          have HSS := Lib.hid hS
          have HPK := Lib.hid hpk
          clear hS hSk hsel hcy hpk
          go_wp2_with (first
            | ((with_reducible refine CA.out.mono ?_); rintro e w1 ⟨rfl, hb1⟩
               have hbw1 := below_step hbr hb1
               have CC := Lib.hid (cycle_any fid gd k N f w1 HCE.out (Next.keep HN.out hbw1) HP.out hlt hN))
            | (go_at_call 72; ((with_reducible refine CC.out.mono ?_); rintro e w2 ⟨vm, rfl, hom, hb2⟩; obtain ⟨gm, cpm, rfl⟩ := hom.form_pos (itl_length f k (per f N k)) (per_pos f N k))))
          have hbw2 := below_step hbw1 hb2
          have hpl := (HP.out.per_spec hlt).2.1
          have hom' := hom.mono (B' := w.heap.size) hbw1.size
          have hown2 := (hown.keep hb1).keep hb2
          have hst : SeenI f N k 0 S w.heap.size w2 :=
            ⟨S, (hA.keep hb1).keep hb2, fun x _ => ⟨.inl, fun h => h.elim id fun ⟨i, hi, _⟩ => absurd hi (by omega)⟩⟩
          clear hom hb2 hb1 hbw1 hbr hown hA CC CA hcS
          go_loopw [12, 34] (fun _ i wr => ∃ j : Nat, j ≤ per f N k ∧ i = .int .i64 j ∧ Below w.heap.size w wr ∧ OI wr w.heap.size (.slice (some ⟨gm, 0, none⟩) (per f N k) cpm) (itl f k (per f N k)) ∧ OO wr w.heap.size u7 (cycL f N p k) ∧
            SeenI f N k j S w.heap.size wr) (fun _ i _ => per f N k - (intOf i).toNat)
          case atStart => exact ⟨0, by omega, rfl, hbw2, hom', hown2, hst⟩
          case round =>
            obtain ⟨j, hj, rfl, hbj, homj, hownj, hsj⟩ := hrel
            by_cases hjl : j < per f N k
            · obtain ⟨S', hA', hS'⟩ := hsj
              have hx : it f j k < N := HP.out.it_lt hlt j
              have hcm : wr.cell? ⟨gm, j, none⟩ = some (.int .i64 (it f j k : Nat)) := by
                have := homj.cell j (by rw [itl_length]; exact hjl)
                rwa [itl_getD _ _ _ _ hjl] at this
              have hcS : wr.cell? ⟨w.heap.size, it f j k, none⟩ = some (.bool (S' (it f j k))) := hA'.cell _ hx
              have hfS := hA'.frozen (it f j k)
              have hs2 : SeenI f N k (j + 1) S w.heap.size (wr.setCell ⟨w.heap.size, it f j k, none⟩ (.bool true)) := by
                refine ⟨_, hA'.setb _ _, fun x hx => ?_⟩
                by_cases e : x = it f j k
                · subst e; simp only [if_pos]
                  exact ⟨fun _ => .inr ⟨j, by omega, rfl⟩, fun _ => trivial⟩
                · simp only [if_neg e]
                  refine (hS' x hx).trans ⟨fun h => h.imp id fun ⟨i, hi, e'⟩ => ⟨i, by omega, e'⟩, fun h => h.imp id fun ⟨i, hi, e'⟩ => ⟨i, ?_, e'⟩⟩
                  by_cases ej : i = j
                  · subst ej; exact absurd e'.symm e
                  · omega
              have hom2 : OI (wr.setCell ⟨w.heap.size, it f j k, none⟩ (.bool true)) w.heap.size (.slice (some ⟨gm, 0, none⟩) (per f N k) cpm) (itl f k (per f N k)) := homj.far (homj.ne_arr hA' (by decide)) _
              have hown2 := hownj.far hA' (by decide) (by decide) (it f j k) (.bool true)
              have H1 := Lib.hid hs2
              have H2 := Lib.hid hom2
              have H3 := Lib.hid hown2
              clear hs2 hom2 hown2 hS' hA' homj hownj hst hom'
              generalize it f j k = x at *
              have hx0 : (0 : Int) ≤ (x : Int) := Int.natCast_nonneg _
              have hx1 : (x : Int) < (N : Int) := by omega
              have hj0 : (0 : Int) ≤ (j : Int) := Int.natCast_nonneg _
              have hj1 : (j : Int) < (per f N k : Int) := by omega
              go_wp2
              go_roundw
              case rel => exact ⟨j + 1, by omega, by go_num, below_set hbj (Nat.le_refl _) _, H2.out, H3.out, H1.out⟩
              case measure => simp [intOf]; omega
            · obtain rfl : j = per f N k := by omega
              have hsz := hbj.size
              have hlen := cycL_length f N p k
              have hseen : ∃ S' : Nat → Bool, Arr wr w.heap.size 4 N (bv S') ∧ ∀ x, x < N → (S' x = true ↔ ∃ h, h < k + 1 ∧ p h = true ∧ Orb f h x) := by
                obtain ⟨S', hA', hS'⟩ := hsj
                refine ⟨S', hA', fun x hx => (hS' x hx).trans ⟨?_, ?_⟩⟩
                · rintro (h | ⟨i, _, e⟩)
                  · obtain ⟨a, b, c⟩ := (HSS.out x hx).1 h
                    exact ⟨a, by omega, c⟩
                  · exact ⟨k, by omega, HPK.out, i, e⟩
                · rintro ⟨a, b, c, d⟩
                  by_cases e : a = k
                  · subst e; exact .inr (HP.out.orb_lt hlt d)
                  · exact .inl ((HSS.out x hx).2 ⟨a, by omega, c, d⟩)
              have HSE := Lib.hid hseen
              clear hseen hsj hj hjl hpl hst hown2 hom'
              go_wp2_with (at_builtin
                           refine wpList_append_row rfl (.tmp 42) (.tmp 44) rfl w.heap.size u7 (cycL f N p k) rfl (hownj.keep (below_alloc _ _)) wr.heap.size (.slice (some ⟨gm, 0, none⟩) (per f N k) cpm) (itl f k (per f N k)) rfl (by rw [World.cell?_alloc_at _ _ _ _ rfl]; rfl) (homj.alloc _) (by omega) (Nat.le_trans hsz (by simp)) ?_
                           intro v2 w3 ho2 hg2)
              go_roundw
              case rel =>
                refine ⟨k + 1, by omega, by go_num, (below_step hbj (below_alloc wr _)).grown hg2 (Nat.le_trans hsz (by simp)) (fun q hq => (hownj.lt q hq).1), ?_, by rw [HCY.out]; exact ho2⟩
                obtain ⟨S', hA', hS'⟩ := HSE.out
                exact ⟨S', (hA'.alloc _).grown hg2 (hownj.ne_arr hA' (by decide)), hS'⟩
              case measure => simp [intOf]; omega
    · obtain rfl : k = N := by omega
      clear hlt hk hmk hcf
      go_wp2
      go_ret
      exact ⟨_, rfl, hown, hbr⟩

end Go.Proofs.YtebliaclleplgaaDoor

/- Walk: Valid. -/
namespace Go.Proofs.YtebliaclleplgaaDoor
open Go.RowKit

def matesOf (mate : List Int) : Nat → Nat := fun h => (mt mate h).toNat
theorem matesOf_mates {signs mate : List Int} {nm : Nat} (h : pairB signs mate = true) (hl : mate.length = nm) : Mates mate nm (matesOf mate) := fun j hj => by
  obtain ⟨m, h1, h2, _⟩ := pOK_out ((pairB_iff _ _).1 h j (by omega)) hl
  have e : matesOf mate j = m := by unfold matesOf; rw [h1]; simp
  rw [e]; exact ⟨h1, h2⟩
theorem matesOf_invol {signs mate : List Int} {nm : Nat} (h : pairB signs mate = true) (hl : mate.length = nm) : Invol (matesOf mate) nm :=
  ⟨fun j hj => (matesOf_mates h hl j hj).2, fun j hj => by
    obtain ⟨m, h1, h2, h3, _⟩ := pOK_out ((pairB_iff _ _).1 h j (by omega)) hl
    have e : matesOf mate j = m := by unfold matesOf; rw [h1]; simp
    have e2 : matesOf mate m = j := by unfold matesOf; rw [h3]; simp
    rw [e, e2]⟩

/-- The mates and their labels. -/
def sphM (mate : List Int) (n : Nat) : Bool := sphB (ufLab (matesOf mate) mate.length) (ff (matesOf mate)) mate.length n
def validB (signs mate : List Int) (lp : Int) : Bool := limB signs.length mate.length lp && sgnsB signs && pairB signs mate && sphM mate signs.length
theorem limB_out {ns nm : Nat} {lp : Int} (h : limB ns nm lp = true) : ns ≤ 64 ∧ nm = 4 * ns ∧ 0 ≤ lp ∧ lp ≤ 64 := by
  unfold limB at h; simp only [Bool.and_eq_true, decide_eq_true_eq] at h; omega

set_option maxHeartbeats 1600000 in
theorem valid_any (A B : Option Addr) (ns cs nm cm : Nat) (lp : Int) (signs mate : List Int) (w : World) (hs : RI w A ns signs) (hm : RI w B nm mate) (hns : ns ≤ 100000000000000) (hnm : nm ≤ 100000000000000)
    (hrange : ∀ j, j < nm → -9223372036854775808 ≤ mt mate j ∧ mt mate j ≤ 9223372036854775807) :
    Calls Tryd.prog 13 #[dval A ns cs B nm cm lp] w fun e w' => e = .returned (.bool (validB signs mate lp)) ∧ Below w.heap.size w w' := by
  have hd := DB.new w A ns cs B nm cm lp
  obtain ⟨d0, d1, d2, dlt⟩ := hd
  have hb0 := below_alloc w (dbox A ns cs B nm cm lp)
  have hs1 := hs.alloc (dbox A ns cs B nm cm lp)
  have hm1 := hm.alloc (dbox A ns cs B nm cm lp)
  have hls := hs.1
  have hlm := hm.1
  have HC1 := Lib.hid (limits_any A B ns cs nm cm lp (w.alloc (dbox A ns cs B nm cm lp)) (by omega) (by omega))
  have hv : validB signs mate lp = (limB ns nm lp && sgnsB signs && pairB signs mate && sphM mate ns) := by unfold validB; rw [hls, hlm]
  rw [hv]
  clear hv
  cases h1 : limB ns nm lp with
  | false =>
    simp only [Bool.false_and]
    rw [h1] at HC1
    clear hrange hls hlm h1
    go_enter Tryd.func13, Tryd.ntmps13
    go_wp2_with (go_at_call 35; ((with_reducible refine HC1.out.mono ?_); rintro e w1 ⟨rfl, hb1⟩))
    go_ret
    exact ⟨rfl, below_step hb0 hb1⟩
  | true =>
    obtain ⟨hns64, hnm4, hlp0, hlp1⟩ := limB_out h1
    rw [h1] at HC1
    have HC2 : ∀ w1 : World, Below (w.alloc (dbox A ns cs B nm cm lp)).heap.size (w.alloc (dbox A ns cs B nm cm lp)) w1 → Hid (Calls Tryd.prog 36 #[.slice A ns cs] w1 fun e w' => e = .returned (.bool (sgnsB signs)) ∧ w1 = w') :=
      fun w1 hb => signs_any A ns cs signs w1 (hs1.keep hb) (by omega)
    simp only [Bool.true_and]
    cases h2 : sgnsB signs with
    | false =>
      simp only [Bool.false_and]
      rw [h2] at HC2
      clear hrange hls hlm h1 hnm4
      go_enter Tryd.func13, Tryd.ntmps13
      go_wp2_with (first
        | (go_at_call 35; ((with_reducible refine HC1.out.mono ?_); rintro e w1 ⟨rfl, hb1⟩; have hc0 := (hb1.cell (p := ⟨w.heap.size, 0, none⟩) dlt).trans d0; have hc1 := (hb1.cell (p := ⟨w.heap.size, 1, none⟩) dlt).trans d1; have hc2 := (hb1.cell (p := ⟨w.heap.size, 2, none⟩) dlt).trans d2))
        | (go_at_call 36; ((with_reducible refine (HC2 _ hb1).out.mono ?_); rintro e w2 ⟨rfl, rfl⟩)))
      go_ret
      exact ⟨rfl, below_step hb0 hb1⟩
    | true =>
      rw [h2] at HC2
      have HC3 : ∀ w1 : World, Below (w.alloc (dbox A ns cs B nm cm lp)).heap.size (w.alloc (dbox A ns cs B nm cm lp)) w1 → Hid (Calls Tryd.prog 37 #[dval A ns cs B nm cm lp] w1 fun e w' => e = .returned (.bool (pairB signs mate)) ∧ Below w1.heap.size w1 w') :=
        fun w1 hb => paired_any A B ns cs nm cm lp signs mate w1 (hs1.keep hb) (hm1.keep hb) hnm4 hns64 hrange
      simp only [Bool.true_and]
      cases h3 : pairB signs mate with
      | false =>
        simp only [Bool.false_and]
        rw [h3] at HC3
        clear hrange hls hlm h1 hnm4
        go_enter Tryd.func13, Tryd.ntmps13
        go_wp2_with (first
          | (go_at_call 35; ((with_reducible refine HC1.out.mono ?_); rintro e w1 ⟨rfl, hb1⟩; have hc0 := (hb1.cell (p := ⟨w.heap.size, 0, none⟩) dlt).trans d0; have hc1 := (hb1.cell (p := ⟨w.heap.size, 1, none⟩) dlt).trans d1; have hc2 := (hb1.cell (p := ⟨w.heap.size, 2, none⟩) dlt).trans d2))
          | (go_at_call 36; ((with_reducible refine (HC2 _ hb1).out.mono ?_); rintro e w2 ⟨rfl, rfl⟩))
          | (go_at_call 37; ((with_reducible refine (HC3 _ hb1).out.mono ?_); rintro e w3 ⟨rfl, hb3⟩)))
        go_ret
        exact ⟨rfl, below_step hb0 (below_step hb1 hb3)⟩
      | true =>
        have HC4 : ∀ w1 : World, Below (w.alloc (dbox A ns cs B nm cm lp)).heap.size (w.alloc (dbox A ns cs B nm cm lp)) w1 → Hid (Calls Tryd.prog 38 #[dval A ns cs B nm cm lp] w1 fun e w' => e = .returned (.bool (sphM mate ns)) ∧ Below w1.heap.size w1 w') :=
          fun w1 hb => by
            have := sph_any A B ns cs nm cm lp mate (matesOf mate) w1 (hm1.keep hb) hns64 hnm4 (matesOf_mates h3 hlm) (matesOf_invol h3 hlm)
            rw [← hlm] at this ⊢
            exact this
        simp only [Bool.true_and]
        rw [h3] at HC3
        clear hrange hls hlm h1 hnm4 h2 h3
        go_enter Tryd.func13, Tryd.ntmps13
        go_wp2_with (first
          | (go_at_call 35; ((with_reducible refine HC1.out.mono ?_); rintro e w1 ⟨rfl, hb1⟩; have hc0 := (hb1.cell (p := ⟨w.heap.size, 0, none⟩) dlt).trans d0; have hc1 := (hb1.cell (p := ⟨w.heap.size, 1, none⟩) dlt).trans d1; have hc2 := (hb1.cell (p := ⟨w.heap.size, 2, none⟩) dlt).trans d2))
          | (go_at_call 36; ((with_reducible refine (HC2 _ hb1).out.mono ?_); rintro e w2 ⟨rfl, rfl⟩))
          | (go_at_call 37; ((with_reducible refine (HC3 _ hb1).out.mono ?_); rintro e w3 ⟨rfl, hb3⟩; have hb13 := below_step hb1 hb3; have hc0 := (hb13.cell (p := ⟨w.heap.size, 0, none⟩) dlt).trans d0; have hc1 := (hb13.cell (p := ⟨w.heap.size, 1, none⟩) dlt).trans d1; have hc2 := (hb13.cell (p := ⟨w.heap.size, 2, none⟩) dlt).trans d2))
          | (go_at_call 38; ((with_reducible refine (HC4 _ hb13).out.mono ?_); rintro e w4 ⟨rfl, hb4⟩)))
        go_ret
        exact ⟨rfl, below_step hb0 (below_step hb13 hb4)⟩

end Go.Proofs.YtebliaclleplgaaDoor

/- Plain mathematics: the list of the components. -/
namespace Go.Proofs.YtebliaclleplgaaDoor

/-- The members below c of the component l. -/
def memb (F : Nat → Nat) (c l : Nat) : List Int := ((List.range c).filter (fun b => F b == l)).map (fun (b : Nat) => (b : Int))
/-- The least members below c. -/
def roots (F : Nat → Nat) (c : Nat) : List Nat := (List.range c).filter (fun l => F l == l)
def graphL (F : Nat → Nat) (c : Nat) : List (List Int) := (roots F c).map (memb F c)

theorem memb_succ (F : Nat → Nat) (c l : Nat) : memb F (c + 1) l = memb F c l ++ if F c == l then [(c : Int)] else [] := by
  unfold memb
  rw [List.range_succ, List.filter_append, List.map_append]
  cases h : F c == l <;> simp [h]
theorem roots_succ (F : Nat → Nat) (c : Nat) : roots F (c + 1) = roots F c ++ if F c == c then [c] else [] := by
  unfold roots
  rw [List.range_succ, List.filter_append]
  cases h : F c == c <;> simp [h]
theorem roots_lt {F : Nat → Nat} {c l : Nat} (h : l ∈ roots F c) : l < c ∧ F l = l := by
  unfold roots at h
  have := List.mem_filter.1 h
  exact ⟨List.mem_range.1 this.1, by simpa using this.2⟩
theorem memb_none {F : Nat → Nat} {c l : Nat} (hF : ∀ b, F b ≤ b) (hl : c ≤ l) : memb F c l = [] := by
  unfold memb
  have : (List.range c).filter (fun b => F b == l) = [] := List.filter_eq_nil_iff.2 fun b hb => by
    have := hF b
    have := List.mem_range.1 hb
    simp; omega
  rw [this]; rfl
/-- The place of the root l. -/
def plc (F : Nat → Nat) (l : Nat) : Nat := (roots F l).length
theorem graphL_new {F : Nat → Nat} {c : Nat} (hF : ∀ b, F b ≤ b) (h : F c = c) : graphL F (c + 1) = graphL F c ++ [[(c : Int)]] := by
  have hm : (roots F c).map (memb F (c + 1)) = (roots F c).map (memb F c) := List.map_congr_left fun l hl => by
    have := roots_lt hl
    rw [memb_succ, h]
    have hne : (c == l) = false := by simp; omega
    simp [hne]
  have hn : memb F (c + 1) c = [(c : Int)] := by rw [memb_succ, h, memb_none hF (Nat.le_refl _)]; simp
  unfold graphL
  rw [roots_succ, h]
  simp only [beq_self_eq_true, if_true, List.map_append, List.map_cons, List.map_nil]
  rw [hm, hn]
theorem roots_split {F : Nat → Nat} {c l : Nat} (hl : l < c) (h : F l = l) : ∃ r, roots F c = roots F l ++ l :: r ∧ ∀ x ∈ r, x ≠ l := by
  induction c with
  | zero => omega
  | succ c ih =>
    by_cases e : l = c
    · subst e
      exact ⟨[], by rw [roots_succ, h]; simp, fun x hx => by cases hx⟩
    · obtain ⟨r, h1, h2⟩ := ih (by omega)
      rw [roots_succ, h1]
      refine ⟨r ++ if F c == c then [c] else [], by simp, fun x hx => ?_⟩
      rcases List.mem_append.1 hx with h3 | h3
      · exact h2 x h3
      · split at h3
        · simp at h3; omega
        · cases h3
theorem graphL_old {F : Nat → Nat} {c : Nat} (hlt : F c < c) (hid : F (F c) = F c) :
    plc F (F c) < (graphL F c).length ∧ (graphL F c).getD (plc F (F c)) [] = memb F c (F c) ∧ graphL F (c + 1) = (graphL F c).set (plc F (F c)) (memb F c (F c) ++ [(c : Int)]) := by
  obtain ⟨r, h1, h2⟩ := roots_split hlt hid
  have hp : plc F (F c) = ((roots F (F c)).map (memb F c)).length := by simp [plc]
  have hg : graphL F c = (roots F (F c)).map (memb F c) ++ memb F c (F c) :: r.map (memb F c) := by unfold graphL; rw [h1]; simp
  refine ⟨by rw [hg, hp]; simp, by rw [hg, hp]; simp [List.getD], ?_⟩
  rw [hg, hp, List.set_append_right _ _ (Nat.le_refl _)]
  simp only [Nat.sub_self, List.set_cons_zero]
  have hne : (F c == c) = false := by simp; omega
  unfold graphL
  rw [roots_succ, hne, h1]
  simp only [Bool.false_eq_true, if_false, List.append_nil, List.map_append, List.map_cons]
  have e1 : ∀ x, x ≠ F c → memb F (c + 1) x = memb F c x := fun x hx => by
    rw [memb_succ]
    have : (F c == x) = false := by simp; exact fun e => hx e.symm
    simp [this]
  have e2 : (roots F (F c)).map (memb F (c + 1)) = (roots F (F c)).map (memb F c) := List.map_congr_left fun x hx => e1 x (by have := roots_lt hx; omega)
  have e3 : r.map (memb F (c + 1)) = r.map (memb F c) := List.map_congr_left fun x hx => e1 x (h2 x hx)
  have e4 : memb F (c + 1) (F c) = memb F c (F c) ++ [(c : Int)] := by rw [memb_succ]; simp
  rw [e2, e3, e4]
theorem graphL_length (F : Nat → Nat) (c : Nat) : (graphL F c).length = (roots F c).length := by simp [graphL]
theorem roots_length (F : Nat → Nat) (c : Nat) : (roots F c).length ≤ c := by
  unfold roots; exact Nat.le_trans (List.length_filter_le _ _) (by simp)
theorem memb_length (F : Nat → Nat) (c l : Nat) : (memb F c l).length ≤ c := by
  unfold memb; rw [List.length_map]; exact Nat.le_trans (List.length_filter_le _ _) (by simp)

end Go.Proofs.YtebliaclleplgaaDoor

/- What a diagram in memory is asked to be; its faces, strands, components as lists. -/
namespace Go.Proofs.YtebliaclleplgaaDoor
open Go.RowKit

def facesM (signs mate : List Int) (lp : Int) : List (List Int) := if validB signs mate lp = true then cycL (ff (matesOf mate)) mate.length (fun _ => true) mate.length else []
def strandsM (signs mate : List Int) (lp : Int) : List (List Int) := if validB signs mate lp = true then cycL (fs (matesOf mate)) mate.length (outB signs) mate.length else []
theorem validB_out {signs mate : List Int} {lp : Int} (h : validB signs mate lp = true) : limB signs.length mate.length lp = true ∧ sgnsB signs = true ∧ pairB signs mate = true ∧ sphM mate signs.length = true := by
  unfold validB at h; simp only [Bool.and_eq_true] at h; exact ⟨h.1.1.1, h.1.1.2, h.1.2, h.2⟩

/-- What a diagram's value is asked to be. -/
structure DV (w : World) (A : Option Addr) (ns : Nat) (B : Option Addr) (nm : Nat) (signs mate : List Int) : Prop where
  hs : RI w A ns signs
  hm : RI w B nm mate
  hns : ns ≤ 100000000000000
  hnm : nm ≤ 100000000000000
  hrange : ∀ j, j < nm → -9223372036854775808 ≤ mt mate j ∧ mt mate j ≤ 9223372036854775807
theorem DV.keep {w w' : World} {A B : Option Addr} {ns nm : Nat} {signs mate : List Int} (h : DV w A ns B nm signs mate) (hb : Below w.heap.size w w') : DV w' A ns B nm signs mate :=
  ⟨h.hs.keep hb, h.hm.keep hb, h.hns, h.hnm, h.hrange⟩
theorem DV.valid {w : World} {A B : Option Addr} {ns nm : Nat} {signs mate : List Int} (h : DV w A ns B nm signs mate) (cs cm : Nat) (lp : Int) (r : Bool) (hr : validB signs mate lp = r) :
    Calls Tryd.prog 13 #[dval A ns cs B nm cm lp] w fun e w' => e = .returned (.bool r) ∧ Below w.heap.size w w' := by
  subst hr; exact valid_any A B ns cs nm cm lp signs mate w h.hs h.hm h.hns h.hnm h.hrange

/-- The strand leaves each crossing by an out port when it enters by one that is none. -/
theorem out_closed {signs mate : List Int} {nm ns : Nat} (hs : sgnsB signs = true) (hp : pairB signs mate = true) (hl : mate.length = nm) (hls : signs.length = ns) (hn : nm = 4 * ns) (h : Nat) (hh : h < nm) (ho : outB signs h = true) : outB signs (fs (matesOf mate) h) = true := by
  obtain ⟨m, h1, h2, h3, h4⟩ := pOK_out ((pairB_iff _ _).1 hp h (by omega)) hl
  have e : matesOf mate h = m := by unfold matesOf; rw [h1]; simp
  have hm : outB signs m = false := by
    cases q : outB signs m with
    | false => rfl
    | true => rw [ho, q] at h4; exact absurd rfl h4
  have hg := (sgnsB_iff _).1 hs (m / 4) (by omega)
  unfold fs
  rw [e]
  have hd := trn_div m 2
  have hr : trn m 2 % 4 = (m % 4 + 2) % 4 := by unfold trn; omega
  unfold outB at hm ⊢
  rw [hd, hr]
  generalize signs.getD (m / 4) 0 = s at hm hg ⊢
  unfold sgB at hg
  have hr4 : m % 4 = 0 ∨ m % 4 = 1 ∨ m % 4 = 2 ∨ m % 4 = 3 := by omega
  rcases hr4 with e | e | e | e <;> rw [e] at hm ⊢ <;> simp at hm hg ⊢ <;> omega

def compM (signs mate : List Int) (lp : Int) : Int := if validB signs mate lp = true then ((strandsM signs mate lp).length : Int) + lp else 0
theorem compM_add {signs mate : List Int} {lp : Int} (h : validB signs mate lp = true) : compM signs mate lp = ((strandsM signs mate lp).length : Int) + lp := by unfold compM; rw [if_pos h]
theorem strandsM_le {signs mate : List Int} {lp : Int} : (strandsM signs mate lp).length ≤ mate.length := by
  unfold strandsM; split
  · exact cycL_length _ _ _ _
  · simp

def faceM (signs mate : List Int) (lp x : Int) : List Int := if validB signs mate lp = true ∧ 0 ≤ x ∧ x < mate.length then itl (ff (matesOf mate)) x.toNat (per (ff (matesOf mate)) mate.length x.toNat) else []

/-- The least crossing of each component. -/
def labM (mate : List Int) : Nat → Nat := ufLab (matesOf mate) mate.length
def graphM (signs mate : List Int) (lp : Int) : List (List Int) := if validB signs mate lp = true then graphL (labM mate) signs.length else []
theorem labM_le (mate : List Int) (b : Nat) : labM mate b ≤ b := root_le _ _
theorem labM_idem (mate : List Int) (b : Nat) : labM mate (labM mate b) = labM mate b := root_root _ _

end Go.Proofs.YtebliaclleplgaaDoor

/- Walks: Ints, Lists (the reference's comparisons), Great. -/
namespace Go.Proofs.YtebliaclleplgaaDoor
open Go.RowKit

theorem below_drewN {B : Nat} {a w : World} (h : Below B a w) (n : Nat) : Below B a (w.drewN n) := ⟨h.os, h.tape, h.output, h.size, h.block⟩

theorem eq_of_getD {xs ys : List Int} (h1 : xs.length = ys.length) (h2 : ∀ j, j < xs.length → xs.getD j 0 = ys.getD j 0) : xs = ys := by
  apply List.ext_getElem h1
  intro i a b
  have := h2 i a
  simpa [List.getD, a, b] using this
theorem eq_of_getDL {xs ys : List (List Int)} (h1 : xs.length = ys.length) (h2 : ∀ j, j < xs.length → xs.getD j [] = ys.getD j []) : xs = ys := by
  apply List.ext_getElem h1
  intro i a b
  have := h2 i a
  simpa [List.getD, a, b] using this

set_option maxHeartbeats 800000 in
theorem ints_r (r : Bool) (A B : Option Addr) (n c m d : Nat) (xs ys : List Int) (w : World) (hx : RI w A n xs) (hy : RI w B m ys) (hn : n ≤ 1000000000000000) (hm : m ≤ 1000000000000000) (hr : r = decide (xs = ys)) :
    Calls Tryd.prog 56 #[.slice A n c, .slice B m d] w fun e w' => e = .returned (.bool r) ∧ Below w.heap.size w w' := by
  have hlx := hx.1
  have hly := hy.1
  by_cases hnm : n = m
  · subst hnm
    have HLX := Lib.hid hlx
    have HLY := Lib.hid hly
    have HR := Lib.hid hr
    have HE : Hid (∀ j, j < 0 → xs.getD j 0 = ys.getD j 0) := fun j hj => absurd hj (by omega)
    clear hlx hly hr
    go_enter Tryd.func56, Tryd.ntmps56
    go_wp2
    go_loopw [5] (fun i wr => ∃ k : Nat, k ≤ n ∧ i = .int .i64 k ∧ Below w.heap.size w wr ∧ Hid (∀ j, j < k → xs.getD j 0 = ys.getD j 0)) (fun i _ => n - (intOf i).toNat)
    case atStart => exact ⟨0, by omega, rfl, Below.refl _ _, HE⟩
    case round =>
      obtain ⟨k, hk, rfl, hbr, hall⟩ := hrel
      by_cases hlt : k < n
      · obtain ⟨b, off, rfl, hb, hc⟩ := (hx.keep hbr).2 (by omega)
        obtain ⟨b', off', rfl, hb', hc'⟩ := (hy.keep hbr).2 (by omega)
        have h1 := hc k hlt
        have h2 := hc' k hlt
        have hk0 : (0 : Int) ≤ (k : Int) := Int.natCast_nonneg _
        have hk1 : (k : Int) < (n : Int) := by omega
        by_cases he : xs.getD k 0 = ys.getD k 0
        · have hall' : Hid (∀ j, j < k + 1 → xs.getD j 0 = ys.getD j 0) := fun j hj => by
            by_cases e : j = k
            · subst e; exact he
            · exact hall.out j (by omega)
          rw [← he] at h2
          clear hx hy hc hc' he
          generalize xs.getD k 0 = x at *
          go_wp2
          go_quiet (fail)
          go_wp2
          go_roundw
          case rel => exact ⟨k + 1, by omega, by go_num, below_drewN hbr _, hall'⟩
          case measure => simp [intOf]; omega
        · have hne : (xs.getD k 0 != ys.getD k 0) = true := by simp only [bne_iff_ne, ne_eq]; exact he
          have hrf : r = false := by
            rw [HR.out, decide_eq_false_iff_not]
            intro e; exact he (by rw [e])
          subst hrf
          clear hx hy hc hc' he HR
          generalize xs.getD k 0 = x at *
          generalize ys.getD k 0 = y at *
          go_wp2
          go_quiet (fail)
          go_wp2
          go_ret
          exact ⟨rfl, below_drewN hbr _⟩
      · obtain rfl : k = n := by omega
        have hrt : r = true := by
          rw [HR.out, decide_eq_true_eq]
          exact eq_of_getD (by rw [HLX.out, HLY.out]) (fun j hj => hall.out j (by rw [← HLX.out]; exact hj))
        subst hrt
        clear hx hy HR
        go_wp2
        go_ret
        exact ⟨rfl, hbr⟩
  · have hrf : r = false := by
      rw [hr, decide_eq_false_iff_not]
      intro e; rw [e] at hlx; omega
    subst hrf
    have hne : ((n : Int) != (m : Int)) = true := by simp only [bne_iff_ne, ne_eq]; omega
    clear hx hy hlx hly hr hnm
    go_enter Tryd.func56, Tryd.ntmps56
    go_wp2
    go_ret
    exact ⟨rfl, Below.refl _ _⟩

/-- The slice value 'slice A n _' reads as the list xss of lists of ints. -/
def RO (w : World) (A : Option Addr) (n : Nat) (xss : List (List Int)) : Prop :=
  xss.length = n ∧ (0 < n → ∃ b off, A = some ⟨b, off, none⟩ ∧ b < w.heap.size ∧ ∀ j, j < n → ∃ A' n' c', w.cell? ⟨b, off + j, none⟩ = some (.slice A' n' c') ∧ RI w A' n' (xss.getD j []))
theorem RO.keep {w w' : World} {A : Option Addr} {n : Nat} {xss : List (List Int)} (h : RO w A n xss) (hb : Below w.heap.size w w') : RO w' A n xss :=
  ⟨h.1, fun hn => by
    obtain ⟨b, off, e, hlt, hc⟩ := h.2 hn
    refine ⟨b, off, e, Nat.lt_of_lt_of_le hlt hb.size, fun j hj => ?_⟩
    obtain ⟨A', n', c', h1, h2⟩ := hc j hj
    exact ⟨A', n', c', (hb.cell (p := ⟨b, off + j, none⟩) hlt).trans h1, h2.keep hb⟩⟩
theorem OO.ro {w : World} {B : Nat} {v : Value} {xss : List (List Int)} (h : OO w B v xss) : ∃ A c, v = .slice A xss.length c ∧ RO w A xss.length xss := by
  obtain ⟨vs, h1, h2, h3⟩ := h
  rcases h1.2 with ⟨h4, h5⟩ | ⟨g, cap, cur, h4, _, hg, _⟩
  · refine ⟨none, 0, by rw [h4, ← h2, h5], rfl, fun hn => by omega⟩
  · refine ⟨_, cap, by rw [h4, h2], rfl, fun hn => ⟨g, 0, rfl, ?_, fun j hj => ?_⟩⟩
    · rcases Nat.lt_or_ge g w.heap.size with hlt | hge
      · exact hlt
      · rw [Array.getElem?_eq_none hge] at hg; cases hg
    · have hj' : j < vs.length := by omega
      have h6 : w.cell? ⟨g, j, none⟩ = vs[j]? := by
        have h7 : w.ownsRow B 22 1 (.slice (some ⟨g, 0, none⟩) vs.length cap) vs.length vs := by rw [← h4]; exact h1
        exact World.ownsRow.cellAt h7 j (by omega)
      have h8 := h3 j hj
      have h9 : vs.getD j undef = vs[j] := by simp [List.getD, hj']
      rw [h9] at h8
      have hsl : ∃ A' n' c', vs[j] = .slice A' n' c' := by
        rcases h8.form with ⟨e, _⟩ | ⟨g', cap', e, _⟩
        · exact ⟨_, _, _, e⟩
        · exact ⟨_, _, _, e⟩
      obtain ⟨A', n', c', e⟩ := hsl
      rw [e] at h8
      exact ⟨A', n', c', by rw [Nat.zero_add, h6, List.getElem?_eq_getElem hj', e], h8.ri⟩

theorem RO.at_ {w : World} {A : Option Addr} {n : Nat} {xss : List (List Int)} (h : RO w A n xss) (hn : 0 < n) : ∃ b off, A = some ⟨b, off, none⟩ ∧ b < w.heap.size := by
  obtain ⟨b, off, e, hb, _⟩ := h.2 hn; exact ⟨b, off, e, hb⟩
theorem RO.el {w : World} {b off n : Nat} {xss : List (List Int)} (h : RO w (some ⟨b, off, none⟩) n xss) (j : Nat) (hj : j < n) : ∃ A' n' c', w.cell? ⟨b, off + j, none⟩ = some (.slice A' n' c') ∧ RI w A' n' (xss.getD j []) := by
  obtain ⟨b', off', e, hb, hc⟩ := h.2 (by omega)
  injection e with e; injection e with e1 e2; subst e1; subst e2
  exact hc j hj

end Go.Proofs.YtebliaclleplgaaDoor

/- Plain mathematics: labels by passes. -/
namespace Go.Proofs.YtebliaclleplgaaDoor

def lowStep (m : Nat → Nat) (l : Nat → Nat) (h : Nat) : Nat → Nat := upd (upd l (h / 4) (min (l (h / 4)) (l (m h / 4)))) (m h / 4) (min (l (h / 4)) (l (m h / 4)))
def passAt (m : Nat → Nat) (l : Nat → Nat) : Nat → Nat → Nat
  | 0 => l
  | k + 1 => lowStep m (passAt m l k) k
def labAt (m : Nat → Nat) (N : Nat) : Nat → Nat → Nat
  | 0 => fun i => i
  | p + 1 => passAt m (labAt m N p) N

theorem lowStep_le (m l : Nat → Nat) (h i : Nat) : lowStep m l h i ≤ l i := by
  unfold lowStep upd
  by_cases e1 : i = m h / 4
  · subst e1; simp only [if_pos]; omega
  · rw [if_neg e1]
    by_cases e2 : i = h / 4
    · subst e2; simp only [if_pos]; omega
    · rw [if_neg e2]; exact Nat.le_refl _
theorem lowStep_a (m l : Nat → Nat) (h : Nat) : lowStep m l h (h / 4) = min (l (h / 4)) (l (m h / 4)) := by
  unfold lowStep upd; split <;> simp
theorem lowStep_b (m l : Nat → Nat) (h : Nat) : lowStep m l h (m h / 4) = min (l (h / 4)) (l (m h / 4)) := by
  unfold lowStep upd; simp
theorem pass_le (m l : Nat → Nat) (k i : Nat) : passAt m l k i ≤ l i := by
  induction k with
  | zero => exact Nat.le_refl _
  | succ k ih => exact Nat.le_trans (lowStep_le _ _ _ _) ih
theorem pass_edge (m l : Nat → Nat) (k h : Nat) (hh : h < k) : passAt m l k (h / 4) ≤ l (m h / 4) ∧ passAt m l k (m h / 4) ≤ l (h / 4) := by
  induction k with
  | zero => omega
  | succ k ih =>
    show lowStep m (passAt m l k) k _ ≤ _ ∧ lowStep m (passAt m l k) k _ ≤ _
    by_cases e : h = k
    · subst e
      rw [lowStep_a, lowStep_b]
      have h1 := pass_le m l h (h / 4)
      have h2 := pass_le m l h (m h / 4)
      omega
    · obtain ⟨h1, h2⟩ := ih (by omega)
      exact ⟨Nat.le_trans (lowStep_le _ _ _ _) h1, Nat.le_trans (lowStep_le _ _ _ _) h2⟩
theorem pass_conn (m l : Nat → Nat) (N k : Nat) (hk : k ≤ N) (hl : ∀ i, Conn m N i (l i)) (i : Nat) : Conn m N i (passAt m l k i) := by
  induction k generalizing i with
  | zero => exact hl i
  | succ k ih =>
    have h0 := ih (by omega)
    have e : Conn m N (k / 4) (m k / 4) := .step k (by omega) (.refl _)
    show Conn m N i (lowStep m (passAt m l k) k i)
    generalize passAt m l k = p at *
    have hmin : min (p (k / 4)) (p (m k / 4)) = p (k / 4) ∨ min (p (k / 4)) (p (m k / 4)) = p (m k / 4) := by omega
    by_cases e1 : i = m k / 4
    · subst e1; rw [lowStep_b]
      rcases hmin with h | h <;> rw [h]
      · exact e.symm.trans (h0 _)
      · exact h0 _
    · by_cases e2 : i = k / 4
      · subst e2; rw [lowStep_a]
        rcases hmin with h | h <;> rw [h]
        · exact h0 _
        · exact e.trans (h0 _)
      · have : lowStep m p k i = p i := by unfold lowStep upd; rw [if_neg e1, if_neg e2]
        rw [this]; exact h0 i
theorem lab_conn (m : Nat → Nat) (N p i : Nat) : Conn m N i (labAt m N p i) := by
  induction p generalizing i with
  | zero => exact .refl _
  | succ p ih => exact pass_conn m _ N N (Nat.le_refl _) ih i
theorem lab_le (m : Nat → Nat) (N p i : Nat) : labAt m N p i ≤ i := by
  induction p generalizing i with
  | zero => exact Nat.le_refl _
  | succ p ih => exact Nat.le_trans (pass_le _ _ _ _) (ih i)
theorem leaving {m : Nat → Nat} {N : Nat} {P : Nat → Prop} {a b : Nat} (hc : Conn m N a b) (ha : P a) (hb : ¬ P b) : ∃ h, h < N ∧ ((P (h / 4) ∧ ¬ P (m h / 4)) ∨ (P (m h / 4) ∧ ¬ P (h / 4))) := by
  induction hc with
  | refl => exact absurd ha hb
  | step h hh _ ih =>
    rcases Classical.em (P (h / 4)) with hp | hp
    · exact ⟨h, hh, .inl ⟨hp, hb⟩⟩
    · exact ih hp
  | back h hh _ ih =>
    rcases Classical.em (P (m h / 4)) with hp | hp
    · exact ⟨h, hh, .inr ⟨hp, hb⟩⟩
    · exact ih hp

theorem countP_lt {p q : Nat → Bool} {n : Nat} (h : ∀ i, i < n → p i = true → q i = true) (j : Nat) (hj : j < n) (h1 : p j = false) (h2 : q j = true) : (List.range n).countP p + 1 ≤ (List.range n).countP q := by
  induction n with
  | zero => omega
  | succ n ih =>
    rw [List.range_succ, List.countP_append, List.countP_append]
    simp only [List.countP_cons, List.countP_nil]
    by_cases e : j = n
    · subst e
      have hle : (List.range j).countP p ≤ (List.range j).countP q := List.countP_mono_left (by
        intro x hx hp; exact h x (by have := List.mem_range.1 hx; omega) hp)
      rw [h1, h2]; simp; omega
    · have := ih (fun i hi => h i (by omega)) (by omega)
      have h3 := h n (by omega)
      cases hp : p n with
      | false => simp; omega
      | true => rw [h3 hp]; simp; omega

/-- n passes are enough. -/
theorem labAt_eq {m : Nat → Nat} {N n : Nat} {F : Nat → Nat} (hN : N = 4 * n) (hm : ∀ h, h < N → m h < N) (hF : IsLab m N n F) (c : Nat) (hc : c < n) : labAt m N n c = F c := by
  have key : ∀ p, (∀ x, x < n → F x = F c → labAt m N p x = F c) ∨ p + 1 ≤ (List.range n).countP (fun x => labAt m N p x == F c) := by
    have hge : ∀ p x, x < n → F x = F c → F c ≤ labAt m N p x := fun p x hx e => by
      have h1 := hF.conn (lab_conn m N p x)
      have h2 := lab_le m N p x
      have h3 := (hF.1 (labAt m N p x) (by omega)).1
      omega
    have hFc := hF.1 c hc
    have hFF : F (F c) = F c := (hF.conn hFc.2).symm
    intro p
    induction p with
    | zero =>
      right
      have h0 : (List.range n).countP (fun _ => false) = 0 := by simp
      have := countP_lt (p := fun _ => false) (q := fun x => labAt m N 0 x == F c) (n := n) (fun _ _ h => by cases h) (F c) (by omega) rfl (by simp [labAt])
      omega
    | succ p ih =>
      rcases ih with ih | ih
      · left
        intro x hx e
        have h1 := pass_le m (labAt m N p) N x
        have h2 := hge (p + 1) x hx e
        have h3 := ih x hx e
        show passAt m (labAt m N p) N x = F c
        have h4 : F c ≤ passAt m (labAt m N p) N x := h2
        omega
      · by_cases hall : ∀ x, x < n → F x = F c → labAt m N p x = F c
        · left
          intro x hx e
          have h1 := pass_le m (labAt m N p) N x
          have h4 : F c ≤ passAt m (labAt m N p) N x := hge (p + 1) x hx e
          have h3 := hall x hx e
          show passAt m (labAt m N p) N x = F c
          omega
        · right
          have hmono : ∀ i, i < n → (labAt m N p i == F c) = true → (labAt m N (p + 1) i == F c) = true := fun i hi e => by
            have e' : labAt m N p i = F c := by simpa using e
            have hfi : F i = F c := by rw [hF.conn (lab_conn m N p i), e', hFF]
            have h1 := pass_le m (labAt m N p) N i
            have h4 : F c ≤ passAt m (labAt m N p) N i := hge (p + 1) i hi hfi
            have h5 : labAt m N (p + 1) i = F c := by show passAt m (labAt m N p) N i = F c; omega
            rw [h5]; simp
          have hex : ∃ x, x < n ∧ F x = F c ∧ labAt m N p x ≠ F c := Classical.byContradiction fun h => hall fun x hx e => Classical.byContradiction fun h' => h ⟨x, hx, e, h'⟩
          obtain ⟨x, hx, e, hne⟩ := hex
          have hcr : Conn m N (F c) x := by
            have h1 := (hF.1 x hx).2
            rw [e] at h1; exact h1.symm
          have hr : labAt m N p (F c) = F c := by
            have h1 := lab_le m N p (F c)
            have h2 := hge p (F c) (by omega) hFF
            omega
          obtain ⟨h, hh, hcase⟩ := leaving (P := fun y => labAt m N p y = F c) hcr hr hne
          have hmh := hm h hh
          have hp := pass_edge m (labAt m N p) N h hh
          have hv : ∃ v, v < n ∧ labAt m N p v ≠ F c ∧ labAt m N (p + 1) v = F c := by
            rcases hcase with ⟨h1, h2⟩ | ⟨h1, h2⟩
            · refine ⟨m h / 4, by omega, h2, ?_⟩
              have hf1 : F (h / 4) = F c := by rw [hF.conn (lab_conn m N p (h / 4)), h1, hFF]
              have hf2 : F (m h / 4) = F c := by rw [← hF.2 h hh, hf1]
              have h4 : F c ≤ passAt m (labAt m N p) N (m h / 4) := hge (p + 1) _ (by omega) hf2
              show passAt m (labAt m N p) N (m h / 4) = F c
              omega
            · refine ⟨h / 4, by omega, h2, ?_⟩
              have hf1 : F (m h / 4) = F c := by rw [hF.conn (lab_conn m N p (m h / 4)), h1, hFF]
              have hf2 : F (h / 4) = F c := by rw [hF.2 h hh, hf1]
              have h4 : F c ≤ passAt m (labAt m N p) N (h / 4) := hge (p + 1) _ (by omega) hf2
              show passAt m (labAt m N p) N (h / 4) = F c
              omega
          obtain ⟨v, hv1, hv2, hv3⟩ := hv
          have := countP_lt hmono v hv1 (by simpa using hv2) (by simpa using hv3)
          omega
  rcases key n with h | h
  · exact h c hc rfl
  · have : (List.range n).countP (fun x => labAt m N n x == F c) ≤ n := Nat.le_trans List.countP_le_length (by simp)
    omega

end Go.Proofs.YtebliaclleplgaaDoor

/- Walks of the reference: Face, Faces. -/
namespace Go.Proofs.YtebliaclleplgaaDoor
open Go.RowKit

theorem rturn_face (x : Nat) (hx : x ≤ 1000000) (w : World) : Calls Tryd.prog 77 #[.int .i64 (x : Int), .int .i64 (-1)] w fun e w' => e = .returned (.int .i64 (trn x 3 : Nat)) ∧ w = w' := by
  rw [← turnI_face]; exact rturn_any _ _ _ (by omega) (by omega) (by omega) (by omega)
theorem rturn_opp (x : Nat) (hx : x ≤ 1000000) (w : World) : Calls Tryd.prog 77 #[.int .i64 (x : Int), .int .i64 2] w fun e w' => e = .returned (.int .i64 (trn x 2 : Nat)) ∧ w = w' := by
  rw [← turnI_opp]; exact rturn_any _ _ _ (by omega) (by omega) (by omega) (by omega)

set_option maxHeartbeats 1600000 in
set_option maxRecDepth 100000 in
theorem rface_any (B : Option Addr) (nm cm h : Nat) (mate : List Int) (m : Nat → Nat) (w : World) (hm : RI w B nm mate) (hmm : Mates mate nm m) (hp : Perm (ff m) nm) (hh : h < nm) (hN : nm ≤ 256) (x : Int) (hx : x = (h : Nat)) :
    Calls Tryd.prog 59 #[.slice B nm cm, .int .i64 x] w (CycPost w (itl (ff m) h (per (ff m) nm h))) := by
  subst hx
  have h1 := OI.one w w.heap.size h (Nat.le_refl _)
  have hb1 := below_alloc w (.cells #[.int .i64 (h : Int)] 3)
  obtain ⟨b, off, rfl, hbb, hc⟩ := hm.2 (by omega)
  have HM := Lib.hid hmm
  have HC := Lib.hid hc
  obtain ⟨hmh, hml⟩ := hmm h hh
  have hc0 := (hb1.cell (p := ⟨b, off + h, none⟩) hbb).trans (hc h hh)
  rw [hmh] at hc0
  have HP := Lib.hid hp
  have CT := Lib.hid (rturn_face (m h) (by omega) (w.alloc (.cells #[.int .i64 (h : Int)] 3)))
  have hff : ff m h = trn (m h) 3 := rfl
  rw [← hff] at CT
  have hh0 : (0 : Int) ≤ (h : Int) := Int.natCast_nonneg _
  have hh1 : (h : Int) < (nm : Int) := by omega
  clear hp hmm hc hm hmh hff
  go_enter Tryd.func59, Tryd.ntmps59
  go_wp2_with (go_at_call 77; ((with_reducible refine CT.out.mono ?_); rintro e w1 ⟨rfl, rfl⟩))
  go_loopg [5, 6] (per (ff m) nm h - 1) (fun n v g wr => ∃ i : Nat, 0 < i ∧ n + i = per (ff m) nm h ∧ g = .int .i64 (it (ff m) i h : Nat) ∧ Below w.heap.size w wr ∧ OI wr w.heap.size v (itl (ff m) h i))
  case atStart => exact ⟨1, by omega, by have := per_pos (ff m) nm h; omega, rfl, hb1, h1⟩
  case round =>
    obtain ⟨i, hi0, hi, rfl, hbr, hown⟩ := hrel
    have hgl := HP.out.it_lt hh i
    have hpn := (HP.out.per_spec hh).2.1
    have hlen := itl_length (ff m) h i
    obtain ⟨gv, cv, rfl⟩ := hown.form_pos hlen hi0
    by_cases hil : i < per (ff m) nm h
    · have hne : ((it (ff m) i h : Int) != (h : Int)) = true := by
        have := (HP.out.per_spec hh).2.2 i hi0 hil
        simp only [bne_iff_ne, ne_eq]; omega
      have HI := Lib.hid hi
      have hsucc := itl_succ (ff m) h i
      have hil' : (itl (ff m) h i).length ≤ 1000000000 := by omega
      have HIT := Lib.hid (show it (ff m) (i + 1) h = trn (m (it (ff m) i h)) 3 from rfl)
      have HSU := Lib.hid hsucc
      have hle : (i : Int) ≤ (nm : Int) := by omega
      obtain ⟨hmx, hmxl⟩ := HM.out _ hgl
      have HCX := Lib.hid (show w.cell? ⟨b, off + it (ff m) i h, none⟩ = some (.int .i64 (m (it (ff m) i h) : Nat)) from by rw [HC.out _ hgl, hmx])
      clear hi hlen hsucc hmx
      generalize itl (ff m) h i = xs at *
      generalize it (ff m) i h = x at *
      generalize hmxx : m x = y at *
      clear hmxx
      have hx0 : (0 : Int) ≤ (x : Int) := Int.natCast_nonneg _
      have hx1 : (x : Int) < (nm : Int) := by omega
      go_wp2_with (first
        | (at_builtin
           refine wpList_append_int rfl (.tmp 29) (.tmp 31) rfl w.heap.size _ xs rfl (hown.alloc _) wr.heap.size (x : Int) rfl (by rw [World.cell?_alloc_at _ _ _ _ rfl]; rfl) hil' (Nat.le_trans hbr.size (by simp)) ?_
           intro v2 w2 hown2 hg2
           have hb2 : Below w.heap.size w w2 := (below_step hbr (below_alloc wr _)).grown hg2 (Nat.le_trans hbr.size (by simp)) (fun k hk => (World.ownsRow.lt hown k hk).1)
           have hcx := (hb2.cell (p := ⟨b, off + x, none⟩) hbb).trans HCX.out
           have C1 := Lib.hid (rturn_face y (by omega) w2))
        | (go_at_call 77; ((with_reducible refine C1.out.mono ?_); rintro e w3 ⟨rfl, rfl⟩)))
      go_roundg (gk - 1)
      case measure => have := HI.out; omega
      case rel => exact ⟨i + 1, by omega, by have := HI.out; omega, by rw [HIT.out], hb2, by rw [HSU.out]; exact hown2⟩
    · have hip : i = per (ff m) nm h := by omega
      have hret : it (ff m) i h = h := by rw [hip]; exact (HP.out.per_spec hh).1
      rw [hret]
      rw [hip] at hown
      have HF := Lib.hid (show CycPost w (itl (ff m) h (per (ff m) nm h)) (.returned (.slice (some ⟨gv, 0, none⟩) i cv)) wr from ⟨_, rfl, by rw [hip]; exact hown, hbr⟩)
      clear hret hip hil hi hlen hown
      go_wp2
      go_ret
      exact HF.out

theorem sel_true (f : Nat → Nat) (N h : Nat) : sel f N (fun _ => true) h = fst f N h := by simp [sel, fst]
theorem all_itl (f : Nat → Nat) (N h : Nat) : fst f N h = (List.range (per f N h)).all (fun i => decide (h ≤ it f i h)) := by
  unfold fst cyc; rw [List.all_map]; rfl
theorem all_range_succ (p : Nat → Bool) (k : Nat) : (List.range (k + 1)).all p = ((List.range k).all p && p k) := by
  rw [List.range_succ, List.all_append]; simp

set_option maxHeartbeats 1600000 in
set_option maxRecDepth 100000 in
theorem rfaces_any (B : Option Addr) (nm cm : Nat) (mate : List Int) (m : Nat → Nat) (w : World) (hm : RI w B nm mate) (hmm : Mates mate nm m) (hp : Perm (ff m) nm) (hN : nm ≤ 256) :
    Calls Tryd.prog 32 #[.slice B nm cm] w (CycsPost w (cycL (ff m) nm (fun _ => true) nm)) := by
  have HP := Lib.hid hp
  have HMM := Lib.hid hmm
  clear hp hmm
  go_enter Tryd.func32, Tryd.ntmps32
  go_wp2
  go_loopw [3, 4, 5, 6, 7] (fun v i _ _ _ wr => ∃ k : Nat, k ≤ nm ∧ i = .int .i64 k ∧ Below w.heap.size w wr ∧ OO wr w.heap.size v (cycL (ff m) nm (fun _ => true) k)) (fun _ i _ _ _ _ => nm - (intOf i).toNat)
  case atStart => exact ⟨0, by omega, rfl, Below.refl _ _, OO.nil _ _⟩
  case round =>
    obtain ⟨k, hk, rfl, hbr, hown⟩ := hrel
    by_cases hlt : k < nm
    · have CF := Lib.hid (rface_any B nm cm k mate m wr (hm.keep hbr) HMM.out HP.out hlt hN _ rfl)
      have hpn := (HP.out.per_spec hlt).2.1
      have hk0 : (0 : Int) ≤ (k : Int) := Int.natCast_nonneg _
      have hk1 : (k : Int) < (nm : Int) := by omega
      go_wp2_with (go_at_call 59; ((with_reducible refine CF.out.mono ?_); rintro e w2 ⟨vm, rfl, hom, hb2⟩; obtain ⟨gm, cpm, rfl⟩ := hom.form_pos (itl_length (ff m) k (per (ff m) nm k)) (per_pos (ff m) nm k)))
      have hbw2 := below_step hbr hb2
      have hszr := hbr.size
      have hown2 := hown.keep hb2
      clear hown hb2 hbr CF
      go_loop [6, 7] (fun l i => ∃ j : Nat, j ≤ per (ff m) nm k ∧ i = .int .i64 j ∧ l = .bool ((List.range j).all (fun q => decide (k ≤ it (ff m) q k)))) (fun _ i => per (ff m) nm k - (intOf i).toNat)
      case atStart => exact ⟨0, by omega, rfl, rfl⟩
      case round =>
        obtain ⟨j, hj, rfl, rfl⟩ := hrel
        by_cases hjl : j < per (ff m) nm k
        · have hcm : w2.cell? ⟨gm, j, none⟩ = some (.int .i64 (it (ff m) j k : Nat)) := by
            have := hom.cell j (by rw [itl_length]; exact hjl)
            rwa [itl_getD _ _ _ _ hjl] at this
          have HAS := Lib.hid (all_range_succ (fun q => decide (k ≤ it (ff m) q k)) j)
          have hit := HP.out.it_lt hlt j
          generalize it (ff m) j k = x at *
          have hx0 : (0 : Int) ≤ (x : Int) := Int.natCast_nonneg _
          have hj0 : (0 : Int) ≤ (j : Int) := Int.natCast_nonneg _
          have hj1 : (j : Int) < (per (ff m) nm k : Int) := by omega
          generalize hall : (List.range j).all (fun q => decide (k ≤ it (ff m) q k)) = a at *
          clear hall
          cases a with
          | false =>
            go_wp2
            go_round
            case rel => exact ⟨j + 1, by omega, by go_num, by rw [HAS.out]; simp⟩
            case measure => simp [intOf]; omega
          | true =>
            by_cases hkx : k ≤ x
            · have hd : decide (k ≤ x) = true := by simp [hkx]
              have hd' : decide ((k : Int) ≤ (x : Int)) = true := by simp [hkx]
              go_wp2
              go_round
              case rel => exact ⟨j + 1, by omega, by go_num, by rw [HAS.out]; simp [hkx]⟩
              case measure => simp [intOf]; omega
            · have hd : decide (k ≤ x) = false := by simp [hkx]
              have hd' : decide ((k : Int) ≤ (x : Int)) = false := by simp; omega
              go_wp2
              go_round
              case rel => exact ⟨j + 1, by omega, by go_num, by rw [HAS.out]; simp [hkx]⟩
              case measure => simp [intOf]; omega
        · obtain rfl : j = per (ff m) nm k := by omega
          have hcy := cycL_succ (ff m) nm (fun _ => true) k
          rw [sel_true, all_itl] at hcy
          have hlen := cycL_length (ff m) nm (fun _ => true) k
          have hsz := hbw2.size
          have hom' := hom.mono (B' := w.heap.size) hszr
          cases hall : (List.range (per (ff m) nm k)).all (fun q => decide (k ≤ it (ff m) q k)) with
          | false =>
            rw [hall] at hcy
            have hcy' : cycL (ff m) nm (fun _ => true) (k + 1) = cycL (ff m) nm (fun _ => true) k := by rw [hcy]; simp
            have HO := Lib.hid (show OO w2 w.heap.size u3 (cycL (ff m) nm (fun _ => true) (k + 1)) from by rw [hcy']; exact hown2)
            clear hcy hcy' hown2 hall
            go_wp2
            go_roundw
            case rel => exact ⟨k + 1, by omega, by go_num, hbw2, HO.out⟩
            case measure => simp [intOf]; omega
          | true =>
            rw [hall] at hcy
            have HCY := Lib.hid (show cycL (ff m) nm (fun _ => true) (k + 1) = cycL (ff m) nm (fun _ => true) k ++ [itl (ff m) k (per (ff m) nm k)] from by rw [hcy]; simp)
            clear hcy hall
            go_wp2_with (at_builtin
                         refine wpList_append_row rfl (.tmp 33) (.tmp 35) rfl w.heap.size u3 (cycL (ff m) nm (fun _ => true) k) rfl (hown2.keep (below_alloc _ _)) w2.heap.size (.slice (some ⟨gm, 0, none⟩) (per (ff m) nm k) cpm) (itl (ff m) k (per (ff m) nm k)) rfl (by rw [World.cell?_alloc_at _ _ _ _ rfl]; rfl) (hom'.alloc _) (by omega) (Nat.le_trans hsz (by simp)) ?_
                         intro v2 w3 ho2 hg2)
            go_roundw
            case rel => exact ⟨k + 1, by omega, by go_num, (below_step hbw2 (below_alloc w2 _)).grown hg2 (Nat.le_trans hsz (by simp)) (fun q hq => (hown2.lt q hq).1), by rw [HCY.out]; exact ho2⟩
            case measure => simp [intOf]; omega
    · obtain rfl : k = nm := by omega
      clear hlt hk hm
      go_wp2
      go_ret
      exact ⟨_, rfl, hown, hbr⟩

end Go.Proofs.YtebliaclleplgaaDoor
