import Derived.Test.YtkfjledhnakfoaaA03
import Derived.Test.YtkfjledhnakfoaaA02
/- Walk: cycles. -/
namespace Go.Proofs.Ytkfjledhnakfoaa
open Go.RowKit

/-- The test function 'func fid' answers P x, in every world after w. -/
def Asks (w : World) (fid : FuncId) (caps : Array Value) (p : Nat → Bool) (N : Nat) : Prop := ∀ (W : World) (x : Nat), Below w.heap.size w W → x < N →
  Calls Try.prog fid (#[.int .i64 (x : Nat)] ++ caps) W fun e W' => e = .returned (.bool (p x)) ∧ Below W.heap.size W W'

/-- Is h the first wanted one of its cycle? -/
def sel (f : Nat → Nat) (N : Nat) (p : Nat → Bool) (h : Nat) : Bool := p h && (cyc f N h).all (fun g => !(p g) || decide (h ≤ g))
def cycL (f : Nat → Nat) (N : Nat) (p : Nat → Bool) (k : Nat) : List (List Int) := ((List.range k).filter (sel f N p)).map (fun h => itl f h (per f N h))
theorem cycL_succ (f : Nat → Nat) (N : Nat) (p : Nat → Bool) (k : Nat) : cycL f N p (k + 1) = cycL f N p k ++ if sel f N p k then [itl f k (per f N k)] else [] := by
  unfold cycL; rw [List.range_succ, List.filter_append, List.map_append]
  cases h : sel f N p k <;> simp [h]
theorem cycL_length (f : Nat → Nat) (N : Nat) (p : Nat → Bool) (k : Nat) : (cycL f N p k).length ≤ k := by
  unfold cycL; rw [List.length_map]; exact Nat.le_trans (List.length_filter_le _ _) (by simp)
theorem Perm.sel_iff {f : Nat → Nat} {N : Nat} (q : Perm f N) (p : Nat → Bool) {h : Nat} (hh : h < N) : sel f N p h = true ↔ p h = true ∧ ∀ h', h' < h → p h' = true → ¬ Orb f h' h := by
  unfold sel
  rw [Bool.and_eq_true, List.all_eq_true]
  constructor
  · rintro ⟨h1, h2⟩
    refine ⟨h1, fun h' hlt hp o => ?_⟩
    have := h2 h' ((q.mem_cyc hh h').2 (q.orb_symm (by omega) o))
    rw [hp] at this; simp at this; omega
  · rintro ⟨h1, h2⟩
    refine ⟨h1, fun g hg => ?_⟩
    have o := (q.mem_cyc hh g).1 hg
    cases hp : p g with
    | false => rfl
    | true =>
      simp only [Bool.not_true, Bool.false_or, decide_eq_true_eq]
      by_cases hlt : g < h
      · exact absurd (q.orb_symm hh o) (h2 g hlt hp)
      · omega

/-- Block g tells which numbers are on the cycle of a wanted number below k. -/
def SeenP (f : Nat → Nat) (p : Nat → Bool) (N k : Nat) (g : Nat) (w : World) : Prop := ∃ S : Nat → Bool, Arr w g 4 N (bv S) ∧ ∀ x, x < N → (S x = true ↔ ∃ h, h < k ∧ p h = true ∧ Orb f h x)

/-- And those that the first j steps from k reach. -/
def SeenI (f : Nat → Nat) (N k j : Nat) (S : Nat → Bool) (g : Nat) (w : World) : Prop := ∃ S' : Nat → Bool, Arr w g 4 N (bv S') ∧ ∀ x, x < N → (S' x = true ↔ S x = true ∨ ∃ i, i < j ∧ it f i k = x)

def CycsPost (w : World) (xss : List (List Int)) (e : Ending) (w' : World) : Prop := ∃ v, e = .returned v ∧ OO w' w.heap.size v xss ∧ Below w.heap.size w w'

set_option maxHeartbeats 3200000 in
set_option maxRecDepth 100000 in
theorem cycles_any (fid fidp : FuncId) (gd N : Nat) (caps : Array Value) (f : Nat → Nat) (p : Nat → Bool) (w : World) (hcall : Enters fid) (hcallp : Enters fidp) (hn : Next w fid gd f N) (ha : Asks w fidp caps p N) (hp : Perm f N) (hN : N ≤ 256) :
    Calls Try.prog 73 #[.int .i64 (N : Nat), .func (.func fidp) #[] caps, .func (.func fid) #[] #[.pointer (some ⟨gd, 0, none⟩)]] w (CycsPost w (cycL f N p N)) := by
  have hcf : ∀ (args : Array Value) (W : World), (callFunc fidp args).run Try.prog W = .ok (.enter fidp args) W := hcallp
  clear hcallp
  have hmk := fun W => make_one (P := Try.prog) Try.underlying77 Try.infoBool rfl N (by omega) (by omega) W
  have HCE := Lib.hid hcall
  have HN := Lib.hid hn
  have HA := Lib.hid ha
  have HP := Lib.hid hp
  clear hn ha hp hcall
  have hs0 : SeenP f p N 0 w.heap.size (w.alloc (.cells (cellsN N fun _ => .bool false) 4)) := ⟨fun _ => false, Arr.new w N _ _, fun x _ => ⟨fun h => Bool.noConfusion h, fun ⟨_, h, _⟩ => absurd h (by omega)⟩⟩
  have hb0 := below_alloc w (.cells (cellsN N fun _ => .bool false) 4)
  go_enter Try.func73, Try.ntmps73
  go_wp2
  generalize w.alloc (.cells (cellsN N fun _ => .bool false) 4) = wA at hs0 hb0
  go_loopw [7, 9, 10, 12, 16] (fun v _ _ _ i wr => ∃ k : Nat, k ≤ N ∧ i = .int .i64 k ∧ Below w.heap.size w wr ∧ SeenP f p N k w.heap.size wr ∧ OO wr w.heap.size v (cycL f N p k)) (fun _ _ _ _ i _ => N - (intOf i).toNat)
  case atStart => exact ⟨0, by omega, rfl, hb0, hs0, OO.nil _ _⟩
  case round =>
    obtain ⟨k, hk, rfl, hbr, hsr, hown⟩ := hrel
    by_cases hlt : k < N
    · obtain ⟨S, hA, hS⟩ := hsr
      have hcS : wr.cell? ⟨w.heap.size, k, none⟩ = some (.bool (S k)) := hA.cell k hlt
      have hk0 : (0 : Int) ≤ (k : Int) := Int.natCast_nonneg _
      have hk1 : (k : Int) < (N : Int) := by omega
      cases hSk : S k with
      | true =>
        obtain ⟨h', h1, h2, h3⟩ := (hS k hlt).1 hSk
        have hsel : sel f N p k = false := by
          cases e : sel f N p k with
          | false => rfl
          | true => exact absurd h3 (((HP.out.sel_iff p hlt).1 e).2 h' h1 h2)
        have hsn : SeenP f p N (k + 1) w.heap.size wr := ⟨S, hA, fun x hx => (hS x hx).trans ⟨fun ⟨a, b, c⟩ => ⟨a, by omega, c⟩, fun ⟨a, b, c, d⟩ => by
          by_cases e : a = k
          · subst e; exact ⟨h', h1, h2, h3.trans d⟩
          · exact ⟨a, by omega, c, d⟩⟩⟩
        have hcy : cycL f N p (k + 1) = cycL f N p k := by rw [cycL_succ, hsel]; simp
        rw [← hcy] at hown
        rw [hSk] at hcS
        clear hS hA hSk hsel hcy
        go_wp2
        go_roundw
        case rel => exact ⟨k + 1, by omega, by go_num, hbr, hsn, hown⟩
        case measure => simp [intOf]; omega
      | false =>
        have CA := Lib.hid (HA.out wr k hbr hlt)
        cases hpk : p k with
        | false =>
          have hsel : sel f N p k = false := by simp [sel, hpk]
          have hcy : cycL f N p (k + 1) = cycL f N p k := by rw [cycL_succ, hsel]; simp
          have hsn : SeenP f p N (k + 1) w.heap.size wr := ⟨S, hA, fun x hx => (hS x hx).trans ⟨fun ⟨a, b, c⟩ => ⟨a, by omega, c⟩, fun ⟨a, b, c, d⟩ => by
            by_cases e : a = k
            · subst e; rw [hpk] at c; cases c
            · exact ⟨a, by omega, c, d⟩⟩⟩
          rw [← hcy] at hown
          rw [hSk] at hcS
          rw [hpk] at CA
          clear hS hA hSk hsel hcy hpk
          go_wp2_with ((with_reducible refine CA.out.mono ?_); rintro e w1 ⟨rfl, hb1⟩)
          go_roundw
          case rel => exact ⟨k + 1, by omega, by go_num, below_step hbr hb1, by
            obtain ⟨S', hA', hS'⟩ := hsn
            exact ⟨S', hA'.keep hb1, hS'⟩, hown.keep hb1⟩
          case measure => simp [intOf]; omega
        | true =>
          have hsel : sel f N p k = true := (HP.out.sel_iff p hlt).2 ⟨hpk, fun h' h1 h2 h3 => by
            rw [(hS k hlt).2 ⟨h', h1, h2, h3⟩] at hSk; cases hSk⟩
          have hcy : cycL f N p (k + 1) = cycL f N p k ++ [itl f k (per f N k)] := by rw [cycL_succ, hsel]; simp
          have HCY := Lib.hid hcy
          rw [hSk] at hcS
          rw [hpk] at CA
          have HSS := Lib.hid hS
          have HPK := Lib.hid hpk
          clear hS hSk hsel hcy hpk
          go_wp2_with (first
            | ((with_reducible refine CA.out.mono ?_); rintro e w1 ⟨rfl, hb1⟩
               have hbw1 := below_step hbr hb1
               have CC := Lib.hid (cycle_any fid gd k N f w1 HCE.out (Next.keep HN.out hbw1) HP.out hlt hN))
            | (go_at_call 110; ((with_reducible refine CC.out.mono ?_); rintro e w2 ⟨vm, rfl, hom, hb2⟩; obtain ⟨gm, cpm, rfl⟩ := hom.form_pos (itl_length f k (per f N k)) (per_pos f N k))))
          have hbw2 := below_step hbw1 hb2
          have hpl := (HP.out.per_spec hlt).2.1
          have hom' := hom.mono (B' := w.heap.size) hbw1.size
          have hown2 := (hown.keep hb1).keep hb2
          have hst : SeenI f N k 0 S w.heap.size w2 :=
            ⟨S, (hA.keep hb1).keep hb2, fun x _ => ⟨.inl, fun h => h.elim id fun ⟨i, hi, _⟩ => absurd hi (by omega)⟩⟩
          clear hom hb2 hb1 hbw1 hbr hown hA CC CA hcS
          go_loopw [12, 34] (fun _ i wr => ∃ j : Nat, j ≤ per f N k ∧ i = .int .i64 j ∧ Below w.heap.size w wr ∧ OI wr w.heap.size (.slice (some ⟨gm, 0, none⟩) (per f N k) cpm) (itl f k (per f N k)) ∧ OO wr w.heap.size u7 (cycL f N p k) ∧
            SeenI f N k j S w.heap.size wr) (fun _ i _ => per f N k - (intOf i).toNat)
          case atStart => exact ⟨0, by omega, rfl, hbw2, hom', hown2, hst⟩
          case round =>
            obtain ⟨j, hj, rfl, hbj, homj, hownj, hsj⟩ := hrel
            by_cases hjl : j < per f N k
            · obtain ⟨S', hA', hS'⟩ := hsj
              have hx : it f j k < N := HP.out.it_lt hlt j
              have hcm : wr.cell? ⟨gm, j, none⟩ = some (.int .i64 (it f j k : Nat)) := by
                have := homj.cell j (by rw [itl_length]; exact hjl)
                rwa [itl_getD _ _ _ _ hjl] at this
              have hcS : wr.cell? ⟨w.heap.size, it f j k, none⟩ = some (.bool (S' (it f j k))) := hA'.cell _ hx
              have hfS := hA'.frozen (it f j k)
              have hs2 : SeenI f N k (j + 1) S w.heap.size (wr.setCell ⟨w.heap.size, it f j k, none⟩ (.bool true)) := by
                refine ⟨_, hA'.setb _ _, fun x hx => ?_⟩
                by_cases e : x = it f j k
                · subst e; simp only [if_pos]
                  exact ⟨fun _ => .inr ⟨j, by omega, rfl⟩, fun _ => trivial⟩
                · simp only [if_neg e]
                  refine (hS' x hx).trans ⟨fun h => h.imp id fun ⟨i, hi, e'⟩ => ⟨i, by omega, e'⟩, fun h => h.imp id fun ⟨i, hi, e'⟩ => ⟨i, ?_, e'⟩⟩
                  by_cases ej : i = j
                  · subst ej; exact absurd e'.symm e
                  · omega
              have hom2 : OI (wr.setCell ⟨w.heap.size, it f j k, none⟩ (.bool true)) w.heap.size (.slice (some ⟨gm, 0, none⟩) (per f N k) cpm) (itl f k (per f N k)) := homj.far (homj.ne_arr hA' (by decide)) _
              have hown2 := hownj.far hA' (by decide) (by decide) (it f j k) (.bool true)
              have H1 := Lib.hid hs2
              have H2 := Lib.hid hom2
              have H3 := Lib.hid hown2
              clear hs2 hom2 hown2 hS' hA' homj hownj hst hom'
              generalize it f j k = x at *
              have hx0 : (0 : Int) ≤ (x : Int) := Int.natCast_nonneg _
              have hx1 : (x : Int) < (N : Int) := by omega
              have hj0 : (0 : Int) ≤ (j : Int) := Int.natCast_nonneg _
              have hj1 : (j : Int) < (per f N k : Int) := by omega
              go_wp2
              go_roundw
              case rel => exact ⟨j + 1, by omega, by go_num, below_set hbj (Nat.le_refl _) _, H2.out, H3.out, H1.out⟩
              case measure => simp [intOf]; omega
            · obtain rfl : j = per f N k := by omega
              have hsz := hbj.size
              have hlen := cycL_length f N p k
              have hseen : ∃ S' : Nat → Bool, Arr wr w.heap.size 4 N (bv S') ∧ ∀ x, x < N → (S' x = true ↔ ∃ h, h < k + 1 ∧ p h = true ∧ Orb f h x) := by
                obtain ⟨S', hA', hS'⟩ := hsj
                refine ⟨S', hA', fun x hx => (hS' x hx).trans ⟨?_, ?_⟩⟩
                · rintro (h | ⟨i, _, e⟩)
                  · obtain ⟨a, b, c⟩ := (HSS.out x hx).1 h
                    exact ⟨a, by omega, c⟩
                  · exact ⟨k, by omega, HPK.out, i, e⟩
                · rintro ⟨a, b, c, d⟩
                  by_cases e : a = k
                  · subst e; exact .inr (HP.out.orb_lt hlt d)
                  · exact .inl ((HSS.out x hx).2 ⟨a, by omega, c, d⟩)
              have HSE := Lib.hid hseen
              clear hseen hsj hj hjl hpl hst hown2 hom'
              go_wp2_with (at_builtin
                           refine wpList_append_row rfl (.tmp 42) (.tmp 44) rfl w.heap.size u7 (cycL f N p k) rfl (hownj.keep (below_alloc _ _)) wr.heap.size (.slice (some ⟨gm, 0, none⟩) (per f N k) cpm) (itl f k (per f N k)) rfl (by rw [World.cell?_alloc_at _ _ _ _ rfl]; rfl) (homj.alloc _) (by omega) (Nat.le_trans hsz (by simp)) ?_
                           intro v2 w3 ho2 hg2)
              go_roundw
              case rel =>
                refine ⟨k + 1, by omega, by go_num, (below_step hbj (below_alloc wr _)).grown hg2 (Nat.le_trans hsz (by simp)) (fun q hq => (hownj.lt q hq).1), ?_, by rw [HCY.out]; exact ho2⟩
                obtain ⟨S', hA', hS'⟩ := HSE.out
                exact ⟨S', (hA'.alloc _).grown hg2 (hownj.ne_arr hA' (by decide)), hS'⟩
              case measure => simp [intOf]; omega
    · obtain rfl : k = N := by omega
      clear hlt hk hmk hcf
      go_wp2
      go_ret
      exact ⟨_, rfl, hown, hbr⟩

end Go.Proofs.Ytkfjledhnakfoaa

/- Walk: Valid. -/
namespace Go.Proofs.Ytkfjledhnakfoaa
open Go.RowKit

def matesOf (mate : List Int) : Nat → Nat := fun h => (mt mate h).toNat
theorem matesOf_mates {signs mate : List Int} {nm : Nat} (h : pairB signs mate = true) (hl : mate.length = nm) : Mates mate nm (matesOf mate) := fun j hj => by
  obtain ⟨m, h1, h2, _⟩ := pOK_out ((pairB_iff _ _).1 h j (by omega)) hl
  have e : matesOf mate j = m := by unfold matesOf; rw [h1]; simp
  rw [e]; exact ⟨h1, h2⟩
theorem matesOf_invol {signs mate : List Int} {nm : Nat} (h : pairB signs mate = true) (hl : mate.length = nm) : Invol (matesOf mate) nm :=
  ⟨fun j hj => (matesOf_mates h hl j hj).2, fun j hj => by
    obtain ⟨m, h1, h2, h3, _⟩ := pOK_out ((pairB_iff _ _).1 h j (by omega)) hl
    have e : matesOf mate j = m := by unfold matesOf; rw [h1]; simp
    have e2 : matesOf mate m = j := by unfold matesOf; rw [h3]; simp
    rw [e, e2]⟩

/-- The mates and their labels. -/
def sphM (mate : List Int) (n : Nat) : Bool := sphB (ufLab (matesOf mate) mate.length) (ff (matesOf mate)) mate.length n
def validB (signs mate : List Int) (lp : Int) : Bool := limB signs.length mate.length lp && sgnsB signs && pairB signs mate && sphM mate signs.length
theorem limB_out {ns nm : Nat} {lp : Int} (h : limB ns nm lp = true) : ns ≤ 64 ∧ nm = 4 * ns ∧ 0 ≤ lp ∧ lp ≤ 64 := by
  unfold limB at h; simp only [Bool.and_eq_true, decide_eq_true_eq] at h; omega

set_option maxHeartbeats 1600000 in
theorem valid_any (A B : Option Addr) (ns cs nm cm : Nat) (lp : Int) (signs mate : List Int) (w : World) (hs : RI w A ns signs) (hm : RI w B nm mate) (hns : ns ≤ 100000000000000) (hnm : nm ≤ 100000000000000)
    (hrange : ∀ j, j < nm → -9223372036854775808 ≤ mt mate j ∧ mt mate j ≤ 9223372036854775807) :
    Calls Try.prog 18 #[dval A ns cs B nm cm lp] w fun e w' => e = .returned (.bool (validB signs mate lp)) ∧ Below w.heap.size w w' := by
  have hd := DB.new w A ns cs B nm cm lp
  obtain ⟨d0, d1, d2, dlt⟩ := hd
  have hb0 := below_alloc w (dbox A ns cs B nm cm lp)
  have hs1 := hs.alloc (dbox A ns cs B nm cm lp)
  have hm1 := hm.alloc (dbox A ns cs B nm cm lp)
  have hls := hs.1
  have hlm := hm.1
  have HC1 := Lib.hid (limits_any A B ns cs nm cm lp (w.alloc (dbox A ns cs B nm cm lp)) (by omega) (by omega))
  have hv : validB signs mate lp = (limB ns nm lp && sgnsB signs && pairB signs mate && sphM mate ns) := by unfold validB; rw [hls, hlm]
  rw [hv]
  clear hv
  cases h1 : limB ns nm lp with
  | false =>
    simp only [Bool.false_and]
    rw [h1] at HC1
    clear hrange hls hlm h1
    go_enter Try.func18, Try.ntmps18
    go_wp2_with (go_at_call 62; ((with_reducible refine HC1.out.mono ?_); rintro e w1 ⟨rfl, hb1⟩))
    go_ret
    exact ⟨rfl, below_step hb0 hb1⟩
  | true =>
    obtain ⟨hns64, hnm4, hlp0, hlp1⟩ := limB_out h1
    rw [h1] at HC1
    have HC2 : ∀ w1 : World, Below (w.alloc (dbox A ns cs B nm cm lp)).heap.size (w.alloc (dbox A ns cs B nm cm lp)) w1 → Hid (Calls Try.prog 63 #[.slice A ns cs] w1 fun e w' => e = .returned (.bool (sgnsB signs)) ∧ w1 = w') :=
      fun w1 hb => signs_any A ns cs signs w1 (hs1.keep hb) (by omega)
    simp only [Bool.true_and]
    cases h2 : sgnsB signs with
    | false =>
      simp only [Bool.false_and]
      rw [h2] at HC2
      clear hrange hls hlm h1 hnm4
      go_enter Try.func18, Try.ntmps18
      go_wp2_with (first
        | (go_at_call 62; ((with_reducible refine HC1.out.mono ?_); rintro e w1 ⟨rfl, hb1⟩; have hc0 := (hb1.cell (p := ⟨w.heap.size, 0, none⟩) dlt).trans d0; have hc1 := (hb1.cell (p := ⟨w.heap.size, 1, none⟩) dlt).trans d1; have hc2 := (hb1.cell (p := ⟨w.heap.size, 2, none⟩) dlt).trans d2))
        | (go_at_call 63; ((with_reducible refine (HC2 _ hb1).out.mono ?_); rintro e w2 ⟨rfl, rfl⟩)))
      go_ret
      exact ⟨rfl, below_step hb0 hb1⟩
    | true =>
      rw [h2] at HC2
      have HC3 : ∀ w1 : World, Below (w.alloc (dbox A ns cs B nm cm lp)).heap.size (w.alloc (dbox A ns cs B nm cm lp)) w1 → Hid (Calls Try.prog 64 #[dval A ns cs B nm cm lp] w1 fun e w' => e = .returned (.bool (pairB signs mate)) ∧ Below w1.heap.size w1 w') :=
        fun w1 hb => paired_any A B ns cs nm cm lp signs mate w1 (hs1.keep hb) (hm1.keep hb) hnm4 hns64 hrange
      simp only [Bool.true_and]
      cases h3 : pairB signs mate with
      | false =>
        simp only [Bool.false_and]
        rw [h3] at HC3
        clear hrange hls hlm h1 hnm4
        go_enter Try.func18, Try.ntmps18
        go_wp2_with (first
          | (go_at_call 62; ((with_reducible refine HC1.out.mono ?_); rintro e w1 ⟨rfl, hb1⟩; have hc0 := (hb1.cell (p := ⟨w.heap.size, 0, none⟩) dlt).trans d0; have hc1 := (hb1.cell (p := ⟨w.heap.size, 1, none⟩) dlt).trans d1; have hc2 := (hb1.cell (p := ⟨w.heap.size, 2, none⟩) dlt).trans d2))
          | (go_at_call 63; ((with_reducible refine (HC2 _ hb1).out.mono ?_); rintro e w2 ⟨rfl, rfl⟩))
          | (go_at_call 64; ((with_reducible refine (HC3 _ hb1).out.mono ?_); rintro e w3 ⟨rfl, hb3⟩)))
        go_ret
        exact ⟨rfl, below_step hb0 (below_step hb1 hb3)⟩
      | true =>
        have HC4 : ∀ w1 : World, Below (w.alloc (dbox A ns cs B nm cm lp)).heap.size (w.alloc (dbox A ns cs B nm cm lp)) w1 → Hid (Calls Try.prog 65 #[dval A ns cs B nm cm lp] w1 fun e w' => e = .returned (.bool (sphM mate ns)) ∧ Below w1.heap.size w1 w') :=
          fun w1 hb => by
            have := sph_any A B ns cs nm cm lp mate (matesOf mate) w1 (hm1.keep hb) hns64 hnm4 (matesOf_mates h3 hlm) (matesOf_invol h3 hlm)
            rw [← hlm] at this ⊢
            exact this
        simp only [Bool.true_and]
        rw [h3] at HC3
        clear hrange hls hlm h1 hnm4 h2 h3
        go_enter Try.func18, Try.ntmps18
        go_wp2_with (first
          | (go_at_call 62; ((with_reducible refine HC1.out.mono ?_); rintro e w1 ⟨rfl, hb1⟩; have hc0 := (hb1.cell (p := ⟨w.heap.size, 0, none⟩) dlt).trans d0; have hc1 := (hb1.cell (p := ⟨w.heap.size, 1, none⟩) dlt).trans d1; have hc2 := (hb1.cell (p := ⟨w.heap.size, 2, none⟩) dlt).trans d2))
          | (go_at_call 63; ((with_reducible refine (HC2 _ hb1).out.mono ?_); rintro e w2 ⟨rfl, rfl⟩))
          | (go_at_call 64; ((with_reducible refine (HC3 _ hb1).out.mono ?_); rintro e w3 ⟨rfl, hb3⟩; have hb13 := below_step hb1 hb3; have hc0 := (hb13.cell (p := ⟨w.heap.size, 0, none⟩) dlt).trans d0; have hc1 := (hb13.cell (p := ⟨w.heap.size, 1, none⟩) dlt).trans d1; have hc2 := (hb13.cell (p := ⟨w.heap.size, 2, none⟩) dlt).trans d2))
          | (go_at_call 65; ((with_reducible refine (HC4 _ hb13).out.mono ?_); rintro e w4 ⟨rfl, hb4⟩)))
        go_ret
        exact ⟨rfl, below_step hb0 (below_step hb13 hb4)⟩

end Go.Proofs.Ytkfjledhnakfoaa

/- Plain mathematics: the list of the components. -/
namespace Go.Proofs.Ytkfjledhnakfoaa

/-- The members below c of the component l. -/
def memb (F : Nat → Nat) (c l : Nat) : List Int := ((List.range c).filter (fun b => F b == l)).map (fun (b : Nat) => (b : Int))
/-- The least members below c. -/
def roots (F : Nat → Nat) (c : Nat) : List Nat := (List.range c).filter (fun l => F l == l)
def graphL (F : Nat → Nat) (c : Nat) : List (List Int) := (roots F c).map (memb F c)

theorem memb_succ (F : Nat → Nat) (c l : Nat) : memb F (c + 1) l = memb F c l ++ if F c == l then [(c : Int)] else [] := by
  unfold memb
  rw [List.range_succ, List.filter_append, List.map_append]
  cases h : F c == l <;> simp [h]
theorem roots_succ (F : Nat → Nat) (c : Nat) : roots F (c + 1) = roots F c ++ if F c == c then [c] else [] := by
  unfold roots
  rw [List.range_succ, List.filter_append]
  cases h : F c == c <;> simp [h]
theorem roots_lt {F : Nat → Nat} {c l : Nat} (h : l ∈ roots F c) : l < c ∧ F l = l := by
  unfold roots at h
  have := List.mem_filter.1 h
  exact ⟨List.mem_range.1 this.1, by simpa using this.2⟩
theorem memb_none {F : Nat → Nat} {c l : Nat} (hF : ∀ b, F b ≤ b) (hl : c ≤ l) : memb F c l = [] := by
  unfold memb
  have : (List.range c).filter (fun b => F b == l) = [] := List.filter_eq_nil_iff.2 fun b hb => by
    have := hF b
    have := List.mem_range.1 hb
    simp; omega
  rw [this]; rfl
/-- The place of the root l. -/
def plc (F : Nat → Nat) (l : Nat) : Nat := (roots F l).length
theorem graphL_new {F : Nat → Nat} {c : Nat} (hF : ∀ b, F b ≤ b) (h : F c = c) : graphL F (c + 1) = graphL F c ++ [[(c : Int)]] := by
  have hm : (roots F c).map (memb F (c + 1)) = (roots F c).map (memb F c) := List.map_congr_left fun l hl => by
    have := roots_lt hl
    rw [memb_succ, h]
    have hne : (c == l) = false := by simp; omega
    simp [hne]
  have hn : memb F (c + 1) c = [(c : Int)] := by rw [memb_succ, h, memb_none hF (Nat.le_refl _)]; simp
  unfold graphL
  rw [roots_succ, h]
  simp only [beq_self_eq_true, if_true, List.map_append, List.map_cons, List.map_nil]
  rw [hm, hn]
theorem roots_split {F : Nat → Nat} {c l : Nat} (hl : l < c) (h : F l = l) : ∃ r, roots F c = roots F l ++ l :: r ∧ ∀ x ∈ r, x ≠ l := by
  induction c with
  | zero => omega
  | succ c ih =>
    by_cases e : l = c
    · subst e
      exact ⟨[], by rw [roots_succ, h]; simp, fun x hx => by cases hx⟩
    · obtain ⟨r, h1, h2⟩ := ih (by omega)
      rw [roots_succ, h1]
      refine ⟨r ++ if F c == c then [c] else [], by simp, fun x hx => ?_⟩
      rcases List.mem_append.1 hx with h3 | h3
      · exact h2 x h3
      · split at h3
        · simp at h3; omega
        · cases h3
theorem graphL_old {F : Nat → Nat} {c : Nat} (hlt : F c < c) (hid : F (F c) = F c) :
    plc F (F c) < (graphL F c).length ∧ (graphL F c).getD (plc F (F c)) [] = memb F c (F c) ∧ graphL F (c + 1) = (graphL F c).set (plc F (F c)) (memb F c (F c) ++ [(c : Int)]) := by
  obtain ⟨r, h1, h2⟩ := roots_split hlt hid
  have hp : plc F (F c) = ((roots F (F c)).map (memb F c)).length := by simp [plc]
  have hg : graphL F c = (roots F (F c)).map (memb F c) ++ memb F c (F c) :: r.map (memb F c) := by unfold graphL; rw [h1]; simp
  refine ⟨by rw [hg, hp]; simp, by rw [hg, hp]; simp [List.getD], ?_⟩
  rw [hg, hp, List.set_append_right _ _ (Nat.le_refl _)]
  simp only [Nat.sub_self, List.set_cons_zero]
  have hne : (F c == c) = false := by simp; omega
  unfold graphL
  rw [roots_succ, hne, h1]
  simp only [Bool.false_eq_true, if_false, List.append_nil, List.map_append, List.map_cons]
  have e1 : ∀ x, x ≠ F c → memb F (c + 1) x = memb F c x := fun x hx => by
    rw [memb_succ]
    have : (F c == x) = false := by simp; exact fun e => hx e.symm
    simp [this]
  have e2 : (roots F (F c)).map (memb F (c + 1)) = (roots F (F c)).map (memb F c) := List.map_congr_left fun x hx => e1 x (by have := roots_lt hx; omega)
  have e3 : r.map (memb F (c + 1)) = r.map (memb F c) := List.map_congr_left fun x hx => e1 x (h2 x hx)
  have e4 : memb F (c + 1) (F c) = memb F c (F c) ++ [(c : Int)] := by rw [memb_succ]; simp
  rw [e2, e3, e4]
theorem graphL_length (F : Nat → Nat) (c : Nat) : (graphL F c).length = (roots F c).length := by simp [graphL]
theorem roots_length (F : Nat → Nat) (c : Nat) : (roots F c).length ≤ c := by
  unfold roots; exact Nat.le_trans (List.length_filter_le _ _) (by simp)
theorem memb_length (F : Nat → Nat) (c l : Nat) : (memb F c l).length ≤ c := by
  unfold memb; rw [List.length_map]; exact Nat.le_trans (List.length_filter_le _ _) (by simp)

end Go.Proofs.Ytkfjledhnakfoaa

/- What a diagram in memory is asked to be; its faces, strands, components as lists. -/
namespace Go.Proofs.Ytkfjledhnakfoaa
open Go.RowKit

def facesM (signs mate : List Int) (lp : Int) : List (List Int) := if validB signs mate lp = true then cycL (ff (matesOf mate)) mate.length (fun _ => true) mate.length else []
def strandsM (signs mate : List Int) (lp : Int) : List (List Int) := if validB signs mate lp = true then cycL (fs (matesOf mate)) mate.length (outB signs) mate.length else []
theorem validB_out {signs mate : List Int} {lp : Int} (h : validB signs mate lp = true) : limB signs.length mate.length lp = true ∧ sgnsB signs = true ∧ pairB signs mate = true ∧ sphM mate signs.length = true := by
  unfold validB at h; simp only [Bool.and_eq_true] at h; exact ⟨h.1.1.1, h.1.1.2, h.1.2, h.2⟩

/-- What a diagram's value is asked to be. -/
structure DV (w : World) (A : Option Addr) (ns : Nat) (B : Option Addr) (nm : Nat) (signs mate : List Int) : Prop where
  hs : RI w A ns signs
  hm : RI w B nm mate
  hns : ns ≤ 100000000000000
  hnm : nm ≤ 100000000000000
  hrange : ∀ j, j < nm → -9223372036854775808 ≤ mt mate j ∧ mt mate j ≤ 9223372036854775807
theorem DV.keep {w w' : World} {A B : Option Addr} {ns nm : Nat} {signs mate : List Int} (h : DV w A ns B nm signs mate) (hb : Below w.heap.size w w') : DV w' A ns B nm signs mate :=
  ⟨h.hs.keep hb, h.hm.keep hb, h.hns, h.hnm, h.hrange⟩
theorem DV.valid {w : World} {A B : Option Addr} {ns nm : Nat} {signs mate : List Int} (h : DV w A ns B nm signs mate) (cs cm : Nat) (lp : Int) (r : Bool) (hr : validB signs mate lp = r) :
    Calls Try.prog 18 #[dval A ns cs B nm cm lp] w fun e w' => e = .returned (.bool r) ∧ Below w.heap.size w w' := by
  subst hr; exact valid_any A B ns cs nm cm lp signs mate w h.hs h.hm h.hns h.hnm h.hrange

/-- The strand leaves each crossing by an out port when it enters by one that is none. -/
theorem out_closed {signs mate : List Int} {nm ns : Nat} (hs : sgnsB signs = true) (hp : pairB signs mate = true) (hl : mate.length = nm) (hls : signs.length = ns) (hn : nm = 4 * ns) (h : Nat) (hh : h < nm) (ho : outB signs h = true) : outB signs (fs (matesOf mate) h) = true := by
  obtain ⟨m, h1, h2, h3, h4⟩ := pOK_out ((pairB_iff _ _).1 hp h (by omega)) hl
  have e : matesOf mate h = m := by unfold matesOf; rw [h1]; simp
  have hm : outB signs m = false := by
    cases q : outB signs m with
    | false => rfl
    | true => rw [ho, q] at h4; exact absurd rfl h4
  have hg := (sgnsB_iff _).1 hs (m / 4) (by omega)
  unfold fs
  rw [e]
  have hd := trn_div m 2
  have hr : trn m 2 % 4 = (m % 4 + 2) % 4 := by unfold trn; omega
  unfold outB at hm ⊢
  rw [hd, hr]
  generalize signs.getD (m / 4) 0 = s at hm hg ⊢
  unfold sgB at hg
  have hr4 : m % 4 = 0 ∨ m % 4 = 1 ∨ m % 4 = 2 ∨ m % 4 = 3 := by omega
  rcases hr4 with e | e | e | e <;> rw [e] at hm ⊢ <;> simp at hm hg ⊢ <;> omega

def compM (signs mate : List Int) (lp : Int) : Int := if validB signs mate lp = true then ((strandsM signs mate lp).length : Int) + lp else 0
theorem compM_add {signs mate : List Int} {lp : Int} (h : validB signs mate lp = true) : compM signs mate lp = ((strandsM signs mate lp).length : Int) + lp := by unfold compM; rw [if_pos h]
theorem strandsM_le {signs mate : List Int} {lp : Int} : (strandsM signs mate lp).length ≤ mate.length := by
  unfold strandsM; split
  · exact cycL_length _ _ _ _
  · simp

def faceM (signs mate : List Int) (lp x : Int) : List Int := if validB signs mate lp = true ∧ 0 ≤ x ∧ x < mate.length then itl (ff (matesOf mate)) x.toNat (per (ff (matesOf mate)) mate.length x.toNat) else []

/-- The least crossing of each component. -/
def labM (mate : List Int) : Nat → Nat := ufLab (matesOf mate) mate.length
def graphM (signs mate : List Int) (lp : Int) : List (List Int) := if validB signs mate lp = true then graphL (labM mate) signs.length else []
theorem labM_le (mate : List Int) (b : Nat) : labM mate b ≤ b := root_le _ _
theorem labM_idem (mate : List Int) (b : Nat) : labM mate (labM mate b) = labM mate b := root_root _ _

end Go.Proofs.Ytkfjledhnakfoaa

/- Walks: Ints, Lists (the reference's comparisons), Great. -/
namespace Go.Proofs.Ytkfjledhnakfoaa
open Go.RowKit

theorem below_drewN {B : Nat} {a w : World} (h : Below B a w) (n : Nat) : Below B a (w.drewN n) := ⟨h.os, h.tape, h.output, h.size, h.block⟩

theorem eq_of_getD {xs ys : List Int} (h1 : xs.length = ys.length) (h2 : ∀ j, j < xs.length → xs.getD j 0 = ys.getD j 0) : xs = ys := by
  apply List.ext_getElem h1
  intro i a b
  have := h2 i a
  simpa [List.getD, a, b] using this
theorem eq_of_getDL {xs ys : List (List Int)} (h1 : xs.length = ys.length) (h2 : ∀ j, j < xs.length → xs.getD j [] = ys.getD j []) : xs = ys := by
  apply List.ext_getElem h1
  intro i a b
  have := h2 i a
  simpa [List.getD, a, b] using this

set_option maxHeartbeats 800000 in
theorem ints_r (r : Bool) (A B : Option Addr) (n c m d : Nat) (xs ys : List Int) (w : World) (hx : RI w A n xs) (hy : RI w B m ys) (hn : n ≤ 1000000000000000) (hm : m ≤ 1000000000000000) (hr : r = decide (xs = ys)) :
    Calls Try.prog 60 #[.slice A n c, .slice B m d] w fun e w' => e = .returned (.bool r) ∧ Below w.heap.size w w' := by
  have hlx := hx.1
  have hly := hy.1
  by_cases hnm : n = m
  · subst hnm
    have HLX := Lib.hid hlx
    have HLY := Lib.hid hly
    have HR := Lib.hid hr
    have HE : Hid (∀ j, j < 0 → xs.getD j 0 = ys.getD j 0) := fun j hj => absurd hj (by omega)
    clear hlx hly hr
    go_enter Try.func60, Try.ntmps60
    go_wp2
    go_loopw [5] (fun i wr => ∃ k : Nat, k ≤ n ∧ i = .int .i64 k ∧ Below w.heap.size w wr ∧ Hid (∀ j, j < k → xs.getD j 0 = ys.getD j 0)) (fun i _ => n - (intOf i).toNat)
    case atStart => exact ⟨0, by omega, rfl, Below.refl _ _, HE⟩
    case round =>
      obtain ⟨k, hk, rfl, hbr, hall⟩ := hrel
      by_cases hlt : k < n
      · obtain ⟨b, off, rfl, hb, hc⟩ := (hx.keep hbr).2 (by omega)
        obtain ⟨b', off', rfl, hb', hc'⟩ := (hy.keep hbr).2 (by omega)
        have h1 := hc k hlt
        have h2 := hc' k hlt
        have hk0 : (0 : Int) ≤ (k : Int) := Int.natCast_nonneg _
        have hk1 : (k : Int) < (n : Int) := by omega
        by_cases he : xs.getD k 0 = ys.getD k 0
        · have hall' : Hid (∀ j, j < k + 1 → xs.getD j 0 = ys.getD j 0) := fun j hj => by
            by_cases e : j = k
            · subst e; exact he
            · exact hall.out j (by omega)
          rw [← he] at h2
          clear hx hy hc hc' he
          generalize xs.getD k 0 = x at *
          go_wp2
          go_quiet (fail)
          go_wp2
          go_roundw
          case rel => exact ⟨k + 1, by omega, by go_num, below_drewN hbr _, hall'⟩
          case measure => simp [intOf]; omega
        · have hne : (xs.getD k 0 != ys.getD k 0) = true := by simp only [bne_iff_ne, ne_eq]; exact he
          have hrf : r = false := by
            rw [HR.out, decide_eq_false_iff_not]
            intro e; exact he (by rw [e])
          subst hrf
          clear hx hy hc hc' he HR
          generalize xs.getD k 0 = x at *
          generalize ys.getD k 0 = y at *
          go_wp2
          go_quiet (fail)
          go_wp2
          go_ret
          exact ⟨rfl, below_drewN hbr _⟩
      · obtain rfl : k = n := by omega
        have hrt : r = true := by
          rw [HR.out, decide_eq_true_eq]
          exact eq_of_getD (by rw [HLX.out, HLY.out]) (fun j hj => hall.out j (by rw [← HLX.out]; exact hj))
        subst hrt
        clear hx hy HR
        go_wp2
        go_ret
        exact ⟨rfl, hbr⟩
  · have hrf : r = false := by
      rw [hr, decide_eq_false_iff_not]
      intro e; rw [e] at hlx; omega
    subst hrf
    have hne : ((n : Int) != (m : Int)) = true := by simp only [bne_iff_ne, ne_eq]; omega
    clear hx hy hlx hly hr hnm
    go_enter Try.func60, Try.ntmps60
    go_wp2
    go_ret
    exact ⟨rfl, Below.refl _ _⟩

/-- The slice value 'slice A n _' reads as the list xss of lists of ints. -/
def RO (w : World) (A : Option Addr) (n : Nat) (xss : List (List Int)) : Prop :=
  xss.length = n ∧ (0 < n → ∃ b off, A = some ⟨b, off, none⟩ ∧ b < w.heap.size ∧ ∀ j, j < n → ∃ A' n' c', w.cell? ⟨b, off + j, none⟩ = some (.slice A' n' c') ∧ RI w A' n' (xss.getD j []))
theorem RO.keep {w w' : World} {A : Option Addr} {n : Nat} {xss : List (List Int)} (h : RO w A n xss) (hb : Below w.heap.size w w') : RO w' A n xss :=
  ⟨h.1, fun hn => by
    obtain ⟨b, off, e, hlt, hc⟩ := h.2 hn
    refine ⟨b, off, e, Nat.lt_of_lt_of_le hlt hb.size, fun j hj => ?_⟩
    obtain ⟨A', n', c', h1, h2⟩ := hc j hj
    exact ⟨A', n', c', (hb.cell (p := ⟨b, off + j, none⟩) hlt).trans h1, h2.keep hb⟩⟩
theorem OO.ro {w : World} {B : Nat} {v : Value} {xss : List (List Int)} (h : OO w B v xss) : ∃ A c, v = .slice A xss.length c ∧ RO w A xss.length xss := by
  obtain ⟨vs, h1, h2, h3⟩ := h
  rcases h1.2 with ⟨h4, h5⟩ | ⟨g, cap, cur, h4, _, hg, _⟩
  · refine ⟨none, 0, by rw [h4, ← h2, h5], rfl, fun hn => by omega⟩
  · refine ⟨_, cap, by rw [h4, h2], rfl, fun hn => ⟨g, 0, rfl, ?_, fun j hj => ?_⟩⟩
    · rcases Nat.lt_or_ge g w.heap.size with hlt | hge
      · exact hlt
      · rw [Array.getElem?_eq_none hge] at hg; cases hg
    · have hj' : j < vs.length := by omega
      have h6 : w.cell? ⟨g, j, none⟩ = vs[j]? := by
        have h7 : w.ownsRow B 22 1 (.slice (some ⟨g, 0, none⟩) vs.length cap) vs.length vs := by rw [← h4]; exact h1
        exact World.ownsRow.cellAt h7 j (by omega)
      have h8 := h3 j hj
      have h9 : vs.getD j undef = vs[j] := by simp [List.getD, hj']
      rw [h9] at h8
      have hsl : ∃ A' n' c', vs[j] = .slice A' n' c' := by
        rcases h8.form with ⟨e, _⟩ | ⟨g', cap', e, _⟩
        · exact ⟨_, _, _, e⟩
        · exact ⟨_, _, _, e⟩
      obtain ⟨A', n', c', e⟩ := hsl
      rw [e] at h8
      exact ⟨A', n', c', by rw [Nat.zero_add, h6, List.getElem?_eq_getElem hj', e], h8.ri⟩

theorem RO.at_ {w : World} {A : Option Addr} {n : Nat} {xss : List (List Int)} (h : RO w A n xss) (hn : 0 < n) : ∃ b off, A = some ⟨b, off, none⟩ ∧ b < w.heap.size := by
  obtain ⟨b, off, e, hb, _⟩ := h.2 hn; exact ⟨b, off, e, hb⟩
theorem RO.el {w : World} {b off n : Nat} {xss : List (List Int)} (h : RO w (some ⟨b, off, none⟩) n xss) (j : Nat) (hj : j < n) : ∃ A' n' c', w.cell? ⟨b, off + j, none⟩ = some (.slice A' n' c') ∧ RI w A' n' (xss.getD j []) := by
  obtain ⟨b', off', e, hb, hc⟩ := h.2 (by omega)
  injection e with e; injection e with e1 e2; subst e1; subst e2
  exact hc j hj

end Go.Proofs.Ytkfjledhnakfoaa
