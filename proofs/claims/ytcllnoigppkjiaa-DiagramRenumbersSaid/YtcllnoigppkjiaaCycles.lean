/- Walk: cycles. -/
import Derived.Test.YtcllnoigppkjiaaRowsOf
namespace Go.Proofs.Ytcllnoigppkjiaa
open Go.RowKit

/-- The test function 'func fid' answers P x, in every world after w. -/
def Asks (w : World) (fid : FuncId) (caps : Array Value) (p : Nat → Bool) (N : Nat) : Prop := ∀ (W : World) (x : Nat), Below w.heap.size w W → x < N →
  Calls Try.prog fid (#[.int .i64 (x : Nat)] ++ caps) W fun e W' => e = .returned (.bool (p x)) ∧ Below W.heap.size W W'

/-- Is h the first wanted one of its cycle? -/
def sel (f : Nat → Nat) (N : Nat) (p : Nat → Bool) (h : Nat) : Bool := p h && (cyc f N h).all (fun g => !(p g) || decide (h ≤ g))
def cycL (f : Nat → Nat) (N : Nat) (p : Nat → Bool) (k : Nat) : List (List Int) := ((List.range k).filter (sel f N p)).map (fun h => itl f h (per f N h))
theorem cycL_succ (f : Nat → Nat) (N : Nat) (p : Nat → Bool) (k : Nat) : cycL f N p (k + 1) = cycL f N p k ++ if sel f N p k then [itl f k (per f N k)] else [] := by
  unfold cycL; rw [List.range_succ, List.filter_append, List.map_append]
  cases h : sel f N p k <;> simp [h]
theorem cycL_length (f : Nat → Nat) (N : Nat) (p : Nat → Bool) (k : Nat) : (cycL f N p k).length ≤ k := by
  unfold cycL; rw [List.length_map]; exact Nat.le_trans (List.length_filter_le _ _) (by simp)
theorem Perm.sel_iff {f : Nat → Nat} {N : Nat} (q : Perm f N) (p : Nat → Bool) {h : Nat} (hh : h < N) : sel f N p h = true ↔ p h = true ∧ ∀ h', h' < h → p h' = true → ¬ Orb f h' h := by
  unfold sel
  rw [Bool.and_eq_true, List.all_eq_true]
  constructor
  · rintro ⟨h1, h2⟩
    refine ⟨h1, fun h' hlt hp o => ?_⟩
    have := h2 h' ((q.mem_cyc hh h').2 (q.orb_symm (by omega) o))
    rw [hp] at this; simp at this; omega
  · rintro ⟨h1, h2⟩
    refine ⟨h1, fun g hg => ?_⟩
    have o := (q.mem_cyc hh g).1 hg
    cases hp : p g with
    | false => rfl
    | true =>
      simp only [Bool.not_true, Bool.false_or, decide_eq_true_eq]
      by_cases hlt : g < h
      · exact absurd (q.orb_symm hh o) (h2 g hlt hp)
      · omega

/-- Block g tells which numbers are on the cycle of a wanted number below k. -/
def SeenP (f : Nat → Nat) (p : Nat → Bool) (N k : Nat) (g : Nat) (w : World) : Prop := ∃ S : Nat → Bool, Arr w g 4 N (bv S) ∧ ∀ x, x < N → (S x = true ↔ ∃ h, h < k ∧ p h = true ∧ Orb f h x)

/-- And those that the first j steps from k reach. -/
def SeenI (f : Nat → Nat) (N k j : Nat) (S : Nat → Bool) (g : Nat) (w : World) : Prop := ∃ S' : Nat → Bool, Arr w g 4 N (bv S') ∧ ∀ x, x < N → (S' x = true ↔ S x = true ∨ ∃ i, i < j ∧ it f i k = x)

def CycsPost (w : World) (xss : List (List Int)) (e : Ending) (w' : World) : Prop := ∃ v, e = .returned v ∧ OO w' w.heap.size v xss ∧ Below w.heap.size w w'

set_option maxHeartbeats 3200000 in
set_option maxRecDepth 100000 in
theorem cycles_any (fid fidp : FuncId) (gd N : Nat) (caps : Array Value) (f : Nat → Nat) (p : Nat → Bool) (w : World) (hcall : Enters fid) (hcallp : Enters fidp) (hn : Next w fid gd f N) (ha : Asks w fidp caps p N) (hp : Perm f N) (hN : N ≤ 256) :
    Calls Try.prog 55 #[.int .i64 (N : Nat), .func (.func fidp) #[] caps, .func (.func fid) #[] #[.pointer (some ⟨gd, 0, none⟩)]] w (CycsPost w (cycL f N p N)) := by
  have hcf : ∀ (args : Array Value) (W : World), (callFunc fidp args).run Try.prog W = .ok (.enter fidp args) W := hcallp
  clear hcallp
  have hmk := fun W => make_one (P := Try.prog) Try.underlying63 Try.infoBool rfl N (by omega) (by omega) W
  have HCE := Lib.hid hcall
  have HN := Lib.hid hn
  have HA := Lib.hid ha
  have HP := Lib.hid hp
  clear hn ha hp hcall
  have hs0 : SeenP f p N 0 w.heap.size (w.alloc (.cells (cellsN N fun _ => .bool false) 4)) := ⟨fun _ => false, Arr.new w N _ _, fun x _ => ⟨fun h => Bool.noConfusion h, fun ⟨_, h, _⟩ => absurd h (by omega)⟩⟩
  have hb0 := below_alloc w (.cells (cellsN N fun _ => .bool false) 4)
  go_enter Try.func55, Try.ntmps55
  go_wp2
  generalize w.alloc (.cells (cellsN N fun _ => .bool false) 4) = wA at hs0 hb0
  go_loopw [7, 9, 10, 12, 16] (fun v _ _ _ i wr => ∃ k : Nat, k ≤ N ∧ i = .int .i64 k ∧ Below w.heap.size w wr ∧ SeenP f p N k w.heap.size wr ∧ OO wr w.heap.size v (cycL f N p k)) (fun _ _ _ _ i _ => N - (intOf i).toNat)
  case atStart => exact ⟨0, by omega, rfl, hb0, hs0, OO.nil _ _⟩
  case round =>
    obtain ⟨k, hk, rfl, hbr, hsr, hown⟩ := hrel
    by_cases hlt : k < N
    · obtain ⟨S, hA, hS⟩ := hsr
      have hcS : wr.cell? ⟨w.heap.size, k, none⟩ = some (.bool (S k)) := hA.cell k hlt
      have hk0 : (0 : Int) ≤ (k : Int) := Int.natCast_nonneg _
      have hk1 : (k : Int) < (N : Int) := by omega
      cases hSk : S k with
      | true =>
        obtain ⟨h', h1, h2, h3⟩ := (hS k hlt).1 hSk
        have hsel : sel f N p k = false := by
          cases e : sel f N p k with
          | false => rfl
          | true => exact absurd h3 (((HP.out.sel_iff p hlt).1 e).2 h' h1 h2)
        have hsn : SeenP f p N (k + 1) w.heap.size wr := ⟨S, hA, fun x hx => (hS x hx).trans ⟨fun ⟨a, b, c⟩ => ⟨a, by omega, c⟩, fun ⟨a, b, c, d⟩ => by
          by_cases e : a = k
          · subst e; exact ⟨h', h1, h2, h3.trans d⟩
          · exact ⟨a, by omega, c, d⟩⟩⟩
        have hcy : cycL f N p (k + 1) = cycL f N p k := by rw [cycL_succ, hsel]; simp
        rw [← hcy] at hown
        rw [hSk] at hcS
        clear hS hA hSk hsel hcy
        go_wp2
        go_roundw
        case rel => exact ⟨k + 1, by omega, by go_num, hbr, hsn, hown⟩
        case measure => simp [intOf]; omega
      | false =>
        have CA := Lib.hid (HA.out wr k hbr hlt)
        cases hpk : p k with
        | false =>
          have hsel : sel f N p k = false := by simp [sel, hpk]
          have hcy : cycL f N p (k + 1) = cycL f N p k := by rw [cycL_succ, hsel]; simp
          have hsn : SeenP f p N (k + 1) w.heap.size wr := ⟨S, hA, fun x hx => (hS x hx).trans ⟨fun ⟨a, b, c⟩ => ⟨a, by omega, c⟩, fun ⟨a, b, c, d⟩ => by
            by_cases e : a = k
            · subst e; rw [hpk] at c; cases c
            · exact ⟨a, by omega, c, d⟩⟩⟩
          rw [← hcy] at hown
          rw [hSk] at hcS
          rw [hpk] at CA
          clear hS hA hSk hsel hcy hpk
          go_wp2_with ((with_reducible refine CA.out.mono ?_); rintro e w1 ⟨rfl, hb1⟩)
          go_roundw
          case rel => exact ⟨k + 1, by omega, by go_num, below_step hbr hb1, by
            obtain ⟨S', hA', hS'⟩ := hsn
            exact ⟨S', hA'.keep hb1, hS'⟩, hown.keep hb1⟩
          case measure => simp [intOf]; omega
        | true =>
          have hsel : sel f N p k = true := (HP.out.sel_iff p hlt).2 ⟨hpk, fun h' h1 h2 h3 => by
            rw [(hS k hlt).2 ⟨h', h1, h2, h3⟩] at hSk; cases hSk⟩
          have hcy : cycL f N p (k + 1) = cycL f N p k ++ [itl f k (per f N k)] := by rw [cycL_succ, hsel]; simp
          have HCY := Lib.hid hcy
          rw [hSk] at hcS
          rw [hpk] at CA
          have HSS := Lib.hid hS
          have HPK := Lib.hid hpk
          clear hS hSk hsel hcy hpk
          go_wp2_with (first
            | ((with_reducible refine CA.out.mono ?_); rintro e w1 ⟨rfl, hb1⟩
               have hbw1 := below_step hbr hb1
               have CC := Lib.hid (cycle_any fid gd k N f w1 HCE.out (Next.keep HN.out hbw1) HP.out hlt hN))
            | (go_at_call 51; ((with_reducible refine CC.out.mono ?_); rintro e w2 ⟨vm, rfl, hom, hb2⟩; obtain ⟨gm, cpm, rfl⟩ := hom.form_pos (itl_length f k (per f N k)) (per_pos f N k))))
          have hbw2 := below_step hbw1 hb2
          have hpl := (HP.out.per_spec hlt).2.1
          have hom' := hom.mono (B' := w.heap.size) hbw1.size
          have hown2 := (hown.keep hb1).keep hb2
          have hst : SeenI f N k 0 S w.heap.size w2 :=
            ⟨S, (hA.keep hb1).keep hb2, fun x _ => ⟨.inl, fun h => h.elim id fun ⟨i, hi, _⟩ => absurd hi (by omega)⟩⟩
          clear hom hb2 hb1 hbw1 hbr hown hA CC CA hcS
          go_loopw [12, 34] (fun _ i wr => ∃ j : Nat, j ≤ per f N k ∧ i = .int .i64 j ∧ Below w.heap.size w wr ∧ OI wr w.heap.size (.slice (some ⟨gm, 0, none⟩) (per f N k) cpm) (itl f k (per f N k)) ∧ OO wr w.heap.size u7 (cycL f N p k) ∧
            SeenI f N k j S w.heap.size wr) (fun _ i _ => per f N k - (intOf i).toNat)
          case atStart => exact ⟨0, by omega, rfl, hbw2, hom', hown2, hst⟩
          case round =>
            obtain ⟨j, hj, rfl, hbj, homj, hownj, hsj⟩ := hrel
            by_cases hjl : j < per f N k
            · obtain ⟨S', hA', hS'⟩ := hsj
              have hx : it f j k < N := HP.out.it_lt hlt j
              have hcm : wr.cell? ⟨gm, j, none⟩ = some (.int .i64 (it f j k : Nat)) := by
                have := homj.cell j (by rw [itl_length]; exact hjl)
                rwa [itl_getD _ _ _ _ hjl] at this
              have hcS : wr.cell? ⟨w.heap.size, it f j k, none⟩ = some (.bool (S' (it f j k))) := hA'.cell _ hx
              have hfS := hA'.frozen (it f j k)
              have hs2 : SeenI f N k (j + 1) S w.heap.size (wr.setCell ⟨w.heap.size, it f j k, none⟩ (.bool true)) := by
                refine ⟨_, hA'.setb _ _, fun x hx => ?_⟩
                by_cases e : x = it f j k
                · subst e; simp only [if_pos]
                  exact ⟨fun _ => .inr ⟨j, by omega, rfl⟩, fun _ => trivial⟩
                · simp only [if_neg e]
                  refine (hS' x hx).trans ⟨fun h => h.imp id fun ⟨i, hi, e'⟩ => ⟨i, by omega, e'⟩, fun h => h.imp id fun ⟨i, hi, e'⟩ => ⟨i, ?_, e'⟩⟩
                  by_cases ej : i = j
                  · subst ej; exact absurd e'.symm e
                  · omega
              have hom2 : OI (wr.setCell ⟨w.heap.size, it f j k, none⟩ (.bool true)) w.heap.size (.slice (some ⟨gm, 0, none⟩) (per f N k) cpm) (itl f k (per f N k)) := homj.far (homj.ne_arr hA' (by decide)) _
              have hown2 := hownj.far hA' (by decide) (by decide) (it f j k) (.bool true)
              have H1 := Lib.hid hs2
              have H2 := Lib.hid hom2
              have H3 := Lib.hid hown2
              clear hs2 hom2 hown2 hS' hA' homj hownj hst hom'
              generalize it f j k = x at *
              have hx0 : (0 : Int) ≤ (x : Int) := Int.natCast_nonneg _
              have hx1 : (x : Int) < (N : Int) := by omega
              have hj0 : (0 : Int) ≤ (j : Int) := Int.natCast_nonneg _
              have hj1 : (j : Int) < (per f N k : Int) := by omega
              go_wp2
              go_roundw
              case rel => exact ⟨j + 1, by omega, by go_num, below_set hbj (Nat.le_refl _) _, H2.out, H3.out, H1.out⟩
              case measure => simp [intOf]; omega
            · obtain rfl : j = per f N k := by omega
              have hsz := hbj.size
              have hlen := cycL_length f N p k
              have hseen : ∃ S' : Nat → Bool, Arr wr w.heap.size 4 N (bv S') ∧ ∀ x, x < N → (S' x = true ↔ ∃ h, h < k + 1 ∧ p h = true ∧ Orb f h x) := by
                obtain ⟨S', hA', hS'⟩ := hsj
                refine ⟨S', hA', fun x hx => (hS' x hx).trans ⟨?_, ?_⟩⟩
                · rintro (h | ⟨i, _, e⟩)
                  · obtain ⟨a, b, c⟩ := (HSS.out x hx).1 h
                    exact ⟨a, by omega, c⟩
                  · exact ⟨k, by omega, HPK.out, i, e⟩
                · rintro ⟨a, b, c, d⟩
                  by_cases e : a = k
                  · subst e; exact .inr (HP.out.orb_lt hlt d)
                  · exact .inl ((HSS.out x hx).2 ⟨a, by omega, c, d⟩)
              have HSE := Lib.hid hseen
              clear hseen hsj hj hjl hpl hst hown2 hom'
              go_wp2_with (at_builtin
                           refine wpList_append_row rfl (.tmp 42) (.tmp 44) rfl w.heap.size u7 (cycL f N p k) rfl (hownj.keep (below_alloc _ _)) wr.heap.size (.slice (some ⟨gm, 0, none⟩) (per f N k) cpm) (itl f k (per f N k)) rfl (by rw [World.cell?_alloc_at _ _ _ _ rfl]; rfl) (homj.alloc _) (by omega) (Nat.le_trans hsz (by simp)) ?_
                           intro v2 w3 ho2 hg2)
              go_roundw
              case rel =>
                refine ⟨k + 1, by omega, by go_num, (below_step hbj (below_alloc wr _)).grown hg2 (Nat.le_trans hsz (by simp)) (fun q hq => (hownj.lt q hq).1), ?_, by rw [HCY.out]; exact ho2⟩
                obtain ⟨S', hA', hS'⟩ := HSE.out
                exact ⟨S', (hA'.alloc _).grown hg2 (hownj.ne_arr hA' (by decide)), hS'⟩
              case measure => simp [intOf]; omega
    · obtain rfl : k = N := by omega
      clear hlt hk hmk hcf
      go_wp2
      go_ret
      exact ⟨_, rfl, hown, hbr⟩

end Go.Proofs.Ytcllnoigppkjiaa
