import Derived.Test.YtdacjnmfmhkpiaaGreatDoorD08
import Derived.Test.YtdacjnmfmhkpiaaGreatDoorD05
import Derived.Test.YtdacjnmfmhkpiaaGreatDoorD04
import Derived.Deep.RegionLaw
/- Walk: Genus of a code. -/
namespace Go.Proofs.YtdacjnmfmhkpiaaGreatDoor
open Go.RowKit

theorem len_flat {vss : List (List Vis)} (h : ∀ l ∈ vss, l ≠ []) : vss.length ≤ vss.flatten.length := by
  induction vss with
  | nil => simp
  | cons l vss ih =>
    rw [List.flatten_cons, List.length_append, List.length_cons]
    have := ih fun x hx => h x (by simp [hx])
    have h2 := List.length_pos_iff.2 (h l (by simp))
    omega
theorem row_flat {vss : List (List Vis)} (j : Nat) : (vss.getD j []).length ≤ vss.flatten.length := by
  rcases Nat.lt_or_ge j vss.length with h | h
  · have e : vss.getD j [] = vss[j] := by simp [List.getD, h]
    rw [e]
    exact (List.sublist_flatten_of_mem (List.getElem_mem h)).length_le
  · have e : vss.getD j [] = [] := by simp [List.getD, h]
    rw [e]; simp
theorem visB_inR {vss : List (List Vis)} {n : Nat} (hv : visB vss n = true) : InR vss n := fun j i hj hi => by
  refine ((visB_iff _ _).1 hv).2.1.2 _ ?_
  have e : vss.getD j [] = vss[j] := by simp [List.getD, hj]
  rw [e] at hi ⊢
  have e2 : vss[j].getD i v0 = vss[j][i] := by simp [List.getD, hi]
  rw [e2]
  exact List.mem_flatten.2 ⟨vss[j], List.getElem_mem hj, List.getElem_mem hi⟩
theorem arr_mateL {w : World} {g : Nat} {vss : List (List Vis)} {s : List Int} {n : Nat} (hn : s.length = n) (h : Arr w g 3 (4 * n) (iv (mAll s vss vss.length))) : RI w (some ⟨g, 0, none⟩) (4 * n) (mateL s vss) := by
  subst hn
  refine ⟨by simp [mateL], fun _ => ⟨g, 0, rfl, h.lt, fun j hj => ?_⟩⟩
  rw [Nat.zero_add, h.cell j hj]
  simp [iv, mateL, List.getD, hj]
/-- The genus of a code. -/
def genC (vss : List (List Vis)) (s : List Int) : Int := genM (mAll s vss vss.length) s.length

theorem matesC_any {C S : Option Addr} {nc cc ns cs : Nat} {lp : Int} {vss : List (List Vis)} {s : List Int} {w : World} (hC : RVV w C nc vss) (hS : RI w S ns s) (hv : gvalB vss s lp = true) :
    Calls Tryz.prog 46 #[dval C nc cc S ns cs lp] w fun e w' => ∃ g, w.heap.size ≤ g ∧ e = .returned (.slice (some ⟨g, 0, none⟩) (4 * ns) (4 * ns)) ∧ RI w' (some ⟨g, 0, none⟩) (4 * ns) (mateL s vss) ∧ Below w.heap.size w w' := by
  unfold gvalB at hv
  simp only [Bool.and_eq_true] at hv
  obtain ⟨⟨h1, h2⟩, h3⟩ := hv
  have h64 := (glimB_out h1).1
  have hl := hS.1
  obtain ⟨q1, _, q2⟩ := (visB_iff _ _).1 h3
  have hlf := len_flat q1
  have hin := visB_inR h3
  rw [hl] at hin
  refine (mates_any C S nc cc ns cs lp vss s w hC hS (by omega) (by have := hC.1; omega) hin (fun j => by have := row_flat (vss := vss) j; omega)).mono ?_
  rintro e w' ⟨g, hg, he, ha, hb⟩
  rw [← hC.1] at ha
  exact ⟨g, hg, he, arr_mateL hl ha, hb⟩
theorem genusC_any {A : Option Addr} {c ns : Nat} {vss : List (List Vis)} {s : List Int} {lp : Int} {w : World} (hl : s.length = ns) (hm : RI w A (4 * ns) (mateL s vss)) (hv : gvalB vss s lp = true) :
    Calls Tryz.prog 47 #[.slice A (4 * ns) c] w fun e w' => e = .returned (.int .i64 (genC vss s)) ∧ Below w.heap.size w w' := by
  unfold gvalB at hv
  simp only [Bool.and_eq_true] at hv
  obtain ⟨⟨h1, h2⟩, h3⟩ := hv
  have h64 := (glimB_out h1).1
  have hmm := mateL_mates s h3
  have hin := mAll_invol s h3
  unfold genC
  subst hl
  exact ggenus_any A c s.length (mateL s vss) _ w hm hmm (hin.perm 3) h64

set_option maxHeartbeats 1600000 in
theorem gGenus_any (C S : Option Addr) (nc cc ns cs : Nat) (lp : Int) (vss : List (List Vis)) (s : List Int) (w : World) (hC : RVV w C nc vss) (hS : RI w S ns s) (hns : ns ≤ 1000000) (hnc : nc ≤ 1000000) (hfl : vss.flatten.length ≤ 1000000) :
    Calls Tryz.prog 20 #[dval C nc cc S ns cs lp] w fun e w' => e = .returned (if gvalB vss s lp = true then .tuple #[.int .i64 (genC vss s), .int .i64 0] else .tuple #[.int .i64 0, .int .i64 1]) ∧ Below w.heap.size w w' := by
  have hd := DB.newT w C nc cc S ns cs lp 28
  obtain ⟨d0, d1, d2, dlt⟩ := hd
  have hb0 := below_alloc w (cbox C nc cc S ns cs lp)
  have hls := hS.1
  have HC1 : ∀ w1 : World, Below w.heap.size w w1 → Hid (Calls Tryz.prog 21 #[dval C nc cc S ns cs lp] w1 fun e w' => e = .returned (.bool (gvalB vss s lp)) ∧ Below w1.heap.size w1 w') :=
    fun w1 hb => gvalid_any C S nc cc ns cs lp vss s w1 (hC.keep hb) (hS.keep hb) hns hnc hfl
  cases h1 : gvalB vss s lp with
  | false =>
    rw [h1] at HC1
    simp only [Bool.false_eq_true, if_false]
    clear h1 hC hS hls
    go_enter Tryz.func20, Tryz.ntmps20
    go_wp2_with (go_at_call 21; ((with_reducible refine (HC1 _ hb0).out.mono ?_); rintro e w1 ⟨rfl, hb1⟩))
    go_ret2
    exact ⟨rfl, below_step hb0 hb1⟩
  | true =>
    rw [h1] at HC1
    simp only [if_true]
    have HC2 : ∀ w1 : World, Below w.heap.size w w1 → Hid (Calls Tryz.prog 46 #[dval C nc cc S ns cs lp] w1 fun e w' => ∃ g, w1.heap.size ≤ g ∧ e = .returned (.slice (some ⟨g, 0, none⟩) (4 * ns) (4 * ns)) ∧ RI w' (some ⟨g, 0, none⟩) (4 * ns) (mateL s vss) ∧ Below w1.heap.size w1 w') :=
      fun w1 hb => matesC_any (hC.keep hb) (hS.keep hb) h1
    have HC3 : ∀ (w1 : World) (g : Nat), RI w1 (some ⟨g, 0, none⟩) (4 * ns) (mateL s vss) → Hid (Calls Tryz.prog 47 #[.slice (some ⟨g, 0, none⟩) (4 * ns) (4 * ns)] w1 fun e w' => e = .returned (.int .i64 (genC vss s)) ∧ Below w1.heap.size w1 w') :=
      fun w1 g hm => genusC_any hls hm h1
    clear h1 hC hS hls
    go_enter Tryz.func20, Tryz.ntmps20
    go_wp2_with (first
      | (go_at_call 21; ((with_reducible refine (HC1 _ hb0).out.mono ?_); rintro e w1 ⟨rfl, hb1⟩; have hb01 := below_step hb0 hb1; have hc0 := (hb1.cell (p := ⟨w.heap.size, 0, none⟩) dlt).trans d0; have hc1 := (hb1.cell (p := ⟨w.heap.size, 1, none⟩) dlt).trans d1; have hc2 := (hb1.cell (p := ⟨w.heap.size, 2, none⟩) dlt).trans d2))
      | (go_at_call 46; ((with_reducible refine (HC2 _ hb01).out.mono ?_); rintro e w2 ⟨g, hg, rfl, hri, hb2⟩))
      | (go_at_call 47; ((with_reducible refine (HC3 _ _ hri).out.mono ?_); rintro e w3 ⟨rfl, hb3⟩)))
    go_ret2
    exact ⟨rfl, below_step hb01 (below_step hb2 hb3)⟩

end Go.Proofs.YtdacjnmfmhkpiaaGreatDoor

/- Walk: visitsOf. -/
namespace Go.Proofs.YtdacjnmfmhkpiaaGreatDoor
open Go.RowKit

theorem Tryz.infoVis : (Tryz.prog.info? 51).map (fun i => (i.zero, i.size, i.bytes)) = some (some (.agg #[.int .i64 0, .bool false]), 2, 16) := by kernel_rfl
def visX (x : Int) : Vis := (x / 4, x % 2 == 1)
def visOf (xs : List Int) : List Vis := xs.map visX
theorem visOf_length (xs : List Int) : (visOf xs).length = xs.length := by simp [visOf]
/-- The first k visits. -/
def vK (xs : List Int) (k : Nat) : Nat → Value := fun j => if j / 2 < k then (if j % 2 = 0 then .int .i64 (visX (xs.getD (j / 2) 0)).1 else .bool (visX (xs.getD (j / 2) 0)).2) else (if j % 2 = 0 then .int .i64 0 else .bool false)
theorem vK_zero (xs : List Int) (n i : Nat) : vv (zvs n) i = vK xs 0 i := by
  have hz : (zvs n).getD (i / 2) v0 = v0 := by
    unfold zvs
    rw [List.getD_eq_getElem?_getD, List.getElem?_replicate]
    split <;> rfl
  unfold vv vK
  rw [hz, if_neg (by omega : ¬ i / 2 < 0)]
theorem vK_all {xs : List Int} {i : Nat} (h : i / 2 < xs.length) : vK xs xs.length i = vv (visOf xs) i := by
  unfold vK vv
  rw [if_pos h]
  have e : (visOf xs).getD (i / 2) v0 = visX (xs.getD (i / 2) 0) := by simp [visOf, List.getD, h]
  rw [e]
theorem vK_step (xs : List Int) (k j : Nat) : (if j = k * 2 + 1 then (.bool (visX (xs.getD k 0)).2 : Value) else if j = k * 2 then .int .i64 (visX (xs.getD k 0)).1 else vK xs k j) = vK xs (k + 1) j := by
  by_cases e1 : j = k * 2 + 1
  · subst e1
    rw [if_pos rfl]
    unfold vK
    rw [show (k * 2 + 1) / 2 = k by omega, if_pos (by omega), if_neg (by omega)]
  · rw [if_neg e1]
    by_cases e2 : j = k * 2
    · subst e2
      rw [if_pos rfl]
      unfold vK
      rw [show k * 2 / 2 = k by omega, if_pos (by omega), if_pos (by omega)]
    · rw [if_neg e2]
      unfold vK
      by_cases h : j / 2 < k
      · have h' : j / 2 < k + 1 := by omega
        simp only [h, h', if_true]
      · have h' : ¬ j / 2 < k + 1 := by omega
        simp only [h, h', if_false]

def VisPost (w : World) (vs : List Vis) (e : Ending) (w' : World) : Prop := ∃ g, w.heap.size ≤ g ∧ e = .returned (.slice (some ⟨g, 0, none⟩) vs.length vs.length) ∧ VA w' g 51 vs ∧ Below w.heap.size w w'

set_option maxHeartbeats 800000 in
set_option maxRecDepth 100000 in
theorem visits_any (A : Option Addr) (n c : Nat) (xs : List Int) (w : World) (hr : RI w A n xs) (hn : n ≤ 1000) (hx : ∀ j, j < n → 0 ≤ xs.getD j 0 ∧ xs.getD j 0 ≤ 1000000) :
    Calls Tryz.prog 36 #[.slice A n c] w (VisPost w (visOf xs)) := by
  have hl := hr.1
  have HL := Lib.hid hl
  have HX := Lib.hid hx
  have hmk := fun W => make_vis (P := Tryz.prog) Tryz.underlying49 Tryz.infoVis n (by omega) W
  have hA0 : Arr (w.alloc (.cells (cellsN (2 * n) (vv (zvs n))) 51)) w.heap.size 51 (2 * n) (vK xs 0) := (Arr.new w (2 * n) 51 (vv (zvs n))).congr fun i _ => vK_zero xs n i
  have hb0 := below_alloc w (.cells (cellsN (2 * n) (vv (zvs n))) 51)
  clear hl hx
  go_enter Tryz.func36, Tryz.ntmps36
  go_wp2
  go_loopw [4, 5, 11] (fun _ _ i wr => ∃ k : Nat, k ≤ n ∧ i = .int .i64 k ∧ Below w.heap.size w wr ∧ Arr wr w.heap.size 51 (2 * n) (vK xs k)) (fun _ _ i _ => n - (intOf i).toNat)
  case atStart => exact ⟨0, by omega, rfl, hb0, hA0⟩
  case round =>
    obtain ⟨k, hk, rfl, hbr, hA⟩ := hrel
    have hk0 : (0 : Int) ≤ (k : Int) := Int.natCast_nonneg _
    by_cases hlt : k < n
    · obtain ⟨b, off, hAe, hb, hc⟩ := (hr.keep hbr).2 (by omega)
      subst hAe
      have z0 := hc k hlt
      obtain ⟨hx0, hx1⟩ := HX.out k hlt
      obtain ⟨x, hxe⟩ := Int.eq_ofNat_of_zero_le hx0
      have hst := vK_step xs k
      rw [hxe] at z0 hx1 hst
      have HST := Lib.hid hst
      have q0 := hA.cell (k * 2) (by omega)
      have q1 := hA.cell (k * 2 + 1) (by omega)
      have f0 := hA.frozen (k * 2)
      have f1 := hA.frozen (k * 2 + 1)
      have hk1 : (k : Int) < (n : Int) := by omega
      have HA := Lib.hid hA
      clear hst hc hxe hx0 hA
      generalize vK xs k (k * 2) = p0 at q0
      generalize vK xs k (k * 2 + 1) = p1 at q1
      go_wp2
      go_roundw
      case rel => exact ⟨k + 1, by omega, by go_num, below_set (below_set hbr (Nat.le_refl _) _) (Nat.le_refl _) _, ((HA.out.set (k * 2) (.int .i64 ((x : Int) / 4))).set (k * 2 + 1) (.bool ((x : Int) % 2 == 1))).congr fun j _ => HST.out j⟩
      case measure => simp [intOf]; omega
    · obtain rfl : n = k := by omega
      have hA1 : VA wr w.heap.size 51 (visOf xs) := by
        unfold VA
        rw [visOf_length, HL.out]
        refine hA.congr fun i hi => ?_
        have := vK_all (xs := xs) (i := i) (by rw [HL.out]; omega)
        rw [HL.out] at this
        exact this
      have hln : (visOf xs).length = n := by rw [visOf_length, HL.out]
      have HP : Hid (VisPost w (visOf xs) (.returned (.slice (some ⟨w.heap.size, 0, none⟩) n n)) wr) := Lib.hid ⟨w.heap.size, Nat.le_refl _, by rw [hln], hA1, hbr⟩
      clear hA hA1 hln hlt hk
      go_wp2
      go_ret
      exact HP.out

end Go.Proofs.YtdacjnmfmhkpiaaGreatDoor

/- Walk: Strands. -/
namespace Go.Proofs.YtdacjnmfmhkpiaaGreatDoor
open Go.RowKit

theorem next59 (A B : Option Addr) (ns cs nm cm gd : Nat) (lp : Int) (mate : List Int) (m : Nat → Nat) (w : World) (hd : DB w gd A ns cs B nm cm lp) (hm : RI w B nm mate) (hmm : Mates mate nm m) (hnm : nm ≤ 256) :
    Next w 66 gd (fs m) nm := fun W x hW hx => by
  have hb0 := hd.keep hW
  obtain ⟨d0, d1, d2, dlt⟩ := hb0
  have C := Lib.hid (nextstrand_nat A B ns cs nm cm lp mate m x W (hm.keep hW) hx hmm hnm _ rfl)
  clear hd hm hmm hW
  go_enter Tryz.func66, Tryz.ntmps66
  go_wp2_with (go_at_call 67; ((with_reducible refine C.out.mono ?_); rintro e w1 ⟨rfl, hb1⟩))
  go_ret
  exact ⟨rfl, hb1⟩
theorem asks58 (A B : Option Addr) (ns cs nm cm gd : Nat) (lp : Int) (signs : List Int) (w : World) (hd : DB w gd A ns cs B nm cm lp) (hs : RI w A ns signs) (hnm : nm = 4 * ns) (hns : ns ≤ 64) :
    Asks w 63 #[.pointer (some ⟨gd, 0, none⟩)] (outB signs) nm := fun W x hW hx => by
  show Calls Tryz.prog 63 #[.int .i64 (x : Nat), .pointer (some ⟨gd, 0, none⟩)] W _
  have hb0 := hd.keep hW
  obtain ⟨d0, d1, d2, dlt⟩ := hb0
  have C := Lib.hid (outgoing_any A B ns cs nm cm lp signs x W (hs.keep hW) (by omega) (by omega))
  clear hd hs hW hnm
  go_enter Tryz.func63, Tryz.ntmps63
  go_wp2_with (go_at_call 64; ((with_reducible refine C.out.mono ?_); rintro e w1 ⟨rfl, hb1⟩))
  go_ret
  exact ⟨rfl, hb1⟩


set_option maxHeartbeats 1600000 in
theorem strands_any (A B : Option Addr) (ns cs nm cm : Nat) (lp : Int) (signs mate : List Int) (w : World) (h : DV w A ns B nm signs mate) :
    Calls Tryz.prog 35 #[dval A ns cs B nm cm lp] w (CycsPost w (strandsM signs mate lp)) := by
  have hd := DB.new w A ns cs B nm cm lp
  obtain ⟨d0, d1, d2, dlt⟩ := hd
  have hb0 := below_alloc w (dbox A ns cs B nm cm lp)
  have hls := h.hs.1
  have hlm := h.hm.1
  cases hv : validB signs mate lp with
  | false =>
    have e : strandsM signs mate lp = [] := by simp [strandsM, hv]
    rw [e]
    have CV := Lib.hid ((h.keep hb0).valid cs cm lp false hv)
    clear e hv hls hlm
    go_enter Tryz.func35, Tryz.ntmps35
    go_wp2_with (go_at_call 18; ((with_reducible refine CV.out.mono ?_); rintro e w1 ⟨rfl, hb1⟩))
    go_ret
    exact ⟨_, rfl, OO.nil _ _, below_step hb0 hb1⟩
  | true =>
    have e : strandsM signs mate lp = cycL (fs (matesOf mate)) nm (outB signs) nm := by simp [strandsM, hv, hlm]
    rw [e]
    have CV := Lib.hid ((h.keep hb0).valid cs cm lp true hv)
    obtain ⟨v1, v2, v3, v4⟩ := validB_out hv
    rw [hls, hlm] at v1
    obtain ⟨l1, l2, l3, l4⟩ := limB_out v1
    have HM := Lib.hid (matesOf_mates v3 hlm)
    have HI := Lib.hid (matesOf_invol v3 hlm)
    have HL := Lib.hid l2
    have HD := Lib.hid (DB.new w A ns cs B nm cm lp)
    have CCf : ∀ w1 : World, Below (w.alloc (dbox A ns cs B nm cm lp)).heap.size (w.alloc (dbox A ns cs B nm cm lp)) w1 →
        Hid (Calls Tryz.prog 65 #[.int .i64 (nm : Nat), .func (.func 63) #[] #[.pointer (some ⟨w.heap.size, 0, none⟩)], .func (.func 66) #[] #[.pointer (some ⟨w.heap.size, 0, none⟩)]] w1 (CycsPost w1 (cycL (fs (matesOf mate)) nm (outB signs) nm))) := fun w1 hb1 =>
      cycles_any 66 63 w.heap.size nm #[.pointer (some ⟨w.heap.size, 0, none⟩)] (fs (matesOf mate)) (outB signs) w1 enters59 enters58
        (next59 A B ns cs nm cm w.heap.size lp mate (matesOf mate) w1 (HD.out.keep hb1) (h.hm.keep (below_step hb0 hb1)) HM.out (by have := HL.out; omega)) (asks58 A B ns cs nm cm w.heap.size lp signs w1 (HD.out.keep hb1) (h.hs.keep (below_step hb0 hb1)) HL.out l1) (by have := HI.out; rw [HL.out] at this ⊢; exact this.perm 2) (by have := HL.out; omega)
    clear e hv hls hlm v1 v2 v3 v4 l2
    go_enter Tryz.func35, Tryz.ntmps35
    have hmf : ∀ (fn : Fn) (first cap : Array Value) (w : World), (Instr.makeFunc fn first cap).run Tryz.prog w = .ok (.func fn first cap) w := fun _ _ _ _ => rfl
    go_wp2_with (first
      | (go_at_call 18; ((with_reducible refine CV.out.mono ?_); rintro e w1 ⟨rfl, hb1⟩; have d0' := (hb1.cell (p := ⟨w.heap.size, 0, none⟩) dlt).trans d0; have d1' := (hb1.cell (p := ⟨w.heap.size, 1, none⟩) dlt).trans d1; have d2' := (hb1.cell (p := ⟨w.heap.size, 2, none⟩) dlt).trans d2))
      | (go_at_call 65; ((with_reducible refine (CCf _ hb1).out.mono ?_); rintro e w2 ⟨v, rfl, hov, hb2⟩)))
    go_ret
    have hb01 := below_step hb0 hb1
    exact ⟨_, rfl, hov.mono hb01.size, below_step hb01 hb2⟩

end Go.Proofs.YtdacjnmfmhkpiaaGreatDoor

/- Words: append of one element to a row of the call's own, as a step of a region that draws, and at a plain place. -/
namespace Go.Proofs.YtdacjnmfmhkpiaaGreatDoor
open Go.RowKit

theorem ownRow.slice {w : World} {B : Nat} {e : TypeId} {v : Value} {vs : List Value} (h : ownRow w B e v vs) : ∃ A c, v = .slice A vs.length c := by
  rcases h.2 with ⟨h1, h2⟩ | ⟨g, cap, cur, h1, _⟩
  · exact ⟨none, 0, by rw [h1, h2]⟩
  · exact ⟨_, cap, h1⟩
theorem step_append_row {P : Program} {ops : Array Oper} {o : Oper} {a : Act} {w : World} {K : Act → World → Prop} {Q : Exit → Act → World → Prop} {E : Prop} (hgd : o.guard = none) (s x : Operand) (tt tr : TypeId) (z : Value) (bytes : Nat)
    (ho : o.op = .call { callee := .builtin .append, args := #[s, x], argTypes := #[tt, tt] }) (ht : P.underlying tt = some (.slice tr)) (hi : (P.info? tr).map (fun i => (i.zero, i.size, i.bytes)) = some (some z, 1, bytes)) (hz : z.cells.size = 1) (hby : bytes ≤ 24)
    (B : Nat) (v : Value) (vs : List Value) (hs : a.eval s = v) (hown : ownRow w B tr v vs) (g : Nat) (u : Value) (hx : a.eval x = .slice (some ⟨g, 0, none⟩) 1 1) (hc : w.cell? ⟨g, 0, none⟩ = some u) (hu : u.oneCell' = true) (hlen : vs.length ≤ 1000000) (hbase : B ≤ w.heap.size)
    (h : ∀ A' c' w', ownRow w' B tr (.slice A' (vs.length + 1) c') (vs ++ [u]) → w.grownBy w' v.ownBlock → K (a.put o.dst (.slice A' (vs.length + 1) c')) w') :
    if Region.wanted o (yielded ops a.tmps) = true then Oper.wp P o a w K Q else E := by
  have hw : Region.wanted o (yielded ops a.tmps) = true := by simp [Region.wanted, hgd]
  rw [if_pos hw]
  obtain ⟨i0, hi0, hz0, hz1, hz2⟩ := info_parts hi
  have hb24 : (vs.length + 1) * bytes ≤ 140737488355328 := by
    have h1 : (vs.length + 1) * bytes ≤ 1000001 * 24 := Nat.mul_le_mul (by omega) hby
    omega
  obtain ⟨v', w', hrun, h1, h2, h3⟩ := run_append_own (P := P) w B tt o.type tr i0 z 1 bytes ht hi0 hz0 hz1 hz2 hz (by decide) v vs.length vs hown ⟨g, 0, none⟩ 1 1 [u] rfl
    (fun j u' hj => by
      match j, hj with
      | 0, hj => simp at hj; subst hj; simpa [Addr.add] using hc)
    (fun u' hu' => by simp at hu'; subst hu'; exact hu) (by unfold maxLen; omega) hb24 hbase
  have h4 : ownRow w' B tr v' (vs ++ [u]) := by unfold ownRow; simpa using h1
  obtain ⟨A', c', rfl⟩ := h4.slice
  unfold Oper.wp execOp
  simp only [ho, resolve, invoke, builtin, Sem.run_bind, Sem.run_pure, Result.andThen_ok, List.map_toArray, List.map_cons, List.map_nil, hs, hx, hrun]
  have e : (vs ++ [u]).length = vs.length + 1 := by simp
  rw [e] at h4 ⊢
  exact h A' c' w' h4 h2
theorem wpList_append_row1 {P : Program} {ops : Array Oper} {rest : List Oper} {o : Oper} {a : Act} {w : World} {Q : Exit → Act → World → Prop} (hgd : o.guard = none) (s x : Operand) (tt tr : TypeId) (z : Value) (bytes : Nat)
    (ho : o.op = .call { callee := .builtin .append, args := #[s, x], argTypes := #[tt, tt] }) (ht : P.underlying tt = some (.slice tr)) (hi : (P.info? tr).map (fun i => (i.zero, i.size, i.bytes)) = some (some z, 1, bytes)) (hz : z.cells.size = 1) (hby : bytes ≤ 24)
    (B : Nat) (v : Value) (vs : List Value) (hs : a.eval s = v) (hown : ownRow w B tr v vs) (g : Nat) (u : Value) (hx : a.eval x = .slice (some ⟨g, 0, none⟩) 1 1) (hc : w.cell? ⟨g, 0, none⟩ = some u) (hu : u.oneCell' = true) (hlen : vs.length ≤ 1000000) (hbase : B ≤ w.heap.size)
    (h : ∀ A' c' w', ownRow w' B tr (.slice A' (vs.length + 1) c') (vs ++ [u]) → w.grownBy w' v.ownBlock → wpList P ops Q rest (a.put o.dst (.slice A' (vs.length + 1) c')) w') : wpList P ops Q (o :: rest) a w := by
  obtain ⟨i0, hi0, hz0, hz1, hz2⟩ := info_parts hi
  have hb24 : (vs.length + 1) * bytes ≤ 140737488355328 := by
    have h1 : (vs.length + 1) * bytes ≤ 1000001 * 24 := Nat.mul_le_mul (by omega) hby
    omega
  refine wpList_append_own w hgd s x tt ho B tr i0 z 1 bytes ht hi0 hz0 hz1 hz2 hz (by decide) v vs.length vs hs hown ⟨g, 0, none⟩ 1 1 [u] hx rfl
    (fun j u' hj => by
      match j, hj with
      | 0, hj => simp at hj; subst hj; simpa [Addr.add] using hc)
    (fun u' hu' => by simp at hu'; subst hu'; exact hu) (by unfold maxLen; omega) hb24 hbase ?_
  intro v' w' h1 h2 _
  have h4 : ownRow w' B tr v' (vs ++ [u]) := by unfold ownRow; simpa using h1
  obtain ⟨A', c', rfl⟩ := h4.slice
  have e : (vs ++ [u]).length = vs.length + 1 := by simp
  rw [e] at h4 ⊢
  exact h A' c' w' h4 h2

end Go.Proofs.YtdacjnmfmhkpiaaGreatDoor
