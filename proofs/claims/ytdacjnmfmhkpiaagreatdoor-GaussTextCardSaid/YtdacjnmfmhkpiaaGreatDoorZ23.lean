import Derived.Test.YtdacjnmfmhkpiaaGreatDoorZ05
import Derived.Test.YtdacjnmfmhkpiaaGreatDoorZ22
import Derived.Deep.SlicePairs
import Derived.Test.YtdacjnmfmhkpiaaGreatDoorZ16
/- Opening a code that comes in; few, of any code. -/
namespace Go.Proofs.YtdacjnmfmhkpiaaGreatDoor
open Go.ChangeShapes Go.WideShapes Go.ChangeAt Go.RowKit Go.Joins Go.Deep

section
variable {H : Type} {enc : TypeId × Value → H} {W : World}
theorem Tryz.cellsV : Tryz.prog.cellsOf 51 = 2 := by kernel_rfl
theorem Tryz.cellsVL : Tryz.prog.cellsOf 49 = 1 := by kernel_rfl
theorem Tryz.cellsCode : Tryz.prog.cellsOf 28 = 3 := by kernel_rfl
theorem Tryz.cellsB1 : Tryz.prog.cellsOf 4 = 1 := by kernel_rfl

theorem Tryz.bytesV : Tryz.prog.bytesOf 51 = 16 := by kernel_rfl
theorem Tryz.bytesVL : Tryz.prog.bytesOf 49 = 24 := by kernel_rfl
theorem wall_mem {P : Program} {e : TypeId} : ∀ {l : List (DataW H)} {d : DataW H}, d ∈ l → ∀ n ∈ d.weights P e, n ∈ DataW.weightsAll P e l
  | a :: r, d, hm, n, hn => by
    unfold DataW.weightsAll
    rcases List.mem_cons.1 hm with e1 | hm
    · subst e1; exact List.mem_append_left _ hn
    · exact List.mem_append_right _ (wall_mem hm n hn)

set_option maxRecDepth 100000 in
theorem open_rv {fuel : Nat} {v : Value} {x : DataW H × List MemPlace} (h : DataW.trod enc Tryz.prog W 0 (fun _ => true) true fuel 49 [v] = some x) :
    ∃ A n c l, v = .slice A n c ∧ RV W A n l ∧ (n = 0 ∨ ∃ k, k ∈ x.1.weights Tryz.prog 49 ∧ n ≤ k) := by
  rcases open_slice_pairs Tryz.underlying49 Tryz.underlying51 Tryz.cellsV rfl rfl Tryz.cellsI Tryz.cellsB1 h with ⟨hcs, _⟩ | ⟨a, len, cap, m, n, V0, V1, D0, D1, P0, P1, hcs, _, hl, hm, hmm, hxe, hel⟩
  · injection hcs with hcs _
    exact ⟨none, 0, 0, [], hcs, RV.nil _ _, .inl rfl⟩
  · injection hcs with hcs _
    simp only [if_true] at hmm
    have hz : ∀ i, i < len → ∃ (z : Int) (b : Bool), V0 i = .int .i64 z ∧ V1 i = .bool b := fun i hi => by
      obtain ⟨_, _, h2, h3⟩ := hel i (by omega)
      obtain ⟨z, e0, _, _⟩ := DataW.trod_int Tryz.underlying3 h2
      obtain ⟨b, e1, _⟩ := DataW.trod_bool Tryz.underlying4 h3
      simp at e0 e1
      exact ⟨z, b, e0, e1⟩
    have hc := fun i (hi : i < len) => hel i (show i < m by omega)
    let l : List Vis := (List.range len).map fun i => ((match V0 i with | .int _ z => z | _ => 0), (match V1 i with | .bool b => b | _ => false))
    have hll : l.length = len := by simp [l]
    have hwt : ∃ k, k ∈ x.1.weights Tryz.prog 49 ∧ len ≤ k := by
      rw [hxe]
      simp only [DataW.weights, Tryz.underlying49, Tryz.bytesV]
      exact ⟨_, List.mem_cons_self .., by simp; omega⟩
    refine ⟨some a, len, cap, l, hcs, ⟨hll, fun hn => ?_⟩, .inr hwt⟩
    have h0 := (hc 0 (by omega)).1
    obtain ⟨b, off, spot⟩ := a
    have hspot : spot = none := by
      have := World.cell?_spot h0
      simpa [Addr.add] using this
    subst hspot
    refine ⟨b, off, rfl, ?_, fun j hj => ?_⟩
    · have := World.block_lt_of_cell? W _ h0
      simpa [Addr.add] using this
    · obtain ⟨c0, c1, _, _⟩ := hc j hj
      obtain ⟨z, bb, e0, e1⟩ := hz j hj
      rw [add_plain] at c0 c1
      have hg : l.getD j v0 = (z, bb) := by
        simp [l, List.getD, hj, e0, e1]
      rw [c0, hg, e0]
      rw [← Nat.add_assoc] at c1
      rw [c1, e1]
      exact ⟨rfl, rfl⟩

set_option maxRecDepth 100000 in
/-- A slice of slices of visits that comes in. -/
theorem open_rvv {fuel : Nat} {v : Value} {x : DataW H × List MemPlace} (h : DataW.trod enc Tryz.prog W 0 (fun _ => true) true fuel 26 [v] = some x) :
    ∃ A n c vss, v = .slice A n c ∧ RVV W A n vss ∧ (n = 0 ∨ ∃ k, k ∈ x.1.weights Tryz.prog 26 ∧ n ≤ k) ∧ ∀ j, (vss.getD j []).length = 0 ∨ ∃ k, k ∈ x.1.weights Tryz.prog 26 ∧ (vss.getD j []).length ≤ k := by
  rcases open_slice1 Tryz.underlying26 Tryz.cellsVL h with ⟨hcs, _⟩ | ⟨a, len, cap, m, n, V, D, Pl, hcs, _, hl, hm, hmm, hxe, hel⟩
  · injection hcs with hcs _
    exact ⟨none, 0, 0, [], hcs, RVV.nil _ _, .inl rfl, fun j => .inl (by simp)⟩
  · injection hcs with hcs _
    simp only [if_true] at hmm
    have hz : ∀ i, i < len → ∃ q : Option Addr × Nat × Nat × List Vis, V i = .slice q.1 q.2.1 q.2.2.1 ∧ RV W q.1 q.2.1 q.2.2.2 ∧ (q.2.1 = 0 ∨ ∃ k, k ∈ (D i).weights Tryz.prog 49 ∧ q.2.1 ≤ k) := fun i hi => by
      obtain ⟨_, h2⟩ := hel i (by omega)
      obtain ⟨A, n, c, l, e0, e1, e2⟩ := open_rv h2
      exact ⟨(A, n, c, l), e0, e1, e2⟩
    obtain ⟨Q, hQ⟩ := choose_lt (α := Option Addr × Nat × Nat × List Vis) (p := fun i q => V i = .slice q.1 q.2.1 q.2.2.1 ∧ RV W q.1 q.2.1 q.2.2.2 ∧ (q.2.1 = 0 ∨ ∃ k, k ∈ (D i).weights Tryz.prog 49 ∧ q.2.1 ≤ k)) hz
    have hg : ∀ j, j < len → ((List.range len).map fun i => (Q i).2.2.2).getD j [] = (Q j).2.2.2 := fun j hj => by simp [List.getD, hj]
    have hwt : ∃ k, k ∈ x.1.weights Tryz.prog 26 ∧ len ≤ k := by
      rw [hxe]
      simp only [DataW.weights, Tryz.underlying26, Tryz.bytesVL]
      exact ⟨_, List.mem_cons_self .., by simp; omega⟩
    have hwi : ∀ i, i < len → ∀ k ∈ (D i).weights Tryz.prog 49, k ∈ x.1.weights Tryz.prog 26 := fun i hi k hk => by
      rw [hxe]
      simp only [DataW.weights, Tryz.underlying26]
      exact List.mem_cons_of_mem _ (List.mem_append_left _ (wall_mem (List.mem_map.2 ⟨i, List.mem_range.2 hi, rfl⟩) k hk))
    refine ⟨some a, len, cap, (List.range len).map fun i => (Q i).2.2.2, hcs, ⟨by simp, fun hn => ?_⟩, .inr hwt, fun j => ?_⟩
    · have h0 := (hel 0 (by omega)).1
      obtain ⟨b, off, spot⟩ := a
      have hspot : spot = none := by
        have := World.cell?_spot h0
        simpa [Addr.add] using this
      subst hspot
      refine ⟨b, off, rfl, ?_, fun j hj => ?_⟩
      · have := World.block_lt_of_cell? W _ h0
        simpa [Addr.add] using this
      · obtain ⟨c0, _⟩ := hel j (by omega)
        rw [add_plain] at c0
        obtain ⟨e0, e1, _⟩ := hQ j hj
        rw [hg j hj]
        exact ⟨_, _, _, by rw [c0, e0], e1⟩
    · rcases Nat.lt_or_ge j len with hj | hj
      · rw [hg j hj]
        obtain ⟨_, e1, e2⟩ := hQ j hj
        rw [e1.1]
        rcases e2 with e2 | ⟨k, e2, e3⟩
        · exact .inl e2
        · exact .inr ⟨k, hwi j hj k e2, e3⟩
      · have : ((List.range len).map fun i => (Q i).2.2.2).getD j [] = [] := by simp [List.getD, hj]
        rw [this]; exact .inl rfl

set_option maxRecDepth 100000 in
/-- A code that comes in. -/
theorem open_code {base : Nat} {v : Value} {d : DataW H} {p : List MemPlace} (hv : Value.okWide Tryz.prog W .any base 28 v) (h : DataW.Trod enc Tryz.prog W 0 (fun _ => true) true 28 v d p) :
    ∃ C nc cc S ns cs lp vss s, v = dval C nc cc S ns cs lp ∧ RVV W C nc vss ∧ RI W S ns s ∧ (nc = 0 ∨ ∃ k, k ∈ d.weights Tryz.prog 28 ∧ nc ≤ k) ∧ ns ≤ 9223372036854775807 ∧ (∀ j, (vss.getD j []).length = 0 ∨ ∃ k, k ∈ d.weights Tryz.prog 28 ∧ (vss.getD j []).length ≤ k) ∧ (∀ y ∈ s, inI y) ∧ inI lp := by
  obtain ⟨c0, c1, c2, y0, y1, y2, m, rfl, hde, _, hy0, hy1, hy2⟩ := open_agg3 Tryz.underlying28 (by kernel_rfl) Tryz.cellsCode hv h
  obtain ⟨C, nc, cc, vss, rfl, r1, l1, q1⟩ := open_rvv hy0
  obtain ⟨S, ns, cs, s, rfl, r2, l2, q2⟩ := open_ri hy1
  obtain ⟨x, e0, _, wx⟩ := DataW.trod_int Tryz.underlying3 hy2
  simp at e0
  subst e0
  have hw : ∀ k, k ∈ y0.1.weights Tryz.prog 26 → k ∈ d.weights Tryz.prog 28 := fun k hk => by
    rw [hde]
    simp only [DataW.weights, Tryz.underlying28, DataW.weightsEach, List.map_cons, List.map_nil]
    exact List.mem_append_left _ hk
  refine ⟨C, nc, cc, S, ns, cs, x, vss, s, rfl, r1, r2, ?_, l2, fun j => ?_, q2, inI_of_wf wx⟩
  · rcases l1 with l1 | ⟨k, l1, l3⟩
    · exact .inl l1
    · exact .inr ⟨k, hw k l1, l3⟩
  · rcases q1 j with l1 | ⟨k, l1, l3⟩
    · exact .inl l1
    · exact .inr ⟨k, hw k l1, l3⟩

end

def isInt : Value → Bool
  | .int .i64 _ => true
  | _ => false
set_option maxHeartbeats 1600000 in
set_option maxRecDepth 100000 in
/-- few, of a code with too many components. -/
theorem few_big (C S : Option Addr) (nc cc ns cs : Nat) (lp : Int) (vss : List (List Vis)) (w : World) (hC : RVV w C nc vss) (hnc : nc ≤ 281474976710656) (h28 : 28 < nc) :
    Calls Tryz.prog 24 #[dval C nc cc S ns cs lp] w fun e w' => e = .returned (.bool false) ∧ Below w.heap.size w w' := by
  have hd := DB.newT w C nc cc S ns cs lp 28
  have hb0 := below_alloc w (.cells #[.slice C nc cc, .slice S ns cs, .int .i64 lp] 28)
  have HC := Lib.hid hC
  clear hC
  go_enter Tryz.func24, Tryz.ntmps24
  go_upto_region 2 with fail
  generalize w.alloc (.cells #[.slice C nc cc, .slice S ns cs, .int .i64 lp] 28) = wA at *
  obtain ⟨d0, d1, d2, dlt⟩ := hd
  go_wp2
  go_loop [3, 5, 9] (fun s _ i => ∃ k : Nat, k ≤ nc ∧ i = .int .i64 k ∧ ∃ z : Int, s = .int .i64 z) (fun _ _ i => nc - (intOf i).toNat)
  case atStart => exact ⟨0, by omega, rfl, 0, rfl⟩
  case round =>
    obtain ⟨k, hk, rfl, z, rfl⟩ := hrel
    have hk0 : (0 : Int) ≤ (k : Int) := Int.natCast_nonneg _
    by_cases hlt : k < nc
    · obtain ⟨bC, oC, hCe, hbC, hcc⟩ := HC.out.2 (by omega)
      subst hCe
      obtain ⟨A1, n1, c1, hcel0, hrv⟩ := hcc k hlt
      have hcel := (hb0.cell (p := ⟨bC, oC + k, none⟩) hbC).trans hcel0
      have hk1 : (k : Int) < (nc : Int) := by omega
      clear hcc hrv hcel0
      go_wp2
      go_round
      case rel => exact ⟨k + 1, by omega, by go_num, _, rfl⟩
      case measure => simp [intOf]; omega
    · obtain rfl : nc = k := by omega
      have h2' : 28 < (nc : Int) := by omega
      clear hlt hk
      by_cases h1 : ns ≤ 14
      · have h1' : (ns : Int) ≤ 14 := by omega
        go_wp2
        go_ret
        exact ⟨rfl, hb0⟩
      · have h1' : 14 < (ns : Int) := by omega
        go_wp2
        go_ret
        exact ⟨rfl, hb0⟩

end Go.Proofs.YtdacjnmfmhkpiaaGreatDoor

/- A valid code by counting the visits; plain. -/
namespace Go.Proofs.YtdacjnmfmhkpiaaGreatDoor
open Go.RowKit

/-- How many of the visits F are v. -/
def gcnt (F : List Vis) (v : Vis) : Nat := F.countP fun u => decide (u.1 = v.1 ∧ u.2 = v.2)
theorem gcnt_snoc (F : List Vis) (u v : Vis) : gcnt (F ++ [u]) v = gcnt F v + if u.1 = v.1 ∧ u.2 = v.2 then 1 else 0 := by
  unfold gcnt
  rw [List.countP_append]
  by_cases h : u.1 = v.1 ∧ u.2 = v.2 <;> simp [h]
theorem gcnt_le (F : List Vis) (v : Vis) : gcnt F v ≤ F.length := List.countP_le_length
theorem gcnt_pos {F : List Vis} {v : Vis} (h : gcnt F v = 1) : v ∈ F := by
  unfold gcnt at h
  have h2 : 0 < F.countP fun u => decide (u.1 = v.1 ∧ u.2 = v.2) := by omega
  obtain ⟨u, hu, e⟩ := List.countP_pos_iff.1 h2
  have e2 : u = v := by
    have : u.1 = v.1 ∧ u.2 = v.2 := by simpa using e
    exact Prod.ext this.1 this.2
  rw [← e2]; exact hu
theorem gcnt_none {F : List Vis} {v : Vis} (h : v ∉ F) : gcnt F v = 0 := by
  unfold gcnt
  rw [List.countP_eq_zero]
  intro u hu e
  have : u.1 = v.1 ∧ u.2 = v.2 := by simpa using e
  exact h (by rw [← Prod.ext this.1 this.2]; exact hu)
theorem gcnt_nodup {F : List Vis} {v : Vis} (hn : F.Nodup) (h : v ∈ F) : gcnt F v = 1 := by
  obtain ⟨A, B, rfl⟩ := List.append_of_mem h
  have h1 := List.nodup_append.1 hn
  have h2 := List.nodup_cons.1 h1.2.1
  have e : A ++ v :: B = (A ++ [v]) ++ B := by simp
  have ha : gcnt A v = 0 := gcnt_none fun hm => h1.2.2 v hm v (by simp) rfl
  have hb : gcnt B v = 0 := gcnt_none h2.1
  rw [e]
  unfold gcnt at *
  rw [List.countP_append, List.countP_append, ha, hb]
  simp
theorem full_list {α : Type} : ∀ (K F : List α), K.Nodup → (∀ x ∈ K, x ∈ F) → F.length ≤ K.length → F.Nodup ∧ ∀ x ∈ F, x ∈ K
  | [], F, _, _, h => by
    have : F = [] := List.length_eq_zero_iff.1 (by simpa using h)
    subst this
    exact ⟨List.nodup_nil, fun x hx => hx⟩
  | a :: K, F, hn, hs, hl => by
    obtain ⟨h1, h2⟩ := List.nodup_cons.1 hn
    obtain ⟨A, B, rfl⟩ := List.append_of_mem (hs a (by simp))
    have hsub : ∀ x ∈ K, x ∈ A ++ B := fun x hx => by
      have := hs x (by simp [hx])
      rcases List.mem_append.1 this with h | h
      · simp [h]
      · rcases List.mem_cons.1 h with e | h
        · subst e; exact absurd hx h1
        · simp [h]
    obtain ⟨i1, i2⟩ := full_list K (A ++ B) h2 hsub (by simp at hl ⊢; omega)
    have hp : (A ++ a :: B).Perm (a :: (A ++ B)) := List.perm_middle
    refine ⟨hp.nodup_iff.2 (List.nodup_cons.2 ⟨fun h => h1 (i2 a h), i1⟩), fun x hx => ?_⟩
    rcases List.mem_cons.1 (hp.mem_iff.1 hx) with e | h
    · simp [e]
    · simp [i2 x h]
/-- All visits of n crossings. -/
def allV : Nat → List Vis
  | 0 => []
  | n + 1 => ((n : Int), true) :: ((n : Int), false) :: allV n
theorem mem_allV {n : Nat} {v : Vis} : v ∈ allV n ↔ 0 ≤ v.1 ∧ v.1 < n := by
  induction n with
  | zero => simp only [allV, List.not_mem_nil, false_iff]; omega
  | succ n ih =>
    obtain ⟨c, o⟩ := v
    simp only [allV, List.mem_cons, ih, Prod.mk.injEq]
    constructor
    · rintro (⟨h, _⟩ | ⟨h, _⟩ | h) <;> omega
    · intro h
      by_cases e : c = n
      · cases o
        · exact .inr (.inl ⟨e, rfl⟩)
        · exact .inl ⟨e, rfl⟩
      · exact .inr (.inr (by omega))
theorem allV_nodup (n : Nat) : (allV n).Nodup := by
  induction n with
  | zero => exact List.nodup_nil
  | succ n ih =>
    simp only [allV, List.nodup_cons, List.mem_cons, mem_allV, Prod.mk.injEq, not_or]
    refine ⟨⟨by simp, by omega⟩, by omega, ih⟩
theorem allV_length (n : Nat) : (allV n).length = 2 * n := by
  induction n with
  | zero => rfl
  | succ n ih => simp only [allV, List.length_cons, ih]; omega
/-- Once over and once under at each of n crossings. -/
def onceAt (F : List Vis) (n : Nat) : Prop := ∀ j, j < n → gcnt F ((j : Int), true) = 1 ∧ gcnt F ((j : Int), false) = 1
theorem visB_count {vss : List (List Vis)} {n : Nat} (h1 : ∀ j, j < vss.length → vss.getD j [] ≠ []) (h2 : onceAt vss.flatten n) : visB vss n = decide (vss.flatten.length = 2 * n) := by
  by_cases hl : vss.flatten.length = 2 * n
  · rw [decide_eq_true hl]
    have hsub : ∀ x ∈ allV n, x ∈ vss.flatten := fun x hx => by
      obtain ⟨c, o⟩ := x
      obtain ⟨h3, h4⟩ := mem_allV.1 hx
      simp only at h3 h4
      obtain ⟨j, rfl⟩ := Int.eq_ofNat_of_zero_le h3
      have := h2 j (by omega)
      cases o
      · exact gcnt_pos this.2
      · exact gcnt_pos this.1
    obtain ⟨k1, k2⟩ := full_list (allV n) vss.flatten (allV_nodup n) hsub (by rw [allV_length]; omega)
    have := visB_end h1 ⟨k1, fun v hv => mem_allV.1 (k2 v hv)⟩
    rw [this, decide_eq_true hl]
  · rw [decide_eq_false hl]
    cases hv : visB vss n with
    | false => rfl
    | true => exact absurd ((visB_iff _ _).1 hv).2.2 hl
theorem visB_once {vss : List (List Vis)} {n : Nat} (hv : visB vss n = true) (j : Nat) (hj : j < n) (o : Bool) : gcnt vss.flatten ((j : Int), o) = 1 := by
  obtain ⟨_, ⟨hn, hr⟩, hl⟩ := (visB_iff _ _).1 hv
  refine gcnt_nodup hn ?_
  obtain ⟨k1, k2⟩ := full_list vss.flatten (allV n) hn (fun x hx => mem_allV.2 (hr x hx)) (by rw [allV_length]; omega)
  exact k2 _ (mem_allV.2 ⟨by simp, by simp; omega⟩)
/-- A visit that is not made once: not valid. -/
theorem visB_not {vss : List (List Vis)} {n j : Nat} (hj : j < n) (o : Bool) (h : gcnt vss.flatten ((j : Int), o) ≠ 1) : visB vss n = false := by
  cases hv : visB vss n with
  | false => rfl
  | true => exact absurd (visB_once hv j hj o) h

/-- One word more. -/
theorem join_snoc (ws : List (List UInt8)) (i : Nat) (h : i < ws.length) : Lib.join (ws.take (i + 1)) [32] = Lib.join (ws.take i) [32] ++ (if 0 < i then [32] else []) ++ ws.getD i [] := by
  cases ws with
  | nil => simp at h
  | cons x r =>
    cases i with
    | zero => simp [Lib.join_cons, Lib.join_nil, Lib.joinTail]
    | succ i =>
      have hi : i < r.length := by simpa using h
      have hg : r[i]? = some r[i] := List.getElem?_eq_getElem hi
      rw [List.take_succ_cons, List.take_succ_cons, Lib.join_cons, Lib.join_cons, Lib.joinTail_take_succ _ _ _ _ hg]
      simp [List.getD, hi]

end Go.Proofs.YtdacjnmfmhkpiaaGreatDoor

/- Walks: the reference's count and Valid. -/
namespace Go.Proofs.YtdacjnmfmhkpiaaGreatDoor
open Go.RowKit

set_option maxHeartbeats 600000 in
set_option maxRecDepth 100000 in
theorem count_any (C S : Option Addr) (nc cc ns cs : Nat) (lp : Int) (vss : List (List Vis)) (x : Int) (o : Bool) (w : World) (hC : RVV w C nc vss) (hnc : nc ≤ 1000000) (hfl : vss.flatten.length ≤ 1000000) :
    Calls Tryz.prog 52 #[dval C nc cc S ns cs lp, .int .i64 x, .bool o] w fun e w' => e = .returned (.int .i64 (gcnt vss.flatten (x, o) : Nat)) ∧ Below w.heap.size w w' := by
  have hd := DB.newT w C nc cc S ns cs lp 36
  have hb0 := below_alloc w (.cells #[.slice C nc cc, .slice S ns cs, .int .i64 lp] 36)
  have HC := Lib.hid hC
  have HCL := Lib.hid hC.1
  have HFL := Lib.hid hfl
  clear hC hfl
  go_enter Tryz.func52, Tryz.ntmps52
  go_upto_region 1 with fail
  generalize w.alloc (.cells #[.slice C nc cc, .slice S ns cs, .int .i64 lp] 36) = wA at *
  obtain ⟨d0, d1, d2, dlt⟩ := hd
  have hw0 : Below wA.heap.size wA wA := Below.refl _ _
  go_wp2
  go_loopw [7, 8, 9, 10] (fun s i _ _ wr => ∃ k : Nat, k ≤ nc ∧ i = .int .i64 k ∧ s = .int .i64 (gcnt (vss.take k).flatten (x, o) : Nat) ∧ Below wA.heap.size wA wr) (fun _ i _ _ _ => nc - (intOf i).toNat)
  case atStart => exact ⟨0, by omega, rfl, rfl, hw0⟩
  case round =>
    obtain ⟨k, hk, rfl, rfl, hbr⟩ := hrel
    have hk0 : (0 : Int) ≤ (k : Int) := Int.natCast_nonneg _
    have k0 := (hbr.cell (p := ⟨w.heap.size, 0, none⟩) dlt).trans d0
    by_cases hlt : k < nc
    · obtain ⟨bC, oC, hCe, hbC, hcc⟩ := HC.out.2 (by omega)
      subst hCe
      obtain ⟨A1, n1, c1, hcel0, hrv⟩ := hcc k hlt
      have hbw := below_step hb0 hbr
      have hcel := (hbw.cell (p := ⟨bC, oC + k, none⟩) hbC).trans hcel0
      have hk1 : (k : Int) < (nc : Int) := by omega
      have hkl : k < vss.length := by rw [HCL.out]; exact hlt
      have hfs := flat_take_succ hkl
      have hln := hrv.1
      have hle : (vss.take (k + 1)).flatten.length ≤ 1000000 := by
        have e3 : vss.flatten = (vss.take (k + 1)).flatten ++ (vss.drop (k + 1)).flatten := by rw [← List.flatten_append, List.take_append_drop]
        have := HFL.out
        rw [e3, List.length_append] at this
        omega
      obtain ⟨l, hl⟩ : ∃ l, vss.getD k [] = l := ⟨_, rfl⟩
      rw [hl] at hrv hfs hln
      obtain ⟨F, hF⟩ : ∃ F, (vss.take k).flatten = F := ⟨_, rfl⟩
      rw [hF] at hfs ⊢
      rw [hfs, List.length_append, hln] at hle
      have HFS := Lib.hid hfs
      have HRV := Lib.hid (hrv.keep hbw)
      have HLN := Lib.hid hln
      have hF0 : F ++ l.take 0 = F := by simp
      have HF0 := Lib.hid hF0
      have hgF := gcnt_le F (x, o)
      obtain ⟨wC, hwC⟩ : ∃ wC : World, wC = wr := ⟨_, rfl⟩
      subst hwC
      have hw1 : Below wC.heap.size wC wC := Below.refl _ _
      have clt : w.heap.size < wC.heap.size := Nat.lt_of_lt_of_le dlt hbr.size
      have hbC' : bC < wC.heap.size := Nat.lt_of_lt_of_le hbC hbw.size
      clear hcc hrv hfs hln hcel0 hl hF hF0 hbw
      go_wp2
      go_loopw [7, 9, 10] (fun s i _ wr => ∃ q : Nat, q ≤ n1 ∧ i = .int .i64 q ∧ s = .int .i64 (gcnt (F ++ l.take q) (x, o) : Nat) ∧ Below wC.heap.size wC wr) (fun _ i _ _ => n1 - (intOf i).toNat)
      case atStart => exact ⟨0, by omega, rfl, by rw [HF0.out], hw1⟩
      case round =>
        obtain ⟨q, hq, rfl, rfl, hbq⟩ := hrel
        have hq0 : (0 : Int) ≤ (q : Int) := Int.natCast_nonneg _
        have j0 := (hbq.cell (p := ⟨w.heap.size, 0, none⟩) clt).trans k0
        have jcel := (hbq.cell (p := ⟨bC, oC + k, none⟩) hbC').trans hcel
        by_cases hql : q < n1
        · obtain ⟨b1, o1, hAe, hb1, hcv⟩ := (HRV.out.keep hbq).2 (by omega)
          subst hAe
          obtain ⟨z0, z1⟩ := hcv q hql
          have hq1 : (q : Int) < (n1 : Int) := by omega
          have htk := take_succ_getD l v0 q (by rw [HLN.out]; exact hql)
          obtain ⟨v, hv⟩ : ∃ v, l.getD q v0 = v := ⟨_, rfl⟩
          rw [hv] at z0 z1 htk
          have hsn := gcnt_snoc (F ++ l.take q) v (x, o)
          rw [List.append_assoc, ← htk] at hsn
          have hgl := gcnt_le (F ++ l.take q) (x, o)
          rw [List.length_append, List.length_take] at hgl
          obtain ⟨vc, vo⟩ := v
          simp only at z0 z1 hsn
          obtain ⟨G, hG⟩ : ∃ G, gcnt (F ++ l.take q) (x, o) = G := ⟨_, rfl⟩
          rw [hG] at hsn hgl ⊢
          have hGle : G ≤ 2000000 := by omega
          have hG0 : (0 : Int) ≤ (G : Int) := Int.natCast_nonneg _
          have hbX := below_step hbq (below_alloc wr (.cells #[.int .i64 vc, .bool vo] 73))
          have HSN := Lib.hid hsn
          clear hsn hG hgl htk hcv hv
          by_cases e1 : vc = x
          · subst e1
            by_cases e2 : vo = o
            · subst e2
              go_wp2
              go_roundw
              case rel => exact ⟨q + 1, by omega, by go_num, by rw [HSN.out, if_pos ⟨rfl, rfl⟩]; go_num, hbX⟩
              case measure => simp [intOf]; omega
            · have hne : (vo == o) = false := by simpa using e2
              have E2 := Lib.hid e2
              clear e2
              go_wp2
              go_roundw
              case rel => exact ⟨q + 1, by omega, by go_num, by rw [HSN.out, if_neg (fun h => E2.out h.2)]; rfl, hbX⟩
              case measure => simp [intOf]; omega
          · have hne : (vc == x) = false := by simpa using e1
            have E1 := Lib.hid e1
            clear e1
            go_wp2
            go_roundw
            case rel => exact ⟨q + 1, by omega, by go_num, by rw [HSN.out, if_neg (fun h => E1.out h.1)]; rfl, hbX⟩
            case measure => simp [intOf]; omega
        · obtain rfl : q = n1 := by omega
          have htl : l.take q = l := by rw [← HLN.out, List.take_length]
          rw [htl, ← HFS.out]
          have hbR := hbr.trans (hbq.mono hbr.size)
          clear htl hql hq
          go_wp2
          go_roundw
          case rel => exact ⟨k + 1, by omega, by go_num, rfl, hbR⟩
          case measure => simp [intOf]; omega
    · obtain rfl : k = nc := by omega
      have htk : vss.take k = vss := by rw [← HCL.out, List.take_length]
      rw [htk]
      have hbF := below_step hb0 hbr
      clear htk hlt hk
      go_wp2
      go_ret
      exact ⟨rfl, hbF⟩

set_option maxHeartbeats 600000 in
set_option maxRecDepth 100000 in
theorem rgvalid_any (C S : Option Addr) (nc cc ns cs : Nat) (lp : Int) (vss : List (List Vis)) (s : List Int) (w : World) (hC : RVV w C nc vss) (hS : RI w S ns s) (hns : ns ≤ 1000000) (hnc : nc ≤ 1000000) (hfl : vss.flatten.length ≤ 1000000) :
    Calls Tryz.prog 25 #[dval C nc cc S ns cs lp] w fun e w' => e = .returned (.bool (gvalB vss s lp)) ∧ Below w.heap.size w w' := by
  have hd := DB.newT w C nc cc S ns cs lp 36
  have hb0 := below_alloc w (.cells #[.slice C nc cc, .slice S ns cs, .int .i64 lp] 36)
  have hg : gvalB vss s lp = (glimB ns lp && sgnsB s && visB vss ns) := by unfold gvalB; rw [hS.1]
  have CC : ∀ (x : Int) (o : Bool) (W : World), Below w.heap.size w W → Hid (Calls Tryz.prog 52 #[dval C nc cc S ns cs lp, .int .i64 x, .bool o] W fun e w' => e = .returned (.int .i64 (gcnt vss.flatten (x, o) : Nat)) ∧ Below W.heap.size W w') := fun x o W hb =>
    count_any C S nc cc ns cs lp vss x o W (hC.keep hb) hnc hfl
  have HC := Lib.hid hC
  have HS := Lib.hid hS
  have HCL := Lib.hid hC.1
  have HSL := Lib.hid hS.1
  have HFL := Lib.hid hfl
  have HG := Lib.hid hg
  clear hC hS hfl hg
  obtain ⟨d0, d1, d2, dlt⟩ := hd
  by_cases h1 : ns ≤ 64
  · have h1' : (ns : Int) ≤ 64 := by omega
    by_cases h2 : 0 ≤ lp
    · by_cases h3 : lp ≤ 64
      · have hgl : glimB ns lp = true := by simp [glimB, h1, h2, h3]
        have HGL := Lib.hid hgl
        clear hgl
        go_enter Tryz.func25, Tryz.ntmps25
        go_upto_region 1 with fail
        generalize w.alloc (.cells #[.slice C nc cc, .slice S ns cs, .int .i64 lp] 36) = wA at *
        go_wp2
        go_loop [4, 5] (fun s i => ∃ k : Nat, k ≤ nc ∧ i = .int .i64 k ∧ s = .int .i64 ((vss.take k).flatten.length : Nat) ∧ Rows0 vss k) (fun _ i => nc - (intOf i).toNat)
        case atStart => exact ⟨0, by omega, rfl, rfl, fun j hj => by omega⟩
        case round =>
          obtain ⟨k, hk, rfl, rfl, hr0⟩ := hrel
          have hk0 : (0 : Int) ≤ (k : Int) := Int.natCast_nonneg _
          by_cases hlt : k < nc
          · obtain ⟨bC, oC, hCe, hbC, hcc⟩ := HC.out.2 (by omega)
            subst hCe
            obtain ⟨A1, n1, c1, hcel0, hrv⟩ := hcc k hlt
            have hcel := (hb0.cell (p := ⟨bC, oC + k, none⟩) hbC).trans hcel0
            have hk1 : (k : Int) < (nc : Int) := by omega
            have hkl : k < vss.length := by rw [HCL.out]; exact hlt
            have hfs := flat_take_succ hkl
            have hln := hrv.1
            have hlen : (vss.take (k + 1)).flatten.length = (vss.take k).flatten.length + n1 := by rw [hfs, List.length_append, hln]
            have hle : (vss.take (k + 1)).flatten.length ≤ 1000000 := by
              have e3 : vss.flatten = (vss.take (k + 1)).flatten ++ (vss.drop (k + 1)).flatten := by rw [← List.flatten_append, List.take_append_drop]
              have := HFL.out
              rw [e3, List.length_append] at this
              omega
            rw [hlen] at hle
            have HLEN := Lib.hid hlen
            have HR0 := Lib.hid hr0
            have HLN := Lib.hid hln
            have HKL := Lib.hid hkl
            generalize (vss.take k).flatten.length = T at *
            have hT0 : (0 : Int) ≤ (T : Int) := Int.natCast_nonneg _
            clear hcc hrv hfs hln hlen hcel0 hr0 hkl
            by_cases hz : n1 = 0
            · subst hz
              have hF : visB vss ns = false := visB_empty HKL.out (List.length_eq_zero_iff.1 HLN.out)
              have HF := Lib.hid (show gvalB vss s lp = false by rw [HG.out, hF, Bool.and_false])
              clear hF
              go_wp2
              go_ret
              exact ⟨ret_bool HF.out.symm, hb0⟩
            · have hz1 : ((n1 : Int) == 0) = false := by simp; omega
              have hR1 : Rows0 vss (k + 1) := fun j hj => by
                by_cases e : j < k
                · exact HR0.out j e
                · obtain rfl : j = k := by omega
                  intro e2
                  have := HLN.out
                  rw [e2] at this
                  exact hz this.symm
              have HR1 := Lib.hid hR1
              clear hR1 hz
              go_wp2
              go_round
              case rel => exact ⟨k + 1, by omega, by go_num, by rw [HLEN.out]; go_num, HR1.out⟩
              case measure => simp [intOf]; omega
          · obtain rfl : k = nc := by omega
            have htk : vss.take k = vss := by rw [← HCL.out, List.take_length]
            rw [htk]
            have HR0 : Hid (∀ j, j < vss.length → vss.getD j [] ≠ []) := Lib.hid fun j hj => hr0 j (by rw [← HCL.out]; exact hj)
            obtain ⟨T, hT⟩ : ∃ T, vss.flatten.length = T := ⟨_, rfl⟩
            have hTl : T ≤ 1000000 := by rw [← hT]; exact HFL.out
            rw [hT]
            have HT := Lib.hid hT
            have hT0 : (0 : Int) ≤ (T : Int) := Int.natCast_nonneg _
            clear htk hlt hk hr0 hT
            have hw0 : Below wA.heap.size wA wA := Below.refl _ _
            go_wp2
            go_loopw [6] (fun i wr => ∃ x : Nat, x ≤ ns ∧ i = .int .i64 x ∧ Below wA.heap.size wA wr ∧ (∀ j, j < x → sgB (s.getD j 0) = true ∧ gcnt vss.flatten ((j : Int), true) = 1 ∧ gcnt vss.flatten ((j : Int), false) = 1)) (fun i _ => ns - (intOf i).toNat)
            case atStart => exact ⟨0, by omega, rfl, hw0, fun j hj => by omega⟩
            case round =>
              obtain ⟨x, hx, rfl, hbr, hall⟩ := hrel
              have hx0 : (0 : Int) ≤ (x : Int) := Int.natCast_nonneg _
              have hbw := below_step hb0 hbr
              have j0 := (hbr.cell (p := ⟨w.heap.size, 0, none⟩) dlt).trans d0
              have j1 := (hbr.cell (p := ⟨w.heap.size, 1, none⟩) dlt).trans d1
              have j2 := (hbr.cell (p := ⟨w.heap.size, 2, none⟩) dlt).trans d2
              have jlt := Nat.lt_of_lt_of_le dlt hbr.size
              have HALL := Lib.hid hall
              clear hall
              by_cases hxl : x < ns
              · have hx1 : (x : Int) < (ns : Int) := by omega
                obtain ⟨bS, oS, hSe, hbS, hcS⟩ := HS.out.2 (by omega)
                subst hSe
                have z0 := (hbw.cell (p := ⟨bS, oS + x, none⟩) hbS).trans (hcS x hxl)
                obtain ⟨sg, hsg⟩ : ∃ sg, s.getD x 0 = sg := ⟨_, rfl⟩
                rw [hsg] at z0
                have HSG := Lib.hid hsg
                clear hcS hsg
                by_cases hs1 : sg = 1 ∨ sg = -1
                · have hsB : sgB sg = true := by unfold sgB; rcases hs1 with rfl | rfl <;> rfl
                  have HSB := Lib.hid hsB
                  have CT := CC (x : Int) true wr hbw
                  obtain ⟨T1, hT1⟩ : ∃ T1, gcnt vss.flatten ((x : Int), true) = T1 := ⟨_, rfl⟩
                  obtain ⟨T2, hT2⟩ : ∃ T2, gcnt vss.flatten ((x : Int), false) = T2 := ⟨_, rfl⟩
                  rw [hT1] at CT
                  have CF : ∀ W, Below w.heap.size w W → Hid (Calls Tryz.prog 52 #[dval C k cc (some ⟨bS, oS, none⟩) ns cs lp, .int .i64 (x : Int), .bool false] W fun e w' => e = .returned (.int .i64 (T2 : Nat)) ∧ Below W.heap.size W w') := fun W hb => by
                    have := CC (x : Int) false W hb
                    rw [hT2] at this
                    exact this
                  have HT1 := Lib.hid hT1
                  have HT2 := Lib.hid hT2
                  clear hT1 hT2 hsB CC
                  by_cases t1 : T1 = 1
                  · subst t1
                    by_cases t2 : T2 = 1
                    · subst t2
                      have HNX : Hid (∀ j, j < x + 1 → sgB (s.getD j 0) = true ∧ gcnt vss.flatten ((j : Int), true) = 1 ∧ gcnt vss.flatten ((j : Int), false) = 1) := Lib.hid fun j hj => by
                        by_cases e : j < x
                        · exact HALL.out j e
                        · obtain rfl : j = x := by omega
                          exact ⟨by rw [HSG.out]; exact HSB.out, HT1.out, HT2.out⟩
                      rcases hs1 with rfl | rfl
                      all_goals
                        go_wp2_with (first
                          | (go_at_call 52; ((with_reducible refine (CF _ hbw2).out.mono ?_); rintro e w3 ⟨rfl, hb3⟩))
                          | (go_at_call 52; ((with_reducible refine CT.out.mono ?_); rintro e w2 ⟨rfl, hb2⟩; have hbw2 := below_step hbw hb2; have i0 := (hb2.cell (p := ⟨w.heap.size, 0, none⟩) jlt).trans j0; have i1 := (hb2.cell (p := ⟨w.heap.size, 1, none⟩) jlt).trans j1; have i2 := (hb2.cell (p := ⟨w.heap.size, 2, none⟩) jlt).trans j2)))
                        go_roundw
                        case rel => exact ⟨x + 1, by omega, by go_num, hbr.trans ((hb2.trans (hb3.mono hb2.size)).mono hbr.size), HNX.out⟩
                        case measure => simp [intOf]; omega
                    · have hne : ((T2 : Int) != 1) = true := by simp only [bne_iff_ne, ne_eq]; omega
                      have HF := Lib.hid (show gvalB vss s lp = false by rw [HG.out, visB_not hxl false (by rw [HT2.out]; exact t2), Bool.and_false])
                      clear t2
                      rcases hs1 with rfl | rfl
                      all_goals
                        go_wp2_with (first
                          | (go_at_call 52; ((with_reducible refine (CF _ hbw2).out.mono ?_); rintro e w3 ⟨rfl, hb3⟩))
                          | (go_at_call 52; ((with_reducible refine CT.out.mono ?_); rintro e w2 ⟨rfl, hb2⟩; have hbw2 := below_step hbw hb2; have i0 := (hb2.cell (p := ⟨w.heap.size, 0, none⟩) jlt).trans j0; have i1 := (hb2.cell (p := ⟨w.heap.size, 1, none⟩) jlt).trans j1; have i2 := (hb2.cell (p := ⟨w.heap.size, 2, none⟩) jlt).trans j2)))
                        go_ret
                        exact ⟨ret_bool HF.out.symm, below_step hbw2 hb3⟩
                  · have hne : ((T1 : Int) != 1) = true := by simp only [bne_iff_ne, ne_eq]; omega
                    have HF := Lib.hid (show gvalB vss s lp = false by rw [HG.out, visB_not hxl true (by rw [HT1.out]; exact t1), Bool.and_false])
                    clear t1
                    rcases hs1 with rfl | rfl
                    all_goals
                      go_wp2_with (go_at_call 52; ((with_reducible refine CT.out.mono ?_); rintro e w2 ⟨rfl, hb2⟩))
                      go_ret
                      exact ⟨ret_bool HF.out.symm, below_step hbw hb2⟩
                · have hn1 : (sg != 1) = true := by simp only [bne_iff_ne, ne_eq]; omega
                  have hn2 : (sg != -1) = true := by simp only [bne_iff_ne, ne_eq]; omega
                  have hsB : sgnsB s = false := by
                    cases h : sgnsB s with
                    | false => rfl
                    | true =>
                      have := (sgnsB_iff _).1 h x (by rw [HSL.out]; exact hxl)
                      rw [HSG.out] at this
                      unfold sgB at this
                      simp at this
                      omega
                  have HF := Lib.hid (show gvalB vss s lp = false by rw [HG.out, hsB, Bool.and_false, Bool.false_and])
                  clear hsB hs1
                  go_wp2
                  go_ret
                  exact ⟨ret_bool HF.out.symm, hbw⟩
              · obtain rfl : x = ns := by omega
                have hsB : sgnsB s = true := (sgnsB_iff _).2 fun j hj => (HALL.out j (by rw [← HSL.out]; exact hj)).1
                have hvB := visB_count (n := x) HR0.out (fun j hj => (HALL.out j hj).2)
                rw [HT.out] at hvB
                have HF := Lib.hid (show gvalB vss s lp = decide (T = 2 * x) by rw [HG.out, hsB, HGL.out, hvB]; rfl)
                clear hsB hvB CC
                by_cases hT2 : T = 2 * x
                · have hTe : (T : Int) = 2 * (x : Int) := by omega
                  have hTb : ((T : Int) == 2 * (x : Int)) = true := by rw [hTe]; simp
                  have HTE := Lib.hid hT2
                  clear hTe hT2
                  go_wp2
                  go_ret
                  exact ⟨ret_bool (by rw [HF.out, decide_eq_true HTE.out]), hbw⟩
                · have hTb : ((T : Int) == 2 * (x : Int)) = false := by simp only [beq_eq_false_iff_ne, ne_eq]; omega
                  have HTE := Lib.hid hT2
                  clear hT2
                  go_wp2
                  go_ret
                  exact ⟨ret_bool (by rw [HF.out, decide_eq_false HTE.out]), hbw⟩
      · have h3' : 64 < lp := by omega
        have HF := Lib.hid (show gvalB vss s lp = false by rw [HG.out, show glimB ns lp = false by simp [glimB, h3], Bool.false_and, Bool.false_and])
        clear h3 CC
        go_enter Tryz.func25, Tryz.ntmps25
        go_wp2
        go_ret
        exact ⟨ret_bool HF.out.symm, hb0⟩
    · have h2' : lp < 0 := by omega
      have HF := Lib.hid (show gvalB vss s lp = false by rw [HG.out, show glimB ns lp = false by simp [glimB, h2], Bool.false_and, Bool.false_and])
      clear h2 CC
      go_enter Tryz.func25, Tryz.ntmps25
      go_wp2
      go_ret
      exact ⟨ret_bool HF.out.symm, hb0⟩
  · have h1' : 64 < (ns : Int) := by omega
    have HF := Lib.hid (show gvalB vss s lp = false by rw [HG.out, show glimB ns lp = false by simp [glimB, h1], Bool.false_and, Bool.false_and])
    clear h1 CC
    go_enter Tryz.func25, Tryz.ntmps25
    go_wp2
    go_ret
    exact ⟨ret_bool HF.out.symm, hb0⟩

end Go.Proofs.YtdacjnmfmhkpiaaGreatDoor
