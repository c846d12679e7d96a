import Derived.Test.YtdamfoobnbjojaaL04
import Derived.ProofKit
import Derived.Lib.SmallJoins
import Derived.Test.YtdamfoobnbjojaaL07
import Derived.Test.YtdamfoobnbjojaaL02
import Derived.Maps.AppendAt
import Derived.Test.YtdamfoobnbjojaaL05
import Derived.Deep.RegionHeld3
import Derived.RegionTactic
/- Opening a diagram that comes in, and shutting a law's call. -/
namespace Go.Proofs.Ytdamfoobnbjojaa
open Go.ChangeShapes Go.WideShapes Go.ChangeAt Go.RowKit Go.Joins

theorem Try.own : ownKnob Try.prog.godebug = none := by kernel_rfl
theorem Try.laidOut : laidOutB Try.prog = true := by kernel_rfl
theorem Try.cellsI : Try.prog.cellsOf 3 = 1 := by kernel_rfl
theorem Try.cellsD : Try.prog.cellsOf 24 = 3 := by kernel_rfl

def inI (x : Int) : Prop := -9223372036854775808 ≤ x ∧ x ≤ 9223372036854775807
theorem inI_of_wf {x : Int} (h : (Lit.int .i64 x).wf = true) : inI x := by
  have h1 : IntKind.i64.min = -9223372036854775808 := rfl
  have h2 : IntKind.i64.max = 9223372036854775807 := rfl
  simp only [Lit.wf, Bool.and_eq_true, decide_eq_true_eq] at h
  unfold inI; omega

section
variable {H : Type} {enc : TypeId × Value → H} {W : World}

set_option maxRecDepth 100000 in
/-- A slice of ints that comes in reads as a list. -/
theorem open_ri {fuel : Nat} {v : Value} {x : DataW H × List MemPlace} (h : DataW.trod enc Try.prog W 0 (fun _ => true) true fuel 22 [v] = some x) :
    ∃ A n c xs, v = .slice A n c ∧ RI W A n xs ∧ n ≤ 9223372036854775807 ∧ ∀ y ∈ xs, inI y := by
  rcases open_ints Try.underlying22 Try.underlying3 Try.cellsI h with ⟨hcs, _⟩ | ⟨a, len, cap, zs, hcs, _, hl, hm, hz, _, hcell, hwf⟩
  · injection hcs with hcs _
    exact ⟨none, 0, 0, [], hcs, RI.nil _ _, by omega, fun y hy => by cases hy⟩
  · injection hcs with hcs _
    simp only [if_true] at hz
    refine ⟨some a, len, cap, zs.take len, hcs, ⟨by rw [List.length_take]; omega, fun hn => ?_⟩, by unfold maxLen at hm; omega, fun y hy => inI_of_wf (hwf y (List.mem_of_mem_take hy))⟩
    have h0 := hcell 0 (by omega)
    obtain ⟨b, off, spot⟩ := a
    have hspot : spot = none := by simpa [Addr.add] using World.cell?_spot h0
    subst hspot
    refine ⟨b, off, rfl, ?_, fun j hj => ?_⟩
    · have := World.block_lt_of_cell? W _ h0
      simpa [Addr.add] using this
    · have := hcell j (by omega)
      rw [add_plain] at this
      rw [this]
      simp [List.getD, hj]

set_option maxRecDepth 100000 in
/-- A diagram that comes in. -/
theorem open_diag {base : Nat} {v : Value} {d : DataW H} {p : List MemPlace} (hv : Value.okWide Try.prog W .any base 24 v) (h : DataW.Trod enc Try.prog W 0 (fun _ => true) true 24 v d p) :
    ∃ A ns cs B nm cm lp signs mate, v = dval A ns cs B nm cm lp ∧ RI W A ns signs ∧ RI W B nm mate ∧ ns ≤ 9223372036854775807 ∧ nm ≤ 9223372036854775807 ∧ (∀ y ∈ signs, inI y) ∧ (∀ y ∈ mate, inI y) ∧ inI lp := by
  obtain ⟨c0, c1, c2, y0, y1, y2, m, rfl, _, _, hy0, hy1, hy2⟩ := open_agg3 Try.underlying24 (by kernel_rfl) Try.cellsD hv h
  obtain ⟨A, ns, cs, signs, rfl, r1, l1, q1⟩ := open_ri hy0
  obtain ⟨B, nm, cm, mate, rfl, r2, l2, q2⟩ := open_ri hy1
  obtain ⟨x, e0, _, wx⟩ := DataW.trod_int Try.underlying3 hy2
  simp at e0
  subst e0
  exact ⟨A, ns, cs, B, nm, cm, x, signs, mate, rfl, r1, r2, l1, l2, q1, q2, inI_of_wf wx⟩

set_option maxRecDepth 100000 in
theorem trodAll_keep {W' : World} (hb : Below W.heap.size W W') : ∀ {ts : List TypeId} {vs : List Value} {ds : List (DataW H)} {ps : List MemPlace}, (∀ t ∈ ts, Try.prog.readableRec t = true ∧ t < Try.prog.types.size) →
    (∀ x ∈ ps, x.block < W.heap.size) → DataW.TrodAll enc Try.prog W 0 (fun _ => true) true ts vs ds ps → DataW.TrodAll enc Try.prog W' 0 (fun b => decide (b < W.heap.size)) true ts vs ds ps
  | [], [], [], _, _, _, h => h
  | t :: ts, v :: vs, d :: ds, ps, hr, hlt, h => by
    obtain ⟨p, q, h1, h2, rfl⟩ := h
    obtain ⟨r1, r2⟩ := hr t (by simp)
    exact ⟨p, q, Below.trod Try.laidOut r1 r2 h1 hb (fun x hx => hlt x (by simp [hx])), trodAll_keep hb (fun t ht => hr t (by simp [ht])) (fun x hx => hlt x (by simp [hx])) h2, rfl⟩
  | [], _ :: _, _, _, _, _, h => h.elim
  | [], [], _ :: _, _, _, _, h => h.elim
  | _ :: _, [], _, _, _, _, h => h.elim
  | _ :: _, _ :: _, [], _, _, _, h => h.elim

set_option maxRecDepth 100000 in
/-- A law that answers true and leaves all below as it was meets its specification. -/
theorem law_post {f : Func} {s : ChangeSpec} {args : Array Value} {ds gs : List (DataW H)} {before : List MemPlace} {W' : World}
    (hres : f.resultTypes = #[4]) (hvars : s.vars = []) (hpar : ∀ t ∈ f.params.toList, Try.prog.readableRec t = true ∧ t < Try.prog.types.size)
    (hspec : (s.fn H (ds ++ gs)).results = [.lit (.bool true)] ∧ (s.fn H (ds ++ gs)).args = ds ∧ (s.fn H (ds ++ gs)).vars = [])
    (hW : DataW.Whole enc Try.prog f.params.toList s.vars false W args.toList ds gs before) (hb : Below W.heap.size W W') :
    s.post enc Try.prog f false true false false W args (.bool true) W' := by
  have hlt := fun x hx => hW.lt x hx
  obtain ⟨p, q, hA, hV, e, _⟩ := id hW
  rw [hvars] at hV
  obtain ⟨rfl, rfl⟩ := trodVars_none hV
  rw [List.append_nil] at e
  subst e
  refine ⟨ds, [], before, [], before, [], hW, ?_, ?_, ?_, hb.frame _, fun h => by cases h⟩
  · rw [hspec.1, hres]
    exact trodAll_mk1 (shut_bool Try.underlying4 true)
  · rw [hspec.2.1]
    exact trodAll_keep hb hpar hlt hA
  · rw [hvars, hspec.2.2]
    rfl
end

end Go.Proofs.Ytdamfoobnbjojaa

/- Walk: awake and few of layer 6. -/
namespace Go.Proofs.Ytdamfoobnbjojaa
open Go.RowKit

theorem RI.litM (w : World) (xs : List Int) : RI (w.alloc (.cells (ints xs).toArray 3)) (some ⟨w.heap.size, 0, none⟩) xs.length xs :=
  ⟨rfl, fun _ => ⟨w.heap.size, 0, rfl, by simp, fun j hj => by
    rw [World.cell?_alloc_at _ _ _ _ rfl, Nat.zero_add]
    simp [ints, List.getD, hj]⟩⟩
theorem kk_mirror {s1 m1 : List Int} (h : Moved (opT 0 0 kkS) (opP 0 0) 1 kkS kkM s1 m1) : s1 = [-1] ∧ m1 = [3, 2, 1, 0] := by
  have h2 : Moved (opT 0 0 kkS) (opP 0 0) 1 kkS kkM [-1] [3, 2, 1, 0] := ⟨rfl, rfl, by decide, by decide⟩
  exact h.uniq h2 (op_place _ _ _ _) (by decide) (fun _ _ => rfl) (fun _ _ => rfl)
theorem eqD_refl (s m : List Int) (lp : Int) : eqD s m lp s m lp = true := by unfold eqD; simp
theorem kk_smL : smL kkS kkM 0 0 = 2 := by decide
/-- The kink, with room for nothing more. -/
theorem kk_mirror_any (A B : Option Addr) (W : World) (h : DV W A 1 B 4 kkS kkM) : Calls Try.prog 13 #[dval A 1 1 B 4 4 0] W fun e w' => ∃ A' cs B' cm, e = .returned (.tuple #[dval A' 1 cs B' 4 cm 0, .int .i64 0]) ∧ RI w' A' 1 [-1] ∧ RI w' B' 4 [3, 2, 1, 0] ∧ Below W.heap.size W w' := by
  refine (mirror_yes A B 1 1 4 4 0 kkS kkM W h kk_valid).mono ?_
  rintro e w' ⟨A', cs, B', cm, s', m', rfl, oS, oM, hM, hb⟩
  obtain ⟨rfl, rfl⟩ := kk_mirror hM
  exact ⟨A', cs, B', cm, rfl, oS.ri, oM.ri, hb⟩
theorem kk_smooth_any (A B : Option Addr) (W : World) (h : DV W A 1 B 4 kkS kkM) : Calls Try.prog 24 #[dval A 1 1 B 4 4 0, .int .i64 0] W fun e w' => ∃ A' cs B' cm, e = .returned (.tuple #[dval A' 0 cs B' 0 cm 2, .int .i64 0]) ∧ Below W.heap.size W w' := by
  refine (smooth_yes A B 1 1 4 4 0 kkS kkM 0 W h kk_valid (by omega) (by omega) (by omega) (by rw [kk_smL]; omega)).mono ?_
  rintro e w' ⟨A', cs, B', cm, rfl, _, _, _, _, hb⟩
  exact ⟨A', cs, B', cm, by rw [kk_smL], hb⟩

set_option maxHeartbeats 3200000 in
set_option maxRecDepth 100000 in
theorem mawake_any (w : World) : Calls Try.prog 11 #[] w fun e w' => e = .returned (.bool true) ∧ Below w.heap.size w w' := by
  have h1 := RI.litM w kkS
  have hb1 := below_alloc w (.cells (ints kkS).toArray 3)
  have h2 := RI.litM (w.alloc (.cells (ints kkS).toArray 3)) kkM
  have hb2 := below_alloc (w.alloc (.cells (ints kkS).toArray 3)) (.cells (ints kkM).toArray 3)
  have hb3 := below_alloc ((w.alloc (.cells (ints kkS).toArray 3)).alloc (.cells (ints kkM).toArray 3)) (dbox (some ⟨w.heap.size, 0, none⟩) 1 1 (some ⟨w.heap.size + 1, 0, none⟩) 4 4 0)
  have hd := DB.new ((w.alloc (.cells (ints kkS).toArray 3)).alloc (.cells (ints kkM).toArray 3)) (some ⟨w.heap.size, 0, none⟩) 1 1 (some ⟨w.heap.size + 1, 0, none⟩) 4 4 0
  have hs1 : (w.alloc (.cells (ints kkS).toArray 3)).heap.size = w.heap.size + 1 := by simp
  have hs2 : ((w.alloc (.cells (ints kkS).toArray 3)).alloc (.cells (ints kkM).toArray 3)).heap.size = w.heap.size + 2 := by simp
  rw [hs1] at h2
  rw [hs2] at hd
  have hdv : DV (((w.alloc (.cells (ints kkS).toArray 3)).alloc (.cells (ints kkM).toArray 3)).alloc (dbox (some ⟨w.heap.size, 0, none⟩) 1 1 (some ⟨w.heap.size + 1, 0, none⟩) 4 4 0)) (some ⟨w.heap.size, 0, none⟩) 1 (some ⟨w.heap.size + 1, 0, none⟩) 4 kkS kkM :=
    ⟨(h1.keep hb2).keep hb3, h2.keep hb3, by omega, by omega, by decide⟩
  have hb := below_step (below_step hb1 hb2) hb3
  clear h1 h2 hb1 hb2 hb3 hs1 hs2
  have e1 : (ints kkS).toArray = #[.int .i64 1] := rfl
  have e2 : (ints kkM).toArray = #[.int .i64 1, .int .i64 0, .int .i64 3, .int .i64 2] := rfl
  unfold dbox at hd hdv hb
  rw [e1, e2] at hd hdv hb
  clear e1 e2
  have CM : ∀ (W : World) (A B : Option Addr), DV W A 1 B 4 kkS kkM → Hid (Calls Try.prog 13 #[dval A 1 1 B 4 4 0] W fun e w' => ∃ A' cs B' cm, e = .returned (.tuple #[dval A' 1 cs B' 4 cm 0, .int .i64 0]) ∧ RI w' A' 1 [-1] ∧ RI w' B' 4 [3, 2, 1, 0] ∧ Below W.heap.size W w') := fun W A B h => Lib.hid (kk_mirror_any A B W h)
  have CS : ∀ (W : World) (A B : Option Addr), DV W A 1 B 4 kkS kkM → Hid (Calls Try.prog 24 #[dval A 1 1 B 4 4 0, .int .i64 0] W fun e w' => ∃ A' cs B' cm, e = .returned (.tuple #[dval A' 0 cs B' 0 cm 2, .int .i64 0]) ∧ Below W.heap.size W w') := fun W A B h => Lib.hid (kk_smooth_any A B W h)
  go_enter Try.func11, Try.ntmps11
  go_upto_region 2 with fail
  generalize ((w.alloc (.cells #[.int .i64 1] 3)).alloc (.cells #[.int .i64 1, .int .i64 0, .int .i64 3, .int .i64 2] 3)).alloc (.cells #[.slice (some ⟨w.heap.size, 0, none⟩) 1 1, .slice (some ⟨w.heap.size + 1, 0, none⟩) 4 4, .int .i64 0] 24) = wK at hd hdv hb ⊢
  rw [show w.heap.size + 1 + 1 = w.heap.size + 2 by omega]
  obtain ⟨g1, hg1⟩ : ∃ g1, w.heap.size + 2 = g1 := ⟨_, rfl⟩
  rw [hg1] at hd ⊢
  obtain ⟨d0, d1, d2, dlt⟩ := hd
  have HB := Lib.hid hb
  have HDV := Lib.hid hdv
  have C1 := CM wK _ _ hdv
  clear hb hdv hg1 CM
  go_upto_region 3 with (go_at_call 13; ((with_reducible refine C1.out.mono ?_); rintro e w1 ⟨A1, c1, B1, m1, rfl, rS, rM, hb1⟩))
  have hbx := below_alloc w1 (dbox A1 1 c1 B1 4 m1 0)
  have hd1 := DB.new w1 A1 1 c1 B1 4 m1 0
  have rS1 := rS.keep hbx
  have rM1 := rM.keep hbx
  have hbK := below_step hb1 hbx
  unfold dbox at hbx hd1 rS1 rM1 hbK
  generalize w1.alloc (.cells #[.slice A1 1 c1, .slice B1 4 m1, .int .i64 0] 24) = wL at hbx hd1 rS1 rM1 hbK ⊢
  obtain ⟨g2, hg2⟩ : ∃ g2, w1.heap.size = g2 := ⟨_, rfl⟩
  rw [hg2] at hd1 ⊢
  have x0 := (hbK.cell (p := ⟨g1, 0, none⟩) dlt).trans d0
  have x1 := (hbK.cell (p := ⟨g1, 1, none⟩) dlt).trans d1
  have x2 := (hbK.cell (p := ⟨g1, 2, none⟩) dlt).trans d2
  have C2 := CS wL _ _ (HDV.out.keep hbK)
  clear CS rS rM hb1 hbx hg2 d0 d1 d2
  go_upto_region 4 with (go_at_call 24; ((with_reducible refine C2.out.mono ?_); rintro e w2 ⟨A2, c2, B2, m2, rfl, hb2⟩))
  have hbx := below_alloc w2 (dbox A2 0 c2 B2 0 m2 2)
  obtain ⟨s0, s1, s2, slt⟩ := DB.new w2 A2 0 c2 B2 0 m2 2
  have hbL := below_step hb2 hbx
  unfold dbox at hbx s0 s1 s2 slt hbL
  generalize w2.alloc (.cells #[.slice A2 0 c2, .slice B2 0 m2, .int .i64 2] 24) = wM at hbx s0 s1 s2 slt hbL ⊢
  obtain ⟨g3, hg3⟩ : ∃ g3, w2.heap.size = g3 := ⟨_, rfl⟩
  rw [hg3] at s0 s1 s2 slt ⊢
  obtain ⟨y0, y1, y2, ylt⟩ := hd1.keep hbL
  have h1 := RI.litM wM [-1]
  have hb3 := below_alloc wM (.cells (ints [-1]).toArray 3)
  have h2 := RI.litM (wM.alloc (.cells (ints [-1]).toArray 3)) [3, 2, 1, 0]
  have hb4 := below_alloc (wM.alloc (.cells (ints [-1]).toArray 3)) (.cells (ints [3, 2, 1, 0]).toArray 3)
  have hs1 : (wM.alloc (.cells (ints [-1]).toArray 3)).heap.size = wM.heap.size + 1 := by simp
  rw [hs1] at h2
  have hb34 := below_step hb3 hb4
  have CE := Lib.hid (requal_any A1 B1 (some ⟨wM.heap.size, 0, none⟩) (some ⟨wM.heap.size + 1, 0, none⟩) 1 c1 4 m1 1 1 4 4 0 0 [-1] [3, 2, 1, 0] [-1] [3, 2, 1, 0] _ ((rS1.keep hbL).keep hb34) ((rM1.keep hbL).keep hb34) (h1.keep hb4) h2 (by omega) (by omega) (by omega) (by omega))
  have e1 : (ints [-1]).toArray = #[.int .i64 (-1)] := rfl
  have e2 : (ints [3, 2, 1, 0]).toArray = #[.int .i64 3, .int .i64 2, .int .i64 1, .int .i64 0] := rfl
  rw [e1, e2, show eqD [-1] [3, 2, 1, 0] 0 [-1] [3, 2, 1, 0] 0 = true from by decide] at CE
  rw [e1, e2] at hb34
  have HB34 := Lib.hid hb34
  have hslt := hb34.size
  have z1 : ∀ W, Below wM.heap.size wM W → W.cell? ⟨g3, 1, none⟩ = some (.slice B2 0 m2) ∧ W.cell? ⟨g3, 2, none⟩ = some (.int .i64 2) := fun W h => ⟨(h.cell (p := ⟨g3, 1, none⟩) slt).trans s1, (h.cell (p := ⟨g3, 2, none⟩) slt).trans s2⟩
  have HZ := Lib.hid z1
  have HBM := Lib.hid (below_step (below_step HB.out hbK) hbL)
  clear e1 e2 h1 h2 hb3 hb4 hb34 hs1 z1 x0 x1 x2 hg3 hbx hslt
  go_wp2_with (go_at_call 18; ((with_reducible refine CE.out.mono ?_); rintro e w5 ⟨rfl, hb5⟩; obtain ⟨u1, u2⟩ := HZ.out w5 (below_step HB34.out hb5)))
  go_ret
  exact ⟨rfl, below_step HBM.out (below_step HB34.out hb5)⟩

def fewM (ns nm : Nat) : Bool := decide (ns ≤ 14) && decide (nm ≤ 70)
theorem mfew_any (A B : Option Addr) (ns cs nm cm : Nat) (lp : Int) (w : World) (hns : ns ≤ 9223372036854775807) (hnm : nm ≤ 9223372036854775807) :
    Calls Try.prog 12 #[dval A ns cs B nm cm lp] w fun e w' => e = .returned (.bool (fewM ns nm)) ∧ Below w.heap.size w w' := by
  obtain ⟨d0, d1, d2, dlt⟩ := DB.new w A ns cs B nm cm lp
  have HB := Lib.hid (below_alloc w (dbox A ns cs B nm cm lp))
  by_cases h1 : ns ≤ 14
  · have h1' : (ns : Int) ≤ 14 := by omega
    by_cases h2 : nm ≤ 70
    · have h2' : (nm : Int) ≤ 70 := by omega
      have HE : Hid (fewM ns nm = true) := Lib.hid (by simp [fewM, h1, h2])
      clear h1 h2
      go_enter Try.func12, Try.ntmps12
      go_wp2
      go_ret
      exact ⟨ret_bool HE.out.symm, HB.out⟩
    · have h2' : ¬ (nm : Int) ≤ 70 := by omega
      have HE : Hid (fewM ns nm = false) := Lib.hid (by simp [fewM, h2])
      clear h1 h2
      go_enter Try.func12, Try.ntmps12
      go_wp2
      go_ret
      exact ⟨ret_bool HE.out.symm, HB.out⟩
  · have h1' : ¬ (ns : Int) ≤ 14 := by omega
    have HE : Hid (fewM ns nm = false) := Lib.hid (by simp [fewM, h1])
    clear h1
    go_enter Try.func12, Try.ntmps12
    go_wp2
    go_ret
    exact ⟨ret_bool HE.out.symm, HB.out⟩

theorem fewM_out {ns nm : Nat} (h : fewM ns nm = true) : ns ≤ 14 ∧ nm ≤ 70 := by unfold fewM at h; simpa using h
theorem DV.ofI {w : World} {A B : Option Addr} {ns nm : Nat} {s m : List Int} (hs : RI w A ns s) (hm : RI w B nm m) (hmI : ∀ z ∈ m, inI z) (h : fewM ns nm = true) : DV w A ns B nm s m := by
  obtain ⟨h1, h2⟩ := fewM_out h
  refine ⟨hs, hm, by omega, by omega, fun j hj => ?_⟩
  have hl := hm.1
  unfold mt
  have e : m.getD j 0 = m[j]'(by omega) := by simp [List.getD, show j < m.length by omega]
  rw [e]
  exact hmI _ (List.getElem_mem _)

end Go.Proofs.Ytdamfoobnbjojaa

/- append of a list onto an empty slice of the call's own, at a step of a region that draws. -/
namespace Go.Proofs.Ytdamfoobnbjojaa
open Go.ChangeShapes Go.WideShapes Go.ChangeAt Go.RowKit

theorem OI.emptyAt {w : World} {B g : Nat} (hh : w.heap[g]? = some (.cells #[] 3 (0, 0))) (hB : B ≤ g) : OI w B (.slice (some ⟨g, 0, none⟩) 0 0) [] :=
  ⟨rfl, .inr ⟨g, 0, #[], rfl, hB, hh, Nat.le_refl _, by simp [maxLen], rfl, rfl⟩⟩

set_option maxRecDepth 100000 in
/-- append of a slice that reads as a list to an empty slice of the call's own, at a step of a region that draws. -/
theorem dk_append_new {ops : Array Oper} {o : Oper} {a : Act} {w : World} {K : Act → World → Prop} {Q : Exit → Act → World → Prop} {E : Prop} (hgd : o.guard = none) (s x : Operand)
    (ho : o.op = .call { callee := .builtin .append, args := #[s, x], argTypes := #[22, 22] }) (B g : Nat) (hs : a.eval s = .slice (some ⟨g, 0, none⟩) 0 0)
    (hh : w.heap[g]? = some (.cells #[] 3 (0, 0))) (hB : B ≤ g) (A : Option Addr) (n c : Nat) (xs : List Int) (hx : a.eval x = .slice A n c) (hr : RI w A n xs) (hn : n ≤ 1000000)
    (h : ∀ A' c' w' k, OI w' B (.slice A' n c') xs → (Value.slice A' n c').ownBlock = some k → (k = g ∨ k = w.heap.size) → k < w'.heap.size → w.grownBy w' (some g) → K (a.put o.dst (.slice A' n c')) w') :
    if Region.wanted o (yielded ops a.tmps) = true then Oper.wp Try.prog o a w K Q else E := by
  have hw : Region.wanted o (yielded ops a.tmps) = true := by simp [Region.wanted, hgd]
  rw [if_pos hw]
  obtain ⟨i0, hi, hz0, hz1, hz2⟩ := info_parts Try.infoInt
  have hown := OI.emptyAt hh hB
  have hgs : g < w.heap.size := by
    rcases Nat.lt_or_ge g w.heap.size with hlt | hge
    · exact hlt
    · rw [Array.getElem?_eq_none hge] at hh; cases hh
  have hl := hr.1
  cases A with
  | none =>
    have h0 : n = 0 := by
      rcases Nat.eq_zero_or_pos n with h0 | h0
      · exact h0
      · obtain ⟨b, off, e, _⟩ := hr.2 h0
        cases e
    subst h0
    have hxs : xs = [] := List.length_eq_zero_iff.1 hl
    subst hxs
    have hrun : (Builtin.append_ #[22, 22] o.type #[.slice (some ⟨g, 0, none⟩) 0 0, .slice none 0 c]).run Try.prog w = .ok (.slice (some ⟨g, 0, none⟩) 0 0) w := by
      simp [Builtin.append_, run_underlying Try.underlying22, sizeOf, typeInfo, hi, Builtin.lenOf, Builtin.firstCells, storeCells]
    unfold Oper.wp execOp
    simp only [ho, resolve, invoke, builtin, Sem.run_bind, Sem.run_pure, Result.andThen_ok, List.map_toArray, List.map_cons, List.map_nil, hs, hx, hrun]
    exact h _ _ w g hown rfl (.inl rfl) hgs (World.grownBy.refl w _)
  | some ad =>
    have hcells : ∀ j u, (ints xs)[j]? = some u → w.cell? (ad.add j) = some u := by
      intro j u hj
      have hjn : j < xs.length := by
        have := (List.getElem?_eq_some_iff.1 hj).1
        simpa [ints] using this
      obtain ⟨b, off, e, _, hc⟩ := hr.2 (by omega)
      obtain rfl := Option.some.inj e
      rw [add_plain, hc j (by omega)]
      simp [ints, hjn] at hj
      rw [← hj]
      simp [List.getD, hjn]
    obtain ⟨v', w', hrun, h1, h2, _, h3⟩ := run_append_own_at (P := Try.prog) w B 22 o.type 3 i0 (.int .i64 0) 1 8 Try.underlying22 hi hz0 hz1 hz2 rfl (by decide) (.slice (some ⟨g, 0, none⟩) 0 0) 0 [] hown ad n c (ints xs) (by simp [ints, hl]) hcells
      (fun u hu => by simp [ints] at hu; obtain ⟨z, _, rfl⟩ := hu; rfl) (by unfold maxLen; omega) (by omega) (by omega)
    have hv : ∃ A' c', v' = .slice A' n c' := by
      rcases h1.2 with ⟨e, e2⟩ | ⟨g', cap', cur, e, _⟩
      · exact ⟨none, 0, by rw [e]; simp at e2; rw [e2]⟩
      · exact ⟨some ⟨g', 0, none⟩, cap', by rw [e]; simp⟩
    obtain ⟨A', c', rfl⟩ := hv
    unfold Oper.wp execOp
    simp only [ho, resolve, invoke, builtin, Sem.run_bind, Sem.run_pure, Result.andThen_ok, List.map_toArray, List.map_cons, List.map_nil, hs, hx, hrun]
    have ho : OI w' B (.slice A' n c') xs := by
      unfold OI
      simpa [ints, hl] using h1
    rcases h3 with h3 | h3
    · exact h _ _ w' g ho h3 (.inl rfl) (World.ownsRow.lt ho g h3).2 h2
    · exact h _ _ w' w.heap.size ho h3 (.inr rfl) (World.ownsRow.lt ho _ h3).2 h2

end Go.Proofs.Ytdamfoobnbjojaa

/- Walk: the reference's move. -/
namespace Go.Proofs.Ytdamfoobnbjojaa
open Go.RowKit

theorem wpList_append_new {ops : Array Oper} {rest : List Oper} {o : Oper} {a : Act} {w : World} {Q : Exit → Act → World → Prop} (hgd : o.guard = none) (s x : Operand)
    (ho : o.op = .call { callee := .builtin .append, args := #[s, x], argTypes := #[22, 22] }) (B g : Nat) (hs : a.eval s = .slice (some ⟨g, 0, none⟩) 0 0)
    (hh : w.heap[g]? = some (.cells #[] 3 (0, 0))) (hB : B ≤ g) (A : Option Addr) (n c : Nat) (xs : List Int) (hx : a.eval x = .slice A n c) (hr : RI w A n xs) (hn : n ≤ 1000000)
    (h : ∀ A' c' w' k, OI w' B (.slice A' n c') xs → (Value.slice A' n c').ownBlock = some k → (k = g ∨ k = w.heap.size) → k < w'.heap.size → w.grownBy w' (some g) → wpList Try.prog ops Q rest (a.put o.dst (.slice A' n c')) w') :
    wpList Try.prog ops Q (o :: rest) a w := by
  refine wpList_plain hgd fun K hK' => ?_
  have h1 := dk_append_new (K := K) (Q := Q) (E := True) (ops := ops) hgd s x ho B g hs hh hB A n c xs hx hr hn (fun A' c' w' k h1 h2 h3 h4 h5 => hK' _ _ (h A' c' w' k h1 h2 h3 h4 h5))
  rwa [if_pos (by simp [Region.wanted, hgd])] at h1

/-- The first k half-edges have been brought to their places. -/
def mvF (T m : Nat → Nat) : Nat → Nat → Nat
  | 0 => fun _ => 0
  | k + 1 => upd (mvF T m k) (T k) (T (m k))
theorem mvF_get {T m : Nat → Nat} {n : Nat} (q : Place T n) {k x : Nat} (hk : k ≤ 4 * n) (hx : x < k) : mvF T m k (T x) = T (m x) := by
  induction k with
  | zero => omega
  | succ k ih =>
    show upd _ _ _ _ = _
    unfold upd
    by_cases e : x = k
    · subst e; rw [if_pos rfl]
    · rw [if_neg (fun e2 => e (q.q.inj x k (by omega) (by omega) e2))]
      exact ih (by omega) (by omega)
def RmPost (w : World) (nm : Nat) (T mt : Nat → Nat) (e : Ending) (w' : World) : Prop := ∃ gO, e = .returned (.slice (some ⟨gO, 0, none⟩) nm nm) ∧ Arr w' gO 3 nm (iv (mvF T mt nm)) ∧ w.heap.size ≤ gO ∧ Below w.heap.size w w'
def rX (fl : Bool) (tl : List Int) (h : Nat) : Int := if fl = true then tl.getD (h / 4) 0 - (h : Int) % 4 else (h : Int) % 4 + tl.getD (h / 4) 0

set_option maxHeartbeats 6400000 in
set_option maxRecDepth 100000 in
theorem rmove_false (A B C : Option Addr) (ns cs nm cm co : Nat) (lp : Int) (tl m : List Int) (T : Nat → Nat) (w : World) (hm : RI w B nm m) (ht : RI w C ns tl) (hnm : nm = 4 * ns) (hns : ns ≤ 64) (hM : ∀ h, h < nm → mt m h = (matesOf m h : Nat) ∧ matesOf m h < nm)
    (htl : ∀ c, c < ns → -4 ≤ tl.getD c 0 ∧ tl.getD c 0 ≤ 4) (q : Place T ns) (hT : ∀ h : Nat, h < nm → (h : Int) - (h : Int) % 4 + ((rX false tl h).tmod 4 + 4) % 4 = (T h : Int)) :
    Calls Try.prog 52 #[dval A ns cs B nm cm lp, .slice C ns co, .bool false] w (RmPost w nm T (matesOf m)) := by
  have hmk : ∀ W, (Instr.makeSlice 22 (.int .i64 (nm : Int)) (.int .i64 (nm : Int))).run Try.prog W = .ok (.slice (some ⟨W.heap.size, 0, none⟩) nm nm) (W.alloc (.cells (cellsN nm fun _ => .int .i64 0) 3)) := fun W =>
    make_one (P := Try.prog) Try.underlying22 Try.infoInt rfl nm (by omega) (by omega) W
  have nm1 : (nm : Int) ≤ 256 := by omega
  have nm0 : (0 : Int) ≤ (nm : Int) := Int.natCast_nonneg _
  have HM := Lib.hid hm
  have HT := Lib.hid ht
  have HNM := Lib.hid hnm
  have HMV := Lib.hid hM
  have HTL := Lib.hid htl
  have HTE := Lib.hid hT
  have HQ := Lib.hid q
  obtain ⟨d0, d1, d2, dlt⟩ := DB.new w A ns cs B nm cm lp
  have hb0 := below_alloc w (dbox A ns cs B nm cm lp)
  have hTlt : ∀ x, x < nm → T x < nm := fun x hx => by rw [hnm] at hx ⊢; exact q.q.lt x hx
  have HTT := Lib.hid hTlt
  clear hm ht hnm hM htl hT q hTlt
  unfold dbox at d0 d1 d2 dlt hb0
  go_enter Try.func52, Try.ntmps52
  go_upto_region 1 with fail
  generalize w.alloc (.cells #[.slice A ns cs, .slice B nm cm, .int .i64 lp] 24) = w0 at d0 d1 d2 dlt hb0 ⊢
  have HB := Lib.hid hb0
  have hA0 : Arr (w0.alloc (.cells (cellsN nm fun _ => .int .i64 0) 3)) w0.heap.size 3 nm (iv fun i => if i < 0 then T i else 0) := (Arr.new w0 nm 3 (fun _ => .int .i64 0)).congr fun _ _ => rfl
  have hb1 := below_alloc w0 (.cells (cellsN nm fun _ => .int .i64 0) 3)
  have HD := Lib.hid (⟨d0, d1, d2⟩ : w0.cell? ⟨w.heap.size, 0, none⟩ = some (.slice A ns cs) ∧ w0.cell? ⟨w.heap.size, 1, none⟩ = some (.slice B nm cm) ∧ w0.cell? ⟨w.heap.size, 2, none⟩ = some (.int .i64 lp))
  clear hb0
  go_upto_region 4 with fail
  generalize w0.alloc (.cells (cellsN nm fun _ => .int .i64 0) 3) = w1 at hA0 hb1 ⊢
  obtain ⟨gT, hgT⟩ : ∃ gT, w0.heap.size = gT := ⟨_, rfl⟩
  rw [hgT] at hA0 ⊢
  have HGT : Hid (w0.heap.size = gT ∧ w.heap.size < gT) := Lib.hid ⟨hgT, by omega⟩
  clear hgT d0 d1 d2
  go_loopw [9, 10] (fun i _ wr => ∃ k : Nat, k ≤ nm ∧ i = .int .i64 k ∧ Below w0.heap.size w0 wr ∧ Arr wr gT 3 nm (iv fun i => if i < k then T i else 0)) (fun i _ _ => nm - (intOf i).toNat)
  case atStart => exact ⟨0, by omega, rfl, hb1, hA0⟩
  case round =>
    obtain ⟨k, hk, rfl, hbr, hAr⟩ := hrel
    have hk0 : (0 : Int) ≤ (k : Int) := Int.natCast_nonneg _
    by_cases hkn : k < nm
    · have hk1 : (k : Int) < (nm : Int) := by omega
      have hq4 : k / 4 < ns := by have := HNM.out; omega
      have hbw := below_step HB.out hbr
      obtain ⟨b, off, rfl, hb, hc⟩ := HT.out.2 (by omega)
      have hcell := (hbw.cell (p := ⟨b, off + k / 4, none⟩) hb).trans (hc _ hq4)
      have htv := HTL.out _ hq4
      have hE := HTE.out k hkn
      unfold rX at hE
      rw [if_neg (by decide)] at hE
      have qcell := hAr.cell k hkn
      have qf := hAr.frozen k
      obtain ⟨p, hp⟩ : ∃ p, k / 4 = p := ⟨_, rfl⟩
      obtain ⟨r, hr⟩ : ∃ r, k % 4 = r := ⟨_, rfl⟩
      obtain ⟨tv, htve⟩ : ∃ tv, tl.getD (k / 4) 0 = tv := ⟨_, rfl⟩
      rw [htve] at hcell htv hE
      rw [hp] at hcell hq4
      have hpi : (k : Int) / 4 = (p : Int) := by omega
      have hri : (k : Int) % 4 = (r : Int) := by omega
      rw [hri] at hE
      have p0 : (0 : Int) ≤ (p : Int) := Int.natCast_nonneg _
      have p1 : (p : Int) < (ns : Int) := by omega
      have r0 : (0 : Int) ≤ (r : Int) := Int.natCast_nonneg _
      have r1 : (r : Int) < 4 := by omega
      obtain ⟨t0, t1⟩ := htv
      obtain ⟨z, hz⟩ : ∃ z, ((r : Int) + tv).tmod 4 = z := ⟨_, rfl⟩
      have hzb := tmod4 ((r : Int) + tv)
      rw [hz] at hzb hE
      obtain ⟨z0, z1⟩ := hzb
      obtain ⟨t, htt⟩ : ∃ t : Nat, (z + 4) % 4 = (t : Int) := ⟨((z + 4) % 4).toNat, by omega⟩
      rw [htt] at hE
      have ht0 : (0 : Int) ≤ (t : Int) := Int.natCast_nonneg _
      have ht1 : (t : Int) < 4 := by omega
      obtain ⟨y, hy⟩ : ∃ y, T k = y := ⟨_, rfl⟩
      rw [hy] at hE
      have HN : Hid (Arr (wr.setCell ⟨gT, k, none⟩ (.int .i64 (y : Nat))) gT 3 nm (iv fun i => if i < k + 1 then T i else 0) ∧ Below w0.heap.size w0 (wr.setCell ⟨gT, k, none⟩ (.int .i64 (y : Nat)))) := Lib.hid ⟨(hAr.seti k y).congr fun i hi => by
        show Value.int .i64 (upd _ _ _ i : Nat) = Value.int .i64 _
        unfold upd
        by_cases e : i = k
        · subst e; simp [hy]
        · have : i < k + 1 ↔ i < k := by omega
          simp [e, this], below_set hbr (by have := HGT.out; omega) _⟩
      clear hc hbw hAr htve hp hr hy hbr
      go_wp2
      go_roundw
      case rel => exact ⟨k + 1, by omega, by go_num, HN.out.2, HN.out.1⟩
      case measure => simp [intOf]; omega
    · obtain rfl : nm = k := by omega
      obtain ⟨wO, hwO⟩ : ∃ wO : World, wO = wr := ⟨_, rfl⟩
      subst hwO
      have hA2 : Arr wO gT 3 nm (iv T) := hAr.congr fun i hi => by simp [iv, hi]
      have hA3 : Arr (wO.alloc (.cells (cellsN nm fun _ => .int .i64 0) 3)) wO.heap.size 3 nm (iv (mvF T (matesOf m) 0)) := (Arr.new wO nm 3 (fun _ => .int .i64 0)).congr fun _ _ => rfl
      have hb3 := below_alloc wO (.cells (cellsN nm fun _ => .int .i64 0) 3)
      have hA4 := hA2.keep hb3
      have hb4 := below_step hbr hb3
      have hgTO := hA2.lt
      clear hAr hA2 hkn hk
      go_upto_region 12 with fail
      generalize wO.alloc (.cells (cellsN nm fun _ => .int .i64 0) 3) = w2 at hA3 hA4 hb3 hb4 ⊢
      obtain ⟨gO, hgO⟩ : ∃ gO, wO.heap.size = gO := ⟨_, rfl⟩
      rw [hgO] at hA3 ⊢
      have HGO : Hid (gT < gO ∧ w0.heap.size ≤ gO) := Lib.hid ⟨by omega, by have := hbr.size; omega⟩
      clear hgO hbr hb3
      go_loopw [12] (fun i wr => ∃ j : Nat, j ≤ nm ∧ i = .int .i64 j ∧ Below w0.heap.size w0 wr ∧ Arr wr gT 3 nm (iv T) ∧ Arr wr gO 3 nm (iv (mvF T (matesOf m) j))) (fun i _ => nm - (intOf i).toNat)
      case atStart => exact ⟨0, by omega, rfl, hb4, hA4, hA3⟩
      case round =>
        obtain ⟨j, hj, rfl, hbr, hAt, hAo⟩ := hrel
        have hj0 : (0 : Int) ≤ (j : Int) := Int.natCast_nonneg _
        by_cases hjn : j < nm
        · have hj1 : (j : Int) < (nm : Int) := by omega
          have hbw := below_step HB.out hbr
          obtain ⟨b, off, rfl, hb, hc⟩ := HM.out.2 (by omega)
          obtain ⟨m1, m2⟩ := HMV.out j hjn
          have hcell := (hbw.cell (p := ⟨b, off + j, none⟩) hb).trans (hc _ hjn)
          unfold mt at m1
          rw [m1] at hcell
          have g1 := (hbr.cell (p := ⟨w.heap.size, 1, none⟩) dlt).trans HD.out.2.1
          have c1 := hAt.cell j hjn
          have c2 := hAt.cell (matesOf m j) m2
          have l1 := HTT.out j hjn
          have l2 := HTT.out _ m2
          have c3 := hAo.cell (T j) l1
          have f3 := hAo.frozen (T j)
          unfold iv at c1 c2
          obtain ⟨a, ha⟩ : ∃ a, matesOf m j = a := ⟨_, rfl⟩
          rw [ha] at hcell c2 m2 l2
          obtain ⟨t, ht⟩ : ∃ t, T j = t := ⟨_, rfl⟩
          rw [ht] at c1 c3 f3 l1
          obtain ⟨y, hy⟩ : ∃ y, T a = y := ⟨_, rfl⟩
          rw [hy] at c2 l2
          have a0 : (0 : Int) ≤ (a : Int) := Int.natCast_nonneg _
          have a1 : (a : Int) < (nm : Int) := by omega
          have t0 : (0 : Int) ≤ (t : Int) := Int.natCast_nonneg _
          have t1 : (t : Int) < (nm : Int) := by omega
          have HG := HGO.out
          have HG1 := HGT.out
          have HN : Hid (Arr (wr.setCell ⟨gO, t, none⟩ (.int .i64 (y : Nat))) gO 3 nm (iv (mvF T (matesOf m) (j + 1))) ∧ Arr (wr.setCell ⟨gO, t, none⟩ (.int .i64 (y : Nat))) gT 3 nm (iv T) ∧ Below w0.heap.size w0 (wr.setCell ⟨gO, t, none⟩ (.int .i64 (y : Nat)))) := Lib.hid ⟨by
            show Arr _ gO 3 nm (iv (upd (mvF T (matesOf m) j) (T j) (T (matesOf m j))))
            rw [ha, ht, hy]; exact hAo.seti t y, hAt.far (p := ⟨gO, t, none⟩) (by show gT ≠ gO; omega) _, below_set hbr (by omega) _⟩
          have hbO : b < gO := by omega
          have s1 : (wr.setCell ⟨gO, t, none⟩ (.int .i64 (y : Nat))).cell? ⟨w.heap.size, 1, none⟩ = some (.slice (some ⟨b, off, none⟩) nm cm) := by rw [World.cell?_setCell_other _ _ _ _ (by first | (simp; done) | (simp; omega))]; exact g1
          have s2 : (wr.setCell ⟨gO, t, none⟩ (.int .i64 (y : Nat))).cell? ⟨b, off + j, none⟩ = some (.int .i64 (a : Int)) := by rw [World.cell?_setCell_other _ _ _ _ (by first | (simp; done) | (simp; omega))]; exact hcell
          have s3 : (wr.setCell ⟨gO, t, none⟩ (.int .i64 (y : Nat))).cell? ⟨gT, j, none⟩ = some (.int .i64 (t : Int)) := by rw [World.cell?_setCell_other _ _ _ _ (by first | (simp; done) | (simp; omega))]; exact c1
          have s4 : (wr.setCell ⟨gO, t, none⟩ (.int .i64 (y : Nat))).cell? ⟨gT, a, none⟩ = some (.int .i64 (y : Int)) := by rw [World.cell?_setCell_other _ _ _ _ (by first | (simp; done) | (simp; omega))]; exact c2
          clear hc hbw hAt hAo m1 ha ht hy HG HG1 hbr
          go_wp2
          go_region_held3 (fun w' => w'.cell? ⟨w.heap.size, 1, none⟩ = some (.slice (some ⟨b, off, none⟩) nm cm) ∧ w'.cell? ⟨b, off + j, none⟩ = some (.int .i64 (a : Int)) ∧ w'.cell? ⟨gT, j, none⟩ = some (.int .i64 (t : Int)) ∧ w'.cell? ⟨gT, a, none⟩ = some (.int .i64 (y : Int)))
            (first | exact ⟨g1, hcell, c1, c2⟩ | exact ⟨s1, s2, s3, s4⟩ | go_keep) (fail)
          go_wp2
          go_roundw
          case rel => exact ⟨j + 1, by omega, by go_num, HN.out.2.2.drew, HN.out.2.1.drew, HN.out.1.drew⟩
          case measure => simp [intOf]; omega
        · obtain rfl : nm = j := by omega
          have HF : Hid (RmPost w nm T (matesOf m) (.returned (.slice (some ⟨gO, 0, none⟩) nm nm)) wr) := Lib.hid ⟨gO, rfl, hAo, by have := HGO.out; have := HB.out.size; omega, below_step HB.out hbr⟩
          clear hAt hAo hbr
          go_wp2
          go_ret
          exact HF.out

set_option maxHeartbeats 6400000 in
set_option maxRecDepth 100000 in
theorem rmove_true (A B C : Option Addr) (ns cs nm cm co : Nat) (lp : Int) (tl m : List Int) (T : Nat → Nat) (w : World) (hm : RI w B nm m) (ht : RI w C ns tl) (hnm : nm = 4 * ns) (hns : ns ≤ 64) (hM : ∀ h, h < nm → mt m h = (matesOf m h : Nat) ∧ matesOf m h < nm)
    (htl : ∀ c, c < ns → -4 ≤ tl.getD c 0 ∧ tl.getD c 0 ≤ 4) (q : Place T ns) (hT : ∀ h : Nat, h < nm → (h : Int) - (h : Int) % 4 + ((rX true tl h).tmod 4 + 4) % 4 = (T h : Int)) :
    Calls Try.prog 52 #[dval A ns cs B nm cm lp, .slice C ns co, .bool true] w (RmPost w nm T (matesOf m)) := by
  have hmk : ∀ W, (Instr.makeSlice 22 (.int .i64 (nm : Int)) (.int .i64 (nm : Int))).run Try.prog W = .ok (.slice (some ⟨W.heap.size, 0, none⟩) nm nm) (W.alloc (.cells (cellsN nm fun _ => .int .i64 0) 3)) := fun W =>
    make_one (P := Try.prog) Try.underlying22 Try.infoInt rfl nm (by omega) (by omega) W
  have nm1 : (nm : Int) ≤ 256 := by omega
  have nm0 : (0 : Int) ≤ (nm : Int) := Int.natCast_nonneg _
  have HM := Lib.hid hm
  have HT := Lib.hid ht
  have HNM := Lib.hid hnm
  have HMV := Lib.hid hM
  have HTL := Lib.hid htl
  have HTE := Lib.hid hT
  have HQ := Lib.hid q
  obtain ⟨d0, d1, d2, dlt⟩ := DB.new w A ns cs B nm cm lp
  have hb0 := below_alloc w (dbox A ns cs B nm cm lp)
  have hTlt : ∀ x, x < nm → T x < nm := fun x hx => by rw [hnm] at hx ⊢; exact q.q.lt x hx
  have HTT := Lib.hid hTlt
  clear hm ht hnm hM htl hT q hTlt
  unfold dbox at d0 d1 d2 dlt hb0
  go_enter Try.func52, Try.ntmps52
  go_upto_region 1 with fail
  generalize w.alloc (.cells #[.slice A ns cs, .slice B nm cm, .int .i64 lp] 24) = w0 at d0 d1 d2 dlt hb0 ⊢
  have HB := Lib.hid hb0
  have hA0 : Arr (w0.alloc (.cells (cellsN nm fun _ => .int .i64 0) 3)) w0.heap.size 3 nm (iv fun i => if i < 0 then T i else 0) := (Arr.new w0 nm 3 (fun _ => .int .i64 0)).congr fun _ _ => rfl
  have hb1 := below_alloc w0 (.cells (cellsN nm fun _ => .int .i64 0) 3)
  have HD := Lib.hid (⟨d0, d1, d2⟩ : w0.cell? ⟨w.heap.size, 0, none⟩ = some (.slice A ns cs) ∧ w0.cell? ⟨w.heap.size, 1, none⟩ = some (.slice B nm cm) ∧ w0.cell? ⟨w.heap.size, 2, none⟩ = some (.int .i64 lp))
  clear hb0
  go_upto_region 4 with fail
  generalize w0.alloc (.cells (cellsN nm fun _ => .int .i64 0) 3) = w1 at hA0 hb1 ⊢
  obtain ⟨gT, hgT⟩ : ∃ gT, w0.heap.size = gT := ⟨_, rfl⟩
  rw [hgT] at hA0 ⊢
  have HGT : Hid (w0.heap.size = gT ∧ w.heap.size < gT) := Lib.hid ⟨hgT, by omega⟩
  clear hgT d0 d1 d2
  go_loopw [9, 10] (fun i _ wr => ∃ k : Nat, k ≤ nm ∧ i = .int .i64 k ∧ Below w0.heap.size w0 wr ∧ Arr wr gT 3 nm (iv fun i => if i < k then T i else 0)) (fun i _ _ => nm - (intOf i).toNat)
  case atStart => exact ⟨0, by omega, rfl, hb1, hA0⟩
  case round =>
    obtain ⟨k, hk, rfl, hbr, hAr⟩ := hrel
    have hk0 : (0 : Int) ≤ (k : Int) := Int.natCast_nonneg _
    by_cases hkn : k < nm
    · have hk1 : (k : Int) < (nm : Int) := by omega
      have hq4 : k / 4 < ns := by have := HNM.out; omega
      have hbw := below_step HB.out hbr
      obtain ⟨b, off, rfl, hb, hc⟩ := HT.out.2 (by omega)
      have hcell := (hbw.cell (p := ⟨b, off + k / 4, none⟩) hb).trans (hc _ hq4)
      have htv := HTL.out _ hq4
      have hE := HTE.out k hkn
      unfold rX at hE
      rw [if_pos rfl] at hE
      have qcell := hAr.cell k hkn
      have qf := hAr.frozen k
      obtain ⟨p, hp⟩ : ∃ p, k / 4 = p := ⟨_, rfl⟩
      obtain ⟨r, hr⟩ : ∃ r, k % 4 = r := ⟨_, rfl⟩
      obtain ⟨tv, htve⟩ : ∃ tv, tl.getD (k / 4) 0 = tv := ⟨_, rfl⟩
      rw [htve] at hcell htv hE
      rw [hp] at hcell hq4
      have hpi : (k : Int) / 4 = (p : Int) := by omega
      have hri : (k : Int) % 4 = (r : Int) := by omega
      rw [hri] at hE
      have p0 : (0 : Int) ≤ (p : Int) := Int.natCast_nonneg _
      have p1 : (p : Int) < (ns : Int) := by omega
      have r0 : (0 : Int) ≤ (r : Int) := Int.natCast_nonneg _
      have r1 : (r : Int) < 4 := by omega
      obtain ⟨t0, t1⟩ := htv
      obtain ⟨z, hz⟩ : ∃ z, (tv - (r : Int)).tmod 4 = z := ⟨_, rfl⟩
      have hzb := tmod4 (tv - (r : Int))
      rw [hz] at hzb hE
      obtain ⟨z0, z1⟩ := hzb
      obtain ⟨t, htt⟩ : ∃ t : Nat, (z + 4) % 4 = (t : Int) := ⟨((z + 4) % 4).toNat, by omega⟩
      rw [htt] at hE
      have ht0 : (0 : Int) ≤ (t : Int) := Int.natCast_nonneg _
      have ht1 : (t : Int) < 4 := by omega
      obtain ⟨y, hy⟩ : ∃ y, T k = y := ⟨_, rfl⟩
      rw [hy] at hE
      have HN : Hid (Arr (wr.setCell ⟨gT, k, none⟩ (.int .i64 (y : Nat))) gT 3 nm (iv fun i => if i < k + 1 then T i else 0) ∧ Below w0.heap.size w0 (wr.setCell ⟨gT, k, none⟩ (.int .i64 (y : Nat)))) := Lib.hid ⟨(hAr.seti k y).congr fun i hi => by
        show Value.int .i64 (upd _ _ _ i : Nat) = Value.int .i64 _
        unfold upd
        by_cases e : i = k
        · subst e; simp [hy]
        · have : i < k + 1 ↔ i < k := by omega
          simp [e, this], below_set hbr (by have := HGT.out; omega) _⟩
      clear hc hbw hAr htve hp hr hy hbr
      go_wp2
      go_roundw
      case rel => exact ⟨k + 1, by omega, by go_num, HN.out.2, HN.out.1⟩
      case measure => simp [intOf]; omega
    · obtain rfl : nm = k := by omega
      obtain ⟨wO, hwO⟩ : ∃ wO : World, wO = wr := ⟨_, rfl⟩
      subst hwO
      have hA2 : Arr wO gT 3 nm (iv T) := hAr.congr fun i hi => by simp [iv, hi]
      have hA3 : Arr (wO.alloc (.cells (cellsN nm fun _ => .int .i64 0) 3)) wO.heap.size 3 nm (iv (mvF T (matesOf m) 0)) := (Arr.new wO nm 3 (fun _ => .int .i64 0)).congr fun _ _ => rfl
      have hb3 := below_alloc wO (.cells (cellsN nm fun _ => .int .i64 0) 3)
      have hA4 := hA2.keep hb3
      have hb4 := below_step hbr hb3
      have hgTO := hA2.lt
      clear hAr hA2 hkn hk
      go_upto_region 12 with fail
      generalize wO.alloc (.cells (cellsN nm fun _ => .int .i64 0) 3) = w2 at hA3 hA4 hb3 hb4 ⊢
      obtain ⟨gO, hgO⟩ : ∃ gO, wO.heap.size = gO := ⟨_, rfl⟩
      rw [hgO] at hA3 ⊢
      have HGO : Hid (gT < gO ∧ w0.heap.size ≤ gO) := Lib.hid ⟨by omega, by have := hbr.size; omega⟩
      clear hgO hbr hb3
      go_loopw [12] (fun i wr => ∃ j : Nat, j ≤ nm ∧ i = .int .i64 j ∧ Below w0.heap.size w0 wr ∧ Arr wr gT 3 nm (iv T) ∧ Arr wr gO 3 nm (iv (mvF T (matesOf m) j))) (fun i _ => nm - (intOf i).toNat)
      case atStart => exact ⟨0, by omega, rfl, hb4, hA4, hA3⟩
      case round =>
        obtain ⟨j, hj, rfl, hbr, hAt, hAo⟩ := hrel
        have hj0 : (0 : Int) ≤ (j : Int) := Int.natCast_nonneg _
        by_cases hjn : j < nm
        · have hj1 : (j : Int) < (nm : Int) := by omega
          have hbw := below_step HB.out hbr
          obtain ⟨b, off, rfl, hb, hc⟩ := HM.out.2 (by omega)
          obtain ⟨m1, m2⟩ := HMV.out j hjn
          have hcell := (hbw.cell (p := ⟨b, off + j, none⟩) hb).trans (hc _ hjn)
          unfold mt at m1
          rw [m1] at hcell
          have g1 := (hbr.cell (p := ⟨w.heap.size, 1, none⟩) dlt).trans HD.out.2.1
          have c1 := hAt.cell j hjn
          have c2 := hAt.cell (matesOf m j) m2
          have l1 := HTT.out j hjn
          have l2 := HTT.out _ m2
          have c3 := hAo.cell (T j) l1
          have f3 := hAo.frozen (T j)
          unfold iv at c1 c2
          obtain ⟨a, ha⟩ : ∃ a, matesOf m j = a := ⟨_, rfl⟩
          rw [ha] at hcell c2 m2 l2
          obtain ⟨t, ht⟩ : ∃ t, T j = t := ⟨_, rfl⟩
          rw [ht] at c1 c3 f3 l1
          obtain ⟨y, hy⟩ : ∃ y, T a = y := ⟨_, rfl⟩
          rw [hy] at c2 l2
          have a0 : (0 : Int) ≤ (a : Int) := Int.natCast_nonneg _
          have a1 : (a : Int) < (nm : Int) := by omega
          have t0 : (0 : Int) ≤ (t : Int) := Int.natCast_nonneg _
          have t1 : (t : Int) < (nm : Int) := by omega
          have HG := HGO.out
          have HG1 := HGT.out
          have HN : Hid (Arr (wr.setCell ⟨gO, t, none⟩ (.int .i64 (y : Nat))) gO 3 nm (iv (mvF T (matesOf m) (j + 1))) ∧ Arr (wr.setCell ⟨gO, t, none⟩ (.int .i64 (y : Nat))) gT 3 nm (iv T) ∧ Below w0.heap.size w0 (wr.setCell ⟨gO, t, none⟩ (.int .i64 (y : Nat)))) := Lib.hid ⟨by
            show Arr _ gO 3 nm (iv (upd (mvF T (matesOf m) j) (T j) (T (matesOf m j))))
            rw [ha, ht, hy]; exact hAo.seti t y, hAt.far (p := ⟨gO, t, none⟩) (by show gT ≠ gO; omega) _, below_set hbr (by omega) _⟩
          have hbO : b < gO := by omega
          have s1 : (wr.setCell ⟨gO, t, none⟩ (.int .i64 (y : Nat))).cell? ⟨w.heap.size, 1, none⟩ = some (.slice (some ⟨b, off, none⟩) nm cm) := by rw [World.cell?_setCell_other _ _ _ _ (by first | (simp; done) | (simp; omega))]; exact g1
          have s2 : (wr.setCell ⟨gO, t, none⟩ (.int .i64 (y : Nat))).cell? ⟨b, off + j, none⟩ = some (.int .i64 (a : Int)) := by rw [World.cell?_setCell_other _ _ _ _ (by first | (simp; done) | (simp; omega))]; exact hcell
          have s3 : (wr.setCell ⟨gO, t, none⟩ (.int .i64 (y : Nat))).cell? ⟨gT, j, none⟩ = some (.int .i64 (t : Int)) := by rw [World.cell?_setCell_other _ _ _ _ (by first | (simp; done) | (simp; omega))]; exact c1
          have s4 : (wr.setCell ⟨gO, t, none⟩ (.int .i64 (y : Nat))).cell? ⟨gT, a, none⟩ = some (.int .i64 (y : Int)) := by rw [World.cell?_setCell_other _ _ _ _ (by first | (simp; done) | (simp; omega))]; exact c2
          clear hc hbw hAt hAo m1 ha ht hy HG HG1 hbr
          go_wp2
          go_region_held3 (fun w' => w'.cell? ⟨w.heap.size, 1, none⟩ = some (.slice (some ⟨b, off, none⟩) nm cm) ∧ w'.cell? ⟨b, off + j, none⟩ = some (.int .i64 (a : Int)) ∧ w'.cell? ⟨gT, j, none⟩ = some (.int .i64 (t : Int)) ∧ w'.cell? ⟨gT, a, none⟩ = some (.int .i64 (y : Int)))
            (first | exact ⟨g1, hcell, c1, c2⟩ | exact ⟨s1, s2, s3, s4⟩ | go_keep) (fail)
          go_wp2
          go_roundw
          case rel => exact ⟨j + 1, by omega, by go_num, HN.out.2.2.drew, HN.out.2.1.drew, HN.out.1.drew⟩
          case measure => simp [intOf]; omega
        · obtain rfl : nm = j := by omega
          have HF : Hid (RmPost w nm T (matesOf m) (.returned (.slice (some ⟨gO, 0, none⟩) nm nm)) wr) := Lib.hid ⟨gO, rfl, hAo, by have := HGO.out; have := HB.out.size; omega, below_step HB.out hbr⟩
          clear hAt hAo hbr
          go_wp2
          go_ret
          exact HF.out

end Go.Proofs.Ytdamfoobnbjojaa
