import Derived.Test.YtdamfoobnbjojaaM04
import Derived.ProofKit
import Derived.Lib.SmallJoins
import Derived.Test.YtdamfoobnbjojaaM07
import Derived.Test.YtdamfoobnbjojaaM01
/- Opening a diagram that comes in, and shutting a law's call. -/
namespace Go.Proofs.Ytdamfoobnbjojaa
open Go.ChangeShapes Go.WideShapes Go.ChangeAt Go.RowKit Go.Joins

theorem Try.own : ownKnob Try.prog.godebug = none := by kernel_rfl
theorem Try.laidOut : laidOutB Try.prog = true := by kernel_rfl
theorem Try.cellsI : Try.prog.cellsOf 3 = 1 := by kernel_rfl
theorem Try.cellsD : Try.prog.cellsOf 24 = 3 := by kernel_rfl

def inI (x : Int) : Prop := -9223372036854775808 ≤ x ∧ x ≤ 9223372036854775807
theorem inI_of_wf {x : Int} (h : (Lit.int .i64 x).wf = true) : inI x := by
  have h1 : IntKind.i64.min = -9223372036854775808 := rfl
  have h2 : IntKind.i64.max = 9223372036854775807 := rfl
  simp only [Lit.wf, Bool.and_eq_true, decide_eq_true_eq] at h
  unfold inI; omega

section
variable {H : Type} {enc : TypeId × Value → H} {W : World}

set_option maxRecDepth 100000 in
/-- A slice of ints that comes in reads as a list. -/
theorem open_ri {fuel : Nat} {v : Value} {x : DataW H × List MemPlace} (h : DataW.trod enc Try.prog W 0 (fun _ => true) true fuel 22 [v] = some x) :
    ∃ A n c xs, v = .slice A n c ∧ RI W A n xs ∧ n ≤ 9223372036854775807 ∧ ∀ y ∈ xs, inI y := by
  rcases open_ints Try.underlying22 Try.underlying3 Try.cellsI h with ⟨hcs, _⟩ | ⟨a, len, cap, zs, hcs, _, hl, hm, hz, _, hcell, hwf⟩
  · injection hcs with hcs _
    exact ⟨none, 0, 0, [], hcs, RI.nil _ _, by omega, fun y hy => by cases hy⟩
  · injection hcs with hcs _
    simp only [if_true] at hz
    refine ⟨some a, len, cap, zs.take len, hcs, ⟨by rw [List.length_take]; omega, fun hn => ?_⟩, by unfold maxLen at hm; omega, fun y hy => inI_of_wf (hwf y (List.mem_of_mem_take hy))⟩
    have h0 := hcell 0 (by omega)
    obtain ⟨b, off, spot⟩ := a
    have hspot : spot = none := by simpa [Addr.add] using World.cell?_spot h0
    subst hspot
    refine ⟨b, off, rfl, ?_, fun j hj => ?_⟩
    · have := World.block_lt_of_cell? W _ h0
      simpa [Addr.add] using this
    · have := hcell j (by omega)
      rw [add_plain] at this
      rw [this]
      simp [List.getD, hj]

set_option maxRecDepth 100000 in
/-- A diagram that comes in. -/
theorem open_diag {base : Nat} {v : Value} {d : DataW H} {p : List MemPlace} (hv : Value.okWide Try.prog W .any base 24 v) (h : DataW.Trod enc Try.prog W 0 (fun _ => true) true 24 v d p) :
    ∃ A ns cs B nm cm lp signs mate, v = dval A ns cs B nm cm lp ∧ RI W A ns signs ∧ RI W B nm mate ∧ ns ≤ 9223372036854775807 ∧ nm ≤ 9223372036854775807 ∧ (∀ y ∈ signs, inI y) ∧ (∀ y ∈ mate, inI y) ∧ inI lp := by
  obtain ⟨c0, c1, c2, y0, y1, y2, m, rfl, _, _, hy0, hy1, hy2⟩ := open_agg3 Try.underlying24 (by kernel_rfl) Try.cellsD hv h
  obtain ⟨A, ns, cs, signs, rfl, r1, l1, q1⟩ := open_ri hy0
  obtain ⟨B, nm, cm, mate, rfl, r2, l2, q2⟩ := open_ri hy1
  obtain ⟨x, e0, _, wx⟩ := DataW.trod_int Try.underlying3 hy2
  simp at e0
  subst e0
  exact ⟨A, ns, cs, B, nm, cm, x, signs, mate, rfl, r1, r2, l1, l2, q1, q2, inI_of_wf wx⟩

set_option maxRecDepth 100000 in
theorem trodAll_keep {W' : World} (hb : Below W.heap.size W W') : ∀ {ts : List TypeId} {vs : List Value} {ds : List (DataW H)} {ps : List MemPlace}, (∀ t ∈ ts, Try.prog.readableRec t = true ∧ t < Try.prog.types.size) →
    (∀ x ∈ ps, x.block < W.heap.size) → DataW.TrodAll enc Try.prog W 0 (fun _ => true) true ts vs ds ps → DataW.TrodAll enc Try.prog W' 0 (fun b => decide (b < W.heap.size)) true ts vs ds ps
  | [], [], [], _, _, _, h => h
  | t :: ts, v :: vs, d :: ds, ps, hr, hlt, h => by
    obtain ⟨p, q, h1, h2, rfl⟩ := h
    obtain ⟨r1, r2⟩ := hr t (by simp)
    exact ⟨p, q, Below.trod Try.laidOut r1 r2 h1 hb (fun x hx => hlt x (by simp [hx])), trodAll_keep hb (fun t ht => hr t (by simp [ht])) (fun x hx => hlt x (by simp [hx])) h2, rfl⟩
  | [], _ :: _, _, _, _, _, h => h.elim
  | [], [], _ :: _, _, _, _, h => h.elim
  | _ :: _, [], _, _, _, _, h => h.elim
  | _ :: _, _ :: _, [], _, _, _, h => h.elim

set_option maxRecDepth 100000 in
/-- A law that answers true and leaves all below as it was meets its specification. -/
theorem law_post {f : Func} {s : ChangeSpec} {args : Array Value} {ds gs : List (DataW H)} {before : List MemPlace} {W' : World}
    (hres : f.resultTypes = #[4]) (hvars : s.vars = []) (hpar : ∀ t ∈ f.params.toList, Try.prog.readableRec t = true ∧ t < Try.prog.types.size)
    (hspec : (s.fn H (ds ++ gs)).results = [.lit (.bool true)] ∧ (s.fn H (ds ++ gs)).args = ds ∧ (s.fn H (ds ++ gs)).vars = [])
    (hW : DataW.Whole enc Try.prog f.params.toList s.vars false W args.toList ds gs before) (hb : Below W.heap.size W W') :
    s.post enc Try.prog f false true false false W args (.bool true) W' := by
  have hlt := fun x hx => hW.lt x hx
  obtain ⟨p, q, hA, hV, e, _⟩ := id hW
  rw [hvars] at hV
  obtain ⟨rfl, rfl⟩ := trodVars_none hV
  rw [List.append_nil] at e
  subst e
  refine ⟨ds, [], before, [], before, [], hW, ?_, ?_, ?_, hb.frame _, fun h => by cases h⟩
  · rw [hspec.1, hres]
    exact trodAll_mk1 (shut_bool Try.underlying4 true)
  · rw [hspec.2.1]
    exact trodAll_keep hb hpar hlt hA
  · rw [hvars, hspec.2.2]
    rfl
end

end Go.Proofs.Ytdamfoobnbjojaa

/- Walk: awake and few of layer 6. -/
namespace Go.Proofs.Ytdamfoobnbjojaa
open Go.RowKit

theorem RI.litM (w : World) (xs : List Int) : RI (w.alloc (.cells (ints xs).toArray 3)) (some ⟨w.heap.size, 0, none⟩) xs.length xs :=
  ⟨rfl, fun _ => ⟨w.heap.size, 0, rfl, by simp, fun j hj => by
    rw [World.cell?_alloc_at _ _ _ _ rfl, Nat.zero_add]
    simp [ints, List.getD, hj]⟩⟩
theorem kk_mirror {s1 m1 : List Int} (h : Moved (opT 0 0 kkS) (opP 0 0) 1 kkS kkM s1 m1) : s1 = [-1] ∧ m1 = [3, 2, 1, 0] := by
  have h2 : Moved (opT 0 0 kkS) (opP 0 0) 1 kkS kkM [-1] [3, 2, 1, 0] := ⟨rfl, rfl, by decide, by decide⟩
  exact h.uniq h2 (op_place _ _ _ _) (by decide) (fun _ _ => rfl) (fun _ _ => rfl)
theorem eqD_refl (s m : List Int) (lp : Int) : eqD s m lp s m lp = true := by unfold eqD; simp
theorem kk_smL : smL kkS kkM 0 0 = 2 := by decide
/-- The kink, with room for nothing more. -/
theorem kk_mirror_any (A B : Option Addr) (W : World) (h : DV W A 1 B 4 kkS kkM) : Calls Try.prog 13 #[dval A 1 1 B 4 4 0] W fun e w' => ∃ A' cs B' cm, e = .returned (.tuple #[dval A' 1 cs B' 4 cm 0, .int .i64 0]) ∧ RI w' A' 1 [-1] ∧ RI w' B' 4 [3, 2, 1, 0] ∧ Below W.heap.size W w' := by
  refine (mirror_yes A B 1 1 4 4 0 kkS kkM W h kk_valid).mono ?_
  rintro e w' ⟨A', cs, B', cm, s', m', rfl, oS, oM, hM, hb⟩
  obtain ⟨rfl, rfl⟩ := kk_mirror hM
  exact ⟨A', cs, B', cm, rfl, oS.ri, oM.ri, hb⟩
theorem kk_smooth_any (A B : Option Addr) (W : World) (h : DV W A 1 B 4 kkS kkM) : Calls Try.prog 24 #[dval A 1 1 B 4 4 0, .int .i64 0] W fun e w' => ∃ A' cs B' cm, e = .returned (.tuple #[dval A' 0 cs B' 0 cm 2, .int .i64 0]) ∧ Below W.heap.size W w' := by
  refine (smooth_yes A B 1 1 4 4 0 kkS kkM 0 W h kk_valid (by omega) (by omega) (by omega) (by rw [kk_smL]; omega)).mono ?_
  rintro e w' ⟨A', cs, B', cm, rfl, _, _, _, _, hb⟩
  exact ⟨A', cs, B', cm, by rw [kk_smL], hb⟩

set_option maxHeartbeats 3200000 in
set_option maxRecDepth 100000 in
theorem mawake_any (w : World) : Calls Try.prog 11 #[] w fun e w' => e = .returned (.bool true) ∧ Below w.heap.size w w' := by
  have h1 := RI.litM w kkS
  have hb1 := below_alloc w (.cells (ints kkS).toArray 3)
  have h2 := RI.litM (w.alloc (.cells (ints kkS).toArray 3)) kkM
  have hb2 := below_alloc (w.alloc (.cells (ints kkS).toArray 3)) (.cells (ints kkM).toArray 3)
  have hb3 := below_alloc ((w.alloc (.cells (ints kkS).toArray 3)).alloc (.cells (ints kkM).toArray 3)) (dbox (some ⟨w.heap.size, 0, none⟩) 1 1 (some ⟨w.heap.size + 1, 0, none⟩) 4 4 0)
  have hd := DB.new ((w.alloc (.cells (ints kkS).toArray 3)).alloc (.cells (ints kkM).toArray 3)) (some ⟨w.heap.size, 0, none⟩) 1 1 (some ⟨w.heap.size + 1, 0, none⟩) 4 4 0
  have hs1 : (w.alloc (.cells (ints kkS).toArray 3)).heap.size = w.heap.size + 1 := by simp
  have hs2 : ((w.alloc (.cells (ints kkS).toArray 3)).alloc (.cells (ints kkM).toArray 3)).heap.size = w.heap.size + 2 := by simp
  rw [hs1] at h2
  rw [hs2] at hd
  have hdv : DV (((w.alloc (.cells (ints kkS).toArray 3)).alloc (.cells (ints kkM).toArray 3)).alloc (dbox (some ⟨w.heap.size, 0, none⟩) 1 1 (some ⟨w.heap.size + 1, 0, none⟩) 4 4 0)) (some ⟨w.heap.size, 0, none⟩) 1 (some ⟨w.heap.size + 1, 0, none⟩) 4 kkS kkM :=
    ⟨(h1.keep hb2).keep hb3, h2.keep hb3, by omega, by omega, by decide⟩
  have hb := below_step (below_step hb1 hb2) hb3
  clear h1 h2 hb1 hb2 hb3 hs1 hs2
  have e1 : (ints kkS).toArray = #[.int .i64 1] := rfl
  have e2 : (ints kkM).toArray = #[.int .i64 1, .int .i64 0, .int .i64 3, .int .i64 2] := rfl
  unfold dbox at hd hdv hb
  rw [e1, e2] at hd hdv hb
  clear e1 e2
  have CM : ∀ (W : World) (A B : Option Addr), DV W A 1 B 4 kkS kkM → Hid (Calls Try.prog 13 #[dval A 1 1 B 4 4 0] W fun e w' => ∃ A' cs B' cm, e = .returned (.tuple #[dval A' 1 cs B' 4 cm 0, .int .i64 0]) ∧ RI w' A' 1 [-1] ∧ RI w' B' 4 [3, 2, 1, 0] ∧ Below W.heap.size W w') := fun W A B h => Lib.hid (kk_mirror_any A B W h)
  have CS : ∀ (W : World) (A B : Option Addr), DV W A 1 B 4 kkS kkM → Hid (Calls Try.prog 24 #[dval A 1 1 B 4 4 0, .int .i64 0] W fun e w' => ∃ A' cs B' cm, e = .returned (.tuple #[dval A' 0 cs B' 0 cm 2, .int .i64 0]) ∧ Below W.heap.size W w') := fun W A B h => Lib.hid (kk_smooth_any A B W h)
  go_enter Try.func11, Try.ntmps11
  go_upto_region 2 with fail
  generalize ((w.alloc (.cells #[.int .i64 1] 3)).alloc (.cells #[.int .i64 1, .int .i64 0, .int .i64 3, .int .i64 2] 3)).alloc (.cells #[.slice (some ⟨w.heap.size, 0, none⟩) 1 1, .slice (some ⟨w.heap.size + 1, 0, none⟩) 4 4, .int .i64 0] 24) = wK at hd hdv hb ⊢
  rw [show w.heap.size + 1 + 1 = w.heap.size + 2 by omega]
  obtain ⟨g1, hg1⟩ : ∃ g1, w.heap.size + 2 = g1 := ⟨_, rfl⟩
  rw [hg1] at hd ⊢
  obtain ⟨d0, d1, d2, dlt⟩ := hd
  have HB := Lib.hid hb
  have HDV := Lib.hid hdv
  have C1 := CM wK _ _ hdv
  clear hb hdv hg1 CM
  go_upto_region 3 with (go_at_call 13; ((with_reducible refine C1.out.mono ?_); rintro e w1 ⟨A1, c1, B1, m1, rfl, rS, rM, hb1⟩))
  have hbx := below_alloc w1 (dbox A1 1 c1 B1 4 m1 0)
  have hd1 := DB.new w1 A1 1 c1 B1 4 m1 0
  have rS1 := rS.keep hbx
  have rM1 := rM.keep hbx
  have hbK := below_step hb1 hbx
  unfold dbox at hbx hd1 rS1 rM1 hbK
  generalize w1.alloc (.cells #[.slice A1 1 c1, .slice B1 4 m1, .int .i64 0] 24) = wL at hbx hd1 rS1 rM1 hbK ⊢
  obtain ⟨g2, hg2⟩ : ∃ g2, w1.heap.size = g2 := ⟨_, rfl⟩
  rw [hg2] at hd1 ⊢
  have x0 := (hbK.cell (p := ⟨g1, 0, none⟩) dlt).trans d0
  have x1 := (hbK.cell (p := ⟨g1, 1, none⟩) dlt).trans d1
  have x2 := (hbK.cell (p := ⟨g1, 2, none⟩) dlt).trans d2
  have C2 := CS wL _ _ (HDV.out.keep hbK)
  clear CS rS rM hb1 hbx hg2 d0 d1 d2
  go_upto_region 4 with (go_at_call 24; ((with_reducible refine C2.out.mono ?_); rintro e w2 ⟨A2, c2, B2, m2, rfl, hb2⟩))
  have hbx := below_alloc w2 (dbox A2 0 c2 B2 0 m2 2)
  obtain ⟨s0, s1, s2, slt⟩ := DB.new w2 A2 0 c2 B2 0 m2 2
  have hbL := below_step hb2 hbx
  unfold dbox at hbx s0 s1 s2 slt hbL
  generalize w2.alloc (.cells #[.slice A2 0 c2, .slice B2 0 m2, .int .i64 2] 24) = wM at hbx s0 s1 s2 slt hbL ⊢
  obtain ⟨g3, hg3⟩ : ∃ g3, w2.heap.size = g3 := ⟨_, rfl⟩
  rw [hg3] at s0 s1 s2 slt ⊢
  obtain ⟨y0, y1, y2, ylt⟩ := hd1.keep hbL
  have h1 := RI.litM wM [-1]
  have hb3 := below_alloc wM (.cells (ints [-1]).toArray 3)
  have h2 := RI.litM (wM.alloc (.cells (ints [-1]).toArray 3)) [3, 2, 1, 0]
  have hb4 := below_alloc (wM.alloc (.cells (ints [-1]).toArray 3)) (.cells (ints [3, 2, 1, 0]).toArray 3)
  have hs1 : (wM.alloc (.cells (ints [-1]).toArray 3)).heap.size = wM.heap.size + 1 := by simp
  rw [hs1] at h2
  have hb34 := below_step hb3 hb4
  have CE := Lib.hid (requal_any A1 B1 (some ⟨wM.heap.size, 0, none⟩) (some ⟨wM.heap.size + 1, 0, none⟩) 1 c1 4 m1 1 1 4 4 0 0 [-1] [3, 2, 1, 0] [-1] [3, 2, 1, 0] _ ((rS1.keep hbL).keep hb34) ((rM1.keep hbL).keep hb34) (h1.keep hb4) h2 (by omega) (by omega) (by omega) (by omega))
  have e1 : (ints [-1]).toArray = #[.int .i64 (-1)] := rfl
  have e2 : (ints [3, 2, 1, 0]).toArray = #[.int .i64 3, .int .i64 2, .int .i64 1, .int .i64 0] := rfl
  rw [e1, e2, show eqD [-1] [3, 2, 1, 0] 0 [-1] [3, 2, 1, 0] 0 = true from by decide] at CE
  rw [e1, e2] at hb34
  have HB34 := Lib.hid hb34
  have hslt := hb34.size
  have z1 : ∀ W, Below wM.heap.size wM W → W.cell? ⟨g3, 1, none⟩ = some (.slice B2 0 m2) ∧ W.cell? ⟨g3, 2, none⟩ = some (.int .i64 2) := fun W h => ⟨(h.cell (p := ⟨g3, 1, none⟩) slt).trans s1, (h.cell (p := ⟨g3, 2, none⟩) slt).trans s2⟩
  have HZ := Lib.hid z1
  have HBM := Lib.hid (below_step (below_step HB.out hbK) hbL)
  clear e1 e2 h1 h2 hb3 hb4 hb34 hs1 z1 x0 x1 x2 hg3 hbx hslt
  go_wp2_with (go_at_call 18; ((with_reducible refine CE.out.mono ?_); rintro e w5 ⟨rfl, hb5⟩; obtain ⟨u1, u2⟩ := HZ.out w5 (below_step HB34.out hb5)))
  go_ret
  exact ⟨rfl, below_step HBM.out (below_step HB34.out hb5)⟩

def fewM (ns nm : Nat) : Bool := decide (ns ≤ 14) && decide (nm ≤ 70)
theorem mfew_any (A B : Option Addr) (ns cs nm cm : Nat) (lp : Int) (w : World) (hns : ns ≤ 9223372036854775807) (hnm : nm ≤ 9223372036854775807) :
    Calls Try.prog 12 #[dval A ns cs B nm cm lp] w fun e w' => e = .returned (.bool (fewM ns nm)) ∧ Below w.heap.size w w' := by
  obtain ⟨d0, d1, d2, dlt⟩ := DB.new w A ns cs B nm cm lp
  have HB := Lib.hid (below_alloc w (dbox A ns cs B nm cm lp))
  by_cases h1 : ns ≤ 14
  · have h1' : (ns : Int) ≤ 14 := by omega
    by_cases h2 : nm ≤ 70
    · have h2' : (nm : Int) ≤ 70 := by omega
      have HE : Hid (fewM ns nm = true) := Lib.hid (by simp [fewM, h1, h2])
      clear h1 h2
      go_enter Try.func12, Try.ntmps12
      go_wp2
      go_ret
      exact ⟨ret_bool HE.out.symm, HB.out⟩
    · have h2' : ¬ (nm : Int) ≤ 70 := by omega
      have HE : Hid (fewM ns nm = false) := Lib.hid (by simp [fewM, h2])
      clear h1 h2
      go_enter Try.func12, Try.ntmps12
      go_wp2
      go_ret
      exact ⟨ret_bool HE.out.symm, HB.out⟩
  · have h1' : ¬ (ns : Int) ≤ 14 := by omega
    have HE : Hid (fewM ns nm = false) := Lib.hid (by simp [fewM, h1])
    clear h1
    go_enter Try.func12, Try.ntmps12
    go_wp2
    go_ret
    exact ⟨ret_bool HE.out.symm, HB.out⟩

theorem fewM_out {ns nm : Nat} (h : fewM ns nm = true) : ns ≤ 14 ∧ nm ≤ 70 := by unfold fewM at h; simpa using h
theorem DV.ofI {w : World} {A B : Option Addr} {ns nm : Nat} {s m : List Int} (hs : RI w A ns s) (hm : RI w B nm m) (hmI : ∀ z ∈ m, inI z) (h : fewM ns nm = true) : DV w A ns B nm s m := by
  obtain ⟨h1, h2⟩ := fewM_out h
  refine ⟨hs, hm, by omega, by omega, fun j hj => ?_⟩
  have hl := hm.1
  unfold mt
  have e : m.getD j 0 = m[j]'(by omega) := by simp [List.getD, show j < m.length by omega]
  rw [e]
  exact hmI _ (List.getElem_mem _)

end Go.Proofs.Ytdamfoobnbjojaa

/- Walk: operate, for the four operations that concern no component. -/
namespace Go.Proofs.Ytdamfoobnbjojaa
open Go.RowKit

theorem OI.frs {w : World} {B n c : Nat} {A : Option Addr} {xs : List Int} (h : OI w B (.slice A n c) xs) : ∀ b o, 0 < n → A = some ⟨b, o, none⟩ → B ≤ b := fun b o hn e => by
  rcases h.2 with ⟨e1, _⟩ | ⟨g, cap, cur, e1, hg, _⟩
  · injection e1 with _ e2; omega
  · injection e1 with e2; rw [e] at e2; injection e2 with e2; injection e2 with e2; omega
theorem RI.set3f {w : World} {A : Option Addr} {n g : Nat} {xs : List Int} (h : RI w A n xs) (hg : ∀ b o, 0 < n → A = some ⟨b, o, none⟩ → g ≠ b) (x y z : Value) : RI (set3 w g x y z) A n xs :=
  ⟨h.1, fun hn => by
    obtain ⟨b, off, e, hlt, hc⟩ := h.2 hn
    refine ⟨b, off, e, by simp [World.setCell]; exact hlt, fun j hj => (set3_far w g x y z (hg b off hn e) _).trans (hc j hj)⟩⟩
/-- operate has carried the operation q out, at the crossing j. -/
def OpeYes (w : World) (ns nm : Nat) (lp : Int) (s m : List Int) (q j : Nat) (e : Ending) (w' : World) : Prop :=
  ∃ A cs B cm s' m', e = .returned (.tuple #[dval A ns cs B nm cm lp, .bool true]) ∧ RI w' A ns s' ∧ RI w' B nm m' ∧ (∀ b o, 0 < ns → A = some ⟨b, o, none⟩ → w.heap.size ≤ b) ∧ (∀ b o, 0 < nm → B = some ⟨b, o, none⟩ → w.heap.size ≤ b) ∧
    Moved (opT q j s) (opP q j) ns s m s' m' ∧ Below w.heap.size w w'
theorem opT_irr (q j j' : Nat) (hq : q < 3) (s : List Int) : opT q j s = opT q j' s := by
  have : q = 0 ∨ q = 1 ∨ q = 2 := by omega
  rcases this with rfl | rfl | rfl <;> rfl
theorem opP_irr (q j j' : Nat) (hq : q < 3) : opP q j = opP q j' := by
  have : q = 0 ∨ q = 1 ∨ q = 2 := by omega
  rcases this with rfl | rfl | rfl <;> rfl

set_option maxHeartbeats 3200000 in
set_option maxRecDepth 100000 in
theorem operate0 (A B : Option Addr) (ns cs nm cm : Nat) (lp : Int) (s m : List Int) (k : Nat) (w : World) (h : DV w A ns B nm s m) (hv : validB s m lp = true) (_hk : k ≤ 255) :
    Calls Try.prog 30 #[dval A ns cs B nm cm lp, .int .i64 0, .int .i64 (k : Nat)] w (OpeYes w ns nm lp s m 0 (k % ns)) := by
  have hb1 := below_alloc w (dbox A ns cs B nm cm lp)
  have hb2 := below_alloc (w.alloc (dbox A ns cs B nm cm lp)) (.cells #[.slice none 0 0, .slice none 0 0, .int .i64 0] 24)
  have hd := (DB.new w A ns cs B nm cm lp).keep hb2
  have hdf : ∀ i, ((w.alloc (dbox A ns cs B nm cm lp)).alloc (.cells #[.slice none 0 0, .slice none 0 0, .int .i64 0] 24)).frozen? ⟨w.heap.size, i, none⟩ = false := fun i => (hb2.frozen (p := ⟨w.heap.size, i, none⟩) (by simp)).trans (World.frozen?_alloc_at _ _ _ _ rfl)
  have hbx := bx0_new (w.alloc (dbox A ns cs B nm cm lp))
  have hb := below_step hb1 hb2
  have hsz : (w.alloc (dbox A ns cs B nm cm lp)).heap.size = w.heap.size + 1 := by simp
  rw [hsz] at hbx
  have hsz2 : ((w.alloc (dbox A ns cs B nm cm lp)).alloc (.cells #[.slice none 0 0, .slice none 0 0, .int .i64 0] 24)).heap.size = w.heap.size + 2 := by simp
  have HH := Lib.hid h
  have HV := Lib.hid hv
  have HL := Lib.hid (And.intro h.hs.1 h.hm.1)
  obtain ⟨hnm, hns, _⟩ := valid_data hv h.hs.1 h.hm.1
  have HNM := Lib.hid hnm
  clear hb1 hb2 h hv hsz hnm
  unfold dbox at hd hdf hbx hb hsz2
  go_enter Try.func30, Try.ntmps30
  go_upto_region 1 with fail
  generalize (w.alloc (.cells #[.slice A ns cs, .slice B nm cm, .int .i64 lp] 24)).alloc (.cells #[.slice none 0 0, .slice none 0 0, .int .i64 0] 24) = w0 at hd hdf hbx hb hsz2 ⊢
  obtain ⟨gd, hgd⟩ : ∃ gd, w.heap.size = gd := ⟨_, rfl⟩
  obtain ⟨gr, hgr⟩ : ∃ gr, gd + 1 = gr := ⟨_, rfl⟩
  rw [hgd] at hd hdf hsz2 hbx ⊢
  rw [hgr] at hbx ⊢
  have HBX := Lib.hid hbx
  have HB := Lib.hid hb
  have HDF := Lib.hid hdf
  have HLT : Hid (gd < gr ∧ gr < w0.heap.size ∧ w.heap.size = gd) := Lib.hid ⟨by omega, by omega, hgd⟩
  obtain ⟨d0, d1, d2, dlt⟩ := hd
  have hne : gd ≠ gr := by omega
  clear hb hbx hgr hgd hsz2 hdf
  have CM := Lib.hid (mirror_yes A B ns cs nm cm lp s m w0 (HH.out.keep HB.out) HV.out)
  go_wp2_with (go_at_call 13; ((with_reducible refine CM.out.mono ?_); rintro e w1 ⟨A1, c1, B1, m1, s1, l1, rfl, oS, oM, hM, hb1⟩; have r0 := (hb1.cell (p := ⟨gd, 0, none⟩) dlt).trans d0; have r1 := (hb1.cell (p := ⟨gd, 1, none⟩) dlt).trans d1; have r2 := (hb1.cell (p := ⟨gd, 2, none⟩) dlt).trans d2; have f0 := (hb1.frozen (p := ⟨gd, 0, none⟩) dlt).trans (HDF.out 0); have f1 := (hb1.frozen (p := ⟨gd, 1, none⟩) dlt).trans (HDF.out 1); have f2 := (hb1.frozen (p := ⟨gd, 2, none⟩) dlt).trans (HDF.out 2); obtain ⟨k0, k1, k2⟩ := set3_cells w1 gd (.slice A1 ns c1) (.slice B1 nm m1) (.int .i64 lp) r0 r1 r2; have hr := HBX.out.kp hb1; have x0 := (set3_far w1 gd (.slice A1 ns c1) (.slice B1 nm m1) (.int .i64 lp) hne 0).trans hr.1.1; have x1 := (set3_far w1 gd (.slice A1 ns c1) (.slice B1 nm m1) (.int .i64 lp) hne 1).trans hr.1.2.1; have x2 := (set3_far w1 gd (.slice A1 ns c1) (.slice B1 nm m1) (.int .i64 lp) hne 2).trans hr.1.2.2.1; have y0 := hr.2 0; have y1 := hr.2 1; have y2 := hr.2 2))
  obtain ⟨q0, q1, q2⟩ := set3_cells (set3 w1 gd (.slice A1 ns c1) (.slice B1 nm m1) (.int .i64 lp)) gr (.slice A1 ns c1) (.slice B1 nm m1) (.int .i64 lp) x0 x1 x2
  have HF : Hid (OpeYes w ns nm lp s m 0 (k % ns) (.returned (.tuple #[dval A1 ns c1 B1 nm m1 lp, .bool true])) (set3 (set3 w1 gd (.slice A1 ns c1) (.slice B1 nm m1) (.int .i64 lp)) gr (.slice A1 ns c1) (.slice B1 nm m1) (.int .i64 lp))) := Lib.hid (by
    have hg := HLT.out
    have h0 := HB.out.size
    have hM2 : Moved (opT 0 (k % ns) s) (opP 0 (k % ns)) ns s m s1 l1 := by rw [opT_irr 0 (k % ns) 0 (by omega) s, opP_irr 0 (k % ns) 0 (by omega)]; exact hM
    have n1 : ∀ g, g < w0.heap.size → (Value.slice A1 ns c1).ownBlock ≠ some g := fun g hg e => by have := (World.ownsRow.lt oS g e).1; omega
    have n2 : ∀ g, g < w0.heap.size → (Value.slice B1 nm m1).ownBlock ≠ some g := fun g hg e => by have := (World.ownsRow.lt oM g e).1; omega
    exact ⟨A1, c1, B1, m1, s1, l1, rfl, ((oS.set3 (n1 _ (by omega)) _ _ _).set3 (n1 _ (by omega)) _ _ _).ri, ((oM.set3 (n2 _ (by omega)) _ _ _).set3 (n2 _ (by omega)) _ _ _).ri, fun b o hn e => by have := oS.frs b o hn e; omega, fun b o hn e => by have := oM.frs b o hn e; omega, hM2,
      set3_below (set3_below (below_step HB.out hb1) (by omega) _ _ _) (by omega) _ _ _⟩)
  exact bodyPost_ret (v := .tuple #[dval A1 ns c1 B1 nm m1 lp, .bool true]) (by simp [results, Try.results30, go_sem, q0, q1, q2]) rfl HF.out

set_option maxHeartbeats 3200000 in
set_option maxRecDepth 100000 in
theorem operate1 (A B : Option Addr) (ns cs nm cm : Nat) (lp : Int) (s m : List Int) (k : Nat) (w : World) (h : DV w A ns B nm s m) (hv : validB s m lp = true) (_hk : k ≤ 255) :
    Calls Try.prog 30 #[dval A ns cs B nm cm lp, .int .i64 1, .int .i64 (k : Nat)] w (OpeYes w ns nm lp s m 1 (k % ns)) := by
  have hb1 := below_alloc w (dbox A ns cs B nm cm lp)
  have hb2 := below_alloc (w.alloc (dbox A ns cs B nm cm lp)) (.cells #[.slice none 0 0, .slice none 0 0, .int .i64 0] 24)
  have hd := (DB.new w A ns cs B nm cm lp).keep hb2
  have hdf : ∀ i, ((w.alloc (dbox A ns cs B nm cm lp)).alloc (.cells #[.slice none 0 0, .slice none 0 0, .int .i64 0] 24)).frozen? ⟨w.heap.size, i, none⟩ = false := fun i => (hb2.frozen (p := ⟨w.heap.size, i, none⟩) (by simp)).trans (World.frozen?_alloc_at _ _ _ _ rfl)
  have hbx := bx0_new (w.alloc (dbox A ns cs B nm cm lp))
  have hb := below_step hb1 hb2
  have hsz : (w.alloc (dbox A ns cs B nm cm lp)).heap.size = w.heap.size + 1 := by simp
  rw [hsz] at hbx
  have hsz2 : ((w.alloc (dbox A ns cs B nm cm lp)).alloc (.cells #[.slice none 0 0, .slice none 0 0, .int .i64 0] 24)).heap.size = w.heap.size + 2 := by simp
  have HH := Lib.hid h
  have HV := Lib.hid hv
  have HL := Lib.hid (And.intro h.hs.1 h.hm.1)
  obtain ⟨hnm, hns, _⟩ := valid_data hv h.hs.1 h.hm.1
  have HNM := Lib.hid hnm
  clear hb1 hb2 h hv hsz hnm
  unfold dbox at hd hdf hbx hb hsz2
  go_enter Try.func30, Try.ntmps30
  go_upto_region 1 with fail
  generalize (w.alloc (.cells #[.slice A ns cs, .slice B nm cm, .int .i64 lp] 24)).alloc (.cells #[.slice none 0 0, .slice none 0 0, .int .i64 0] 24) = w0 at hd hdf hbx hb hsz2 ⊢
  obtain ⟨gd, hgd⟩ : ∃ gd, w.heap.size = gd := ⟨_, rfl⟩
  obtain ⟨gr, hgr⟩ : ∃ gr, gd + 1 = gr := ⟨_, rfl⟩
  rw [hgd] at hd hdf hsz2 hbx ⊢
  rw [hgr] at hbx ⊢
  have HBX := Lib.hid hbx
  have HB := Lib.hid hb
  have HDF := Lib.hid hdf
  have HLT : Hid (gd < gr ∧ gr < w0.heap.size ∧ w.heap.size = gd) := Lib.hid ⟨by omega, by omega, hgd⟩
  obtain ⟨d0, d1, d2, dlt⟩ := hd
  have hne : gd ≠ gr := by omega
  clear hb hbx hgr hgd hsz2 hdf
  have CM := Lib.hid (reflect_yes A B ns cs nm cm lp s m w0 (HH.out.keep HB.out) HV.out)
  go_wp2_with (go_at_call 14; ((with_reducible refine CM.out.mono ?_); rintro e w1 ⟨A1, c1, B1, m1, s1, l1, rfl, oS, oM, hM, hb1⟩; have r0 := (hb1.cell (p := ⟨gd, 0, none⟩) dlt).trans d0; have r1 := (hb1.cell (p := ⟨gd, 1, none⟩) dlt).trans d1; have r2 := (hb1.cell (p := ⟨gd, 2, none⟩) dlt).trans d2; have f0 := (hb1.frozen (p := ⟨gd, 0, none⟩) dlt).trans (HDF.out 0); have f1 := (hb1.frozen (p := ⟨gd, 1, none⟩) dlt).trans (HDF.out 1); have f2 := (hb1.frozen (p := ⟨gd, 2, none⟩) dlt).trans (HDF.out 2); obtain ⟨k0, k1, k2⟩ := set3_cells w1 gd (.slice A1 ns c1) (.slice B1 nm m1) (.int .i64 lp) r0 r1 r2; have hr := HBX.out.kp hb1; have x0 := (set3_far w1 gd (.slice A1 ns c1) (.slice B1 nm m1) (.int .i64 lp) hne 0).trans hr.1.1; have x1 := (set3_far w1 gd (.slice A1 ns c1) (.slice B1 nm m1) (.int .i64 lp) hne 1).trans hr.1.2.1; have x2 := (set3_far w1 gd (.slice A1 ns c1) (.slice B1 nm m1) (.int .i64 lp) hne 2).trans hr.1.2.2.1; have y0 := hr.2 0; have y1 := hr.2 1; have y2 := hr.2 2))
  obtain ⟨q0, q1, q2⟩ := set3_cells (set3 w1 gd (.slice A1 ns c1) (.slice B1 nm m1) (.int .i64 lp)) gr (.slice A1 ns c1) (.slice B1 nm m1) (.int .i64 lp) x0 x1 x2
  have HF : Hid (OpeYes w ns nm lp s m 1 (k % ns) (.returned (.tuple #[dval A1 ns c1 B1 nm m1 lp, .bool true])) (set3 (set3 w1 gd (.slice A1 ns c1) (.slice B1 nm m1) (.int .i64 lp)) gr (.slice A1 ns c1) (.slice B1 nm m1) (.int .i64 lp))) := Lib.hid (by
    have hg := HLT.out
    have h0 := HB.out.size
    have hM2 : Moved (opT 1 (k % ns) s) (opP 1 (k % ns)) ns s m s1 l1 := by rw [opT_irr 1 (k % ns) 0 (by omega) s, opP_irr 1 (k % ns) 0 (by omega)]; exact hM
    have n1 : ∀ g, g < w0.heap.size → (Value.slice A1 ns c1).ownBlock ≠ some g := fun g hg e => by have := (World.ownsRow.lt oS g e).1; omega
    have n2 : ∀ g, g < w0.heap.size → (Value.slice B1 nm m1).ownBlock ≠ some g := fun g hg e => by have := (World.ownsRow.lt oM g e).1; omega
    exact ⟨A1, c1, B1, m1, s1, l1, rfl, ((oS.set3 (n1 _ (by omega)) _ _ _).set3 (n1 _ (by omega)) _ _ _).ri, ((oM.set3 (n2 _ (by omega)) _ _ _).set3 (n2 _ (by omega)) _ _ _).ri, fun b o hn e => by have := oS.frs b o hn e; omega, fun b o hn e => by have := oM.frs b o hn e; omega, hM2,
      set3_below (set3_below (below_step HB.out hb1) (by omega) _ _ _) (by omega) _ _ _⟩)
  exact bodyPost_ret (v := .tuple #[dval A1 ns c1 B1 nm m1 lp, .bool true]) (by simp [results, Try.results30, go_sem, q0, q1, q2]) rfl HF.out

set_option maxHeartbeats 3200000 in
set_option maxRecDepth 100000 in
theorem operate2 (A B : Option Addr) (ns cs nm cm : Nat) (lp : Int) (s m : List Int) (k : Nat) (w : World) (h : DV w A ns B nm s m) (hv : validB s m lp = true) (_hk : k ≤ 255) :
    Calls Try.prog 30 #[dval A ns cs B nm cm lp, .int .i64 2, .int .i64 (k : Nat)] w (OpeYes w ns nm lp s m 2 (k % ns)) := by
  have hb1 := below_alloc w (dbox A ns cs B nm cm lp)
  have hb2 := below_alloc (w.alloc (dbox A ns cs B nm cm lp)) (.cells #[.slice none 0 0, .slice none 0 0, .int .i64 0] 24)
  have hd := (DB.new w A ns cs B nm cm lp).keep hb2
  have hdf : ∀ i, ((w.alloc (dbox A ns cs B nm cm lp)).alloc (.cells #[.slice none 0 0, .slice none 0 0, .int .i64 0] 24)).frozen? ⟨w.heap.size, i, none⟩ = false := fun i => (hb2.frozen (p := ⟨w.heap.size, i, none⟩) (by simp)).trans (World.frozen?_alloc_at _ _ _ _ rfl)
  have hbx := bx0_new (w.alloc (dbox A ns cs B nm cm lp))
  have hb := below_step hb1 hb2
  have hsz : (w.alloc (dbox A ns cs B nm cm lp)).heap.size = w.heap.size + 1 := by simp
  rw [hsz] at hbx
  have hsz2 : ((w.alloc (dbox A ns cs B nm cm lp)).alloc (.cells #[.slice none 0 0, .slice none 0 0, .int .i64 0] 24)).heap.size = w.heap.size + 2 := by simp
  have HH := Lib.hid h
  have HV := Lib.hid hv
  have HL := Lib.hid (And.intro h.hs.1 h.hm.1)
  obtain ⟨hnm, hns, _⟩ := valid_data hv h.hs.1 h.hm.1
  have HNM := Lib.hid hnm
  clear hb1 hb2 h hv hsz hnm
  unfold dbox at hd hdf hbx hb hsz2
  go_enter Try.func30, Try.ntmps30
  go_upto_region 1 with fail
  generalize (w.alloc (.cells #[.slice A ns cs, .slice B nm cm, .int .i64 lp] 24)).alloc (.cells #[.slice none 0 0, .slice none 0 0, .int .i64 0] 24) = w0 at hd hdf hbx hb hsz2 ⊢
  obtain ⟨gd, hgd⟩ : ∃ gd, w.heap.size = gd := ⟨_, rfl⟩
  obtain ⟨gr, hgr⟩ : ∃ gr, gd + 1 = gr := ⟨_, rfl⟩
  rw [hgd] at hd hdf hsz2 hbx ⊢
  rw [hgr] at hbx ⊢
  have HBX := Lib.hid hbx
  have HB := Lib.hid hb
  have HDF := Lib.hid hdf
  have HLT : Hid (gd < gr ∧ gr < w0.heap.size ∧ w.heap.size = gd) := Lib.hid ⟨by omega, by omega, hgd⟩
  obtain ⟨d0, d1, d2, dlt⟩ := hd
  have hne : gd ≠ gr := by omega
  clear hb hbx hgr hgd hsz2 hdf
  have CM := Lib.hid (reverse_yes A B ns cs nm cm lp s m w0 (HH.out.keep HB.out) HV.out)
  go_wp2_with (go_at_call 15; ((with_reducible refine CM.out.mono ?_); rintro e w1 ⟨A1, c1, B1, m1, s1, l1, rfl, oS, oM, hM, hb1⟩; have r0 := (hb1.cell (p := ⟨gd, 0, none⟩) dlt).trans d0; have r1 := (hb1.cell (p := ⟨gd, 1, none⟩) dlt).trans d1; have r2 := (hb1.cell (p := ⟨gd, 2, none⟩) dlt).trans d2; have f0 := (hb1.frozen (p := ⟨gd, 0, none⟩) dlt).trans (HDF.out 0); have f1 := (hb1.frozen (p := ⟨gd, 1, none⟩) dlt).trans (HDF.out 1); have f2 := (hb1.frozen (p := ⟨gd, 2, none⟩) dlt).trans (HDF.out 2); obtain ⟨k0, k1, k2⟩ := set3_cells w1 gd (.slice A1 ns c1) (.slice B1 nm m1) (.int .i64 lp) r0 r1 r2; have hr := HBX.out.kp hb1; have x0 := (set3_far w1 gd (.slice A1 ns c1) (.slice B1 nm m1) (.int .i64 lp) hne 0).trans hr.1.1; have x1 := (set3_far w1 gd (.slice A1 ns c1) (.slice B1 nm m1) (.int .i64 lp) hne 1).trans hr.1.2.1; have x2 := (set3_far w1 gd (.slice A1 ns c1) (.slice B1 nm m1) (.int .i64 lp) hne 2).trans hr.1.2.2.1; have y0 := hr.2 0; have y1 := hr.2 1; have y2 := hr.2 2))
  obtain ⟨q0, q1, q2⟩ := set3_cells (set3 w1 gd (.slice A1 ns c1) (.slice B1 nm m1) (.int .i64 lp)) gr (.slice A1 ns c1) (.slice B1 nm m1) (.int .i64 lp) x0 x1 x2
  have HF : Hid (OpeYes w ns nm lp s m 2 (k % ns) (.returned (.tuple #[dval A1 ns c1 B1 nm m1 lp, .bool true])) (set3 (set3 w1 gd (.slice A1 ns c1) (.slice B1 nm m1) (.int .i64 lp)) gr (.slice A1 ns c1) (.slice B1 nm m1) (.int .i64 lp))) := Lib.hid (by
    have hg := HLT.out
    have h0 := HB.out.size
    have hM2 : Moved (opT 2 (k % ns) s) (opP 2 (k % ns)) ns s m s1 l1 := by rw [opT_irr 2 (k % ns) 0 (by omega) s, opP_irr 2 (k % ns) 0 (by omega)]; exact hM
    have n1 : ∀ g, g < w0.heap.size → (Value.slice A1 ns c1).ownBlock ≠ some g := fun g hg e => by have := (World.ownsRow.lt oS g e).1; omega
    have n2 : ∀ g, g < w0.heap.size → (Value.slice B1 nm m1).ownBlock ≠ some g := fun g hg e => by have := (World.ownsRow.lt oM g e).1; omega
    exact ⟨A1, c1, B1, m1, s1, l1, rfl, ((oS.set3 (n1 _ (by omega)) _ _ _).set3 (n1 _ (by omega)) _ _ _).ri, ((oM.set3 (n2 _ (by omega)) _ _ _).set3 (n2 _ (by omega)) _ _ _).ri, fun b o hn e => by have := oS.frs b o hn e; omega, fun b o hn e => by have := oM.frs b o hn e; omega, hM2,
      set3_below (set3_below (below_step HB.out hb1) (by omega) _ _ _) (by omega) _ _ _⟩)
  exact bodyPost_ret (v := .tuple #[dval A1 ns c1 B1 nm m1 lp, .bool true]) (by simp [results, Try.results30, go_sem, q0, q1, q2]) rfl HF.out

set_option maxHeartbeats 3200000 in
set_option maxRecDepth 100000 in
theorem operate3z (A B : Option Addr) (cs nm cm : Nat) (lp : Int) (s m : List Int) (k : Nat) (w : World) (h : DV w A 0 B nm s m) (hv : validB s m lp = true) (_hk : k ≤ 255) :
    Calls Try.prog 30 #[dval A 0 cs B nm cm lp, .int .i64 3, .int .i64 (k : Nat)] w (OpeYes w 0 nm lp s m 3 (k % 0)) := by
  have hb1 := below_alloc w (dbox A 0 cs B nm cm lp)
  have hb2 := below_alloc (w.alloc (dbox A 0 cs B nm cm lp)) (.cells #[.slice none 0 0, .slice none 0 0, .int .i64 0] 24)
  have hd := (DB.new w A 0 cs B nm cm lp).keep hb2
  have hdf : ∀ i, ((w.alloc (dbox A 0 cs B nm cm lp)).alloc (.cells #[.slice none 0 0, .slice none 0 0, .int .i64 0] 24)).frozen? ⟨w.heap.size, i, none⟩ = false := fun i => (hb2.frozen (p := ⟨w.heap.size, i, none⟩) (by simp)).trans (World.frozen?_alloc_at _ _ _ _ rfl)
  have hbx := bx0_new (w.alloc (dbox A 0 cs B nm cm lp))
  have hb := below_step hb1 hb2
  have hsz : (w.alloc (dbox A 0 cs B nm cm lp)).heap.size = w.heap.size + 1 := by simp
  rw [hsz] at hbx
  have hsz2 : ((w.alloc (dbox A 0 cs B nm cm lp)).alloc (.cells #[.slice none 0 0, .slice none 0 0, .int .i64 0] 24)).heap.size = w.heap.size + 2 := by simp
  have HH := Lib.hid h
  have HV := Lib.hid hv
  have HL := Lib.hid (And.intro h.hs.1 h.hm.1)
  obtain ⟨hnm, hns, _⟩ := valid_data hv h.hs.1 h.hm.1
  have HNM := Lib.hid hnm
  clear hb1 hb2 h hv hsz hnm
  unfold dbox at hd hdf hbx hb hsz2
  go_enter Try.func30, Try.ntmps30
  go_upto_region 1 with fail
  generalize (w.alloc (.cells #[.slice A 0 cs, .slice B nm cm, .int .i64 lp] 24)).alloc (.cells #[.slice none 0 0, .slice none 0 0, .int .i64 0] 24) = w0 at hd hdf hbx hb hsz2 ⊢
  obtain ⟨gd, hgd⟩ : ∃ gd, w.heap.size = gd := ⟨_, rfl⟩
  obtain ⟨gr, hgr⟩ : ∃ gr, gd + 1 = gr := ⟨_, rfl⟩
  rw [hgd] at hd hdf hsz2 hbx ⊢
  rw [hgr] at hbx ⊢
  have HBX := Lib.hid hbx
  have HB := Lib.hid hb
  have HDF := Lib.hid hdf
  have HLT : Hid (gd < gr ∧ gr < w0.heap.size ∧ w.heap.size = gd) := Lib.hid ⟨by omega, by omega, hgd⟩
  obtain ⟨d0, d1, d2, dlt⟩ := hd
  have hne : gd ≠ gr := by omega
  clear hb hbx hgr hgd hsz2 hdf
  have hr := HBX.out
  obtain ⟨q0, q1, q2⟩ := set3_cells w0 gr (.slice A 0 cs) (.slice B nm cm) (.int .i64 lp) hr.1.1 hr.1.2.1 hr.1.2.2.1
  have x0 := hr.1.1
  have x1 := hr.1.2.1
  have x2 := hr.1.2.2.1
  have y0 := hr.2 0
  have y1 := hr.2 1
  have y2 := hr.2 2
  have HF : Hid (OpeYes w 0 nm lp s m 3 (k % 0) (.returned (.tuple #[dval A 0 cs B nm cm lp, .bool true])) (set3 w0 gr (.slice A 0 cs) (.slice B nm cm) (.int .i64 lp))) := Lib.hid (by
    have hg := HLT.out
    have hnm := HNM.out
    have hl := HL.out
    have e1 : RI (set3 w0 gr (.slice A 0 cs) (.slice B nm cm) (.int .i64 lp)) A 0 s := ⟨hl.1, fun hn => absurd hn (by omega)⟩
    have e2 : RI (set3 w0 gr (.slice A 0 cs) (.slice B nm cm) (.int .i64 lp)) B nm m := ⟨hl.2, fun hn => absurd hn (by omega)⟩
    exact ⟨A, cs, B, cm, s, m, rfl, e1, e2, fun b o hn => absurd hn (by omega), fun b o hn => absurd hn (by omega), ⟨hl.1, by omega, fun c hc => absurd hc (by omega), fun x hx => absurd hx (by omega)⟩, set3_below HB.out (by omega) _ _ _⟩)
  clear hr
  go_wp2
  exact bodyPost_ret (v := .tuple #[dval A 0 cs B nm cm lp, .bool true]) (by simp [results, Try.results30, go_sem, q0, q1, q2]) rfl HF.out

set_option maxHeartbeats 3200000 in
set_option maxRecDepth 100000 in
theorem operate3p (A B : Option Addr) (ns cs nm cm : Nat) (lp : Int) (s m : List Int) (k : Nat) (w : World) (h : DV w A ns B nm s m) (hv : validB s m lp = true) (hk : k ≤ 255) (hz : 0 < ns) :
    Calls Try.prog 30 #[dval A ns cs B nm cm lp, .int .i64 3, .int .i64 (k : Nat)] w (OpeYes w ns nm lp s m 3 (k % ns)) := by
  have hb1 := below_alloc w (dbox A ns cs B nm cm lp)
  have hb2 := below_alloc (w.alloc (dbox A ns cs B nm cm lp)) (.cells #[.slice none 0 0, .slice none 0 0, .int .i64 0] 24)
  have hd := (DB.new w A ns cs B nm cm lp).keep hb2
  have hdf : ∀ i, ((w.alloc (dbox A ns cs B nm cm lp)).alloc (.cells #[.slice none 0 0, .slice none 0 0, .int .i64 0] 24)).frozen? ⟨w.heap.size, i, none⟩ = false := fun i => (hb2.frozen (p := ⟨w.heap.size, i, none⟩) (by simp)).trans (World.frozen?_alloc_at _ _ _ _ rfl)
  have hbx := bx0_new (w.alloc (dbox A ns cs B nm cm lp))
  have hb := below_step hb1 hb2
  have hsz : (w.alloc (dbox A ns cs B nm cm lp)).heap.size = w.heap.size + 1 := by simp
  rw [hsz] at hbx
  have hsz2 : ((w.alloc (dbox A ns cs B nm cm lp)).alloc (.cells #[.slice none 0 0, .slice none 0 0, .int .i64 0] 24)).heap.size = w.heap.size + 2 := by simp
  have HH := Lib.hid h
  have HV := Lib.hid hv
  have HL := Lib.hid (And.intro h.hs.1 h.hm.1)
  obtain ⟨hnm, hns, _⟩ := valid_data hv h.hs.1 h.hm.1
  have HNM := Lib.hid hnm
  clear hb1 hb2 h hv hsz hnm
  unfold dbox at hd hdf hbx hb hsz2
  go_enter Try.func30, Try.ntmps30
  go_upto_region 1 with fail
  generalize (w.alloc (.cells #[.slice A ns cs, .slice B nm cm, .int .i64 lp] 24)).alloc (.cells #[.slice none 0 0, .slice none 0 0, .int .i64 0] 24) = w0 at hd hdf hbx hb hsz2 ⊢
  obtain ⟨gd, hgd⟩ : ∃ gd, w.heap.size = gd := ⟨_, rfl⟩
  obtain ⟨gr, hgr⟩ : ∃ gr, gd + 1 = gr := ⟨_, rfl⟩
  rw [hgd] at hd hdf hsz2 hbx ⊢
  rw [hgr] at hbx ⊢
  have HBX := Lib.hid hbx
  have HB := Lib.hid hb
  have HDF := Lib.hid hdf
  have HLT : Hid (gd < gr ∧ gr < w0.heap.size ∧ w.heap.size = gd) := Lib.hid ⟨by omega, by omega, hgd⟩
  obtain ⟨d0, d1, d2, dlt⟩ := hd
  have hne : gd ≠ gr := by omega
  clear hb hbx hgr hgd hsz2 hdf
  have hz2 : ((ns : Int) == 0) = false := by simp only [beq_eq_false_iff_ne, ne_eq]; omega
  have hnz : (ns : Int) ≠ 0 := by omega
  have hpos : (0 : Int) < (ns : Int) := by omega
  obtain ⟨j, hj⟩ : ∃ j, k % ns = j := ⟨_, rfl⟩
  have hjn : j < ns := by rw [← hj]; exact Nat.mod_lt _ hz
  have hk0 : (0 : Int) ≤ (k : Int) := Int.natCast_nonneg _
  have hk1 : (k : Int) ≤ 255 := by omega
  have hji : (k : Int).tmod (ns : Int) = (j : Int) := by rw [Int.tmod_eq_emod_of_nonneg (by omega), ← hj]; simp
  have hji' : (k : Int) % (ns : Int) = (j : Int) := by rw [← hj]; simp
  have hw3 : IntKind.i64.wrap (j : Int) = (j : Int) := IntWalk.i64_in _ (by omega)
  have HJ := Lib.hid hj
  have CM := Lib.hid (switch_yes A B ns cs nm cm lp s m j w0.drew (HH.out.keep HB.out.drew) HV.out hjn)
  have d0d : w0.drew.cell? ⟨gd, 0, none⟩ = some (.slice A ns cs) := d0
  have d1d : w0.drew.cell? ⟨gd, 1, none⟩ = some (.slice B nm cm) := d1
  have d2d : w0.drew.cell? ⟨gd, 2, none⟩ = some (.int .i64 lp) := d2
  have hbD : Below w0.heap.size w0 w0.drew := (Below.refl _ _).drew
  have hsD : w0.drew.heap.size = w0.heap.size := rfl
  clear hj
  go_upto_region 12 with fail
  go_region_with ((go_at_call 23; ((with_reducible refine CM.out.mono ?_); rintro e w1 ⟨A1, c1, B1, m1, s1, l1, rfl, oS, oM, hM, hb1'⟩; have hb1 := below_step hbD hb1'; have r0 := (hb1.cell (p := ⟨gd, 0, none⟩) dlt).trans d0; have r1 := (hb1.cell (p := ⟨gd, 1, none⟩) dlt).trans d1; have r2 := (hb1.cell (p := ⟨gd, 2, none⟩) dlt).trans d2; have f0 := (hb1.frozen (p := ⟨gd, 0, none⟩) dlt).trans (HDF.out 0); have f1 := (hb1.frozen (p := ⟨gd, 1, none⟩) dlt).trans (HDF.out 1); have f2 := (hb1.frozen (p := ⟨gd, 2, none⟩) dlt).trans (HDF.out 2); obtain ⟨k0, k1, k2⟩ := set3_cells w1 gd (.slice A1 ns c1) (.slice B1 nm m1) (.int .i64 lp) r0 r1 r2; have hr := HBX.out.kp hb1; have x0 := (set3_far w1 gd (.slice A1 ns c1) (.slice B1 nm m1) (.int .i64 lp) hne 0).trans hr.1.1; have x1 := (set3_far w1 gd (.slice A1 ns c1) (.slice B1 nm m1) (.int .i64 lp) hne 1).trans hr.1.2.1; have x2 := (set3_far w1 gd (.slice A1 ns c1) (.slice B1 nm m1) (.int .i64 lp) hne 2).trans hr.1.2.2.1; have y0 := hr.2 0; have y1 := hr.2 1; have y2 := hr.2 2)))
  all_goals
    obtain ⟨q0, q1, q2⟩ := set3_cells (set3 w1 gd (.slice A1 ns c1) (.slice B1 nm m1) (.int .i64 lp)) gr (.slice A1 ns c1) (.slice B1 nm m1) (.int .i64 lp) x0 x1 x2
    have HF : Hid (OpeYes w ns nm lp s m 3 (k % ns) (.returned (.tuple #[dval A1 ns c1 B1 nm m1 lp, .bool true])) (set3 (set3 w1 gd (.slice A1 ns c1) (.slice B1 nm m1) (.int .i64 lp)) gr (.slice A1 ns c1) (.slice B1 nm m1) (.int .i64 lp))) := Lib.hid (by
      have hg := HLT.out
      have h0 := HB.out.size
      have hM2 : Moved (opT 3 (k % ns) s) (opP 3 (k % ns)) ns s m s1 l1 := by rw [HJ.out]; exact hM
      rw [hsD] at oS oM
      have n1 : ∀ g, g < w0.heap.size → (Value.slice A1 ns c1).ownBlock ≠ some g := fun g hg e => by have := (World.ownsRow.lt oS g e).1; omega
      have n2 : ∀ g, g < w0.heap.size → (Value.slice B1 nm m1).ownBlock ≠ some g := fun g hg e => by have := (World.ownsRow.lt oM g e).1; omega
      exact ⟨A1, c1, B1, m1, s1, l1, rfl, ((oS.set3 (n1 _ (by omega)) _ _ _).set3 (n1 _ (by omega)) _ _ _).ri, ((oM.set3 (n2 _ (by omega)) _ _ _).set3 (n2 _ (by omega)) _ _ _).ri, fun b o hn e => by have := oS.frs b o hn e; omega, fun b o hn e => by have := oM.frs b o hn e; omega, hM2,
        set3_below (set3_below (below_step HB.out hb1) (by omega) _ _ _) (by omega) _ _ _⟩)
    go_wp2
    exact bodyPost_ret (v := .tuple #[dval A1 ns c1 B1 nm m1 lp, .bool true]) (by simp [results, Try.results30, go_sem, q0, q1, q2]) rfl HF.out

theorem operate_any (A B : Option Addr) (ns cs nm cm : Nat) (lp : Int) (s m : List Int) (q k : Nat) (w : World) (h : DV w A ns B nm s m) (hv : validB s m lp = true) (hq : q < 4) (hk : k ≤ 255) :
    Calls Try.prog 30 #[dval A ns cs B nm cm lp, .int .i64 (q : Nat), .int .i64 (k : Nat)] w (OpeYes w ns nm lp s m q (k % ns)) := by
  have : q = 0 ∨ q = 1 ∨ q = 2 ∨ q = 3 := by omega
  rcases this with rfl | rfl | rfl | rfl
  · exact operate0 A B ns cs nm cm lp s m k w h hv hk
  · exact operate1 A B ns cs nm cm lp s m k w h hv hk
  · exact operate2 A B ns cs nm cm lp s m k w h hv hk
  · rcases Nat.eq_zero_or_pos ns with hz | hz
    · subst hz; exact operate3z A B cs nm cm lp s m k w h hv hk
    · exact operate3p A B ns cs nm cm lp s m k w h hv hk hz

end Go.Proofs.Ytdamfoobnbjojaa

/- Plain mathematics: how a transposition changes the number of cycles; counting. -/
namespace Go.Proofs.Ytdamfoobnbjojaa

/-- The number of x below N with p x is k. -/
inductive Cnt (p : Nat → Prop) : Nat → Nat → Prop
  | zero : Cnt p 0 0
  | yes {n k : Nat} : p n → Cnt p n k → Cnt p (n + 1) (k + 1)
  | no {n k : Nat} : ¬ p n → Cnt p n k → Cnt p (n + 1) k
theorem Cnt.ex (p : Nat → Prop) (n : Nat) : ∃ k, Cnt p n k := by
  induction n with
  | zero => exact ⟨0, .zero⟩
  | succ n ih =>
    obtain ⟨k, hk⟩ := ih
    by_cases h : p n
    · exact ⟨k + 1, .yes h hk⟩
    · exact ⟨k, .no h hk⟩
theorem Cnt.uniq {p : Nat → Prop} {n k j : Nat} (h : Cnt p n k) (g : Cnt p n j) : k = j := by
  induction h generalizing j with
  | zero => cases g; rfl
  | yes hp _ ih =>
    cases g with
    | yes _ g => rw [ih g]
    | no hn _ => exact absurd hp hn
  | no hn _ ih =>
    cases g with
    | yes hp _ => exact absurd hp hn
    | no _ g => exact ih g
theorem Cnt.congr {p q : Nat → Prop} {n k : Nat} (h : Cnt p n k) (e : ∀ x, x < n → (p x ↔ q x)) : Cnt q n k := by
  induction h with
  | zero => exact .zero
  | yes hp _ ih => exact .yes ((e _ (by omega)).1 hp) (ih fun x hx => e x (by omega))
  | no hn _ ih => exact .no (fun hq => hn ((e _ (by omega)).2 hq)) (ih fun x hx => e x (by omega))
/-- One number less. -/
theorem Cnt.drop {p q : Nat → Prop} {n k j h0 : Nat} (h : Cnt p n k) (g : Cnt q n j) (h1 : h0 < n) (h2 : p h0) (h3 : ¬ q h0) (h4 : ∀ x, x < n → x ≠ h0 → (p x ↔ q x)) : k = j + 1 := by
  induction h generalizing j with
  | zero => omega
  | @yes n k hp h ih =>
    by_cases e : n = h0
    · subst e
      cases g with
      | yes hq _ => exact absurd hq h3
      | no _ g => rw [(h.congr fun x hx => h4 x (by omega) (by omega)).uniq g]
    · cases g with
      | yes _ g => rw [ih g (by omega) fun x hx => h4 x (by omega)]
      | no hn _ => exact absurd ((h4 n (by omega) e).1 hp) hn
  | @no n k hn h ih =>
    by_cases e : n = h0
    · subst e; exact absurd h2 hn
    · cases g with
      | yes hq _ => exact absurd ((h4 n (by omega) e).2 hq) hn
      | no _ g => exact ih g (by omega) fun x hx => h4 x (by omega)
theorem Cnt.countP (b : Nat → Bool) (n : Nat) : Cnt (fun x => b x = true) n ((List.range n).countP b) := by
  induction n with
  | zero => exact .zero
  | succ n ih =>
    rw [List.range_succ, List.countP_append]
    cases h : b n with
    | true => simp [h]; exact .yes h ih
    | false => simp [h]; exact .no (by simp [h]) ih
theorem Cnt.none {p : Nat → Prop} {n : Nat} (h : ∀ x, x < n → ¬ p x) : Cnt p n 0 := by
  induction n with
  | zero => exact .zero
  | succ n ih => exact .no (h n (by omega)) (ih fun x hx => h x (by omega))
theorem Cnt.pos {p : Nat → Prop} {n k : Nat} (h : Cnt p n k) (hk : 0 < k) : ∃ x, x < n ∧ p x := by
  by_cases e : ∃ x, x < n ∧ p x
  · exact e
  · have := h.uniq (Cnt.none fun x hx hp => e ⟨x, hx, hp⟩)
    omega
/-- Blocks of four, of which the first may count. -/
theorem Cnt.firsts {q : Nat → Prop} {n k : Nat} (h : Cnt q n k) : Cnt (fun x => x % 4 = 0 ∧ q (x / 4)) (4 * n) k := by
  induction h with
  | zero => exact .zero
  | @yes n k hq _ ih =>
    have e : 4 * (n + 1) = 4 * n + 1 + 1 + 1 + 1 := by omega
    rw [e]
    refine .no (by omega) (.no (by omega) (.no (by omega) (.yes ⟨by omega, ?_⟩ ih)))
    rw [show 4 * n / 4 = n by omega]; exact hq
  | @no n k hq _ ih =>
    have e : 4 * (n + 1) = 4 * n + 1 + 1 + 1 + 1 := by omega
    rw [e]
    refine .no (by omega) (.no (by omega) (.no (by omega) (.no ?_ ih)))
    rintro ⟨_, h⟩
    rw [show 4 * n / 4 = n by omega] at h; exact hq h
/-- Blocks of four, counted whole. -/
theorem Cnt.fours {p : Nat → Prop} (n : Nat) {k : Nat} (h : Cnt p (4 * n) k) (hp : ∀ x y, x < 4 * n → y < 4 * n → x / 4 = y / 4 → p x → p y) : k % 4 = 0 := by
  obtain ⟨j, hj⟩ := Cnt.ex (fun c => p (4 * c)) n
  have : Cnt p (4 * n) (4 * j) := by
    clear h
    induction hj with
    | zero => exact .zero
    | @yes n j hc _ ih =>
      have e : 4 * (n + 1) = 4 * n + 1 + 1 + 1 + 1 := by omega
      rw [e] at hp ⊢
      rw [show 4 * (j + 1) = 4 * j + 1 + 1 + 1 + 1 by omega]
      exact .yes (hp (4 * n) _ (by omega) (by omega) (by omega) hc) (.yes (hp (4 * n) _ (by omega) (by omega) (by omega) hc) (.yes (hp (4 * n) _ (by omega) (by omega) (by omega) hc) (.yes hc (ih fun x y hx hy => hp x y (by omega) (by omega)))))
    | @no n j hc _ ih =>
      have e : 4 * (n + 1) = 4 * n + 1 + 1 + 1 + 1 := by omega
      rw [e] at hp ⊢
      exact .no (fun h => hc (hp _ (4 * n) (by omega) (by omega) (by omega) h)) (.no (fun h => hc (hp _ (4 * n) (by omega) (by omega) (by omega) h)) (.no (fun h => hc (hp _ (4 * n) (by omega) (by omega) (by omega) h)) (.no hc (ih fun x y hx hy => hp x y (by omega) (by omega)))))
  rw [h.uniq this]; omega
/-- A set that an involution without fixed points keeps: twice its lower halves. -/
theorem Cnt.pairs (N : Nat) (m : Nat → Nat) : ∀ k, ∀ (p : Nat → Prop) (t : Nat), Cnt p N k → Cnt (fun x => p x ∧ x < m x) N t → (∀ x, x < N → p x → m x < N ∧ p (m x) ∧ m (m x) = x ∧ m x ≠ x) → k = 2 * t := by
  intro k
  induction k using Nat.strongRecOn with
  | ind k ih =>
    intro p t h g hm
    rcases Nat.eq_zero_or_pos k with h0 | h0
    · subst h0
      rcases Nat.eq_zero_or_pos t with t0 | t0
      · omega
      · obtain ⟨x, hx, hp, _⟩ := g.pos t0
        obtain ⟨j, hj⟩ := Cnt.ex (fun y => p y ∧ y ≠ x) N
        have := h.drop hj hx hp (by simp) (fun y _ hne => ⟨fun q => ⟨q, hne⟩, fun q => q.1⟩)
        omega
    · obtain ⟨x, hx, hp, hlt⟩ : ∃ x, x < N ∧ p x ∧ x < m x := by
        obtain ⟨x, hx, hp⟩ := h.pos h0
        obtain ⟨h1, h2, h3, h4⟩ := hm x hx hp
        by_cases e : x < m x
        · exact ⟨x, hx, hp, e⟩
        · exact ⟨m x, h1, h2, by rw [h3]; omega⟩
      obtain ⟨h1, h2, h3, h4⟩ := hm x hx hp
      obtain ⟨j, hj⟩ := Cnt.ex (fun y => p y ∧ y ≠ x) N
      obtain ⟨i, hi⟩ := Cnt.ex (fun y => (p y ∧ y ≠ x) ∧ y ≠ m x) N
      obtain ⟨s, hs⟩ := Cnt.ex (fun y => ((p y ∧ y ≠ x) ∧ y ≠ m x) ∧ y < m y) N
      have e1 := h.drop hj hx hp (by simp) (fun y _ hne => ⟨fun q => ⟨q, hne⟩, fun q => q.1⟩)
      have e2 := hj.drop hi h1 ⟨h2, h4⟩ (by simp) (fun y _ hne => ⟨fun q => ⟨q, hne⟩, fun q => q.1⟩)
      have e3 := g.drop hs hx ⟨hp, hlt⟩ (by simp) (fun y hy hne => ⟨fun q => ⟨⟨⟨q.1, hne⟩, fun e => by have := q.2; rw [e, h3] at this; omega⟩, q.2⟩, fun q => ⟨q.1.1.1, q.2⟩⟩)
      have e4 := ih i (by omega) _ s hi hs (fun y hy hq => by
        obtain ⟨k1, k2, k3, k4⟩ := hm y hy hq.1.1
        refine ⟨k1, ⟨⟨k2, fun e => hq.2 (by rw [← e, k3])⟩, fun e => hq.1.2 (by rw [← k3, e, h3])⟩, k3, k4⟩)
      omega

structure Eqv (R : Nat → Nat → Prop) (N : Nat) : Prop where
  lt : ∀ x y, R x y → x < N ∧ y < N
  refl : ∀ x, x < N → R x x
  symm : ∀ x y, R x y → R y x
  trans : ∀ x y z, R x y → R y z → R x z
/-- R has k classes below N. -/
def Cls (R : Nat → Nat → Prop) (N k : Nat) : Prop := Cnt (fun h => ∀ g, g < h → ¬ R g h) N k
def Merge (R : Nat → Nat → Prop) (a b x y : Nat) : Prop := R x y ∨ (R x a ∧ R b y) ∨ (R x b ∧ R a y)
theorem Merge.eqv {R : Nat → Nat → Prop} {N a b : Nat} (h : Eqv R N) : Eqv (Merge R a b) N := by
  refine ⟨?_, fun x hx => .inl (h.refl x hx), ?_, ?_⟩
  · rintro x y (k | ⟨k1, k2⟩ | ⟨k1, k2⟩)
    · exact h.lt x y k
    · exact ⟨(h.lt _ _ k1).1, (h.lt _ _ k2).2⟩
    · exact ⟨(h.lt _ _ k1).1, (h.lt _ _ k2).2⟩
  · rintro x y (k | ⟨k1, k2⟩ | ⟨k1, k2⟩)
    · exact .inl (h.symm _ _ k)
    · exact .inr (.inr ⟨h.symm _ _ k2, h.symm _ _ k1⟩)
    · exact .inr (.inl ⟨h.symm _ _ k2, h.symm _ _ k1⟩)
  · rintro x y z (k | ⟨k1, k2⟩ | ⟨k1, k2⟩) (l | ⟨l1, l2⟩ | ⟨l1, l2⟩)
    · exact .inl (h.trans _ _ _ k l)
    · exact .inr (.inl ⟨h.trans _ _ _ k l1, l2⟩)
    · exact .inr (.inr ⟨h.trans _ _ _ k l1, l2⟩)
    · exact .inr (.inl ⟨k1, h.trans _ _ _ k2 l⟩)
    · exact .inr (.inl ⟨k1, l2⟩)
    · exact .inl (h.trans _ _ _ k1 l2)
    · exact .inr (.inr ⟨k1, h.trans _ _ _ k2 l⟩)
    · exact .inl (h.trans _ _ _ k1 l2)
    · exact .inr (.inr ⟨k1, l2⟩)
theorem Merge.comm {R : Nat → Nat → Prop} {a b x y : Nat} : Merge R a b x y ↔ Merge R b a x y := by
  constructor
  · rintro (k | k | k)
    · exact .inl k
    · exact .inr (.inr k)
    · exact .inr (.inl k)
  · rintro (k | k | k)
    · exact .inl k
    · exact .inr (.inr k)
    · exact .inr (.inl k)
theorem Merge.same {R : Nat → Nat → Prop} {N a b x y : Nat} (h : Eqv R N) (k : R a b) : Merge R a b x y ↔ R x y := by
  constructor
  · rintro (l | ⟨l1, l2⟩ | ⟨l1, l2⟩)
    · exact l
    · exact h.trans _ _ _ l1 (h.trans _ _ _ k l2)
    · exact h.trans _ _ _ l1 (h.trans _ _ _ (h.symm _ _ k) l2)
  · exact .inl
theorem least_of (p : Nat → Prop) : ∀ x, p x → ∃ y, p y ∧ ∀ z, z < y → ¬ p z := by
  intro x
  induction x using Nat.strongRecOn with
  | ind x ih =>
    intro hx
    by_cases e : ∃ z, z < x ∧ p z
    · obtain ⟨z, hz, hp⟩ := e; exact ih z hz hp
    · exact ⟨x, hx, fun z hz hp => e ⟨z, hz, hp⟩⟩
theorem cls_merge_lt {R : Nat → Nat → Prop} {N a b k j ra rb : Nat} (h : Eqv R N) (_hab : ¬ R a b) (hk : Cls R N k) (hj : Cls (Merge R a b) N j)
    (ha : R ra a) (_ha' : ∀ z, z < ra → ¬ R z a) (hb : R rb b) (hb' : ∀ z, z < rb → ¬ R z b) (hlt : ra < rb) : k = j + 1 := by
  refine Cnt.drop (h0 := rb) hk hj (h.lt _ _ hb).1 (fun g hg hr => hb' g hg (h.trans _ _ _ hr hb)) (fun q => q ra hlt (.inr (.inl ⟨ha, h.symm _ _ hb⟩))) (fun x hx hne => ⟨fun q g hg hm => ?_, fun q g hg hr => q g hg (.inl hr)⟩)
  rcases hm with hm | ⟨h1, h2⟩ | ⟨h1, h2⟩
  · exact q g hg hm
  · -- x lies in b's class and is least there
    have h3 : R rb x := h.trans _ _ _ hb h2
    rcases Nat.lt_trichotomy rb x with e | e | e
    · exact q rb e h3
    · exact hne e.symm
    · exact hb' x e (h.symm _ _ h2)
  · have h3 : R ra x := h.trans _ _ _ ha h2
    have h4 : ¬ g < rb := fun e => hb' g e h1
    exact q ra (by omega) h3
theorem cls_merge {R : Nat → Nat → Prop} {N a b k j : Nat} (h : Eqv R N) (ha : a < N) (hb : b < N) (hab : ¬ R a b) (hk : Cls R N k) (hj : Cls (Merge R a b) N j) : k = j + 1 := by
  obtain ⟨ra, h1, h2⟩ := least_of (fun z => R z a) a (h.refl a ha)
  obtain ⟨rb, h3, h4⟩ := least_of (fun z => R z b) b (h.refl b hb)
  rcases Nat.lt_trichotomy ra rb with e | e | e
  · exact cls_merge_lt h hab hk hj h1 h2 h3 h4 e
  · subst e; exact absurd (h.trans _ _ _ (h.symm _ _ h1) h3) hab
  · exact cls_merge_lt h (fun q => hab (h.symm _ _ q)) hk (hj.congr fun x _ => ⟨fun q g hg hm => q g hg (Merge.comm.1 hm), fun q g hg hm => q g hg (Merge.comm.1 hm)⟩) h3 h4 h1 h2 e

/-- a and b change places. -/
def sw (a b x : Nat) : Nat := if x = a then b else if x = b then a else x
theorem sw_left (a b : Nat) : sw a b a = b := by simp [sw]
theorem sw_right (a b : Nat) : sw a b b = a := by unfold sw; split <;> simp_all
theorem sw_other {a b x : Nat} (h1 : x ≠ a) (h2 : x ≠ b) : sw a b x = x := by simp [sw, h1, h2]
theorem sw_sw (a b x : Nat) : sw a b (sw a b x) = x := by
  by_cases h1 : x = a
  · subst h1; rw [sw_left, sw_right]
  · by_cases h2 : x = b
    · subst h2; rw [sw_right, sw_left]
    · rw [sw_other h1 h2, sw_other h1 h2]
theorem sw_comm (a b x : Nat) : sw a b x = sw b a x := by
  by_cases h1 : x = a
  · subst h1; rw [sw_left, sw_right]
  · by_cases h2 : x = b
    · subst h2; rw [sw_right, sw_left]
    · rw [sw_other h1 h2, sw_other h2 h1]
theorem sw_lt {a b x N : Nat} (ha : a < N) (hb : b < N) (hx : x < N) : sw a b x < N := by unfold sw; split <;> (try split) <;> omega
def swf (f : Nat → Nat) (a b : Nat) : Nat → Nat := fun x => f (sw a b x)
theorem swf_swf (f : Nat → Nat) (a b : Nat) : swf (swf f a b) a b = f := by funext x; simp [swf, sw_sw]
theorem swf_comm (f : Nat → Nat) (a b : Nat) : swf f a b = swf f b a := by funext x; simp [swf, sw_comm a b]
theorem Perm.swf {f : Nat → Nat} {N a b : Nat} (p : Perm f N) (ha : a < N) (hb : b < N) : Perm (swf f a b) N :=
  ⟨fun h hh => p.lt _ (sw_lt ha hb hh), fun h g hh hg e => by
    have := p.inj _ _ (sw_lt ha hb hh) (sw_lt ha hb hg) e
    rw [← sw_sw a b h, this, sw_sw]⟩
def RO' (f : Nat → Nat) (N x y : Nat) : Prop := x < N ∧ Orb f x y
theorem Perm.eqv {f : Nat → Nat} {N : Nat} (p : Perm f N) : Eqv (RO' f N) N :=
  ⟨fun x y h => ⟨h.1, by obtain ⟨i, e⟩ := h.2; rw [← e]; exact p.it_lt h.1 i⟩, fun x hx => ⟨hx, Orb.refl f x⟩,
   fun x y h => ⟨by obtain ⟨i, e⟩ := h.2; rw [← e]; exact p.it_lt h.1 i, p.orb_symm h.1 h.2⟩, fun x y z h k => ⟨h.1, h.2.trans k.2⟩⟩
theorem it_shift (f : Nat → Nat) (i x : Nat) : it f (i + 1) x = it f i (f x) := it_add f i 1 x
theorem Orb.next (f : Nat → Nat) (x : Nat) : Orb f x (f x) := ⟨1, rfl⟩
/-- From every number of a's cycle the changed map leads to a. -/
theorem Perm.pull {f : Nat → Nat} {N a b : Nat} (p : Perm f N) (_hb : b < N) (hab : ¬ Orb f b a) (i : Nat) : ∀ x, x < N → it f i x = a → Orb (Go.Proofs.Ytdamfoobnbjojaa.swf f a b) x a := by
  induction i with
  | zero => intro x _ e; rw [← e]; exact Orb.refl _ _
  | succ i ih =>
    intro x hx e
    by_cases h1 : x = a
    · rw [h1]; exact Orb.refl _ _
    · have h2 : x ≠ b := fun e' => hab (by rw [← e']; exact ⟨i + 1, e⟩)
      have h3 : Go.Proofs.Ytdamfoobnbjojaa.swf f a b x = f x := by unfold Go.Proofs.Ytdamfoobnbjojaa.swf; rw [sw_other h1 h2]
      rw [it_shift] at e
      have h4 := ih (f x) (p.lt x hx) e
      rw [← h3] at h4
      exact (Orb.next _ x).trans h4
theorem Perm.apart {f : Nat → Nat} {a b x : Nat} (hx : ¬ Orb f x a) (hy : ¬ Orb f x b) (i : Nat) : it (Go.Proofs.Ytdamfoobnbjojaa.swf f a b) i x = it f i x := by
  induction i with
  | zero => rfl
  | succ i ih =>
    show Go.Proofs.Ytdamfoobnbjojaa.swf f a b _ = f _
    rw [ih]
    unfold Go.Proofs.Ytdamfoobnbjojaa.swf
    rw [sw_other (fun e => hx ⟨i, e⟩) (fun e => hy ⟨i, e⟩)]
theorem Perm.merge {f : Nat → Nat} {N a b : Nat} (p : Perm f N) (ha : a < N) (hb : b < N) (hab : ¬ Orb f a b) (x y : Nat) : RO' (Go.Proofs.Ytdamfoobnbjojaa.swf f a b) N x y ↔ Merge (RO' f N) a b x y := by
  have ps := p.swf ha hb
  have hM := Merge.eqv (a := a) (b := b) p.eqv
  have hS := ps.eqv
  have hba : ¬ Orb f b a := fun o => hab (p.orb_symm hb o)
  constructor
  · rintro ⟨hx, i, rfl⟩
    induction i with
    | zero => exact hM.refl x hx
    | succ i ih =>
      refine hM.trans _ _ _ ih ?_
      have hz := ps.it_lt hx i
      show Merge _ a b _ (Go.Proofs.Ytdamfoobnbjojaa.swf f a b _)
      generalize it (Go.Proofs.Ytdamfoobnbjojaa.swf f a b) i x = z at hz
      by_cases h1 : z = a
      · subst h1
        unfold Go.Proofs.Ytdamfoobnbjojaa.swf; rw [sw_left]
        exact .inr (.inl ⟨⟨hz, Orb.refl _ _⟩, ⟨hb, Orb.next _ _⟩⟩)
      · by_cases h2 : z = b
        · subst h2
          unfold Go.Proofs.Ytdamfoobnbjojaa.swf; rw [sw_right]
          exact .inr (.inr ⟨⟨hz, Orb.refl _ _⟩, ⟨ha, Orb.next _ _⟩⟩)
        · unfold Go.Proofs.Ytdamfoobnbjojaa.swf; rw [sw_other h1 h2]
          exact .inl ⟨hz, Orb.next _ _⟩
  · have hA : ∀ z, z < N → Orb f z a → RO' (Go.Proofs.Ytdamfoobnbjojaa.swf f a b) N z a := fun z hz ⟨i, e⟩ => ⟨hz, p.pull hb hba i z hz e⟩
    have hB : ∀ z, z < N → Orb f z b → RO' (Go.Proofs.Ytdamfoobnbjojaa.swf f a b) N z b := fun z hz ⟨i, e⟩ => by
      rw [swf_comm]; exact ⟨hz, p.pull ha hab i z hz e⟩
    have hAB : RO' (Go.Proofs.Ytdamfoobnbjojaa.swf f a b) N a b := by
      have h1 := hB (f b) (p.lt b hb) (p.orb_symm hb (Orb.next f b))
      have h2 : RO' (Go.Proofs.Ytdamfoobnbjojaa.swf f a b) N a (f b) := ⟨ha, 1, by show Go.Proofs.Ytdamfoobnbjojaa.swf f a b a = f b; unfold Go.Proofs.Ytdamfoobnbjojaa.swf; rw [sw_left]⟩
      exact hS.trans _ _ _ h2 h1
    have lt2 : ∀ {u v : Nat}, RO' f N u v → v < N := fun r => (p.eqv.lt _ _ r).2
    rintro (k | ⟨k1, k2⟩ | ⟨k1, k2⟩)
    · by_cases h1 : Orb f x a
      · exact hS.trans _ _ _ (hA x k.1 h1) (hS.symm _ _ (hA y (lt2 k) ((p.orb_symm k.1 k.2).trans h1)))
      · by_cases h2 : Orb f x b
        · exact hS.trans _ _ _ (hB x k.1 h2) (hS.symm _ _ (hB y (lt2 k) ((p.orb_symm k.1 k.2).trans h2)))
        · obtain ⟨hx, i, e⟩ := k
          exact ⟨hx, i, by rw [Perm.apart h1 h2]; exact e⟩
    · exact hS.trans _ _ _ (hA x k1.1 k1.2) (hS.trans _ _ _ hAB (hS.symm _ _ (hB y (lt2 k2) (p.orb_symm k2.1 k2.2))))
    · exact hS.trans _ _ _ (hB x k1.1 k1.2) (hS.trans _ _ _ (hS.symm _ _ hAB) (hS.symm _ _ (hA y (lt2 k2) (p.orb_symm k2.1 k2.2))))
theorem Perm.split {f : Nat → Nat} {N a b : Nat} (p : Perm f N) (ha : a < N) (hne : a ≠ b) (hab : Orb f a b) : ¬ Orb (Go.Proofs.Ytdamfoobnbjojaa.swf f a b) b a := by
  obtain ⟨i, hi, e⟩ := p.orb_lt ha hab
  have hi0 : 0 < i := by
    rcases Nat.eq_zero_or_pos i with h0 | h0
    · subst h0; exact absurd e hne
    · exact h0
  have key : ∀ j, ∃ t, 1 ≤ t ∧ t ≤ i ∧ it (Go.Proofs.Ytdamfoobnbjojaa.swf f a b) j b = it f t a := by
    intro j
    induction j with
    | zero => exact ⟨i, hi0, Nat.le_refl _, e.symm⟩
    | succ j ih =>
      obtain ⟨t, h1, h2, h3⟩ := ih
      have hs : it (Go.Proofs.Ytdamfoobnbjojaa.swf f a b) (j + 1) b = f (sw a b (it f t a)) := by show Go.Proofs.Ytdamfoobnbjojaa.swf f a b _ = _; rw [h3]; rfl
      rw [hs]
      by_cases ht : t = i
      · refine ⟨1, Nat.le_refl _, hi0, ?_⟩
        rw [ht, e, sw_right]; rfl
      · refine ⟨t + 1, by omega, by omega, ?_⟩
        have n1 : it f t a ≠ a := fun q => p.it_ne ha (i := 0) (j := t) (by omega) (by omega) q.symm
        have n2 : it f t a ≠ b := fun q => p.it_ne ha (i := t) (j := i) (by omega) hi (by rw [q, e])
        rw [sw_other n1 n2]; rfl
  rintro ⟨j, hj⟩
  obtain ⟨t, h1, h2, h3⟩ := key j
  rw [hj] at h3
  exact p.it_ne ha (i := 0) (j := t) (by omega) (by omega) h3

end Go.Proofs.Ytdamfoobnbjojaa
