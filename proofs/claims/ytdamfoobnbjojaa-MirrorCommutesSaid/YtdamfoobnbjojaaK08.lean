import Derived.Test.YtdamfoobnbjojaaK04
import Derived.ProofKit
import Derived.Lib.SmallJoins
import Derived.Test.YtdamfoobnbjojaaK07
/- Opening a diagram that comes in, and shutting a law's call. -/
namespace Go.Proofs.Ytdamfoobnbjojaa
open Go.ChangeShapes Go.WideShapes Go.ChangeAt Go.RowKit Go.Joins

theorem Try.own : ownKnob Try.prog.godebug = none := by kernel_rfl
theorem Try.laidOut : laidOutB Try.prog = true := by kernel_rfl
theorem Try.cellsI : Try.prog.cellsOf 3 = 1 := by kernel_rfl
theorem Try.cellsD : Try.prog.cellsOf 24 = 3 := by kernel_rfl

def inI (x : Int) : Prop := -9223372036854775808 ≤ x ∧ x ≤ 9223372036854775807
theorem inI_of_wf {x : Int} (h : (Lit.int .i64 x).wf = true) : inI x := by
  have h1 : IntKind.i64.min = -9223372036854775808 := rfl
  have h2 : IntKind.i64.max = 9223372036854775807 := rfl
  simp only [Lit.wf, Bool.and_eq_true, decide_eq_true_eq] at h
  unfold inI; omega

section
variable {H : Type} {enc : TypeId × Value → H} {W : World}

set_option maxRecDepth 100000 in
/-- A slice of ints that comes in reads as a list. -/
theorem open_ri {fuel : Nat} {v : Value} {x : DataW H × List MemPlace} (h : DataW.trod enc Try.prog W 0 (fun _ => true) true fuel 22 [v] = some x) :
    ∃ A n c xs, v = .slice A n c ∧ RI W A n xs ∧ n ≤ 9223372036854775807 ∧ ∀ y ∈ xs, inI y := by
  rcases open_ints Try.underlying22 Try.underlying3 Try.cellsI h with ⟨hcs, _⟩ | ⟨a, len, cap, zs, hcs, _, hl, hm, hz, _, hcell, hwf⟩
  · injection hcs with hcs _
    exact ⟨none, 0, 0, [], hcs, RI.nil _ _, by omega, fun y hy => by cases hy⟩
  · injection hcs with hcs _
    simp only [if_true] at hz
    refine ⟨some a, len, cap, zs.take len, hcs, ⟨by rw [List.length_take]; omega, fun hn => ?_⟩, by unfold maxLen at hm; omega, fun y hy => inI_of_wf (hwf y (List.mem_of_mem_take hy))⟩
    have h0 := hcell 0 (by omega)
    obtain ⟨b, off, spot⟩ := a
    have hspot : spot = none := by simpa [Addr.add] using World.cell?_spot h0
    subst hspot
    refine ⟨b, off, rfl, ?_, fun j hj => ?_⟩
    · have := World.block_lt_of_cell? W _ h0
      simpa [Addr.add] using this
    · have := hcell j (by omega)
      rw [add_plain] at this
      rw [this]
      simp [List.getD, hj]

set_option maxRecDepth 100000 in
/-- A diagram that comes in. -/
theorem open_diag {base : Nat} {v : Value} {d : DataW H} {p : List MemPlace} (hv : Value.okWide Try.prog W .any base 24 v) (h : DataW.Trod enc Try.prog W 0 (fun _ => true) true 24 v d p) :
    ∃ A ns cs B nm cm lp signs mate, v = dval A ns cs B nm cm lp ∧ RI W A ns signs ∧ RI W B nm mate ∧ ns ≤ 9223372036854775807 ∧ nm ≤ 9223372036854775807 ∧ (∀ y ∈ signs, inI y) ∧ (∀ y ∈ mate, inI y) ∧ inI lp := by
  obtain ⟨c0, c1, c2, y0, y1, y2, m, rfl, _, _, hy0, hy1, hy2⟩ := open_agg3 Try.underlying24 (by kernel_rfl) Try.cellsD hv h
  obtain ⟨A, ns, cs, signs, rfl, r1, l1, q1⟩ := open_ri hy0
  obtain ⟨B, nm, cm, mate, rfl, r2, l2, q2⟩ := open_ri hy1
  obtain ⟨x, e0, _, wx⟩ := DataW.trod_int Try.underlying3 hy2
  simp at e0
  subst e0
  exact ⟨A, ns, cs, B, nm, cm, x, signs, mate, rfl, r1, r2, l1, l2, q1, q2, inI_of_wf wx⟩

set_option maxRecDepth 100000 in
theorem trodAll_keep {W' : World} (hb : Below W.heap.size W W') : ∀ {ts : List TypeId} {vs : List Value} {ds : List (DataW H)} {ps : List MemPlace}, (∀ t ∈ ts, Try.prog.readableRec t = true ∧ t < Try.prog.types.size) →
    (∀ x ∈ ps, x.block < W.heap.size) → DataW.TrodAll enc Try.prog W 0 (fun _ => true) true ts vs ds ps → DataW.TrodAll enc Try.prog W' 0 (fun b => decide (b < W.heap.size)) true ts vs ds ps
  | [], [], [], _, _, _, h => h
  | t :: ts, v :: vs, d :: ds, ps, hr, hlt, h => by
    obtain ⟨p, q, h1, h2, rfl⟩ := h
    obtain ⟨r1, r2⟩ := hr t (by simp)
    exact ⟨p, q, Below.trod Try.laidOut r1 r2 h1 hb (fun x hx => hlt x (by simp [hx])), trodAll_keep hb (fun t ht => hr t (by simp [ht])) (fun x hx => hlt x (by simp [hx])) h2, rfl⟩
  | [], _ :: _, _, _, _, _, h => h.elim
  | [], [], _ :: _, _, _, _, h => h.elim
  | _ :: _, [], _, _, _, _, h => h.elim
  | _ :: _, _ :: _, [], _, _, _, h => h.elim

set_option maxRecDepth 100000 in
/-- A law that answers true and leaves all below as it was meets its specification. -/
theorem law_post {f : Func} {s : ChangeSpec} {args : Array Value} {ds gs : List (DataW H)} {before : List MemPlace} {W' : World}
    (hres : f.resultTypes = #[4]) (hvars : s.vars = []) (hpar : ∀ t ∈ f.params.toList, Try.prog.readableRec t = true ∧ t < Try.prog.types.size)
    (hspec : (s.fn H (ds ++ gs)).results = [.lit (.bool true)] ∧ (s.fn H (ds ++ gs)).args = ds ∧ (s.fn H (ds ++ gs)).vars = [])
    (hW : DataW.Whole enc Try.prog f.params.toList s.vars false W args.toList ds gs before) (hb : Below W.heap.size W W') :
    s.post enc Try.prog f false true false false W args (.bool true) W' := by
  have hlt := fun x hx => hW.lt x hx
  obtain ⟨p, q, hA, hV, e, _⟩ := id hW
  rw [hvars] at hV
  obtain ⟨rfl, rfl⟩ := trodVars_none hV
  rw [List.append_nil] at e
  subst e
  refine ⟨ds, [], before, [], before, [], hW, ?_, ?_, ?_, hb.frame _, fun h => by cases h⟩
  · rw [hspec.1, hres]
    exact trodAll_mk1 (shut_bool Try.underlying4 true)
  · rw [hspec.2.1]
    exact trodAll_keep hb hpar hlt hA
  · rw [hvars, hspec.2.2]
    rfl
end

end Go.Proofs.Ytdamfoobnbjojaa

/- Walk: awake and few of layer 6. -/
namespace Go.Proofs.Ytdamfoobnbjojaa
open Go.RowKit

theorem RI.litM (w : World) (xs : List Int) : RI (w.alloc (.cells (ints xs).toArray 3)) (some ⟨w.heap.size, 0, none⟩) xs.length xs :=
  ⟨rfl, fun _ => ⟨w.heap.size, 0, rfl, by simp, fun j hj => by
    rw [World.cell?_alloc_at _ _ _ _ rfl, Nat.zero_add]
    simp [ints, List.getD, hj]⟩⟩
theorem kk_mirror {s1 m1 : List Int} (h : Moved (opT 0 0 kkS) (opP 0 0) 1 kkS kkM s1 m1) : s1 = [-1] ∧ m1 = [3, 2, 1, 0] := by
  have h2 : Moved (opT 0 0 kkS) (opP 0 0) 1 kkS kkM [-1] [3, 2, 1, 0] := ⟨rfl, rfl, by decide, by decide⟩
  exact h.uniq h2 (op_place _ _ _ _) (by decide) (fun _ _ => rfl) (fun _ _ => rfl)
theorem eqD_refl (s m : List Int) (lp : Int) : eqD s m lp s m lp = true := by unfold eqD; simp
theorem kk_smL : smL kkS kkM 0 0 = 2 := by decide
/-- The kink, with room for nothing more. -/
theorem kk_mirror_any (A B : Option Addr) (W : World) (h : DV W A 1 B 4 kkS kkM) : Calls Try.prog 13 #[dval A 1 1 B 4 4 0] W fun e w' => ∃ A' cs B' cm, e = .returned (.tuple #[dval A' 1 cs B' 4 cm 0, .int .i64 0]) ∧ RI w' A' 1 [-1] ∧ RI w' B' 4 [3, 2, 1, 0] ∧ Below W.heap.size W w' := by
  refine (mirror_yes A B 1 1 4 4 0 kkS kkM W h kk_valid).mono ?_
  rintro e w' ⟨A', cs, B', cm, s', m', rfl, oS, oM, hM, hb⟩
  obtain ⟨rfl, rfl⟩ := kk_mirror hM
  exact ⟨A', cs, B', cm, rfl, oS.ri, oM.ri, hb⟩
theorem kk_smooth_any (A B : Option Addr) (W : World) (h : DV W A 1 B 4 kkS kkM) : Calls Try.prog 24 #[dval A 1 1 B 4 4 0, .int .i64 0] W fun e w' => ∃ A' cs B' cm, e = .returned (.tuple #[dval A' 0 cs B' 0 cm 2, .int .i64 0]) ∧ Below W.heap.size W w' := by
  refine (smooth_yes A B 1 1 4 4 0 kkS kkM 0 W h kk_valid (by omega) (by omega) (by omega) (by rw [kk_smL]; omega)).mono ?_
  rintro e w' ⟨A', cs, B', cm, rfl, _, _, _, _, hb⟩
  exact ⟨A', cs, B', cm, by rw [kk_smL], hb⟩

set_option maxHeartbeats 3200000 in
set_option maxRecDepth 100000 in
theorem mawake_any (w : World) : Calls Try.prog 11 #[] w fun e w' => e = .returned (.bool true) ∧ Below w.heap.size w w' := by
  have h1 := RI.litM w kkS
  have hb1 := below_alloc w (.cells (ints kkS).toArray 3)
  have h2 := RI.litM (w.alloc (.cells (ints kkS).toArray 3)) kkM
  have hb2 := below_alloc (w.alloc (.cells (ints kkS).toArray 3)) (.cells (ints kkM).toArray 3)
  have hb3 := below_alloc ((w.alloc (.cells (ints kkS).toArray 3)).alloc (.cells (ints kkM).toArray 3)) (dbox (some ⟨w.heap.size, 0, none⟩) 1 1 (some ⟨w.heap.size + 1, 0, none⟩) 4 4 0)
  have hd := DB.new ((w.alloc (.cells (ints kkS).toArray 3)).alloc (.cells (ints kkM).toArray 3)) (some ⟨w.heap.size, 0, none⟩) 1 1 (some ⟨w.heap.size + 1, 0, none⟩) 4 4 0
  have hs1 : (w.alloc (.cells (ints kkS).toArray 3)).heap.size = w.heap.size + 1 := by simp
  have hs2 : ((w.alloc (.cells (ints kkS).toArray 3)).alloc (.cells (ints kkM).toArray 3)).heap.size = w.heap.size + 2 := by simp
  rw [hs1] at h2
  rw [hs2] at hd
  have hdv : DV (((w.alloc (.cells (ints kkS).toArray 3)).alloc (.cells (ints kkM).toArray 3)).alloc (dbox (some ⟨w.heap.size, 0, none⟩) 1 1 (some ⟨w.heap.size + 1, 0, none⟩) 4 4 0)) (some ⟨w.heap.size, 0, none⟩) 1 (some ⟨w.heap.size + 1, 0, none⟩) 4 kkS kkM :=
    ⟨(h1.keep hb2).keep hb3, h2.keep hb3, by omega, by omega, by decide⟩
  have hb := below_step (below_step hb1 hb2) hb3
  clear h1 h2 hb1 hb2 hb3 hs1 hs2
  have e1 : (ints kkS).toArray = #[.int .i64 1] := rfl
  have e2 : (ints kkM).toArray = #[.int .i64 1, .int .i64 0, .int .i64 3, .int .i64 2] := rfl
  unfold dbox at hd hdv hb
  rw [e1, e2] at hd hdv hb
  clear e1 e2
  have CM : ∀ (W : World) (A B : Option Addr), DV W A 1 B 4 kkS kkM → Hid (Calls Try.prog 13 #[dval A 1 1 B 4 4 0] W fun e w' => ∃ A' cs B' cm, e = .returned (.tuple #[dval A' 1 cs B' 4 cm 0, .int .i64 0]) ∧ RI w' A' 1 [-1] ∧ RI w' B' 4 [3, 2, 1, 0] ∧ Below W.heap.size W w') := fun W A B h => Lib.hid (kk_mirror_any A B W h)
  have CS : ∀ (W : World) (A B : Option Addr), DV W A 1 B 4 kkS kkM → Hid (Calls Try.prog 24 #[dval A 1 1 B 4 4 0, .int .i64 0] W fun e w' => ∃ A' cs B' cm, e = .returned (.tuple #[dval A' 0 cs B' 0 cm 2, .int .i64 0]) ∧ Below W.heap.size W w') := fun W A B h => Lib.hid (kk_smooth_any A B W h)
  go_enter Try.func11, Try.ntmps11
  go_upto_region 2 with fail
  generalize ((w.alloc (.cells #[.int .i64 1] 3)).alloc (.cells #[.int .i64 1, .int .i64 0, .int .i64 3, .int .i64 2] 3)).alloc (.cells #[.slice (some ⟨w.heap.size, 0, none⟩) 1 1, .slice (some ⟨w.heap.size + 1, 0, none⟩) 4 4, .int .i64 0] 24) = wK at hd hdv hb ⊢
  rw [show w.heap.size + 1 + 1 = w.heap.size + 2 by omega]
  obtain ⟨g1, hg1⟩ : ∃ g1, w.heap.size + 2 = g1 := ⟨_, rfl⟩
  rw [hg1] at hd ⊢
  obtain ⟨d0, d1, d2, dlt⟩ := hd
  have HB := Lib.hid hb
  have HDV := Lib.hid hdv
  have C1 := CM wK _ _ hdv
  clear hb hdv hg1 CM
  go_upto_region 3 with (go_at_call 13; ((with_reducible refine C1.out.mono ?_); rintro e w1 ⟨A1, c1, B1, m1, rfl, rS, rM, hb1⟩))
  have hbx := below_alloc w1 (dbox A1 1 c1 B1 4 m1 0)
  have hd1 := DB.new w1 A1 1 c1 B1 4 m1 0
  have rS1 := rS.keep hbx
  have rM1 := rM.keep hbx
  have hbK := below_step hb1 hbx
  unfold dbox at hbx hd1 rS1 rM1 hbK
  generalize w1.alloc (.cells #[.slice A1 1 c1, .slice B1 4 m1, .int .i64 0] 24) = wL at hbx hd1 rS1 rM1 hbK ⊢
  obtain ⟨g2, hg2⟩ : ∃ g2, w1.heap.size = g2 := ⟨_, rfl⟩
  rw [hg2] at hd1 ⊢
  have x0 := (hbK.cell (p := ⟨g1, 0, none⟩) dlt).trans d0
  have x1 := (hbK.cell (p := ⟨g1, 1, none⟩) dlt).trans d1
  have x2 := (hbK.cell (p := ⟨g1, 2, none⟩) dlt).trans d2
  have C2 := CS wL _ _ (HDV.out.keep hbK)
  clear CS rS rM hb1 hbx hg2 d0 d1 d2
  go_upto_region 4 with (go_at_call 24; ((with_reducible refine C2.out.mono ?_); rintro e w2 ⟨A2, c2, B2, m2, rfl, hb2⟩))
  have hbx := below_alloc w2 (dbox A2 0 c2 B2 0 m2 2)
  obtain ⟨s0, s1, s2, slt⟩ := DB.new w2 A2 0 c2 B2 0 m2 2
  have hbL := below_step hb2 hbx
  unfold dbox at hbx s0 s1 s2 slt hbL
  generalize w2.alloc (.cells #[.slice A2 0 c2, .slice B2 0 m2, .int .i64 2] 24) = wM at hbx s0 s1 s2 slt hbL ⊢
  obtain ⟨g3, hg3⟩ : ∃ g3, w2.heap.size = g3 := ⟨_, rfl⟩
  rw [hg3] at s0 s1 s2 slt ⊢
  obtain ⟨y0, y1, y2, ylt⟩ := hd1.keep hbL
  have h1 := RI.litM wM [-1]
  have hb3 := below_alloc wM (.cells (ints [-1]).toArray 3)
  have h2 := RI.litM (wM.alloc (.cells (ints [-1]).toArray 3)) [3, 2, 1, 0]
  have hb4 := below_alloc (wM.alloc (.cells (ints [-1]).toArray 3)) (.cells (ints [3, 2, 1, 0]).toArray 3)
  have hs1 : (wM.alloc (.cells (ints [-1]).toArray 3)).heap.size = wM.heap.size + 1 := by simp
  rw [hs1] at h2
  have hb34 := below_step hb3 hb4
  have CE := Lib.hid (requal_any A1 B1 (some ⟨wM.heap.size, 0, none⟩) (some ⟨wM.heap.size + 1, 0, none⟩) 1 c1 4 m1 1 1 4 4 0 0 [-1] [3, 2, 1, 0] [-1] [3, 2, 1, 0] _ ((rS1.keep hbL).keep hb34) ((rM1.keep hbL).keep hb34) (h1.keep hb4) h2 (by omega) (by omega) (by omega) (by omega))
  have e1 : (ints [-1]).toArray = #[.int .i64 (-1)] := rfl
  have e2 : (ints [3, 2, 1, 0]).toArray = #[.int .i64 3, .int .i64 2, .int .i64 1, .int .i64 0] := rfl
  rw [e1, e2, show eqD [-1] [3, 2, 1, 0] 0 [-1] [3, 2, 1, 0] 0 = true from by decide] at CE
  rw [e1, e2] at hb34
  have HB34 := Lib.hid hb34
  have hslt := hb34.size
  have z1 : ∀ W, Below wM.heap.size wM W → W.cell? ⟨g3, 1, none⟩ = some (.slice B2 0 m2) ∧ W.cell? ⟨g3, 2, none⟩ = some (.int .i64 2) := fun W h => ⟨(h.cell (p := ⟨g3, 1, none⟩) slt).trans s1, (h.cell (p := ⟨g3, 2, none⟩) slt).trans s2⟩
  have HZ := Lib.hid z1
  have HBM := Lib.hid (below_step (below_step HB.out hbK) hbL)
  clear e1 e2 h1 h2 hb3 hb4 hb34 hs1 z1 x0 x1 x2 hg3 hbx hslt
  go_wp2_with (go_at_call 18; ((with_reducible refine CE.out.mono ?_); rintro e w5 ⟨rfl, hb5⟩; obtain ⟨u1, u2⟩ := HZ.out w5 (below_step HB34.out hb5)))
  go_ret
  exact ⟨rfl, below_step HBM.out (below_step HB34.out hb5)⟩

def fewM (ns nm : Nat) : Bool := decide (ns ≤ 14) && decide (nm ≤ 70)
theorem mfew_any (A B : Option Addr) (ns cs nm cm : Nat) (lp : Int) (w : World) (hns : ns ≤ 9223372036854775807) (hnm : nm ≤ 9223372036854775807) :
    Calls Try.prog 12 #[dval A ns cs B nm cm lp] w fun e w' => e = .returned (.bool (fewM ns nm)) ∧ Below w.heap.size w w' := by
  obtain ⟨d0, d1, d2, dlt⟩ := DB.new w A ns cs B nm cm lp
  have HB := Lib.hid (below_alloc w (dbox A ns cs B nm cm lp))
  by_cases h1 : ns ≤ 14
  · have h1' : (ns : Int) ≤ 14 := by omega
    by_cases h2 : nm ≤ 70
    · have h2' : (nm : Int) ≤ 70 := by omega
      have HE : Hid (fewM ns nm = true) := Lib.hid (by simp [fewM, h1, h2])
      clear h1 h2
      go_enter Try.func12, Try.ntmps12
      go_wp2
      go_ret
      exact ⟨ret_bool HE.out.symm, HB.out⟩
    · have h2' : ¬ (nm : Int) ≤ 70 := by omega
      have HE : Hid (fewM ns nm = false) := Lib.hid (by simp [fewM, h2])
      clear h1 h2
      go_enter Try.func12, Try.ntmps12
      go_wp2
      go_ret
      exact ⟨ret_bool HE.out.symm, HB.out⟩
  · have h1' : ¬ (ns : Int) ≤ 14 := by omega
    have HE : Hid (fewM ns nm = false) := Lib.hid (by simp [fewM, h1])
    clear h1
    go_enter Try.func12, Try.ntmps12
    go_wp2
    go_ret
    exact ⟨ret_bool HE.out.symm, HB.out⟩

theorem fewM_out {ns nm : Nat} (h : fewM ns nm = true) : ns ≤ 14 ∧ nm ≤ 70 := by unfold fewM at h; simpa using h
theorem DV.ofI {w : World} {A B : Option Addr} {ns nm : Nat} {s m : List Int} (hs : RI w A ns s) (hm : RI w B nm m) (hmI : ∀ z ∈ m, inI z) (h : fewM ns nm = true) : DV w A ns B nm s m := by
  obtain ⟨h1, h2⟩ := fewM_out h
  refine ⟨hs, hm, by omega, by omega, fun j hj => ?_⟩
  have hl := hm.1
  unfold mt
  have e : m.getD j 0 = m[j]'(by omega) := by simp [List.getD, show j < m.length by omega]
  rw [e]
  exact hmI _ (List.getElem_mem _)

end Go.Proofs.Ytdamfoobnbjojaa

/- Plain mathematics: all crossings are switched, one after the other. -/
namespace Go.Proofs.Ytdamfoobnbjojaa
open Go.RowKit

/-- The crossings of F have been switched. -/
def SwI (F : Nat → Bool) (n : Nat) (s m s1 m1 : List Int) : Prop := Moved (rot fun c => if F c = true then swQ s c else 0) F n s m s1 m1
theorem SwI.step {F : Nat → Bool} {n k : Nat} {s m s1 m1 s2 m2 : List Int} (h : SwI F n s m s1 m1) (g : Moved (opT 3 k s1) (opP 3 k) n s1 m1 s2 m2) (hk : k < n) (hF : F k = false) : SwI (fun c => F c || decide (c = k)) n s m s2 m2 := by
  have h3 := switch_step h g
  have e1 : s1.getD k 0 = s.getD k 0 := by rw [h.sg k hk, hF]; simp
  have eT : (rot fun c => if c = k then (if F c = true then swQ s c else 0) + swQ s1 c else (if F c = true then swQ s c else 0)) = rot fun c => if (F c || decide (c = k)) = true then swQ s c else 0 := by
    funext x; unfold rot
    congr 1
    by_cases e : x / 4 = k
    · simp only [e, if_true, hF, decide_true, Bool.or_true]
      unfold swQ; rw [e1]; simp
    · simp [e]
  have eP : (fun c => xor (F c) (decide (c = k))) = fun c => F c || decide (c = k) := by
    funext c
    by_cases e : c = k
    · subst e; simp [hF]
    · simp [e]
  unfold SwI
  rw [← eT, ← eP]; exact h3
/-- The crossings that the first i rounds have switched. -/
def swF (f n i c : Nat) : Bool := (List.range i).any fun j => decide (c = (j + f) % n)
theorem swF_succ (f n i : Nat) : swF f n (i + 1) = fun c => swF f n i c || decide (c = (i + f) % n) := by
  funext c; unfold swF; rw [List.range_succ, List.any_append]; simp
theorem mod_inj {f n i j : Nat} (hi : i < n) (hj : j < n) (e : (i + f) % n = (j + f) % n) : i = j := by
  have h1 := Nat.div_add_mod (i + f) n
  have h2 := Nat.div_add_mod (j + f) n
  rw [e] at h1
  have h3 : ∀ a b : Nat, i + f = n * a + (j + f) % n → j + f = n * b + (j + f) % n → i = j := fun a b h1 h2 => by
    rcases Nat.lt_trichotomy a b with h | h | h
    · have : n * (a + 1) ≤ n * b := Nat.mul_le_mul_left n h
      rw [Nat.mul_add] at this; omega
    · subst h; omega
    · have : n * (b + 1) ≤ n * a := Nat.mul_le_mul_left n h
      rw [Nat.mul_add] at this; omega
  exact h3 _ _ h1.symm h2.symm
theorem swF_new {f n i : Nat} (hi : i < n) : swF f n i ((i + f) % n) = false := by
  unfold swF
  rw [List.any_eq_false]
  intro j hj
  have hj2 : j < i := by simpa using hj
  simp only [decide_eq_true_eq]
  intro e
  have := mod_inj hi (by omega) e
  omega
theorem swF_all {f n c : Nat} (hc : c < n) : swF f n n c = true := by
  unfold swF
  rw [List.any_eq_true]
  have hf := Nat.mod_lt f (by omega : 0 < n)
  refine ⟨(c + (n - f % n)) % n, by simpa using Nat.mod_lt _ (by omega), ?_⟩
  simp only [decide_eq_true_eq]
  rw [Nat.mod_add_mod, ← Nat.add_mod_mod, show c + (n - f % n) + f % n = c + n by omega, Nat.add_mod_right, Nat.mod_eq_of_lt hc]
theorem SwI.all {f n : Nat} {s m s1 m1 s2 m2 : List Int} (h : SwI (swF f n n) n s m s1 m1) (g : Moved (opT 0 0 s) (opP 0 0) n s m s2 m2) (hm : ∀ x, x < 4 * n → matesOf m x < 4 * n) : s2 = s1 ∧ m2 = m1 := by
  refine g.uniq h (op_place _ _ _ _) hm (fun x hx => ?_) (fun c hc => (swF_all hc).symm)
  have : opT 0 0 s = rot (swQ s) := by unfold opT; simp
  rw [this]; unfold rot
  show _ = trn x (if swF f n n (x / 4) = true then swQ s (x / 4) else 0)
  rw [swF_all (by omega : x / 4 < n)]; simp
theorem SwI.none {n : Nat} {s m : List Int} (f : Nat) (hs : s.length = n) (hl : m.length = 4 * n) (hp : pairB s m = true) : SwI (swF f n 0) n s m s m := by
  have h := Moved.self hs hl hp
  have e : (rot fun c => if swF f n 0 c = true then swQ s c else 0) = fun x => x := by
    funext x; unfold rot swF trn; simp; omega
  have e2 : swF f n 0 = fun _ => false := by funext c; rfl
  unfold SwI; rw [e, e2]; exact h

theorem Moved.range {T : Nat → Nat} {P : Nat → Bool} {n nm : Nat} {s m s1 m1 : List Int} (h : Moved T P n s m s1 m1) (q : Place T n) (hn : n ≤ 64) (hnm : nm = 4 * n) (hm : ∀ x, x < 4 * n → matesOf m x < 4 * n) : ∀ j, j < nm → -9223372036854775808 ≤ mt m1 j ∧ mt m1 j ≤ 9223372036854775807 := fun j hj => by
  obtain ⟨y, hy, rfl⟩ := q.q.hits (by omega : j < 4 * n)
  rw [h.mate y hy]
  have := q.q.lt _ (hm y hy)
  omega

end Go.Proofs.Ytdamfoobnbjojaa

/- For every diagram and every number the law MirrorSwitches returns true, and its arguments read afterwards as before. No condition. -/
namespace Go.Proofs.Ytdamfoobnbjojaa
open Go.ChangeShapes Go.WideShapes Go.ChangeAt Go.RowKit Go.Joins

/-- What holds between the rounds. -/
structure SwR (wL wr : World) (g7 ns nm f k : Nat) (lp : Int) (s m : List Int) (A2 : Option Addr) (c2 : Nat) (B2 : Option Addr) (m2 : Nat) (s2 l2 : List Int) : Prop where
  below : Below g7 wL wr
  size : wL.heap.size ≤ wr.heap.size
  box : DB wr g7 A2 ns c2 B2 nm m2 lp
  bf : ∀ i, wr.frozen? ⟨g7, i, none⟩ = false
  dv : DV wr A2 ns B2 nm s2 l2
  sw : SwI (swF f ns k) ns s m s2 l2
  v : validB s2 l2 lp = true

set_option maxHeartbeats 6400000 in
set_option maxRecDepth 100000 in
theorem mirrorswitches_walk (A B : Option Addr) (ns cs nm cm : Nat) (lp : Int) (s m : List Int) (x : Int) (w : World) (hs : RI w A ns s) (hm : RI w B nm m) (hns : ns ≤ 9223372036854775807) (hnm : nm ≤ 9223372036854775807) (hmI : ∀ z ∈ m, inI z) (hx : 0 ≤ x ∧ x ≤ 255) :
    Calls Try.prog 7 #[dval A ns cs B nm cm lp, .int .u8 x] w fun e w' => e = .returned (.bool true) ∧ Below w.heap.size w w' := by
  have hd := DB.new w A ns cs B nm cm lp
  have hb0 := below_alloc w (dbox A ns cs B nm cm lp)
  have HD := Lib.hid hd
  have HB := Lib.hid hb0
  obtain ⟨d0, d1, d2, dlt⟩ := hd
  have CA : ∀ W : World, Hid (Calls Try.prog 11 #[] W fun e w' => e = .returned (.bool true) ∧ Below W.heap.size W w') := fun W => Lib.hid (mawake_any W)
  have CF : ∀ W : World, Hid (Calls Try.prog 12 #[dval A ns cs B nm cm lp] W fun e w' => e = .returned (.bool (fewM ns nm)) ∧ Below W.heap.size W w') := fun W => Lib.hid (mfew_any A B ns cs nm cm lp W hns hnm)
  cases hf : fewM ns nm with
  | false =>
    rw [hf] at CF
    clear hf hs hm hmI hb0
    go_enter Try.func7, Try.ntmps7
    go_wp2_with (first
      | (go_at_call 12; ((with_reducible refine (CF _).out.mono ?_); rintro e w2 ⟨rfl, hb2⟩))
      | (go_at_call 11; ((with_reducible refine (CA w2).out.mono ?_); rintro e w3 ⟨rfl, hb3⟩))
      | (go_at_call 11; ((with_reducible refine (CA _).out.mono ?_); rintro e w1 ⟨rfl, hb1⟩; have y0 := (hb1.cell (p := ⟨w.heap.size, 0, none⟩) dlt).trans d0; have y1 := (hb1.cell (p := ⟨w.heap.size, 1, none⟩) dlt).trans d1; have y2 := (hb1.cell (p := ⟨w.heap.size, 2, none⟩) dlt).trans d2)))
    go_ret
    exact ⟨rfl, below_step HB.out (below_step hb1 (below_step hb2 hb3))⟩
  | true =>
    rw [hf] at CF
    have H := Lib.hid (DV.ofI hs hm hmI hf)
    obtain ⟨hn14, hn70⟩ := fewM_out hf
    clear hf hs hm hmI hb0 hns hnm
    have CV : ∀ W : World, Below w.heap.size w W → Hid (Calls Try.prog 29 #[dval A ns cs B nm cm lp] W fun e w' => e = .returned (.bool (validB s m lp)) ∧ Below W.heap.size W w') := fun W hW => Lib.hid ((H.out.keep hW).valid cs cm lp _ rfl)
    cases hv : validB s m lp with
    | false =>
      rw [hv] at CV
      clear hv
      go_enter Try.func7, Try.ntmps7
      go_wp2_with (first
        | (go_at_call 12; ((with_reducible refine (CF _).out.mono ?_); rintro e w2 ⟨rfl, hb2⟩; have hb12 := below_step hb1 hb2; have z0 := (hb12.cell (p := ⟨w.heap.size, 0, none⟩) dlt).trans d0; have z1 := (hb12.cell (p := ⟨w.heap.size, 1, none⟩) dlt).trans d1; have z2 := (hb12.cell (p := ⟨w.heap.size, 2, none⟩) dlt).trans d2))
        | (go_at_call 29; ((with_reducible refine (CV _ (below_step HB.out hb12)).out.mono ?_); rintro e w3 ⟨rfl, hb3⟩))
        | (go_at_call 11; ((with_reducible refine (CA w3).out.mono ?_); rintro e w4 ⟨rfl, hb4⟩))
        | (go_at_call 11; ((with_reducible refine (CA _).out.mono ?_); rintro e w1 ⟨rfl, hb1⟩; have y0 := (hb1.cell (p := ⟨w.heap.size, 0, none⟩) dlt).trans d0; have y1 := (hb1.cell (p := ⟨w.heap.size, 1, none⟩) dlt).trans d1; have y2 := (hb1.cell (p := ⟨w.heap.size, 2, none⟩) dlt).trans d2)))
      go_ret
      exact ⟨rfl, below_step HB.out (below_step hb12 (below_step hb3 hb4))⟩
    | true =>
      rw [hv] at CV
      have HV := Lib.hid hv
      clear hv
      go_enter Try.func7, Try.ntmps7
      go_upto_region 3 with (first
        | (go_at_call 12; ((with_reducible refine (CF _).out.mono ?_); rintro e w2 ⟨rfl, hb2⟩; have hb12 := below_step hb1 hb2; have z0 := (hb12.cell (p := ⟨w.heap.size, 0, none⟩) dlt).trans d0; have z1 := (hb12.cell (p := ⟨w.heap.size, 1, none⟩) dlt).trans d1; have z2 := (hb12.cell (p := ⟨w.heap.size, 2, none⟩) dlt).trans d2))
        | (go_at_call 29; ((with_reducible refine (CV _ (below_step HB.out hb12)).out.mono ?_); rintro e w3 ⟨rfl, hb3⟩))
        | (go_at_call 11; ((with_reducible refine (CA _).out.mono ?_); rintro e w1 ⟨rfl, hb1⟩; have y0 := (hb1.cell (p := ⟨w.heap.size, 0, none⟩) dlt).trans d0; have y1 := (hb1.cell (p := ⟨w.heap.size, 1, none⟩) dlt).trans d1; have y2 := (hb1.cell (p := ⟨w.heap.size, 2, none⟩) dlt).trans d2)))
      have hb13 := below_step hb12 hb3
      have HB3 := Lib.hid (below_step HB.out hb13)
      have hd3 := HD.out.keep hb13
      clear y0 y1 y2 z0 z1 z2 CV CF CA d0 d1 d2 hb1 hb2 hb3 hb12 hb13
      obtain ⟨hnm, _, hM, hS, _, _⟩ := valid_data HV.out H.out.hs.1 H.out.hm.1
      have HLS := Lib.hid H.out.hs.1
      have HLM := Lib.hid H.out.hm.1
      have HNM := Lib.hid hnm
      have HSV := Lib.hid hS
      have hml : ∀ y, y < 4 * ns → matesOf m y < 4 * ns := fun y hy => by have := (hM y (by omega)).2; omega
      have HML := Lib.hid hml
      obtain ⟨d0, d1, d2, dlt3⟩ := hd3
      have HD3 := Lib.hid (show DB w3 w.heap.size A ns cs B nm cm lp from ⟨d0, d1, d2, dlt3⟩)
      have CMi := Lib.hid (mirror_yes A B ns cs nm cm lp s m w3 (H.out.keep HB3.out) HV.out)
      obtain ⟨f, hf⟩ : ∃ f : Nat, x = (f : Int) := ⟨x.toNat, by omega⟩
      subst hf
      have hf1 : f ≤ 255 := by omega
      clear hM hS hml hnm hx HD HB dlt
      go_upto_region 5 with (go_at_call 13; ((with_reducible refine CMi.out.mono ?_); rintro e w4 ⟨A1, c1, B1, m1, s1, l1, rfl, oS, oM, hMv, hb4⟩; have y0 := (hb4.cell (p := ⟨w.heap.size, 0, none⟩) dlt3).trans d0; have y1 := (hb4.cell (p := ⟨w.heap.size, 1, none⟩) dlt3).trans d1; have y2 := (hb4.cell (p := ⟨w.heap.size, 2, none⟩) dlt3).trans d2; have ylt := Nat.lt_of_lt_of_le dlt3 hb4.size))
      have hb5 := below_alloc w4 (dbox A1 ns c1 B1 nm m1 lp)
      have hb6 := below_alloc (w4.alloc (dbox A1 ns c1 B1 nm m1 lp)) (dbox A ns cs B nm cm lp)
      have hdm := (DB.new w4 A1 ns c1 B1 nm m1 lp).keep hb6
      have hdx := DB.new (w4.alloc (dbox A1 ns c1 B1 nm m1 lp)) A ns cs B nm cm lp
      have hxf : ∀ i, ((w4.alloc (dbox A1 ns c1 B1 nm m1 lp)).alloc (dbox A ns cs B nm cm lp)).frozen? ⟨(w4.alloc (dbox A1 ns c1 B1 nm m1 lp)).heap.size, i, none⟩ = false := fun i => World.frozen?_alloc_at _ _ _ _ rfl
      have hs4 : (w4.alloc (dbox A1 ns c1 B1 nm m1 lp)).heap.size = w4.heap.size + 1 := by simp
      rw [hs4] at hdx hxf
      have hb46 := below_step hb5 hb6
      have hsL : ((w4.alloc (dbox A1 ns c1 B1 nm m1 lp)).alloc (dbox A ns cs B nm cm lp)).heap.size = w4.heap.size + 2 := by simp
      have hbL := below_step hb4 hb46
      have hddL := HD3.out.keep hbL
      have dvL := (H.out.keep HB3.out).keep hbL
      have hlt4 := hb4.size
      unfold dbox at hdm hdx hxf hsL hbL hddL dvL hb46
      have HB46 := Lib.hid hb46
      clear hb46
      have HRI := Lib.hid (And.intro oS.ri oM.ri)
      clear y0 y1 y2 d0 d1 d2 hb5 hb6 hs4 oS oM hb4
      generalize (w4.alloc (.cells #[.slice A1 ns c1, .slice B1 nm m1, .int .i64 lp] 24)).alloc (.cells #[.slice A ns cs, .slice B nm cm, .int .i64 lp] 24) = wL at hdm hdx hxf hsL hbL hddL dvL HB46 ⊢
      obtain ⟨g5, hg5⟩ : ∃ g5, w4.heap.size = g5 := ⟨_, rfl⟩
      have HG5 := Lib.hid hg5
      rw [hg5] at hdm hdx hxf hsL hlt4 ⊢
      obtain ⟨g7, hg7⟩ : ∃ g7, g5 + 1 = g7 := ⟨_, rfl⟩
      rw [hg7] at hdx hxf ⊢
      have hlts : w.heap.size < g5 ∧ g5 < g7 ∧ g7 < wL.heap.size ∧ w.heap.size ≤ w3.heap.size := by have := HB3.out.size; omega
      have HLT := Lib.hid hlts
      have R0 : Hid (SwR wL wL g7 ns nm f 0 lp s m A cs B cm s m) := Lib.hid ⟨Below.refl _ _, Nat.le_refl _, hdx, hxf, dvL, SwI.none f HLS.out (by rw [HLM.out]; exact HNM.out) (validB_out HV.out).2.2.1, HV.out⟩
      have HDD := Lib.hid hddL
      have HDM := Lib.hid hdm
      have HMV := Lib.hid hMv
      have HBL := Lib.hid (below_step HB3.out hbL)
      have HDS := Lib.hid dvL.hs
      clear hdm hdx hxf hsL hbL dvL hlt4 hg5 hg7 hlts hMv
      obtain ⟨d0, d1, d2, dlt4⟩ := hddL
      have f0 : (0 : Int) ≤ (f : Int) := Int.natCast_nonneg _
      have f1 : (f : Int) ≤ 255 := by omega
      go_wp2
      go_loopw [8, 9, 34] (fun _ _ i wr => ∃ (k : Nat) (A2 : Option Addr) (c2 : Nat) (B2 : Option Addr) (m2 : Nat) (s2 l2 : List Int), k ≤ ns ∧ i = .int .i64 k ∧ SwR wL wr g7 ns nm f k lp s m A2 c2 B2 m2 s2 l2) (fun _ _ i _ => ns - (intOf i).toNat)
      case atStart => exact ⟨0, A, cs, B, cm, s, m, by omega, rfl, R0.out⟩
      case round =>
        obtain ⟨k, A2, c2, B2, m2, s2, l2, hk, rfl, hR⟩ := hrel
        have hk0 : (0 : Int) ≤ (k : Int) := Int.natCast_nonneg _
        have HR := Lib.hid hR
        obtain ⟨l1', l2', l3', l4'⟩ := HLT.out
        by_cases hkn : k < ns
        · have hk1 : (k : Int) < (ns : Int) := by omega
          have x0 := (hR.below.cell (p := ⟨w.heap.size, 0, none⟩) (by show w.heap.size < g7; omega)).trans d0
          obtain ⟨b0, b1, b2, blt⟩ := hR.box
          obtain ⟨q, hq⟩ : ∃ q, (k + f) % ns = q := ⟨_, rfl⟩
          have hqn : q < ns := by rw [← hq]; exact Nat.mod_lt _ (by omega)
          have hqi : ((k : Int) + (f : Int)).tmod (ns : Int) = (q : Int) := by rw [Int.tmod_eq_emod_of_nonneg (by omega), ← hq]; simp
          have hqi' : ((k : Int) + (f : Int)) % (ns : Int) = (q : Int) := by rw [← hq]; simp
          have hw1 : IntKind.i64.wrap ((k : Int) + (f : Int)) = (k : Int) + (f : Int) := IntWalk.i64_in _ (by omega)
          have hw2 : IntKind.i64.wrap (f : Int) = (f : Int) := IntWalk.i64_in _ (by omega)
          have hw3 : IntKind.i64.wrap (q : Int) = (q : Int) := IntWalk.i64_in _ (by omega)
          have hkf : (0 : Int) ≤ (k : Int) + (f : Int) := by omega
          have hnz : ((ns : Int) == 0) = false := by simp only [beq_eq_false_iff_ne, ne_eq]; omega
          have hnz' : (ns : Int) ≠ 0 := by omega
          have hpos : (0 : Int) < (ns : Int) := by omega
          have CS := Lib.hid (switch_yes A2 B2 ns c2 nm m2 lp s2 l2 q wr.drew (hR.dv.keep (Below.refl _ _).drew) hR.v hqn)
          have HQ := Lib.hid hq
          have x0d : wr.drew.cell? ⟨w.heap.size, 0, none⟩ = some (.slice A ns cs) := x0
          have hg7lt : w.heap.size < wr.heap.size := by have := hR.size; omega
          have hbD : Below wr.heap.size wr wr.drew := (Below.refl _ _).drew
          clear hR hq
          go_wp2
          have b0d : wr.drew.cell? ⟨g7, 0, none⟩ = some (.slice A2 ns c2) := b0
          have b1d : wr.drew.cell? ⟨g7, 1, none⟩ = some (.slice B2 nm m2) := b1
          have b2d : wr.drew.cell? ⟨g7, 2, none⟩ = some (.int .i64 lp) := b2
          go_region_with
            ((go_at_call 23; ((with_reducible refine CS.out.mono ?_); rintro e w5 ⟨A3, c3, B3, m3, s3, l3, rfl, oS3, oM3, hM3, hb5'⟩; have hb5 := below_step hbD hb5'; have r0 := (hb5.cell (p := ⟨g7, 0, none⟩) blt).trans b0; have r1 := (hb5.cell (p := ⟨g7, 1, none⟩) blt).trans b1; have r2 := (hb5.cell (p := ⟨g7, 2, none⟩) blt).trans b2; have e0 := (hb5.frozen (p := ⟨g7, 0, none⟩) blt).trans (HR.out.bf 0); have e1 := (hb5.frozen (p := ⟨g7, 1, none⟩) blt).trans (HR.out.bf 1); have e2 := (hb5.frozen (p := ⟨g7, 2, none⟩) blt).trans (HR.out.bf 2))))
          all_goals
            obtain ⟨z0, z1, z2⟩ := set3_cells w5 g7 (.slice A3 ns c3) (.slice B3 nm m3) (.int .i64 lp) r0 r1 r2
            have HN : Hid (SwR wL (set3 w5 g7 (.slice A3 ns c3) (.slice B3 nm m3) (.int .i64 lp)) g7 ns nm f (k + 1) lp s m A3 c3 B3 m3 s3 l3) := Lib.hid (by
              have hd5 : wr.drew.heap.size = wr.heap.size := rfl
              have n1 : (Value.slice A3 ns c3).ownBlock ≠ some g7 := fun e => by have := (World.ownsRow.lt oS3 g7 e).1; omega
              have n2 : (Value.slice B3 nm m3).ownBlock ≠ some g7 := fun e => by have := (World.ownsRow.lt oM3 g7 e).1; omega
              have hp := op_place 3 q s2 ns
              have hl2 : s2.length = ns := HR.out.dv.hs.1
              have hm2 : l2.length = 4 * ns := by rw [HR.out.dv.hm.1]; exact HNM.out
              have hml2 := mates_lt hm2 (validB_out HR.out.v).2.2.1
              refine ⟨set3_below (HR.out.below.trans (hb5.mono (Nat.le_of_lt blt))) (Nat.le_refl _) _ _ _, ?_, ⟨z0, z1, z2, ?_⟩, fun i => ?_, ⟨(oS3.set3 n1 _ _ _).ri, (oM3.set3 n2 _ _ _).ri, by omega, by omega, hM3.range hp (by omega) HNM.out hml2⟩, ?_, op_valid (by omega) hM3 HR.out.v hl2⟩
              · have h1 := HR.out.size; have h2 := hb5.size; simp [World.setCell]; omega
              · have h2 := hb5.size; simp [World.setCell]; omega
              · exact (World.frozen?_setCell _ _ _ _).trans ((World.frozen?_setCell _ _ _ _).trans ((World.frozen?_setCell _ _ _ _).trans ((hb5.frozen (p := ⟨g7, i, none⟩) blt).trans (HR.out.bf i))))
              · have hst := HR.out.sw.step hM3 hqn (by rw [← HQ.out]; exact swF_new hkn)
                rw [← HQ.out] at hst
                rw [swF_succ]; exact hst)
            go_wp2
            go_roundw
            case rel => exact ⟨k + 1, A3, c3, B3, m3, s3, l3, by omega, by go_num, HN.out⟩
            case measure => simp [intOf]; omega
        · obtain rfl : ns = k := by omega
          obtain ⟨ea, eb⟩ := hR.sw.all HMV.out HML.out
          subst ea; subst eb
          obtain ⟨wO, hwO⟩ : ∃ wO : World, wO = wr := ⟨_, rfl⟩
          subst hwO
          obtain ⟨c0', c1', c2', clt'⟩ := HDM.out.below hR.below (by omega)
          obtain ⟨x0, x1, x2, xlt⟩ := HDD.out.below hR.below (by omega)
          obtain ⟨b0, b1, b2, blt⟩ := hR.box
          have hg5 := HG5.out
          have hb4O : Below w4.heap.size w4 wO := HB46.out.trans (hR.below.mono (by omega))
          have rS : RI wO A1 ns s1 := HRI.out.1.keep hb4O
          have rM : RI wO B1 nm l1 := HRI.out.2.keep hb4O
          have hbO : Below w.heap.size w wO := HBL.out.trans (hR.below.mono (by omega))
          have rD : RI wO A ns s := H.out.hs.keep hbO
          have hdv := hR.dv
          have HE := Lib.hid (equal_any A1 B1 A2 B2 ns c1 nm m1 ns c2 nm m2 lp lp s1 l1 s1 l1 wO rS rM hdv.hs hdv.hm (by omega) (by omega) (by omega) (by omega))
          rw [eqD_refl] at HE
          have HRD := Lib.hid rD
          have HRS := Lib.hid rS
          have HBO := Lib.hid hbO
          clear hR hdv rD rS rM hbO hb4O hg5 hkn hk
          go_wp2
          go_loopw [10, 11, 56] (fun _ _ i wr => ∃ k : Nat, k ≤ ns ∧ i = .int .i64 k ∧ wr = wO) (fun _ _ i _ => ns - (intOf i).toNat)
          case atStart => exact ⟨0, by omega, rfl, rfl⟩
          case round =>
            obtain ⟨k, hk, rfl, hw⟩ := hrel
            subst hw
            have hk0 : (0 : Int) ≤ (k : Int) := Int.natCast_nonneg _
            by_cases hkn : k < ns
            · have hk1 : (k : Int) < (ns : Int) := by omega
              obtain ⟨b', o', rfl, hb', hc'⟩ := HRD.out.2 (by omega)
              obtain ⟨b9, o9, rfl, hb9, hc9⟩ := HRS.out.2 (by omega)
              have u1 := hc' k hkn
              have u2 := hc9 k hkn
              have hsv := HSV.out k hkn
              have hs1 := HMV.out.sg k hkn
              have hop : opP 0 0 k = true := rfl
              rw [hop, if_pos rfl] at hs1
              rw [hs1] at u2
              obtain ⟨sg, hsg⟩ : ∃ sg, s.getD k 0 = sg := ⟨_, rfl⟩
              rw [hsg] at u1 u2 hsv
              have hng : IntKind.i64.wrap (-sg) = -sg := IntWalk.i64_in _ (by omega)
              have hge : ¬ (ns : Int) ≤ (k : Int) := by omega
              have hge2 : decide (ns ≤ k) = false := by simp; omega
              clear hc' hc9 hs1 hop hsg hsv
              go_wp2
              go_roundw
              case rel => exact ⟨k + 1, by omega, by go_num, trivial⟩
              case measure => simp [intOf]; omega
            · obtain rfl : ns = k := by omega
              clear hkn hk
              go_wp2_with (go_at_call 33; ((with_reducible refine HE.out.mono ?_); rintro e w9 ⟨rfl, hb9⟩))
              go_ret
              exact ⟨rfl, below_step HBO.out hb9⟩

end Go.Proofs.Ytdamfoobnbjojaa
