import Derived.Test.YtkfjledhnakfoaaA14
import Derived.Test.YtkfjledhnakfoaaA06
import Derived.Test.YtkfjledhnakfoaaA15
import Derived.Test.YtkfjledhnakfoaaA18
/- Walk: Cuts. -/
namespace Go.Proofs.Ytkfjledhnakfoaa
open Go.RowKit Go.Maps

def cutRow (F M : Nat → Nat) (x : Nat) (ys : List Nat) : List (Nat × Nat) := (ys.filter fun y => decide (F x = F y ∧ F (M x) = F (M y))).map fun y => (x, y)
theorem cutRow_len (F M : Nat → Nat) (x : Nat) (ys : List Nat) : (cutRow F M x ys).length ≤ ys.length := by unfold cutRow; rw [List.length_map]; exact List.length_filter_le _ _
def cutsT (F M : Nat → Nat) (E : List Nat) : Nat → List (Nat × Nat)
  | 0 => []
  | k + 1 => cutsT F M E k ++ cutRow F M (E.getD k 0) (E.drop (k + 1))
theorem cutsT_len (F M : Nat → Nat) (E : List Nat) (hE : E.length ≤ 256) (k : Nat) : (cutsT F M E k).length ≤ 256 * k := by
  induction k with
  | zero => exact Nat.le_refl _
  | succ k ih =>
    have h1 := cutRow_len F M (E.getD k 0) (E.drop (k + 1))
    rw [List.length_drop] at h1
    unfold cutsT
    rw [List.length_append]; omega
/-- The outgoing half-edges of a valid diagram. -/
def cutE (s m : List Int) (lp : Int) : List Nat := if validB s m lp = true then (List.range m.length).filter (outB s) else []
def cutsM (s m : List Int) (lp : Int) : List (Nat × Nat) := cutsT (fcN s m lp) (matesOf m) (cutE s m lp) (cutE s m lp).length
theorem oo_rows {w : World} {B n c : Nat} {A : Option Addr} {xss : List (List Int)} (h : OO w B (.slice A n c) xss) : n = xss.length ∧ RowsRI w A n xss := by
  obtain ⟨A', c', e⟩ := h.form
  injection e with _ e2 _
  refine ⟨e2, fun k hk => ?_⟩
  obtain ⟨_, gA, R, n', c'', e3, h1, h2, h3, h4⟩ := h.el k (by omega)
  have hl := h4.ri.1
  refine ⟨gA, 0, R, c'', e3, h2, by rw [Nat.zero_add, h3, hl], by rw [hl]; exact h4.ri⟩
theorem strands_small {s m : List Int} {lp : Int} : (strandsM s m lp).length ≤ 256 ∧ (strandsM s m lp).flatten.length ≤ 256 ∧ sortL (strandsM s m lp).flatten = (cutE s m lp).map fun (h : Nat) => (h : Int) := by
  cases hv : validB s m lp with
  | false =>
    have e1 : strandsM s m lp = [] := by unfold strandsM; rw [if_neg (by rw [hv]; decide)]
    have e2 : cutE s m lp = [] := by unfold cutE; rw [if_neg (by rw [hv]; decide)]
    rw [e1, e2]; exact ⟨by simp, by simp, by simp [sortL]⟩
  | true =>
    have h1 := strands_sorted hv
    have hl := sortL_length (strandsM s m lp).flatten
    rw [h1] at hl
    obtain ⟨v1, _, _, _⟩ := validB_out hv
    obtain ⟨l1, l2, _, _⟩ := limB_out v1
    have h2 := @strandsM_le s m lp
    have h3 : (outsL s m.length).length ≤ m.length := by unfold outsL; rw [List.length_map]; exact Nat.le_trans (List.length_filter_le _ _) (by simp)
    refine ⟨by omega, by omega, ?_⟩
    rw [h1]; unfold cutE outsL; rw [if_pos hv]
theorem cutE_lt {s m : List Int} {lp : Int} {k : Nat} (hk : k < (cutE s m lp).length) : validB s m lp = true ∧ (cutE s m lp).getD k 0 < m.length ∧ outB s ((cutE s m lp).getD k 0) = true := by
  have e : (cutE s m lp).getD k 0 = (cutE s m lp)[k] := by simp [List.getD, hk]
  have hm := List.getElem_mem hk
  rw [← e] at hm
  cases hv : validB s m lp with
  | false => unfold cutE at hk; rw [if_neg (by rw [hv]; decide)] at hk; simp at hk
  | true =>
    unfold cutE at hm ⊢
    rw [if_pos hv, List.mem_filter, List.mem_range] at hm
    rw [if_pos hv]
    exact ⟨rfl, hm.1, hm.2⟩
theorem cutE_len {s m : List Int} {lp : Int} : (cutE s m lp).length ≤ 256 := by
  have h := @strands_small s m lp
  have := sortL_length (strandsM s m lp).flatten
  rw [h.2.2, List.length_map] at this
  omega
/-- What holds while the edges behind x are tried. -/
structure CtI (w5 wr : World) (gx p q : Nat) (v : Value) (ps : List (Nat × Nat)) : Prop where
  below : Below w5.heap.size w5 wr
  op : OP wr w5.heap.size v ps
  c0 : wr.cell? ⟨gx, 0, none⟩ = some (.int .i64 (p : Int))
  c1 : wr.cell? ⟨gx, 1, none⟩ = some (.int .i64 (q : Int))
  ne : v.ownBlock ≠ some gx
  lt : gx < wr.heap.size
theorem CtI.keep {w5 wr w' : World} {gx p q : Nat} {v : Value} {ps : List (Nat × Nat)} (h : CtI w5 wr gx p q v ps) (hb : Below wr.heap.size wr w') : CtI w5 w' gx p q v ps :=
  ⟨below_step h.below hb, h.op.keep hb, (hb.cell (p := ⟨gx, 0, none⟩) h.lt).trans h.c0, (hb.cell (p := ⟨gx, 1, none⟩) h.lt).trans h.c1, h.ne, Nat.lt_of_lt_of_le h.lt hb.size⟩
theorem CtI.app {w5 wr w' : World} {gx p q : Nat} {v v' : Value} {ps ps' : List (Nat × Nat)} (h : CtI w5 wr gx p q v ps) (ho : OP w' w5.heap.size v' ps') (hg : wr.grownBy w' v.ownBlock) (hv : v'.ownBlock = v.ownBlock ∨ v'.ownBlock = some wr.heap.size) : CtI w5 w' gx p q v' ps' := by
  refine ⟨h.below.grown hg h.below.size (fun g e => (World.ownsRow.lt h.op g e).1), ho, ?_, ?_, ?_, Nat.lt_of_lt_of_le h.lt hg.size⟩
  · exact (hg.cell_far ⟨gx, 0, none⟩ h.lt (fun e => h.ne e.symm)).trans h.c0
  · exact (hg.cell_far ⟨gx, 1, none⟩ h.lt (fun e => h.ne e.symm)).trans h.c1
  · rcases hv with e | e
    · rw [e]; exact h.ne
    · rw [e]; intro q; injection q with q; have := h.lt; omega
def CtPost (w : World) (ps : List (Nat × Nat)) (e : Ending) (w' : World) : Prop := ∃ v, e = .returned v ∧ OP w' w.heap.size v ps ∧ Below w.heap.size w w'

set_option maxHeartbeats 12800000 in
set_option maxRecDepth 100000 in
theorem cuts_any (A B : Option Addr) (ns cs nm cm : Nat) (lp : Int) (s m : List Int) (w : World) (h : DV w A ns B nm s m) :
    Calls Try.prog 23 #[dval A ns cs B nm cm lp] w (CtPost w (cutsM s m lp)) := by
  have hmf : ∀ (fn : Fn) (first cap : Array Value) (w : World), (Instr.makeFunc fn first cap).run Try.prog w = .ok (.func fn first cap) w := fun _ _ _ _ => rfl
  have hpe := pair_eql
  have hcf : ∀ (args : Array Value) (W : World), (callFunc 69 args).run Try.prog W = .ok (.enter 69 args) W := fun _ _ => by kernel_rfl
  have hd := DB.new w A ns cs B nm cm lp
  have hb0 := below_alloc w (dbox A ns cs B nm cm lp)
  have H := Lib.hid (h.keep hb0)
  have HL := Lib.hid h.hm.1
  have HSS := Lib.hid (@strands_small s m lp)
  have HMM : Hid (∀ k, k < (cutE s m lp).length → (cutE s m lp).getD k 0 < nm ∧ Mates m nm (matesOf m) ∧ nm ≤ 256) := Lib.hid fun k hk => by
    obtain ⟨hv, h1, _⟩ := cutE_lt hk
    obtain ⟨v1, _, v3, _⟩ := validB_out hv
    have hl := limB_out v1
    have := h.hm.1
    exact ⟨by omega, matesOf_mates v3 h.hm.1, by omega⟩
  have CS := Lib.hid (strands_any A B ns cs nm cm lp s m _ H.out)
  have CF : ∀ W, Below (w.alloc (dbox A ns cs B nm cm lp)).heap.size (w.alloc (dbox A ns cs B nm cm lp)) W → Hid (Calls Try.prog 66 #[dval A ns cs B nm cm lp] W fun e w' => ∃ b, e = .returned (.map (some b)) ∧ MpF w' b 65536 (fcN s m lp) ∧ W.heap.size ≤ b ∧ Below W.heap.size W w') := fun W hW => Lib.hid (fnum_any A B ns cs nm cm lp s m W (H.out.keep hW))
  have hEl := @cutE_len s m lp
  show Calls _ _ _ _ (CtPost w (cutsT (fcN s m lp) (matesOf m) (cutE s m lp) (cutE s m lp).length))
  obtain ⟨F, hF⟩ : ∃ F, fcN s m lp = F := ⟨_, rfl⟩
  obtain ⟨E, hE⟩ : ∃ E, cutE s m lp = E := ⟨_, rfl⟩
  obtain ⟨xss, hxs⟩ : ∃ xss, strandsM s m lp = xss := ⟨_, rfl⟩
  simp only [hF] at CF ⊢
  rw [hE] at HSS HMM hEl ⊢
  rw [hxs] at CS HSS
  obtain ⟨M, hM⟩ : ∃ M, matesOf m = M := ⟨_, rfl⟩
  rw [hM] at HMM ⊢
  clear hF hE hxs hM h
  unfold dbox at hd hb0 H CS CF
  go_enter Try.func23, Try.ntmps23
  go_upto_region 1 with fail
  generalize w.alloc (.cells #[.slice A ns cs, .slice B nm cm, .int .i64 lp] 24) = w0 at hd hb0 H CS CF ⊢
  obtain ⟨gd, hgd⟩ : ∃ gd, w.heap.size = gd := ⟨_, rfl⟩
  rw [hgd] at hd ⊢
  have HD := Lib.hid hd
  have HB := Lib.hid hb0
  obtain ⟨d0, d1, d2, dlt⟩ := hd
  clear hgd hb0
  go_upto_region 2 with (first
    | (go_at_call 29; ((with_reducible refine CS.out.mono ?_); rintro e w1 ⟨v, rfl, oS, hb1⟩; obtain ⟨SA, Sc, rfl⟩ := oS.form; have CC := Lib.hid (concat_ri SA xss.length Sc xss w1 rfl (by have := HSS.out.1; omega) (by have := HSS.out.2.1; omega) (oo_rows oS).2)))
    | (go_at_call 67; ((with_reducible refine CC.out.mono ?_); rintro e w2 ⟨v, rfl, oC, hb2⟩)))
  obtain ⟨n, hn⟩ : ∃ n, xss.flatten.length = n := ⟨_, rfl⟩
  obtain ⟨EA, Ec, rfl⟩ := oC.shp hn
  have hn256 : n ≤ 256 := by have := HSS.out.2.1; omega
  have CT := Lib.hid (sort_oi oC hn (by omega))
  have hEn : E.length = n := by have := sortL_length xss.flatten; rw [HSS.out.2.2, List.length_map] at this; omega
  have HOC := Lib.hid oC
  have hb02 := below_step hb1 hb2
  have HB02 := Lib.hid hb02
  have HW01 := Lib.hid hb1.size
  clear oC hn hb1 hb2 oS CC CS hb02
  go_upto_region 3 with (go_at_call 68; ((with_reducible refine CT.out.mono ?_); rintro e w3 ⟨rfl, oT, hg3⟩))
  rw [HSS.out.2.2] at oT
  have hEB : ∀ g, (Value.slice EA n Ec).ownBlock = some g → w0.heap.size ≤ g ∧ g < w3.heap.size := fun g e => by
    have h1 := World.ownsRow.lt HOC.out g e
    have h2 := World.ownsRow.lt oT g e
    have := HW01.out
    exact ⟨Nat.le_trans (by omega) h1.1, h2.2⟩
  have hb3 : Below w0.heap.size w0 w3 := HB02.out.grown hg3 HB02.out.size (fun g e => (hEB g e).1)
  have HEB := Lib.hid hEB
  have hw1 : w0.heap.size ≤ w3.heap.size := hb3.size
  have oT2 : OI w3 w0.heap.size (.slice EA n Ec) (E.map fun (h : Nat) => (h : Int)) := ⟨oT.1, oT.2.imp id (fun ⟨g, cap, cur, e, h1, h2⟩ => ⟨g, cap, cur, e, (hEB g (by rw [e]; rfl)).1, h2⟩)⟩
  obtain ⟨x0, x1, x2⟩ : w3.cell? ⟨gd, 0, none⟩ = some (.slice A ns cs) ∧ w3.cell? ⟨gd, 1, none⟩ = some (.slice B nm cm) ∧ w3.cell? ⟨gd, 2, none⟩ = some (.int .i64 lp) := ⟨(hb3.cell (p := ⟨gd, 0, none⟩) dlt).trans d0, (hb3.cell (p := ⟨gd, 1, none⟩) dlt).trans d1, (hb3.cell (p := ⟨gd, 2, none⟩) dlt).trans d2⟩
  have CF3 := CF w3 hb3
  have HB3 := Lib.hid hb3
  have HOT := Lib.hid oT2
  clear oT oT2 hg3 hEB hb3 CF CT d0 d1 d2
  go_upto_region 4 with (go_at_call 66; ((with_reducible refine CF3.out.mono ?_); rintro e w4 ⟨b, rfl, hM4, hbb, hb4⟩))
  have hbf := below_alloc w4 (.cells #[.map (some b)] 65)
  have hfc : (w4.alloc (.cells #[.map (some b)] 65)).cell? ⟨w4.heap.size, 0, none⟩ = some (.map (some b)) := by rw [World.cell?_alloc_at _ _ _ _ rfl]; rfl
  have hb05 := below_step (below_step HB3.out hb4) hbf
  have hM5 := hM4.keep hbf
  have hd5 := HD.out.keep hb05
  have hO5 := HOT.out.keep (below_step hb4 hbf)
  have hsz5 : (w4.alloc (.cells #[.map (some b)] 65)).heap.size = w4.heap.size + 1 := by simp
  obtain ⟨gf, hgf⟩ : ∃ gf, w4.heap.size = gf := ⟨_, rfl⟩
  rw [hgf] at hfc ⊢
  generalize w4.alloc (.cells #[.map (some b)] 65) = w5 at hfc hb05 hM5 hd5 hO5 hsz5 ⊢
  have HB5 := Lib.hid hb05
  have HFC := Lib.hid hfc
  have HM5 := Lib.hid hM5
  have HD5 := Lib.hid hd5
  have HO5 := Lib.hid hO5
  have hgf5 : gf < w5.heap.size := by omega
  have HH5 := Lib.hid (H.out.keep hb05)
  have CSD : Hid (∀ (W : World) (k : Nat), Below w5.heap.size w5 W → k < n → Calls Try.prog 69 #[.int .i64 (E.getD k 0 : Nat), .pointer (some ⟨gf, 0, none⟩), .pointer (some ⟨gd, 0, none⟩)] W fun e w' => e = .returned (pairV (F (E.getD k 0), F (M (E.getD k 0)))) ∧ Below W.heap.size W w') := Lib.hid fun W k hW hk => by
    obtain ⟨h1, h2, h3⟩ := HMM.out k (by omega)
    exact sides_any A B ns cs nm cm gd gf b 65536 lp m F M (E.getD k 0) W ((hW.cell (p := ⟨gf, 0, none⟩) hgf5).trans HFC.out) (HD5.out.keep hW) (HM5.out.keep hW) (HH5.out.hm.keep hW) h2 h1 h3
  have hni : (n : Int) ≤ 256 := by omega
  have HEN := Lib.hid hEn
  have HCL := Lib.hid (cutsT_len F M E hEl)
  clear hfc hb05 hM5 hd5 hO5 hsz5 hgf hM4 hbb hb4 hbf x0 x1 x2 hEn hEl CF3
  have HO6 : Hid (∀ W, Below w5.heap.size w5 W → OI W w0.heap.size (.slice EA n Ec) (E.map fun (h : Nat) => (h : Int))) := Lib.hid fun W hW => HO5.out.keep hW
  go_wp2
  go_loopw [6, 7, 8, 9, 11, 22] (fun v _ _ _ _ i wr => ∃ k : Nat, k ≤ n ∧ i = .int .i64 k ∧ Below w5.heap.size w5 wr ∧ OP wr w5.heap.size v (cutsT F M E k)) (fun _ _ _ _ _ i _ => n - (intOf i).toNat)
  case atStart => exact ⟨0, by omega, rfl, Below.refl _ _, OP.nil _ _⟩
  case round =>
    obtain ⟨k, hk, rfl, hbr, hOP⟩ := hrel
    have hk0 : (0 : Int) ≤ (k : Int) := Int.natCast_nonneg _
    by_cases hkn : k < n
    · have hk1 : (k : Int) < (n : Int) := by omega
      obtain ⟨wO, hwO⟩ : ∃ wO : World, wO = wr := ⟨_, rfl⟩
      subst hwO
      have oE := HO6.out wO hbr
      have hEl : (E.map fun (h : Nat) => (h : Int)).length = n := by rw [List.length_map]; exact HEN.out
      obtain ⟨ge, ce, hsl⟩ := oE.form_pos hEl (by omega)
      injection hsl with e1 e2 e3
      subst e1; subst e3
      clear e2
      have hcap : n ≤ Ec := by
        obtain ⟨_, ⟨e, _⟩ | ⟨g, cap, cur, e, _, _, h6, _⟩⟩ := oE
        · cases e
        · injection e with e1 e2 e3; omega
      have hcapm : Ec ≤ maxLen := by
        obtain ⟨_, ⟨e, _⟩ | ⟨g, cap, cur, e, _, _, _, h7, _⟩⟩ := oE
        · cases e
        · injection e with e1 e2 e3; omega
      have hcap63 : (Ec : Int) ≤ 9223372036854775807 := by unfold maxLen at hcapm; omega
      have getE : ∀ j, j < n → (E.map fun (h : Nat) => (h : Int)).getD j 0 = ((E.getD j 0 : Nat) : Int) := fun j hj => by
        have hj' : j < E.length := by have := HEN.out; omega
        simp [List.getD, hj']
      have hce := oE.cell k (by rw [hEl]; exact hkn)
      rw [getE k hkn] at hce
      have HGE := Lib.hid getE
      have C1 := Lib.hid (CSD.out wO k hbr hkn)
      have HST : Hid (cutsT F M E (k + 1) = cutsT F M E k ++ cutRow F M (E.getD k 0) (E.drop (k + 1))) := Lib.hid rfl
      have hlk : (cutsT F M E k).length ≤ 65536 := by have := HCL.out k; omega
      obtain ⟨x, hx⟩ : ∃ x, E.getD k 0 = x := ⟨_, rfl⟩
      rw [hx] at hce C1 HST
      obtain ⟨p, hp⟩ : ∃ p, F x = p := ⟨_, rfl⟩
      obtain ⟨q, hq⟩ : ∃ q, F (M x) = q := ⟨_, rfl⟩
      rw [hp, hq] at C1
      obtain ⟨cur, hcur⟩ : ∃ cur, cutsT F M E k = cur := ⟨_, rfl⟩
      rw [hcur] at hOP HST hlk
      have HOP := Lib.hid hOP
      have HBR := Lib.hid hbr
      have HX : Hid (E.getD k 0 = x ∧ F x = p ∧ F (M x) = q) := Lib.hid ⟨hx, hp, hq⟩
      have HEL := Lib.hid hEl
      clear oE hOP hbr hx hp hq hcur getE hEl hcapm
      go_upto_region 10 with ((with_reducible refine C1.out.mono ?_); rintro e w6 ⟨rfl, hb6⟩)
      have hbx := below_alloc w6 (.cells #[.int .i64 (p : Int), .int .i64 (q : Int)] 39)
      have s0 : (w6.alloc (.cells #[.int .i64 (p : Int), .int .i64 (q : Int)] 39)).cell? ⟨w6.heap.size, 0, none⟩ = some (.int .i64 (p : Int)) := by rw [World.cell?_alloc_at _ _ _ _ rfl]; rfl
      have s1 : (w6.alloc (.cells #[.int .i64 (p : Int), .int .i64 (q : Int)] 39)).cell? ⟨w6.heap.size, 1, none⟩ = some (.int .i64 (q : Int)) := by rw [World.cell?_alloc_at _ _ _ _ rfl]; rfl
      have hsx : w6.heap.size < (w6.alloc (.cells #[.int .i64 (p : Int), .int .i64 (q : Int)] 39)).heap.size := by simp
      have hb7 := below_step (below_step HBR.out hb6) hbx
      have hO7 := HOP.out.keep (below_step hb6 hbx)
      have hOo := HOP.out
      obtain ⟨gx, hgx⟩ : ∃ gx, w6.heap.size = gx := ⟨_, rfl⟩
      have hne7 : u6.ownBlock ≠ some gx := fun e => by have h1 := (World.ownsRow.lt hOo gx e).2; have := hb6.size; omega
      rw [hgx] at s0 s1 hsx ⊢
      generalize w6.alloc (.cells #[.int .i64 (p : Int), .int .i64 (q : Int)] 39) = w7 at hb7 hO7 s0 s1 hsx ⊢
      have HI7 : Hid (CtI w5 w7 gx p q _ cur) := Lib.hid ⟨hb7, hO7, s0, s1, hne7, hsx⟩
      have kp0 : (0 : Int) ≤ (k : Int) + 1 := by omega
      have kp1 : (k : Int) + 1 ≤ (n : Int) := by omega
      have kp2 : (k : Int) + 1 ≤ (Ec : Int) := by omega
      have kw : IntKind.i64.wrap ((k : Int) + 1) = (k : Int) + 1 := IntWalk.i64_in _ (by omega)
      have kt : ((k : Int) + 1).toNat = k + 1 := by omega
      have nc : (n : Int) ≤ (Ec : Int) := by omega
      obtain ⟨r, hr⟩ : ∃ r, n - (k + 1) = r := ⟨_, rfl⟩
      have HR := Lib.hid hr
      have hri : (n : Int) - ((k : Int) + 1) = (r : Int) := by omega
      have hr2 : (r : Int) ≤ 256 := by omega
      clear hb7 hO7 s0 s1 hbx hb6 hgx hce hOo hne7 hsx
      by_cases hce1 : Ec = k + 1
      · subst hce1
        have hr0 : r = 0 := by have := HR.out; omega
        subst hr0
        have kc : ((k : Int) + 1) - ((k : Int) + 1) = 0 := by omega
        go_upto_region 11 with fail
        go_loopw [6, 11, 35] (fun v _ i wr => i = .int .i64 0 ∧ CtI w5 wr gx p q v cur) (fun _ _ _ _ => 0)
        case atStart => exact ⟨rfl, HI7.out⟩
        case round =>
          obtain ⟨rfl, hI⟩ := hrel
          have htk : cutsT F M E (k + 1) = cur := by
            rw [HST.out, List.drop_eq_nil_of_le (by have := HEN.out; have := HR.out; omega)]
            simp [cutRow]
          rw [← htk] at hI
          have HI := Lib.hid hI
          clear hI htk
          go_wp2
          go_roundw
          case rel => exact ⟨k + 1, by omega, by go_num, HI.out.below, HI.out.op⟩
          case measure => simp [intOf]; omega
      · have hce2 : ¬ (k + 1 = Ec) := fun e => hce1 e.symm
        go_upto_region 11 with fail
        go_loopw [6, 11, 35] (fun v _ i wr => ∃ j : Nat, j ≤ r ∧ i = .int .i64 j ∧ CtI w5 wr gx p q v (cur ++ cutRow F M x ((E.drop (k + 1)).take j))) (fun _ _ i _ => r - (intOf i).toNat)
        case atStart => exact ⟨0, by omega, rfl, by simpa [cutRow] using HI7.out⟩
        case round =>
          obtain ⟨j, hj, rfl, hI⟩ := hrel
          have hj0 : (0 : Int) ≤ (j : Int) := Int.natCast_nonneg _
          by_cases hjr : j < r
          · have hj1 : (j : Int) < (r : Int) := by omega
            have hkj : k + 1 + j < n := by have := HR.out; omega
            have oE := HO6.out wr hI.below
            have hce := oE.cell (k + 1 + j) (by rw [HEL.out]; exact hkj)
            rw [HGE.out _ hkj] at hce
            have C2 := Lib.hid (CSD.out wr.drew (k + 1 + j) hI.below.drew hkj)
            have hdr : (E.drop (k + 1)).take (j + 1) = (E.drop (k + 1)).take j ++ [E.getD (k + 1 + j) 0] := by
              have hl : j < (E.drop (k + 1)).length := by rw [List.length_drop]; have := HEN.out; omega
              rw [List.take_succ_eq_append_getElem hl]
              have hl2 : k + 1 + j < E.length := by have := HEN.out; omega
              simp [List.getD, hl2]
            have hlc : (cur ++ cutRow F M x ((E.drop (k + 1)).take j)).length ≤ 1000000000 := by
              have := cutRow_len F M x ((E.drop (k + 1)).take j)
              rw [List.length_take] at this
              rw [List.length_append]; omega
            obtain ⟨y, hy⟩ : ∃ y, E.getD (k + 1 + j) 0 = y := ⟨_, rfl⟩
            rw [hy] at hce C2 hdr
            have hsp : cutRow F M x ((E.drop (k + 1)).take (j + 1)) = cutRow F M x ((E.drop (k + 1)).take j) ++ if p = F y ∧ q = F (M y) then [(x, y)] else [] := by
              rw [hdr]; unfold cutRow
              rw [List.filter_append, List.map_append, ← HX.out.2.1, ← HX.out.2.2]
              by_cases e : F x = F y ∧ F (M x) = F (M y)
              · rw [if_pos e]; simp [e]
              · rw [if_neg e]; simp [e]
            obtain ⟨p', hp'⟩ : ∃ p', F y = p' := ⟨_, rfl⟩
            obtain ⟨q', hq'⟩ : ∃ q', F (M y) = q' := ⟨_, rfl⟩
            rw [hp', hq'] at C2 hsp
            obtain ⟨cc, hcc⟩ : ∃ cc, cur ++ cutRow F M x ((E.drop (k + 1)).take j) = cc := ⟨_, rfl⟩
            rw [hcc] at hI hlc
            have HN : Hid (cur ++ cutRow F M x ((E.drop (k + 1)).take (j + 1)) = cc ++ if p = p' ∧ q = q' then [(x, y)] else []) := Lib.hid (by rw [hsp, ← hcc, List.append_assoc])
            have HI := Lib.hid hI
            have t0 := hI.c0
            have t1 := hI.c1
            have hgl := hI.lt
            have hceA : wr.cell? ⟨ge, 0 + (k + 1) + j, none⟩ = some (.int .i64 (y : Nat)) := by rw [Nat.zero_add]; exact hce
            have hbD : Below wr.heap.size wr wr.drew := (Below.refl _ _).drew
            clear oE hI hdr hy hsp hp' hq' hcc
            by_cases e : p = p' ∧ q = q'
            · obtain ⟨rfl, rfl⟩ := e
              have HN2 : Hid (cur ++ cutRow F M x ((E.drop (k + 1)).take (j + 1)) = cc ++ [(x, y)]) := Lib.hid (by rw [HN.out, if_pos ⟨rfl, rfl⟩])
              clear HN
              go_wp2
              go_region_held3 (fun w' => w'.cell? ⟨gx, 0, none⟩ = some (.int .i64 (p : Int)) ∧ w'.cell? ⟨gx, 1, none⟩ = some (.int .i64 (q : Int))) (first | exact ⟨t0, t1⟩ | exact ⟨u0, u1⟩ | go_keep)
                (((with_reducible refine C2.out.mono ?_); rintro e w8 ⟨rfl, hb8'⟩; have hb8 := below_step hbD hb8'; have u0 := (hb8.cell (p := ⟨gx, 0, none⟩) hgl).trans t0; have u1 := (hb8.cell (p := ⟨gx, 1, none⟩) hgl).trans t1))
              go_wp2_with (at_builtin; refine wpList_append_pair rfl (.tmp 44) (.tmp 48) rfl w5.heap.size _ cc rfl ((HI.out.keep hb8).keep (below_alloc _ _)).op w8.heap.size (x, y) rfl (by rw [World.cell?_alloc_at _ _ _ _ rfl]; rfl) (by rw [World.cell?_alloc_at _ _ _ _ rfl]; rfl) hlc ((HI.out.keep hb8).keep (below_alloc _ _)).below.size ?_; intro v2 w9 hown2 hg2 hv2; have hI9 := ((HI.out.keep hb8).keep (below_alloc _ _)).app hown2 hg2 hv2)
              go_roundw
              case rel => exact ⟨j + 1, by omega, by go_num, by rw [HN2.out]; exact hI9⟩
              case measure => simp [intOf]; omega
            · have HN2 : Hid (cur ++ cutRow F M x ((E.drop (k + 1)).take (j + 1)) = cc) := Lib.hid (by rw [HN.out, if_neg e, List.append_nil])
              have hbe : ((p' : Int) == (p : Int) && (q' : Int) == (q : Int)) = false := by
                cases q1 : ((p' : Int) == (p : Int)) with
                | false => rfl
                | true =>
                  cases q2 : ((q' : Int) == (q : Int)) with
                  | false => rfl
                  | true => simp at q1 q2; omega
              clear HN e
              go_wp2
              go_region_held3 (fun w' => w'.cell? ⟨gx, 0, none⟩ = some (.int .i64 (p : Int)) ∧ w'.cell? ⟨gx, 1, none⟩ = some (.int .i64 (q : Int))) (first | exact ⟨t0, t1⟩ | exact ⟨u0, u1⟩ | go_keep)
                (((with_reducible refine C2.out.mono ?_); rintro e w8 ⟨rfl, hb8'⟩; have hb8 := below_step hbD hb8'; have u0 := (hb8.cell (p := ⟨gx, 0, none⟩) hgl).trans t0; have u1 := (hb8.cell (p := ⟨gx, 1, none⟩) hgl).trans t1))
              go_wp2
              go_roundw
              case rel => exact ⟨j + 1, by omega, by go_num, by rw [HN2.out]; exact HI.out.keep hb8⟩
              case measure => simp [intOf]; omega
          · obtain rfl : r = j := by omega
            have htk : (E.drop (k + 1)).take r = E.drop (k + 1) := List.take_of_length_le (by rw [List.length_drop]; have := HEN.out; have := HR.out; omega)
            rw [htk, ← HST.out] at hI
            have HI := Lib.hid hI
            clear hI htk
            go_wp2
            go_roundw
            case rel => exact ⟨k + 1, by omega, by go_num, HI.out.below, HI.out.op⟩
            case measure => simp [intOf]; omega
    · obtain rfl : n = k := by omega
      have HF := Lib.hid (hOP.mono (Nat.le_trans HB.out.size HB5.out.size))
      have hbf := below_step HB.out (below_step HB5.out hbr)
      clear hOP hbr
      go_wp2
      go_ret
      exact ⟨_, rfl, by rw [HEN.out]; exact HF.out, hbf⟩

end Go.Proofs.Ytkfjledhnakfoaa
