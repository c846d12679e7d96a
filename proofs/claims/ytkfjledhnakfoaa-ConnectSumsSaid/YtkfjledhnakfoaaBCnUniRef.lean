/- Walk: the reference's Union. -/
import Derived.Test.YtkfjledhnakfoaaA12
import Derived.Test.YtkfjledhnakfoaaA09
import Derived.Test.YtkfjledhnakfoaaBCopy
namespace Go.Proofs.Ytkfjledhnakfoaa
open Go.RowKit

/-- What holds while a copy's slices grow. -/
structure PuI (w2 wr : World) (gp BB : Nat) (l : Int) (v1 v2 : Value) (xs ys : List Int) : Prop where
  below : Below BB w2 wr
  base : gp < wr.heap.size
  hB : BB ≤ gp
  b0 : wr.cell? ⟨gp, 0, none⟩ = some v1
  b1 : wr.cell? ⟨gp, 1, none⟩ = some v2
  b2 : wr.cell? ⟨gp, 2, none⟩ = some (.int .i64 l)
  bf : ∀ i, wr.frozen? ⟨gp, i, none⟩ = false
  s : OI wr BB v1 xs
  m : OI wr BB v2 ys
  ne : v1.ownBlock = none ∨ v1.ownBlock ≠ v2.ownBlock
  n1 : v1.ownBlock ≠ some gp
  n2 : v2.ownBlock ≠ some gp
theorem PuI.mid {w2 wr W w5 : World} {gp BB : Nat} {l : Int} {v1 v2 v : Value} {xs ys zs : List Int} (h : PuI w2 wr gp BB l v1 v2 xs ys) (hb : Below wr.heap.size wr W) (ho : OI wr BB v zs) (hn : v.ownBlock ≠ some gp) (hg : W.grownBy w5 v.ownBlock) :
    (∀ i u, wr.cell? ⟨gp, i, none⟩ = some u → w5.cell? ⟨gp, i, none⟩ = some u) ∧ (∀ i, w5.frozen? ⟨gp, i, none⟩ = false) ∧ Below BB w2 w5 := by
  have hl : gp < wr.heap.size := h.base
  have hB := h.hB
  have hlW : gp < W.heap.size := Nat.lt_of_lt_of_le hl hb.size
  have hblk := hg.block gp hlW (fun e => hn e.symm)
  refine ⟨fun i u e => ?_, fun i => ?_, ?_⟩
  · exact (World.cell?_of_block (a := ⟨gp, i, none⟩) hblk).trans ((hb.cell (p := ⟨gp, i, none⟩) hl).trans e)
  · exact (World.frozen?_of_block (a := ⟨gp, i, none⟩) hblk).trans ((hb.frozen (p := ⟨gp, i, none⟩) hl).trans (h.bf i))
  · exact (h.below.trans (hb.mono (by omega))).grown hg (by omega) (fun q e => (World.ownsRow.lt ho q e).1)
theorem PuI.stepS {w2 wr W w5 : World} {gp BB n c : Nat} {l : Int} {A : Option Addr} {v1 v2 : Value} {xs ys : List Int} {x : Int} (h : PuI w2 wr gp BB l v1 v2 xs ys) (hb : Below wr.heap.size wr W) (hg : W.grownBy w5 v1.ownBlock) (ho : OI w5 BB (.slice A n c) (xs ++ [x])) (hv : (Value.slice A n c).ownBlock = v1.ownBlock ∨ (Value.slice A n c).ownBlock = some W.heap.size) :
    PuI w2 (w5.setCell ⟨gp, 0, none⟩ (.slice A n c)) gp BB l (.slice A n c) v2 (xs ++ [x]) ys := by
  obtain ⟨m1, m2, m3⟩ := h.mid hb h.s h.n1 hg
  have hl := h.base
  have hB := h.hB
  have hs := hb.size
  have hs2 := hg.size
  have oM : OI w5 BB v2 ys := by
    refine (h.m.keep hb).grown hg ?_
    rcases h.ne with e | e
    · cases e2 : v2.ownBlock with
      | none => exact .inl rfl
      | some q => exact .inr (by rw [e]; simp)
    · exact .inr fun q => e q.symm
  have hnn : (Value.slice A n c).ownBlock ≠ some gp := by
    rcases hv with e | e
    · rw [e]; exact h.n1
    · rw [e]; exact fun k => by injection k with k; omega
  refine ⟨below_set m3 hB _, by simp [World.setCell]; omega, hB, World.cell?_setCell_same _ _ _ (m1 0 _ h.b0), (World.cell?_setCell_other _ _ _ _ (by simp)).trans (m1 1 _ h.b1), (World.cell?_setCell_other _ _ _ _ (by simp)).trans (m1 2 _ h.b2), fun i => (World.frozen?_setCell _ _ _ _).trans (m2 i), ho.far (p := ⟨gp, 0, none⟩) hnn _, oM.far (p := ⟨gp, 0, none⟩) h.n2 _, ?_, hnn, h.n2⟩
  rcases hv with e | e
  · rw [e]; exact h.ne
  · rw [e]; exact .inr fun q => by have := (World.ownsRow.lt h.m _ q.symm).2; omega
theorem PuI.stepM {w2 wr W w5 : World} {gp BB n c : Nat} {l : Int} {A : Option Addr} {v1 v2 : Value} {xs ys : List Int} {x : Int} (h : PuI w2 wr gp BB l v1 v2 xs ys) (hb : Below wr.heap.size wr W) (hg : W.grownBy w5 v2.ownBlock) (ho : OI w5 BB (.slice A n c) (ys ++ [x])) (hv : (Value.slice A n c).ownBlock = v2.ownBlock ∨ (Value.slice A n c).ownBlock = some W.heap.size) :
    PuI w2 (w5.setCell ⟨gp, 1, none⟩ (.slice A n c)) gp BB l v1 (.slice A n c) xs (ys ++ [x]) := by
  obtain ⟨m1, m2, m3⟩ := h.mid hb h.m h.n2 hg
  have hl := h.base
  have hB := h.hB
  have hs := hb.size
  have hs2 := hg.size
  have oS : OI w5 BB v1 xs := (h.s.keep hb).grown hg h.ne
  have hnn : (Value.slice A n c).ownBlock ≠ some gp := by
    rcases hv with e | e
    · rw [e]; exact h.n2
    · rw [e]; exact fun k => by injection k with k; omega
  refine ⟨below_set m3 hB _, by simp [World.setCell]; omega, hB, (World.cell?_setCell_other _ _ _ _ (by simp)).trans (m1 0 _ h.b0), World.cell?_setCell_same _ _ _ (m1 1 _ h.b1), (World.cell?_setCell_other _ _ _ _ (by simp)).trans (m1 2 _ h.b2), fun i => (World.frozen?_setCell _ _ _ _).trans (m2 i), oS.far (p := ⟨gp, 1, none⟩) h.n1 _, ho.far (p := ⟨gp, 1, none⟩) hnn _, ?_, h.n1, hnn⟩
  rcases hv with e | e
  · rw [e]; exact h.ne
  · rw [e]
    cases e2 : v1.ownBlock with
    | none => exact .inl rfl
    | some q => exact .inr fun k => by injection k with k; have := (World.ownsRow.lt h.s _ e2).2; omega
theorem PuI.drew {w2 wr : World} {gp BB : Nat} {l : Int} {v1 v2 : Value} {xs ys : List Int} (h : PuI w2 wr gp BB l v1 v2 xs ys) : PuI w2 wr.drew gp BB l v1 v2 xs ys :=
  ⟨h.below.drew, h.base, h.hB, h.b0, h.b1, h.b2, h.bf, h.s, h.m, h.ne, h.n1, h.n2⟩
/-- The first j mates of the second are appended. -/
def apM (m1 m2 : List Int) (j : Nat) : List Int := m1 ++ (m2.take j).map fun z => z + (m1.length : Int)
theorem apM_succ (m1 m2 : List Int) {j : Nat} (hj : j < m2.length) : apM m1 m2 (j + 1) = apM m1 m2 j ++ [m2.getD j 0 + (m1.length : Int)] := by
  unfold apM
  rw [List.take_succ_eq_append_getElem hj, List.map_append, List.append_assoc]
  simp [List.getD, hj]
theorem apM_all (m1 m2 : List Int) : apM m1 m2 m2.length = bsM m1 m2 := by unfold apM bsM; rw [List.take_length]
theorem apM_len (m1 m2 : List Int) {j : Nat} (hj : j ≤ m2.length) : (apM m1 m2 j).length = m1.length + j := by unfold apM; simp; omega

set_option maxHeartbeats 6400000 in
set_option maxRecDepth 100000 in
theorem runion_any (A1 B1 A2 B2 : Option Addr) (n1 c1 k1 d1 n2 c2 k2 d2 : Nat) (l1 l2 : Int) (s1 m1 s2 m2 : List Int) (w : World) (h1 : DV w A1 n1 B1 k1 s1 m1) (h2 : DV w A2 n2 B2 k2 s2 m2) (hv1 : validB s1 m1 l1 = true) (hv2 : validB s2 m2 l2 = true) :
    Calls Try.prog 17 #[dval A1 n1 c1 B1 k1 d1 l1, dval A2 n2 c2 B2 k2 d2 l2] w (BsPost w (n1 + n2) (k1 + k2) (l1 + l2) (s1 ++ s2) (bsM m1 m2)) := by
  obtain ⟨ek1, en1, hM1, lo1, hi1⟩ := cn_data hv1 h1.hs.1 h1.hm.1
  obtain ⟨ek2, en2, hM2, lo2, hi2⟩ := cn_data hv2 h2.hs.1 h2.hm.1
  have hb1 := below_alloc w (dbox A1 n1 c1 B1 k1 d1 l1)
  have hb2 := below_alloc (w.alloc (dbox A1 n1 c1 B1 k1 d1 l1)) (dbox A2 n2 c2 B2 k2 d2 l2)
  have hb3 := below_alloc ((w.alloc (dbox A1 n1 c1 B1 k1 d1 l1)).alloc (dbox A2 n2 c2 B2 k2 d2 l2)) (.cells #[.slice none 0 0, .slice none 0 0, .int .i64 0] 24)
  have hd1 := ((DB.new w A1 n1 c1 B1 k1 d1 l1).keep hb2).keep hb3
  have hd2 := (DB.new (w.alloc (dbox A1 n1 c1 B1 k1 d1 l1)) A2 n2 c2 B2 k2 d2 l2).keep hb3
  have hbx := bxz_new ((w.alloc (dbox A1 n1 c1 B1 k1 d1 l1)).alloc (dbox A2 n2 c2 B2 k2 d2 l2))
  have hb := below_step (below_step hb1 hb2) hb3
  have hsz : (w.alloc (dbox A1 n1 c1 B1 k1 d1 l1)).heap.size = w.heap.size + 1 := by simp
  have hsz2 : ((w.alloc (dbox A1 n1 c1 B1 k1 d1 l1)).alloc (dbox A2 n2 c2 B2 k2 d2 l2)).heap.size = w.heap.size + 2 := by simp
  rw [hsz] at hd2
  rw [hsz2] at hbx
  have CC := Lib.hid (rcopy_any A1 B1 n1 c1 k1 d1 l1 s1 m1 _ (h1.hs.keep hb) (h1.hm.keep hb) (by omega) (by omega))
  have HS2 := Lib.hid (And.intro (h2.hs.keep hb) (h2.hm.keep hb))
  have HMV : Hid (∀ j, j < k2 → m2.getD j 0 = (matesOf m2 j : Nat) ∧ matesOf m2 j < k2) := Lib.hid hM2
  have HL : Hid (m1.length = k1 ∧ s1.length = n1 ∧ m2.length = k2 ∧ s2.length = n2) := Lib.hid ⟨h1.hm.1, h1.hs.1, h2.hm.1, h2.hs.1⟩
  have kb1 : k1 ≤ 256 := by omega
  have kb2 : k2 ≤ 256 := by omega
  clear hb1 hb2 hb3 hsz hsz2 h1 h2 hv1 hv2 hM1 hM2 ek1 ek2
  unfold dbox at hd1 hd2 hbx hb CC HS2
  go_enter Try.func17, Try.ntmps17
  go_upto_region 1 with fail
  generalize ((w.alloc (.cells #[.slice A1 n1 c1, .slice B1 k1 d1, .int .i64 l1] 24)).alloc (.cells #[.slice A2 n2 c2, .slice B2 k2 d2, .int .i64 l2] 24)).alloc (.cells #[.slice none 0 0, .slice none 0 0, .int .i64 0] 24) = w0 at hd1 hd2 hbx hb CC HS2 ⊢
  rw [show w.heap.size + 1 + 1 = w.heap.size + 2 by omega]
  obtain ⟨ga, hga⟩ : ∃ ga, w.heap.size = ga := ⟨_, rfl⟩
  obtain ⟨gb, hgb⟩ : ∃ gb, w.heap.size + 1 = gb := ⟨_, rfl⟩
  obtain ⟨gr, hgr⟩ : ∃ gr, w.heap.size + 2 = gr := ⟨_, rfl⟩
  have HG : Hid (w.heap.size ≤ gr ∧ gr < w0.heap.size) := Lib.hid ⟨by omega, by rw [← hgr]; exact hbx.1.2.2.2⟩
  rw [hga] at hd1
  rw [hgb] at hd2 ⊢
  rw [hgr] at hbx ⊢
  rw [hga]
  have HB := Lib.hid hb
  have HBX := Lib.hid hbx
  have HD := Lib.hid (And.intro hd1 hd2)
  obtain ⟨a0, a1, a2, alt⟩ := hd1
  clear hd2 hb hbx hga hgb hgr
  go_upto_region 2 with (go_at_call 61; ((with_reducible refine CC.out.mono ?_); rintro e wC ⟨A3, c3, B3, d3, rfl, oS, oM, hne, hbC⟩))
  have hbp := below_alloc wC (.cells #[.slice A3 n1 c3, .slice B3 k1 d3, .int .i64 l1] 24)
  have hdp := DB.new wC A3 n1 c3 B3 k1 d3 l1
  have hfp : ∀ i, (wC.alloc (.cells #[.slice A3 n1 c3, .slice B3 k1 d3, .int .i64 l1] 24)).frozen? ⟨wC.heap.size, i, none⟩ = false := fun i => World.frozen?_alloc_at _ _ _ _ rfl
  have HI0 : Hid (PuI w0 (wC.alloc (.cells #[.slice A3 n1 c3, .slice B3 k1 d3, .int .i64 l1] 24)) wC.heap.size w0.heap.size l1 (.slice A3 n1 c3) (.slice B3 k1 d3) (s1 ++ s2.take 0) m1) := Lib.hid
    ⟨below_step hbC hbp, hdp.2.2.2, hbC.size, hdp.1, hdp.2.1, hdp.2.2.1, hfp, by rw [List.take_zero, List.append_nil]; exact oS.alloc _, oM.alloc _, hne, fun e => by have := (World.ownsRow.lt oS _ e).2; omega, fun e => by have := (World.ownsRow.lt oM _ e).2; omega⟩
  obtain ⟨gp, hgp⟩ : ∃ gp, wC.heap.size = gp := ⟨_, rfl⟩
  rw [hgp] at HI0 ⊢
  generalize wC.alloc (.cells #[.slice A3 n1 c3, .slice B3 k1 d3, .int .i64 l1] 24) = w3 at HI0 ⊢
  clear hbp hdp hfp oS oM hne hbC hgp a0 a1 a2
  have HW : Hid (∀ wr, Below w0.heap.size w0 wr → DB wr ga A1 n1 c1 B1 k1 d1 l1 ∧ DB wr gb A2 n2 c2 B2 k2 d2 l2 ∧ BxZ wr gr ∧ RI wr A2 n2 s2 ∧ RI wr B2 k2 m2) := Lib.hid fun wr hbr =>
    ⟨HD.out.1.keep hbr, HD.out.2.keep hbr, HBX.out.kp hbr, HS2.out.1.keep hbr, HS2.out.2.keep hbr⟩
  go_wp2
  go_loopw [6] (fun i wr => ∃ (j : Nat) (v1 : Value), j ≤ n2 ∧ i = .int .i64 j ∧ PuI w0 wr gp w0.heap.size l1 v1 (.slice B3 k1 d3) (s1 ++ s2.take j) m1) (fun i _ => n2 - (intOf i).toNat)
  case atStart => exact ⟨0, _, by omega, rfl, HI0.out⟩
  case round =>
    obtain ⟨j, v1, hj, rfl, hI⟩ := hrel
    have hj0 : (0 : Int) ≤ (j : Int) := Int.natCast_nonneg _
    obtain ⟨hda, hdb, hbz, hrs, hrm⟩ := HW.out wr hI.below
    obtain ⟨e0, e1, e2, elt⟩ := hdb
    by_cases hjn : j < n2
    · have hj1 : (j : Int) < (n2 : Int) := by omega
      obtain ⟨b0, off, rfl, hb0, hcx⟩ := hrs.2 (by omega)
      have hcel := hcx j hjn
      obtain ⟨x, hx⟩ : ∃ x, s2.getD j 0 = x := ⟨_, rfl⟩
      have hsu : s1 ++ s2.take (j + 1) = (s1 ++ s2.take j) ++ [x] := by
        have : j < s2.length := by have := HL.out; omega
        rw [List.take_succ_eq_append_getElem this, ← hx]; simp [List.getD, this]
      rw [hx] at hcel
      have HSU := Lib.hid hsu
      have q0 := hI.b0
      have qf := hI.bf 0
      have hpl := hI.base
      have hwl := below_alloc wr (.cells #[.int .i64 x] 3)
      have q0a := (hwl.cell (p := ⟨gp, 0, none⟩) hpl).trans q0
      have HI := Lib.hid hI
      have hlx : (s1 ++ s2.take j).length = n1 + j := by have := HL.out; rw [List.length_append, List.length_take]; omega
      have hbs := hI.below.size
      obtain ⟨sx, hsx⟩ : ∃ sx, s1 ++ s2.take j = sx := ⟨_, rfl⟩
      rw [hsx] at HI HSU hlx
      have hlx2 : sx.length ≤ 1000000 := by omega
      clear hI hda hbz hrs hrm hcx hsu hx hsx
      go_upto_region 5 with fail
      go_region_law (refine step_append_int_at rfl (.tmp 18) (.tmp 24) rfl w0.heap.size v1 sx rfl (by exact (HI.out.s.keep (below_alloc wr (.cells #[.int .i64 x] 3)).drew)) wr.heap.size x rfl (by show (wr.alloc (.cells #[.int .i64 x] 3)).cell? ⟨wr.heap.size, 0, none⟩ = some (.int .i64 x); rw [World.cell?_alloc_at _ _ _ _ rfl]; rfl) hlx2 (by show w0.heap.size ≤ (wr.alloc (.cells #[.int .i64 x] 3)).heap.size; simp; omega) ?_; intro A5 c5 w5 ho5 hg5 hv5; have hb5 : Below wr.heap.size wr (wr.alloc (.cells #[.int .i64 x] 3)).drew := (below_alloc wr _).drew; obtain ⟨mc, mf, mb⟩ := HI.out.mid hb5 HI.out.s HI.out.n1 hg5; have mc0 := mc 0 _ q0; have mf0 := mf 0; have HST := Lib.hid (HI.out.stepS hb5 hg5 ho5 hv5))
      all_goals
        go_wp2
        go_roundw
        case rel => exact ⟨j + 1, _, by omega, by go_num, by have h := HST.out; rw [hlx, ← HSU.out] at h; first | exact h | exact h.drew⟩
        case measure => simp [intOf]; omega
    · obtain rfl : n2 = j := by omega
      have hI1 := hI
      rw [← HL.out.2.2.2, List.take_length, show m1 = apM m1 m2 0 by simp [apM]] at hI1
      have HI1 := Lib.hid hI1
      obtain ⟨w4, hw4⟩ : ∃ w4 : World, w4 = wr := ⟨_, rfl⟩
      subst hw4
      clear hI hI1 hda hbz hrs hrm
      go_wp2
      go_loopw [7] (fun i wr => ∃ (j : Nat) (v2 : Value), j ≤ k2 ∧ i = .int .i64 j ∧ PuI w0 wr gp w0.heap.size l1 v1 v2 (s1 ++ s2) (apM m1 m2 j)) (fun i _ => k2 - (intOf i).toNat)
      case atStart => exact ⟨0, _, by omega, rfl, HI1.out⟩
      case round =>
        obtain ⟨j, v2, hj, rfl, hI⟩ := hrel
        have hj0 : (0 : Int) ≤ (j : Int) := Int.natCast_nonneg _
        obtain ⟨hda, hdb, hbz, hrs, hrm⟩ := HW.out wr hI.below
        obtain ⟨e0, e1, e2, elt⟩ := hdb
        obtain ⟨f0, f1, f2, flt⟩ := hda
        by_cases hjn : j < k2
        · have hj1 : (j : Int) < (k2 : Int) := by omega
          obtain ⟨b0, off, rfl, hb0, hcx⟩ := hrm.2 (by omega)
          have hcel := hcx j hjn
          obtain ⟨hm1, hm2⟩ := HMV.out j hjn
          have hsu := apM_succ m1 m2 (j := j) (by have := HL.out; omega)
          rw [hm1] at hcel hsu
          obtain ⟨a, ha⟩ : ∃ a, matesOf m2 j = a := ⟨_, rfl⟩
          rw [ha] at hcel hsu hm2
          have a0 : (0 : Int) ≤ (a : Int) := Int.natCast_nonneg _
          obtain ⟨y, hy⟩ : ∃ y : Int, (k1 : Int) + (a : Int) = y := ⟨_, rfl⟩
          have hyc : (a : Int) + (m1.length : Int) = y := by rw [HL.out.1]; omega
          rw [hyc] at hsu
          have wy : IntKind.i64.wrap ((k1 : Int) + (a : Int)) = y := by rw [hy]; exact IntWalk.i64_in _ (by omega)
          have wy2 : IntKind.i64.wrap y = y := IntWalk.i64_in _ (by omega)
          have HSU := Lib.hid hsu
          have q1 := hI.b1
          have qf := hI.bf 1
          have hpl := hI.base
          have hwl := below_alloc wr (.cells #[.int .i64 y] 3)
          have q1a := (hwl.cell (p := ⟨gp, 1, none⟩) hpl).trans q1
          have HI := Lib.hid hI
          have hlx : (apM m1 m2 j).length = k1 + j := by have := HL.out; rw [apM_len _ _ (by omega)]; omega
          have hbs := hI.below.size
          obtain ⟨sx, hsx⟩ : ∃ sx, apM m1 m2 j = sx := ⟨_, rfl⟩
          rw [hsx] at HI HSU hlx
          have hlx2 : sx.length ≤ 1000000 := by omega
          clear hI hbz hrs hrm hcx hsu hsx hm1 ha hyc
          go_upto_region 9 with fail
          go_region_law (refine step_append_int_at rfl (.tmp 35) (.tmp 45) rfl w0.heap.size v2 sx rfl (by exact (HI.out.m.keep (below_alloc wr (.cells #[.int .i64 y] 3)).drew)) wr.heap.size y rfl (by show (wr.alloc (.cells #[.int .i64 y] 3)).cell? ⟨wr.heap.size, 0, none⟩ = some (.int .i64 y); rw [World.cell?_alloc_at _ _ _ _ rfl]; rfl) hlx2 (by show w0.heap.size ≤ (wr.alloc (.cells #[.int .i64 y] 3)).heap.size; simp; omega) ?_; intro A6 c6 w6 ho6 hg6 hv6; have hb6 : Below wr.heap.size wr (wr.alloc (.cells #[.int .i64 y] 3)).drew := (below_alloc wr _).drew; obtain ⟨mc, mf, mb⟩ := HI.out.mid hb6 HI.out.m HI.out.n2 hg6; have mc1 := mc 1 _ q1; have mf1 := mf 1; have HST := Lib.hid (HI.out.stepM hb6 hg6 ho6 hv6))
          all_goals
            go_wp2
            go_roundw
            case rel => exact ⟨j + 1, _, by omega, by go_num, by have h := HST.out; rw [hlx, ← HSU.out] at h; first | exact h | exact h.drew⟩
            case measure => simp [intOf]; omega
        · obtain rfl : k2 = j := by omega
          have hI2 := hI
          rw [← HL.out.2.2.1, apM_all] at hI2
          obtain ⟨A8, c8, rfl⟩ := hI.s.shp (n := n1 + n2) (by have := HL.out; rw [List.length_append]; omega)
          obtain ⟨B8, d8, rfl⟩ := hI2.m.shp (n := k1 + k2) (by have := HL.out; simp [bsM]; omega)
          have q0 := hI.b0
          have q1 := hI.b1
          have q2 := hI.b2
          have qf2 := hI.bf 2
          have hw12 : IntKind.i64.wrap (l1 + l2) = l1 + l2 := IntWalk.i64_in _ (by omega)
          have hl7 := Nat.lt_of_lt_of_le hI.base (Nat.le_refl _)
          have HE : Hid (BsPost w (n1 + n2) (k1 + k2) (l1 + l2) (s1 ++ s2) (bsM m1 m2) (.returned (dval A8 (n1 + n2) c8 B8 (k1 + k2) d8 (l1 + l2))) (set3 (wr.setCell ⟨gp, 2, none⟩ (.int .i64 (l1 + l2))) gr (.slice A8 (n1 + n2) c8) (.slice B8 (k1 + k2) d8) (.int .i64 (l1 + l2)))) := Lib.hid (by
            have hg := HG.out
            have hb := HB.out
            have hbs := hb.size
            have hB := hI.hB
            have o1 := hI2.s.far (p := ⟨gp, 2, none⟩) hI.n1 (.int .i64 (l1 + l2))
            have o2 := hI2.m.far (p := ⟨gp, 2, none⟩) hI.n2 (.int .i64 (l1 + l2))
            refine ⟨A8, c8, B8, d8, rfl, (o1.set3 (fun e => ?_) _ _ _).mono hbs, (o2.set3 (fun e => ?_) _ _ _).mono hbs, fun g e e' => ?_, set3_below (below_step hb (below_set hI.below hB _)) hg.1 _ _ _⟩
            · have := (World.ownsRow.lt o1 _ e).1; omega
            · have := (World.ownsRow.lt o2 _ e).1; omega
            · rcases hI.ne with q | q
              · rw [q] at e'; cases e'
              · exact q (e'.trans e.symm))
          have hgrp : gr ≠ gp := by have := HG.out; have := hI.hB; omega
          obtain ⟨⟨r0, r1, r2, rlt⟩, rf⟩ := hbz
          have f0' := rf 0
          have f1' := rf 1
          have f2' := rf 2
          have hXX := set3_cells (wr.setCell ⟨gp, 2, none⟩ (.int .i64 (l1 + l2))) gr (.slice A8 (n1 + n2) c8) (.slice B8 (k1 + k2) d8) (.int .i64 (l1 + l2)) ((World.cell?_setCell_other _ _ _ _ (by simp)).trans r0) ((World.cell?_setCell_other _ _ _ _ (by simp)).trans r1) ((World.cell?_setCell_other _ _ _ _ (by simp)).trans r2)
          obtain ⟨t0, t1, t2⟩ := hXX
          clear hI hI2 hrs hrm
          go_wp2
          exact bodyPost_ret (v := dval A8 (n1 + n2) c8 B8 (k1 + k2) d8 (l1 + l2)) (by simp [results, Try.results17, go_sem, t0, t1, t2]) rfl HE.out

end Go.Proofs.Ytkfjledhnakfoaa
