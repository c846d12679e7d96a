import Derived.Test.YtdamfoobnbjojaaM06
import Derived.Laws.EntriesVeiled
import Derived.Test.YtdamfoobnbjojaaM04
import Derived.Test.YtdamfoobnbjojaaM02
import Derived.Lib.AppendZerosOnto
import Derived.Laws.AppendOwn
/- Walk: matesWithout. -/
namespace Go.Proofs.Ytdamfoobnbjojaa
open Go.RowKit Go.Maps

theorem gr_below {w w1 w2 : World} {row : Option Nat} (h : w.grownBy w1 row) (hb : Below w1.heap.size w1 w2) : w.grownBy w2 row :=
  ⟨hb.os.trans h.os, hb.tape.trans h.tape, hb.output.trans h.output, Nat.le_trans h.size hb.size, fun i hi hne => (hb.block i (Nat.lt_of_lt_of_le hi h.size)).trans (h.block i hi hne)⟩
theorem gr_gr {w w1 w2 : World} {row : Option Nat} (h : w.grownBy w1 row) (k : w1.grownBy w2 row) : w.grownBy w2 row :=
  ⟨k.os.trans h.os, k.tape.trans h.tape, k.output.trans h.output, Nat.le_trans h.size k.size, fun i hi hne => (k.block i (Nat.lt_of_lt_of_le hi h.size) hne).trans (h.block i hi hne)⟩
theorem FolW.grown {w w' : World} {gd gn gf gx gq gX nx b k : Nat} {A B : Option Addr} {ns cs nm cm : Nat} {lp : Int} {m : List Int} {u v a c : Nat} {D : DataW Unit} (F : FolW w gd gn gf gx gq gX nx b k A B ns cs nm cm lp m u v a c D) (hg : w.grownBy w' (some gX))
    (ne : gd ≠ gX ∧ gn ≠ gX ∧ gf ≠ gX ∧ gq ≠ gX ∧ b ≠ gX) (hB : ∀ b0 o, B = some ⟨b0, o, none⟩ → b0 ≠ gX) : FolW w' gd gn gf gx gq gX nx b k A B ns cs nm cm lp m u v a c D := by
  obtain ⟨n1, n2, n3, n4, n5⟩ := ne
  have far : ∀ g i y, w.cell? ⟨g, i, none⟩ = some y → g ≠ gX → w'.cell? ⟨g, i, none⟩ = some y := fun g i y h hne => (hg.cell_far ⟨g, i, none⟩ (World.block_lt_of_cell? w _ h) (by simp; omega)).trans h
  refine ⟨⟨far _ _ _ F.d.1 n1, far _ _ _ F.d.2.1 n1, far _ _ _ F.d.2.2.1 n1, Nat.lt_of_lt_of_le F.d.2.2.2 hg.size⟩, ⟨F.hm.1, fun h => ?_⟩, far _ _ _ F.n n2, far _ _ _ F.f n3, far _ _ _ F.x (fun e => F.ne e.symm), far _ _ _ F.k n4, F.map.kept hg (by simp; omega), F.read, F.ne⟩
  obtain ⟨b0, o, e, hb, hc⟩ := F.hm.2 h
  exact ⟨b0, o, e, Nat.lt_of_lt_of_le hb hg.size, fun j hj => far _ _ _ (hc j hj) (hB b0 o e)⟩

theorem enters_follow : Enters 84 := fun _ _ => by kernel_rfl

def MtPost (w : World) (nx : Nat) (M : Nat → Nat) (e : Ending) (w' : World) : Prop := ∃ gX, e = .returned (.slice (some ⟨gX, 0, none⟩) nx nx) ∧ Arr w' gX 3 nx (iv M) ∧ w.heap.size ≤ gX ∧ Below w.heap.size w w'

set_option maxHeartbeats 3200000 in
set_option maxRecDepth 100000 in
theorem mates_any (A B : Option Addr) (ns cs nm cm : Nat) (lp : Int) (s m : List Int) (k b : Nat) (D : DataW Unit) (w : World) (hs : RI w A ns s) (hm : RI w B nm m) (hv : validB s m lp = true) (hk : k < ns)
    (hown : w.ownsMap Try.prog 3 (plainElem Try.prog 3) b 2 D) (hD : NxD D (uN k : Nat) (vN s k : Nat) (aN s m k : Nat) (cN m k : Nat)) :
    Calls Try.prog 60 #[dval A ns cs B nm cm lp, .int .i64 (k : Nat), .map (some b)] w (MtPost w (nm - 4) (smK s m k ns)) := by
  obtain ⟨hnm, hns, hM, hS, _, _⟩ := valid_data hv hs.1 hm.1
  obtain ⟨nx, hnx⟩ : ∃ nx, nm - 4 = nx := ⟨_, rfl⟩
  have hnx4 : nm = nx + 4 := by omega
  have hmk : ∀ W, (Instr.makeSlice 22 (.int .i64 (nx : Int)) (.int .i64 (nx : Int))).run Try.prog W = .ok (.slice (some ⟨W.heap.size, 0, none⟩) nx nx) (W.alloc (.cells (cellsN nx fun _ => .int .i64 0) 3)) := fun W =>
    make_one (P := Try.prog) Try.underlying22 Try.infoInt rfl nx (by omega) (by omega) W
  have hmf : ∀ (fn : Fn) (first cap : Array Value) (w : World), (Instr.makeFunc fn first cap).run Try.prog w = .ok (.func fn first cap) w := fun _ _ _ _ => rfl
  have nm0 : (4 : Int) ≤ (nm : Int) := by omega
  have nm1 : (nm : Int) ≤ 256 := by omega
  have nx0 : (0 : Int) ≤ (nx : Int) := by omega
  have nx1 : (nx : Int) ≤ 256 := by omega
  have hsub' : (nm : Int) - 4 = (nx : Int) := by omega
  rw [hnx]
  have HS := Lib.hid hs
  have HM := Lib.hid hm
  have HMV := Lib.hid hM
  have HSV := Lib.hid hS
  have HNM := Lib.hid hnm
  have HNX := Lib.hid hnx4
  have HV := Lib.hid hv
  have HLS := Lib.hid hs.1
  have HO := Lib.hid hown
  have HD := Lib.hid hD
  have hbl := hown.lt
  have hBl : ∀ b0 o, 0 < nm → B = some ⟨b0, o, none⟩ → b0 < w.heap.size := fun b0 o h0 e => by
    obtain ⟨b1, o1, e1, hb1, _⟩ := hm.2 h0
    rw [e] at e1; injection e1 with e1; injection e1 with e1; omega
  have HBL := Lib.hid hBl
  have hb1 := below_alloc w (dbox A ns cs B nm cm lp)
  have hb2 := below_alloc (w.alloc (dbox A ns cs B nm cm lp)) (.cells #[.int .i64 (k : Nat)] 3)
  have hb3 := below_alloc ((w.alloc (dbox A ns cs B nm cm lp)).alloc (.cells #[.int .i64 (k : Nat)] 3)) (.cells #[.map (some b)] 59)
  have hd := ((DB.new w A ns cs B nm cm lp).keep hb2).keep hb3
  have hck : ((w.alloc (dbox A ns cs B nm cm lp)).alloc (.cells #[.int .i64 (k : Nat)] 3)).cell? ⟨w.heap.size + 1, 0, none⟩ = some (.int .i64 (k : Nat)) := by
    rw [show w.heap.size + 1 = (w.alloc (dbox A ns cs B nm cm lp)).heap.size by simp, World.cell?_alloc_at _ _ _ _ rfl]; rfl
  have hck2 := (hb3.cell (p := ⟨w.heap.size + 1, 0, none⟩) (by simp)).trans hck
  have hcn : (((w.alloc (dbox A ns cs B nm cm lp)).alloc (.cells #[.int .i64 (k : Nat)] 3)).alloc (.cells #[.map (some b)] 59)).cell? ⟨w.heap.size + 2, 0, none⟩ = some (.map (some b)) := by
    rw [show w.heap.size + 2 = ((w.alloc (dbox A ns cs B nm cm lp)).alloc (.cells #[.int .i64 (k : Nat)] 3)).heap.size by simp, World.cell?_alloc_at _ _ _ _ rfl]; rfl
  have hb := below_step (below_step hb1 hb2) hb3
  have hsz : (((w.alloc (dbox A ns cs B nm cm lp)).alloc (.cells #[.int .i64 (k : Nat)] 3)).alloc (.cells #[.map (some b)] 59)).heap.size = w.heap.size + 3 := by simp
  clear hb1 hb2 hb3 hck hs hm hM hS hnm hv hown hD hBl hnx hnx4
  unfold dbox at hd hck2 hcn hb hsz
  go_enter Try.func60, Try.ntmps60
  go_upto_region 1 with fail
  generalize ((w.alloc (.cells #[.slice A ns cs, .slice B nm cm, .int .i64 lp] 24)).alloc (.cells #[.int .i64 (k : Nat)] 3)).alloc (.cells #[.map (some b)] 59) = w0 at hd hck2 hcn hb hsz ⊢
  rw [show w.heap.size + 1 + 1 = w.heap.size + 2 by omega]
  obtain ⟨gq, hgq⟩ : ∃ gq, w.heap.size + 1 = gq := ⟨_, rfl⟩
  obtain ⟨gn, hgn⟩ : ∃ gn, w.heap.size + 2 = gn := ⟨_, rfl⟩
  rw [hgq] at hck2 ⊢
  rw [hgn] at hcn ⊢
  obtain ⟨d0, d1, d2, dlt⟩ := hd
  have HD0 := Lib.hid (show DB w0 w.heap.size A ns cs B nm cm lp from ⟨d0, d1, d2, dlt⟩)
  have HCK := Lib.hid hck2
  have HCN := Lib.hid hcn
  have HB := Lib.hid hb
  have HLT : Hid (gq < w0.heap.size ∧ gn < w0.heap.size ∧ w.heap.size < w0.heap.size) := Lib.hid ⟨by omega, by omega, by omega⟩
  clear hck2 hcn hb hgq hgn hsz
  go_upto_region 4 with fail
  have hA0 : Arr ((w0.alloc (.cells (cellsN nx fun _ => .int .i64 0) 3)).alloc (.cells #[.slice (some ⟨w0.heap.size, 0, none⟩) nx nx] 22)) w0.heap.size 3 nx (iv (smK s m k 0)) := ((Arr.new w0 nx 3 (fun _ => .int .i64 0)).alloc _).congr fun _ _ => rfl
  have hsz1 : (w0.alloc (.cells (cellsN nx fun _ => .int .i64 0) 3)).heap.size = w0.heap.size + 1 := by simp
  have hcx : ((w0.alloc (.cells (cellsN nx fun _ => .int .i64 0) 3)).alloc (.cells #[.slice (some ⟨w0.heap.size, 0, none⟩) nx nx] 22)).cell? ⟨w0.heap.size + 1, 0, none⟩ = some (.slice (some ⟨w0.heap.size, 0, none⟩) nx nx) := by
    rw [← hsz1, World.cell?_alloc_at _ _ _ _ rfl]; rfl
  have hb3 := below_step (below_alloc w0 (.cells (cellsN nx fun _ => .int .i64 0) 3)) (below_alloc _ (.cells #[.slice (some ⟨w0.heap.size, 0, none⟩) nx nx] 22))
  have hsz2 : ((w0.alloc (.cells (cellsN nx fun _ => .int .i64 0) 3)).alloc (.cells #[.slice (some ⟨w0.heap.size, 0, none⟩) nx nx] 22)).heap.size = w0.heap.size + 2 := by simp
  generalize (w0.alloc (.cells (cellsN nx fun _ => .int .i64 0) 3)).alloc (.cells #[.slice (some ⟨w0.heap.size, 0, none⟩) nx nx] 22) = wS at hA0 hcx hb3 hsz2 ⊢
  have hb4 := below_alloc wS (.cells #[.func (.func 83) #[] #[.pointer (some ⟨gq, 0, none⟩)]] 50)
  have hcf4 : (wS.alloc (.cells #[.func (.func 83) #[] #[.pointer (some ⟨gq, 0, none⟩)]] 50)).cell? ⟨w0.heap.size + 1 + 1, 0, none⟩ = some (.func (.func 83) #[] #[.pointer (some ⟨gq, 0, none⟩)]) := by
    rw [show w0.heap.size + 1 + 1 = wS.heap.size by omega, World.cell?_alloc_at _ _ _ _ rfl]; rfl
  have hb04 := below_step hb3 hb4
  obtain ⟨gX, hgX⟩ : ∃ gX, w0.heap.size = gX := ⟨_, rfl⟩
  have F0 : Hid (FolW (wS.alloc (.cells #[.func (.func 83) #[] #[.pointer (some ⟨gq, 0, none⟩)]] 50)) w.heap.size gn (gX + 1 + 1) (gX + 1) gq gX nx b k A B ns cs nm cm lp m (uN k) (vN s k) (aN s m k) (cN m k) D) := by
    obtain ⟨l1, l2, l3⟩ := HLT.out
    rw [hgX] at hcf4 hcx
    exact Lib.hid ⟨HD0.out.keep hb04, HM.out.keep (below_step HB.out hb04), (hb04.cell (p := ⟨gn, 0, none⟩) l2).trans HCN.out, hcf4, (hb4.cell (p := ⟨gX + 1, 0, none⟩) (by show gX + 1 < wS.heap.size; omega)).trans hcx, (hb04.cell (p := ⟨gq, 0, none⟩) l1).trans HCK.out,
      HO.out.kept (row := none) (grown_of_below (below_step HB.out hb04)) (by simp), HD.out, by omega⟩
  have hA4 := hA0.keep hb4
  rw [hgX] at hA4 ⊢
  have HNE : Hid ((w.heap.size ≠ gX ∧ gn ≠ gX ∧ gX + 1 + 1 ≠ gX ∧ gq ≠ gX ∧ b ≠ gX) ∧ (∀ b0 o, 0 < nm → B = some ⟨b0, o, none⟩ → b0 ≠ gX) ∧ w.heap.size ≤ gX ∧ gX = w0.heap.size) := by
    obtain ⟨l1, l2, l3⟩ := HLT.out
    exact Lib.hid ⟨⟨by omega, by omega, by omega, by omega, by omega⟩, fun b0 o h0 e => by have := HBL.out b0 o h0 e; omega, by omega, hgX.symm⟩
  have HB4 := Lib.hid (below_step HB.out hb04)
  clear hb3 hb4 hb04 hcf4 hA0 hcx hsz2 hsz1
  generalize wS.alloc (.cells #[.func (.func 83) #[] #[.pointer (some ⟨gq, 0, none⟩)]] 50) = wL at F0 hA4 HB4 ⊢
  clear d0 d1 d2
  obtain ⟨d0, d1, d2, dlt2⟩ := F0.out.d
  have HA4 := Lib.hid hA4
  clear hA4 hgX
  have hcff : ∀ (args : Array Value) (W : World), (callFunc 84 args).run Try.prog W = .ok (.enter 84 args) W := enters_follow
  go_wp2
  go_loopw [10, 21] (fun _ i wr => ∃ j : Nat, j ≤ ns ∧ i = .int .i64 j ∧ wL.grownBy wr (some gX) ∧ Arr wr gX 3 nx (iv (smK s m k j))) (fun _ i _ => ns - (intOf i).toNat)
  case atStart => exact ⟨0, by omega, rfl, ⟨rfl, rfl, rfl, Nat.le_refl _, fun _ _ _ => rfl⟩, HA4.out⟩
  case round =>
    obtain ⟨j, hj, rfl, hgr, hAr⟩ := hrel
    have hj0 : (0 : Int) ≤ (j : Int) := Int.natCast_nonneg _
    by_cases hjn : j < ns
    · have hj1 : (j : Int) < (ns : Int) := by omega
      have hj2 : (j : Int) ≤ 64 := by omega
      have Fr := F0.out.grown hgr HNE.out.1 (fun b0 o e => HNE.out.2.1 b0 o (by omega) e)
      have ck := Fr.k
      obtain ⟨x0, x1, x2, xlt⟩ := Fr.d
      by_cases hjk : j = k
      · subst hjk
        have hne : ((j : Int) != (j : Int)) = false := by simp
        have HE : Hid (smK s m j (j + 1) = smK s m j j) := Lib.hid (by show (if j = j then _ else _) = _; rw [if_pos rfl])
        have HG := Lib.hid hgr
        have HAR := Lib.hid hAr
        clear Fr hgr hAr
        go_wp2
        go_roundw
        case rel => exact ⟨j + 1, by omega, by go_num, HG.out, by rw [HE.out]; exact HAR.out⟩
        case measure => simp [intOf]; omega
      · have hne : ((j : Int) != (k : Int)) = true := by simp only [bne_iff_ne, ne_eq]; omega
        have C := cr_of HV.out HLS.out hk
        have hcj := oO_cases (HSV.out j hjn)
        have h4n := HNM.out
        have ho1 : outB s (4 * j + 2) = true := (out_at (HSV.out j hjn) (by omega)).1.2 (.inl (qN_eq j).symm)
        have ho2 : outB s (oO s j) = true := (out_at (HSV.out j hjn) (by rcases hcj with ⟨_, e, _⟩ | ⟨_, e, _⟩ <;> omega)).1.2 (.inr rfl)
        have l2 : oO s j < 4 * ns ∧ oO s j / 4 = j := by rcases hcj with ⟨_, e, _⟩ | ⟨_, e, _⟩ <;> omega
        obtain ⟨⟨L1, X1, c1, e1, f1⟩, b1, n1, _⟩ := fo_chn C hns (h := 4 * j + 2) (by omega) (by omega) ho1
        obtain ⟨⟨L2, X2, c2, e2, f2⟩, b2, n2, _⟩ := fo_chn C hns (h := oO s j) l2.1 (by rw [l2.2]; exact hjk) ho2
        have hnx4 := HNX.out
        have CF1 := follow_any w.heap.size gn (gX + 1 + 1) (gX + 1) gq gX nx b k A B ns cs nm cm lp m _ _ _ _ D (4 * j + 2) L1 X1 (smK s m k j) wr Fr hAr c1 (by omega) (by omega) (by rw [(HMV.out (4 * j + 2) (by omega)).1, e1]) (by have := numN_lt (n := ns) hk (h := 4 * j + 2) (by omega) (by omega); omega) (by rw [f1]; have := numN_lt (n := ns) hk b1 n1; omega) (by omega)
        rw [f1, show ((4 * j + 2 : Nat) : Int) = 4 * (j : Int) + 2 by omega, show ∀ M h x, upd (upd M (numN k h) (numN k x)) (numN k x) (numN k h) = puN k M h x from fun _ _ _ => rfl] at CF1
        have CF1 := Lib.hid CF1
        have CF2 : Hid (∀ W, wL.grownBy W (some gX) → Arr W gX 3 nx (iv (puN k (smK s m k j) (4 * j + 2) (foN s m k (4 * j + 2)))) → Calls Try.prog 84 #[.int .i64 (oO s j : Nat), .pointer (some ⟨w.heap.size, 0, none⟩), .pointer (some ⟨gn, 0, none⟩), .pointer (some ⟨gX + 1 + 1, 0, none⟩), .pointer (some ⟨gX + 1, 0, none⟩)] W
            (FolPost W gX nx (smK s m k (j + 1)))) := Lib.hid fun W hW hAW => by
          have h := follow_any w.heap.size gn (gX + 1 + 1) (gX + 1) gq gX nx b k A B ns cs nm cm lp m _ _ _ _ D (oO s j) L2 X2 _ W (F0.out.grown hW HNE.out.1 (fun b0 o e => HNE.out.2.1 b0 o (by omega) e)) hAW c2 (by omega) (by omega) (by rw [(HMV.out (oO s j) (by omega)).1, e2]) (by have := numN_lt (n := ns) hk (h := oO s j) l2.1 (by rw [l2.2]; exact hjk); omega) (by rw [f2]; have := numN_lt (n := ns) hk b2 n2; omega) (by omega)
          rw [f2] at h
          have he : smK s m k (j + 1) = puN k (puN k (smK s m k j) (4 * j + 2) (foN s m k (4 * j + 2))) (oO s j) (foN s m k (oO s j)) := by show (if j = k then _ else _) = _; rw [if_neg hjk]
          rw [he]; exact h
        have CO : Hid (∀ W, wL.grownBy W (some gX) → Calls Try.prog 81 #[dval A ns cs B nm cm lp, .int .i64 (j : Nat)] W fun e w' => e = .returned (.int .i64 (oO s j : Nat)) ∧ Below W.heap.size W w') := Lib.hid fun W hW => by
          refine over_any A B ns cs nm cm lp s j W ⟨HS.out.1, fun h => ?_⟩ hjn hns (HSV.out j hjn)
          obtain ⟨b0, o, e, hb0, hc⟩ := HS.out.2 h
          have hn := HNE.out
          have hlw := HB4.out.size
          have hl0 := HLT.out
          refine ⟨b0, o, e, by have := hW.size; omega, fun i hi => ?_⟩
          exact (hW.cell_far ⟨b0, o + i, none⟩ (by simp; omega) (by simp; omega)).trans ((HB4.out.cell (p := ⟨b0, o + i, none⟩) hb0).trans (hc i hi))
        have HG := Lib.hid hgr
        have HDX : Hid (∀ W, wL.grownBy W (some gX) → DB W w.heap.size A ns cs B nm cm lp) := Lib.hid fun W hW => (F0.out.grown hW HNE.out.1 (fun b0 o e => HNE.out.2.1 b0 o (by omega) e)).d
        clear Fr hgr hAr C hcj h4n ho1 ho2 l2 c1 e1 f1 b1 n1 c2 e2 f2 b2 n2 hnx4
        go_wp2_with (first
          | (go_at_call 81; ((with_reducible refine (CO.out _ hg2).mono ?_); rintro e w3 ⟨rfl, hb3⟩; have hg3 := gr_below hg2 hb3; have hA3 := hA2.keep hb3))
          | ((with_reducible refine CF1.out.mono ?_); rintro e w2 ⟨rfl, hg2', hA2⟩; have hg2 := gr_gr HG.out hg2'; obtain ⟨z0, z1, z2, zlt⟩ := HDX.out w2 hg2)
          | ((with_reducible refine (CF2.out _ hg3 hA3).mono ?_); rintro e w4 ⟨rfl, hg4', hA4⟩; have hg4 := gr_gr hg3 hg4'))
        go_roundw
        case rel => exact ⟨j + 1, by omega, by go_num, hg4, hA4⟩
        case measure => simp [intOf]; omega
    · obtain rfl : ns = j := by omega
      have cx := (F0.out.grown hgr HNE.out.1 (fun b0 o e => HNE.out.2.1 b0 o (by omega) e)).x
      have HF : Hid (MtPost w nx (smK s m k ns) (.returned (.slice (some ⟨gX, 0, none⟩) nx nx)) wr) := Lib.hid ⟨gX, rfl, hAr, HNE.out.2.2.1, HB4.out.grown hgr HB4.out.size (fun g e => by injection e with e; have := HNE.out.2.2.1; omega)⟩
      clear hgr hAr
      go_wp2
      go_ret
      exact HF.out

end Go.Proofs.Ytdamfoobnbjojaa

/- Walks: slices.Grow of a nil slice, slices.Concat of rows that are not empty. -/
namespace Go.Proofs.Ytdamfoobnbjojaa
open Go.RowKit

set_option maxHeartbeats 2000000 in
set_option maxRecDepth 100000 in
theorem grow_any (n : Nat) (hn : n ≤ 1000000) (w : World) : Calls Try.prog 82 #[.slice none 0 0, .int .i64 (n : Nat)] w fun e w' => ∃ v, e = .returned v ∧ OI w' w.heap.size v [] ∧ Below w.heap.size w w' := by
  have hn0 : (0 : Int) ≤ (n : Int) := Int.natCast_nonneg _
  by_cases hz : n = 0
  · subst hz
    go_enter Try.func82, Try.ntmps82
    go_wp2
    go_ret
    exact ⟨_, rfl, OI.nil _ _, Below.refl _ _⟩
  · obtain ⟨i0, hi, hz0, hz1, hz2⟩ := info_parts Try.infoInt
    have hn1 : 0 < (n : Int) := by omega
    have hrz : ∀ ty, (Builtin.append_ #[22, 3] ty #[.slice none 0 0, .int .i64 (n : Nat)]).run Try.prog w =
        .ok (.slice (some ⟨w.heap.size, 0, none⟩) n (grownCap w n 0 3)) (w.drew.alloc (.cells (Builtin.zeroCells #[.int .i64 0] n ++ Builtin.zeroCells #[.int .i64 0] (grownCap w n 0 3 - n)) 3)) := fun ty => by
      have h := Lib.run_append_grow_zeros w 22 3 ty 3 i0 (.int .i64 0) .i64 .i64 Try.underlying22 Try.underlying3 hi hz0 none 0 0 [] (run_firstCells_none w.drew i0.size 0 0 0) n (by omega) (by omega) (by omega) (by omega) (by rw [hz2]; omega)
        (by rw [hz2, Nat.zero_add]; exact growslice_fits (by omega) (by omega))
      simp only [Nat.zero_add, Value.cells] at h
      simpa using h
    have hGn : n ≤ grownCap w n 0 3 := grownCap_ge w _ _ _
    have hGm : grownCap w n 0 3 ≤ maxLen := grownCap_le_maxLen w n 0 3 (by unfold maxLen; omega)
    obtain ⟨G, hG⟩ : ∃ G, grownCap w n 0 3 = G := ⟨_, rfl⟩
    rw [hG] at hrz hGn hGm
    have HO : Hid (OI (w.drew.alloc (.cells (Builtin.zeroCells #[.int .i64 0] n ++ Builtin.zeroCells #[.int .i64 0] (G - n)) 3)) w.heap.size (.slice (some ⟨w.heap.size, 0, none⟩) 0 G) []) := Lib.hid (World.ownsRow_made w.drew _ G (Nat.le_refl _) hGm (by simp only [Array.size_append, size_zeroCells]; show n * 1 + (G - n) * 1 = G * 1; omega))
    have HB : Hid (Below w.heap.size w (w.drew.alloc (.cells (Builtin.zeroCells #[.int .i64 0] n ++ Builtin.zeroCells #[.int .i64 0] (G - n)) 3))) := Lib.hid ((Below.refl w.heap.size w).drew.alloc (by simp) _)
    have hG63 : G ≤ 9223372036854775807 := by unfold maxLen at hGm; omega
    clear hG hGm hi hz
    go_enter Try.func82, Try.ntmps82
    go_wp2_with (at_builtin; refine Lib.wpList_append_run _ rfl _ _ _ _ rfl _ _ rfl rfl _ _ (hrz _) ?_)
    go_ret
    exact ⟨_, rfl, HO.out, HB.out⟩

/-- The lists of the first k rows, one behind the other. -/
def flT (xss : List (List Int)) (k : Nat) : List Int := (xss.take k).flatten
theorem flT_succ (xss : List (List Int)) (k : Nat) (h : k < xss.length) : flT xss (k + 1) = flT xss k ++ xss.getD k [] := by
  unfold flT
  rw [List.take_add_one, List.flatten_append]
  simp [List.getD, h]
theorem flT_all (xss : List (List Int)) : flT xss xss.length = xss.flatten := by unfold flT; rw [List.take_length]
theorem flT_le (xss : List (List Int)) (k : Nat) : (flT xss k).length ≤ xss.flatten.length := by
  have e := congrArg List.length (congrArg List.flatten (List.take_append_drop k xss))
  rw [List.flatten_append, List.length_append] at e
  unfold flT; omega

/-- Row k of A lies in memory, and is no nil slice. -/
def RowsAt (w : World) (A : Option Addr) (n : Nat) (xss : List (List Int)) : Prop := ∀ k, k < n → ∃ b o c', A = some ⟨b, o, none⟩ ∧ b < w.heap.size ∧ ∃ b' o', w.cell? ⟨b, o + k, none⟩ = some (.slice (some ⟨b', o', none⟩) (xss.getD k []).length c') ∧ b' < w.heap.size ∧ ∀ j, j < (xss.getD k []).length → w.cell? ⟨b', o' + j, none⟩ = some (.int .i64 ((xss.getD k []).getD j 0))
set_option maxHeartbeats 3200000 in
set_option maxRecDepth 100000 in
theorem concat_rows (A : Option Addr) (n c : Nat) (xss : List (List Int)) (w : World) (hxl : xss.length = n) (hn : n ≤ 1000) (hl : xss.flatten.length ≤ 1000) (hrow : RowsAt w A n xss) :
    Calls Try.prog 59 #[.slice A n c] w fun e w' => ∃ v, e = .returned v ∧ OI w' w.heap.size v xss.flatten ∧ Below w.heap.size w w' := by
  have HXL := Lib.hid hxl
  have HF := Lib.hid (flT_all xss)
  have hle : ∀ k, (flT xss k).length ≤ 1000 := fun k => Nat.le_trans (flT_le xss k) hl
  have HLE := Lib.hid hle
  have HROW := Lib.hid hrow
  clear hl hxl hle hrow
  go_enter Try.func59, Try.ntmps59
  go_wp2
  go_loopw [3, 5, 11] (fun z _ i wr => ∃ k : Nat, k ≤ n ∧ i = .int .i64 k ∧ wr = w ∧ z = .int .i64 (flT xss k).length) (fun _ _ i _ => n - (intOf i).toNat)
  case atStart => exact ⟨0, by omega, rfl, rfl, rfl⟩
  case round =>
    obtain ⟨k, hk, rfl, hw, rfl⟩ := hrel
    subst hw
    have hk0 : (0 : Int) ≤ (k : Int) := Int.natCast_nonneg _
    by_cases hlt : k < n
    · obtain ⟨b, o, c', rfl, hb, b', o', hcel, hb', hc'⟩ := HROW.out k hlt
      have hs := flT_succ xss k (by rw [HXL.out]; exact hlt)
      have hle1 := HLE.out (k + 1)
      have hlen : (flT xss (k + 1)).length = (flT xss k).length + (xss.getD k []).length := by rw [hs, List.length_append]
      obtain ⟨q, hq⟩ : ∃ q, (flT xss k).length = q := ⟨_, rfl⟩
      obtain ⟨r, hr⟩ : ∃ r, (xss.getD k []).length = r := ⟨_, rfl⟩
      rw [hq, hr] at hlen
      rw [hr] at hcel
      simp only [hq]
      have HLEN := Lib.hid hlen
      have hqr : q + r ≤ 1000 := by omega
      have hq0 : (0 : Int) ≤ (q : Int) := Int.natCast_nonneg _
      have hr0 : (0 : Int) ≤ (r : Int) := Int.natCast_nonneg _
      have hk1 : (k : Int) < (n : Int) := by omega
      clear hs hlen hq hr hc' hle1
      go_wp2
      go_roundw
      case rel => exact ⟨k + 1, by omega, by go_num, trivial, by rw [HLEN.out]; go_num⟩
      case measure => simp [intOf]; omega
    · obtain rfl : n = k := by omega
      obtain ⟨wO, hwO⟩ : ∃ wO : World, wO = wr := ⟨_, rfl⟩
      subst hwO
      have hle1 := HLE.out n
      obtain ⟨q, hq⟩ : ∃ q, (flT xss n).length = q := ⟨_, rfl⟩
      rw [hq] at hle1
      simp only [hq]
      have CG := Lib.hid (grow_any q (by omega) wO)
      clear hq hlt
      go_wp2_with (go_at_call 82; ((with_reducible refine CG.out.mono ?_); rintro e w1 ⟨v1, rfl, ho1, hb1⟩))
      go_loopw [6, 8, 27] (fun v _ i wr => ∃ k : Nat, k ≤ n ∧ i = .int .i64 k ∧ Below wO.heap.size wO wr ∧ OI wr wO.heap.size v (flT xss k)) (fun _ _ i _ => n - (intOf i).toNat)
      case atStart => exact ⟨0, by omega, rfl, hb1, ho1⟩
      case round =>
        obtain ⟨k, hk, rfl, hbx, hox⟩ := hrel
        have hk0 : (0 : Int) ≤ (k : Int) := Int.natCast_nonneg _
        by_cases hlt : k < n
        · obtain ⟨b, o, c', rfl, hb, b', o', hcel, hb', hc'⟩ := HROW.out k hlt
          have hs := flT_succ xss k (by rw [HXL.out]; exact hlt)
          have hle1 := HLE.out (k + 1)
          rw [hs, List.length_append] at hle1
          have hcelx := (hbx.cell (p := ⟨b, o + k, none⟩) hb).trans hcel
          have hcx : ∀ j, j < (xss.getD k []).length → wr.cell? ⟨b', o' + j, none⟩ = some (.int .i64 ((xss.getD k []).getD j 0)) := fun j hj => (hbx.cell (p := ⟨b', o' + j, none⟩) hb').trans (hc' j hj)
          obtain ⟨row, hrow⟩ : ∃ row, xss.getD k [] = row := ⟨_, rfl⟩
          rw [hrow] at hcelx hcx hs hle1
          have HCX := Lib.hid hcx
          have HS := Lib.hid hs
          have HOX := Lib.hid hox
          obtain ⟨i0, hi, hz0, hz1, hz2⟩ := info_parts Try.infoInt
          have hk1 : (k : Int) < (n : Int) := by omega
          obtain ⟨cur, hcur⟩ : ∃ cur, flT xss k = cur := ⟨_, rfl⟩
          rw [hcur] at hle1
          have HCUR := Lib.hid hcur
          have HOC : Hid (OI wr wO.heap.size _ cur) := Lib.hid (hcur ▸ hox)
          obtain ⟨rl, hrl⟩ : ∃ rl, row.length = rl := ⟨_, rfl⟩
          rw [hrl] at hcelx hle1
          have HRL := Lib.hid hrl
          clear hs hcx hox hc' hcel hrow hcur hrl
          go_wp2_with (at_builtin; refine wpList_append_own _ rfl (.tmp 31) (.tmp 32) 22 rfl wO.heap.size 3 i0 (.int .i64 0) 1 8 Try.underlying22 hi hz0 hz1 hz2 rfl (by decide) _ _ (ints cur) rfl HOC.out ⟨b', o', none⟩ rl c' (ints row) rfl (by simp [HRL.out]) ?c1 ?c2 ?c3 ?c4 ?c5 ?_)
          case c1 =>
            intro j u hj
            have hjl : j < row.length := by
              have := (List.getElem?_eq_some_iff.1 hj).1
              simpa using this
            have h1 := HCX.out j hjl
            have ha : (⟨b', o', none⟩ : Addr).add j = ⟨b', o' + j, none⟩ := by unfold Addr.add; split <;> simp_all
            rw [ha, h1]
            simp [hjl] at hj
            simp [List.getD, hjl, hj]
          case c2 => intro u hu; obtain ⟨x, _, rfl⟩ := List.mem_map.1 hu; rfl
          case c3 => unfold maxLen; omega
          case c4 => omega
          case c5 => exact hbx.size
          intro v2 w2 ho2 hg2 _
          have hb2 : Below wO.heap.size wO w2 := hbx.grown hg2 hbx.size (fun q hq => (World.ownsRow.lt HOC.out q hq).1)
          have HO2 : Hid (OI w2 wO.heap.size v2 (flT xss (k + 1))) := Lib.hid (by
            rw [HS.out, HCUR.out]
            unfold OI
            have e1 : (cur ++ row).length = cur.length + rl := by rw [List.length_append, HRL.out]
            have e2 : ints (cur ++ row) = ints cur ++ ints row := by simp [ints]
            rw [e1, e2]; exact ho2)
          clear ho2 hg2
          go_wp2
          go_roundw
          case rel => exact ⟨k + 1, by omega, by go_num, hb2, HO2.out⟩
          case measure => simp [intOf]; omega
        · obtain rfl : n = k := by omega
          have HOX := Lib.hid hox
          clear hox
          go_wp2
          go_ret
          exact ⟨_, rfl, by have h1 := HOX.out; rw [← HXL.out, HF.out] at h1; exact h1, hbx⟩

theorem concat_any (A : Option Addr) (n c : Nat) (xss : List (List Int)) (w : World) (hA : RO w A n xss) (hn : n ≤ 1000) (hl : xss.flatten.length ≤ 1000) (hne : ∀ j, j < n → 0 < (xss.getD j []).length) :
    Calls Try.prog 59 #[.slice A n c] w fun e w' => ∃ v, e = .returned v ∧ OI w' w.heap.size v xss.flatten ∧ Below w.heap.size w w' :=
  concat_rows A n c xss w hA.1 hn hl fun k hk => by
    obtain ⟨b, o, e, hb, hc⟩ := hA.2 (by omega)
    obtain ⟨A', n', c', h1, h2⟩ := hc k hk
    obtain rfl := h2.1
    obtain ⟨b', o', e', hb', hc'⟩ := h2.2 (hne k hk)
    exact ⟨b, o, c', e, hb, b', o', by rw [h1, e'], hb', hc'⟩

end Go.Proofs.Ytdamfoobnbjojaa

/- Walk: Smooth. -/
namespace Go.Proofs.Ytdamfoobnbjojaa
open Go.RowKit Go.Maps

def nL (n : Nat) (M : Nat → Nat) : List Int := (List.range n).map fun i => (M i : Int)
theorem nL_length (n : Nat) (M : Nat → Nat) : (nL n M).length = n := by simp [nL]
theorem nL_get {n i : Nat} (M : Nat → Nat) (h : i < n) : (nL n M).getD i 0 = (M i : Int) := by simp [nL, List.getD, h]
theorem oi_arr {w : World} {g B n : Nat} {M : Nat → Nat} (h : Arr w g 3 n (iv M)) (hB : B ≤ g) (hn : n ≤ 1000) : OI w B (.slice (some ⟨g, 0, none⟩) n n) (nL n M) := by
  have hl := nL_length n M
  refine ⟨by simp [ints], .inr ⟨g, n, cellsN n (iv M), by rw [hl], hB, h, by omega, by unfold maxLen; omega, by simp [cellsN], ?_⟩⟩
  rw [hl, Nat.mul_one]
  have e : (cellsN n (iv M)).toList = ints (nL n M) := by unfold cellsN nL ints; rw [List.map_map]; rfl
  rw [e, List.take_of_length_le (by simp [ints, nL])]
theorem rows2 {w3 : World} {b0 off off2 k ns cs c2 : Nat} {s : List Int} (hA : RI w3 (some ⟨b0, off, none⟩) ns s) (hk : k < ns) (h2 : ∀ j, j < ns - (k + 1) → off2 + j = off + (k + 1) + j) :
    RowsAt (w3.alloc (.cells #[.slice (some ⟨b0, off, none⟩) k cs, .slice (some ⟨b0, off2, none⟩) (ns - (k + 1)) c2] 22)).drew (some ⟨w3.heap.size, 0, none⟩) 2 [s.take k, s.drop (k + 1)] := by
  obtain ⟨b1, o1, e, hb1, hc⟩ := hA.2 (by omega)
  injection e with e; injection e with e1 e2; subst e1; subst e2
  have hls := hA.1
  have old : ∀ i, (w3.alloc (.cells #[.slice (some ⟨b0, off, none⟩) k cs, .slice (some ⟨b0, off2, none⟩) (ns - (k + 1)) c2] 22)).drew.cell? ⟨b0, i, none⟩ = w3.cell? ⟨b0, i, none⟩ := fun i => World.cell?_alloc_past _ _ _ hb1
  have new : ∀ i, (w3.alloc (.cells #[.slice (some ⟨b0, off, none⟩) k cs, .slice (some ⟨b0, off2, none⟩) (ns - (k + 1)) c2] 22)).drew.cell? ⟨w3.heap.size, i, none⟩ = #[Value.slice (some ⟨b0, off, none⟩) k cs, .slice (some ⟨b0, off2, none⟩) (ns - (k + 1)) c2][i]? := fun i => World.cell?_alloc_at _ _ _ _ rfl
  have sz : b0 < (w3.alloc (.cells #[.slice (some ⟨b0, off, none⟩) k cs, .slice (some ⟨b0, off2, none⟩) (ns - (k + 1)) c2] 22)).drew.heap.size := by simp; omega
  intro i hi
  have hi2 : i = 0 ∨ i = 1 := by omega
  rcases hi2 with rfl | rfl
  · refine ⟨_, _, cs, rfl, by simp, b0, off, ?_, sz, fun j hj => ?_⟩
    · rw [Nat.zero_add, new 0]
      have : (s.take k).length = k := by rw [List.length_take]; omega
      first | (simp [this]; done) | (simp [this]; omega)
    · have hjk : j < k := by simp at hj; omega
      rw [old, hc j (by omega)]
      simp [List.getD, hjk]
  · refine ⟨_, _, c2, rfl, by simp, b0, off2, ?_, sz, fun j hj => ?_⟩
    · rw [Nat.zero_add, new 1]
      simp [hls]
    · have hjk : j < ns - (k + 1) := by simp at hj; omega
      rw [old, h2 j hjk, show off + (k + 1) + j = off + (k + 1 + j) by omega, hc (k + 1 + j) (by omega)]
      simp [List.getD, List.getElem?_drop]
def smS (s : List Int) (k : Nat) : List Int := s.take k ++ s.drop (k + 1)
def smM (s m : List Int) (k n : Nat) : List Int := nL (4 * n - 4) (smK s m k n)
def smL (s m : List Int) (lp : Int) (k : Nat) : Int := lp + closedN (uN k : Nat) (vN s k : Nat) (aN s m k : Nat) (cN m k : Nat)
def SmYes (w : World) (s m : List Int) (lp : Int) (k n : Nat) (e : Ending) (w' : World) : Prop :=
  ∃ A cs B cm, e = .returned (.tuple #[dval A (n - 1) cs B (4 * n - 4) cm (smL s m lp k), .int .i64 0]) ∧ OI w' w.heap.size (.slice A (n - 1) cs) (smS s k) ∧ OI w' w.heap.size (.slice B (4 * n - 4) cm) (smM s m k n) ∧ n - 1 ≤ cs ∧ 4 * n - 4 ≤ cm ∧ Below w.heap.size w w'
theorem smS_length {s : List Int} {n k : Nat} (h : s.length = n) (hk : k < n) : (smS s k).length = n - 1 := by unfold smS; simp; omega
theorem closedN_le (u v a c : Int) : 0 ≤ closedN u v a c ∧ closedN u v a c ≤ 2 := by unfold closedN; split <;> split <;> omega

set_option maxHeartbeats 3200000 in
set_option maxRecDepth 100000 in
theorem smooth_yes (A B : Option Addr) (ns cs nm cm : Nat) (lp : Int) (s m : List Int) (k : Nat) (w : World) (h : DV w A ns B nm s m) (hv : validB s m lp = true) (hk : k < ns) (hcap : ns ≤ cs) (hcs : cs ≤ 1000000000000000) (hl : smL s m lp k ≤ 64) :
    Calls Try.prog 24 #[dval A ns cs B nm cm lp, .int .i64 (k : Nat)] w (SmYes w s m lp k ns) := by
  obtain ⟨hnm, hns, hM, hS, hl0, hl1⟩ := valid_data hv h.hs.1 h.hm.1
  have hb1 := below_alloc w (dbox A ns cs B nm cm lp)
  have hb2 := below_alloc (w.alloc (dbox A ns cs B nm cm lp)) (.cells #[.slice none 0 0, .slice none 0 0, .int .i64 0] 24)
  have hd := (DB.new w A ns cs B nm cm lp).keep hb2
  have hbx := bx0_new (w.alloc (dbox A ns cs B nm cm lp))
  have hb := below_step hb1 hb2
  have hsz : (w.alloc (dbox A ns cs B nm cm lp)).heap.size = w.heap.size + 1 := by simp
  rw [hsz] at hbx
  have hsz2 : ((w.alloc (dbox A ns cs B nm cm lp)).alloc (.cells #[.slice none 0 0, .slice none 0 0, .int .i64 0] 24)).heap.size = w.heap.size + 2 := by simp
  have HH := Lib.hid h
  have HV := Lib.hid hv
  have HNM := Lib.hid hnm
  have HLS := Lib.hid h.hs.1
  have hcr := oO_cases (hS k hk)
  have hne : ((uN k : Nat) : Int) ≠ (vN s k : Nat) := by unfold uN; rcases hcr with ⟨_, _, e⟩ | ⟨_, _, e⟩ <;> omega
  have HNE := Lib.hid hne
  clear hb1 hb2 h hv hM hS hnm hsz hcr hne
  unfold dbox at hd hbx hb hsz2
  go_enter Try.func24, Try.ntmps24
  go_upto_region 1 with fail
  generalize (w.alloc (.cells #[.slice A ns cs, .slice B nm cm, .int .i64 lp] 24)).alloc (.cells #[.slice none 0 0, .slice none 0 0, .int .i64 0] 24) = w0 at hd hbx hb hsz2 ⊢
  obtain ⟨gr, hgr⟩ : ∃ gr, w.heap.size + 1 = gr := ⟨_, rfl⟩
  rw [hgr] at hbx ⊢
  have HBX := Lib.hid hbx
  have HB := Lib.hid hb
  have HLT : Hid (w.heap.size ≤ gr ∧ gr < w0.heap.size ∧ w.heap.size < w0.heap.size) := Lib.hid ⟨by omega, by omega, by omega⟩
  have HD := Lib.hid hd
  obtain ⟨d0, d1, d2, dlt⟩ := hd
  have hce : crossE (validB s m lp) ns (k : Int) = 0 := by rw [HV.out]; unfold crossE; rw [if_neg (by decide), if_neg (by omega), if_neg (by omega)]
  have CE0 := cross_any A B ns cs nm cm lp (k : Int) s m w0 (HH.out.keep hb) (by omega)
  rw [hce] at CE0
  have CE := Lib.hid CE0
  have CN : Hid (∀ W, Below w0.heap.size w0 W → Calls Try.prog 57 #[dval A ns cs B nm cm lp, .int .i64 (k : Nat)] W (NxPost k (vN s k) (aN s m k) (cN m k) W)) := Lib.hid fun W hW =>
    next_any A B ns cs nm cm lp s m k W (HH.out.hs.keep (below_step HB.out hW)) (HH.out.hm.keep (below_step HB.out hW)) hk HV.out
  clear hb hbx hgr hsz2 hce CE0
  go_upto_region 5 with (first
    | (go_at_call 55; ((with_reducible refine CE.out.mono ?_); rintro e w1 ⟨rfl, hb1⟩; have x0 := (hb1.cell (p := ⟨w.heap.size, 0, none⟩) dlt).trans d0; have x1 := (hb1.cell (p := ⟨w.heap.size, 1, none⟩) dlt).trans d1; have x2 := (hb1.cell (p := ⟨w.heap.size, 2, none⟩) dlt).trans d2))
    | (go_at_call 57; ((with_reducible refine (CN.out _ hb1).mono ?_); rintro e w2 ⟨b, rfl, hN, hb2a, hb2b, hb2⟩)))
  have hb02 := below_step hb1 hb2
  have hlt1 := HLT.out
  have hw12 := hb1.size
  have y0 := (hb02.cell (p := ⟨w.heap.size, 0, none⟩) dlt).trans d0
  have y1 := (hb02.cell (p := ⟨w.heap.size, 1, none⟩) dlt).trans d1
  have y2 := (hb02.cell (p := ⟨w.heap.size, 2, none⟩) dlt).trans d2
  have y2d : w2.drew.cell? ⟨w.heap.size, 2, none⟩ = some (.int .i64 lp) := y2
  have CC := Lib.hid (closed_any b (uN k : Nat) (vN s k : Nat) (aN s m k : Nat) (cN m k : Nat) w2.drew (by have h4 : ((uN k : Nat) : Int) = 4 * (k : Int) := by { unfold uN; omega }; rw [h4]; exact hN) HNE.out)
  have HN := Lib.hid hN
  obtain ⟨z, hz⟩ : ∃ z, closedN (uN k : Nat) (vN s k : Nat) (aN s m k : Nat) (cN m k : Nat) = z := ⟨_, rfl⟩
  have hz2 := closedN_le (uN k : Nat) (vN s k : Nat) (aN s m k : Nat) (cN m k : Nat)
  have HLZ : Hid (smL s m lp k = lp + z) := Lib.hid (by unfold smL; rw [hz])
  rw [hz] at CC hz2
  rw [HLZ.out] at hl
  have hwz : IntKind.i64.wrap (lp + z) = lp + z := IntWalk.i64_in _ (by omega)
  have hz0 : 0 ≤ lp + z := by omega
  have hbD : Below w2.heap.size w2 w2.drew := (Below.refl _ _).drew
  have hlt2 : w.heap.size < w2.heap.size := by have := hb2.size; omega
  clear x0 x1 x2 d0 d1 d2 hz hN
  go_region_held3 (fun w' => w'.cell? ⟨w.heap.size, 2, none⟩ = some (.int .i64 lp)) (first | exact y2d | exact (hb3.cell (p := ⟨w.heap.size, 2, none⟩) hlt2).trans y2 | go_keep)
    ((go_at_call 58; ((with_reducible refine CC.out.mono ?_); rintro e w3 ⟨rfl, hb3'⟩; have hb3 := below_step hbD hb3')))
  have hgt : decide (64 < lp + z) = false := by simp; omega
  have hgt' : ¬ (64 < lp + z) := by omega
  go_upto_region 8 with fail
  obtain ⟨b0, off, rfl, hb0, hc0⟩ := HH.out.hs.2 (by omega)
  have k0 : (0 : Int) ≤ (k : Int) := Int.natCast_nonneg _
  have k1 : (k : Int) < (ns : Int) := by omega
  have hnsi : (ns : Int) ≤ 64 := by omega
  have kc : (k : Int) ≤ (cs : Int) := by omega
  have nc : (ns : Int) ≤ (cs : Int) := by omega
  have y0x := (hb3.cell (p := ⟨w.heap.size, 0, none⟩) hlt2).trans y0
  have y0d : w3.drew.cell? ⟨w.heap.size, 0, none⟩ = some (.slice (some ⟨b0, off, none⟩) ns cs) := y0x
  have hlt3 : w.heap.size < w3.heap.size := by have := hb3.size; omega
  have hb03 := below_step hb02 hb3
  by_cases hc : cs = k + 1
  · subst hc
    have hns1 : ns = k + 1 := by omega
    have HNS1 := Lib.hid hns1
    clear hns1 kc nc
    have kc : (k : Int) ≤ (k : Int) + 1 := by omega
    have nc : (ns : Int) ≤ (k : Int) + 1 := by have := HNS1.out; omega
    have kp0 : (0 : Int) ≤ (k : Int) + 1 := by omega
    have kp1 : (k : Int) + 1 ≤ (ns : Int) := by omega
    have kp2 : (k : Int) + 1 ≤ (k : Int) + 1 := by omega
    have kw : IntKind.i64.wrap ((k : Int) + 1) = (k : Int) + 1 := IntWalk.i64_in _ (by omega)
    have kt : ((k : Int) + 1).toNat = k + 1 := by omega
    have hn0 : ns - (k + 1) = 0 := by have := HNS1.out; omega
    have hR := rows2 (off2 := off) (c2 := 0) (cs := k + 1) (HH.out.hs.keep (below_step HB.out hb03)) hk (fun j hj => by omega)
    rw [hn0] at hR
    have CCT := Lib.hid (concat_rows (some ⟨w3.heap.size, 0, none⟩) 2 2 [s.take k, s.drop (k + 1)] (w3.alloc (.cells #[.slice (some ⟨b0, off, none⟩) k (k + 1), .slice (some ⟨b0, off, none⟩) 0 0] 22)).drew rfl (by omega) (by have := HLS.out; simp; omega) hR)
    clear hR hn0
    go_region_held3 (fun w' => w'.cell? ⟨w.heap.size, 0, none⟩ = some (.slice (some ⟨b0, off, none⟩) ns (k + 1))) (first | exact y0d | exact ((below_step (below_alloc w3 _).drew hb4).cell (p := ⟨w.heap.size, 0, none⟩) hlt3).trans y0x | go_keep)
      ((go_at_call 59; ((with_reducible refine CCT.out.mono ?_); rintro e w4 ⟨v, rfl, oS, hb4⟩)))
    clear kp0 kp1 kp2 kw kt
    have hb4' := below_step (below_alloc w3 (.cells #[.slice (some ⟨b0, off, none⟩) k (k + 1), .slice (some ⟨b0, off, none⟩) 0 0] 22)).drew hb4
    have hb04 := below_step hb03 hb4'
    have hfl : ([s.take k, s.drop (k + 1)] : List (List Int)).flatten = smS s k := by simp [smS]
    rw [hfl] at oS
    have oS := oS.mono (B' := w0.heap.size) (by have := hb03.size; simp; omega)
    obtain ⟨A1, c1, rfl⟩ : ∃ A1 c1, v = .slice A1 (ns - 1) c1 := by
      have hle := smS_length HLS.out hk
      rcases oS.form with ⟨e, hx⟩ | ⟨g, cap, e, _⟩
      · exact ⟨none, 0, by rw [e]; rw [hx] at hle; simp at hle; rw [← hle]⟩
      · exact ⟨_, _, by rw [e, hle]⟩
    have HOS := Lib.hid oS
    obtain ⟨z0, z1, z2, zlt⟩ := HD.out.keep hb04
    have hN4 : Hid (∃ D, (D = nxD (uN k : Nat) (vN s k : Nat) (aN s m k : Nat) (cN m k : Nat) ∨ D = nxD (vN s k : Nat) (uN k : Nat) (cN m k : Nat) (aN s m k : Nat)) ∧ w4.ownsMap Try.prog 3 (plainElem Try.prog 3) b 2 D) := Lib.hid (by
      obtain ⟨D, h1, h2⟩ := HN.out
      have h4 : ((uN k : Nat) : Int) = 4 * (k : Int) := by unfold uN; omega
      rw [h4]
      exact ⟨D, h1, h2.kept (row := none) (grown_of_below (below_step hb3 hb4')) (by simp)⟩)
    obtain ⟨D, hD1, hD2⟩ := hN4.out
    have CM := Lib.hid (mates_any (some ⟨b0, off, none⟩) B ns (k + 1) nm cm lp s m k b D w4 (HH.out.hs.keep (below_step HB.out hb04)) (HH.out.hm.keep (below_step HB.out hb04)) HV.out hk hD2 (NxD.of hD1 HNE.out))
    clear oS hfl hD1 hD2 hb4 y0 y1 y2 y0x y0d
    go_wp2_with (go_at_call 60; ((with_reducible refine CM.out.mono ?_); rintro e w5 ⟨gX, rfl, hAX, hgX, hb5⟩; have hr := HBX.out.kp (below_step hb04 hb5); have r0 := hr.1.1; have r1 := hr.1.2.1; have r2 := hr.1.2.2.1; have f0 := hr.2 0; have f1 := hr.2 1; have f2 := hr.2 2))
    obtain ⟨q0, q1, q2⟩ := set3_cells w5 gr (.slice A1 (ns - 1) c1) (.slice (some ⟨gX, 0, none⟩) (nm - 4) (nm - 4)) (.int .i64 (lp + z)) r0 r1 r2
    have HF : Hid (SmYes w s m lp k ns (.returned (.tuple #[dval A1 (ns - 1) c1 (some ⟨gX, 0, none⟩) (nm - 4) (nm - 4) (lp + z), .int .i64 0])) (set3 w5 gr (.slice A1 (ns - 1) c1) (.slice (some ⟨gX, 0, none⟩) (nm - 4) (nm - 4)) (.int .i64 (lp + z)))) := Lib.hid (by
      have hs4 := hb04.size
      have h4 := HNM.out
      have oX := oi_arr (B := w0.heap.size) hAX (by omega) (by omega)
      have oS5 := HOS.out.keep hb5
      refine ⟨A1, c1, some ⟨gX, 0, none⟩, nm - 4, by rw [HLZ.out, h4], ?_, ?_, ?_, by omega, set3_below (below_step HB.out (below_step hb04 hb5)) hlt1.1 _ _ _⟩
      · exact (oS5.set3 (fun e => by have := World.ownsRow.lt oS5 _ e; omega) _ _ _).mono HB.out.size
      · have h5 := (oX.set3 (g := gr) (fun e => by have := World.ownsRow.lt oX _ e; omega) (.slice A1 (ns - 1) c1) (.slice (some ⟨gX, 0, none⟩) (nm - 4) (nm - 4)) (.int .i64 (lp + z))).mono HB.out.size
        unfold smM; rw [← h4]; exact h5
      · have hle := smS_length HLS.out hk
        obtain ⟨_, ⟨e, _⟩ | ⟨g, cap, cur, e, _, _, h6, _⟩⟩ := HOS.out
        · injection e with e1 e2 e3; omega
        · injection e with e1 e2 e3; omega)
    exact bodyPost_ret (v := .tuple #[dval A1 (ns - 1) c1 (some ⟨gX, 0, none⟩) (nm - 4) (nm - 4) (lp + z), .int .i64 0]) (by simp [results, Try.results24, go_sem, q0, q1, q2]) rfl HF.out
  · have hc2 : ¬ (k + 1 = cs) := fun e => hc e.symm
    have hc3 : ¬ (cs = k + 1) := hc
    have kp0 : (0 : Int) ≤ (k : Int) + 1 := by omega
    have kp1 : (k : Int) + 1 ≤ (ns : Int) := by omega
    have kp2 : (k : Int) + 1 ≤ (cs : Int) := by omega
    have kw : IntKind.i64.wrap ((k : Int) + 1) = (k : Int) + 1 := IntWalk.i64_in _ (by omega)
    have kt : ((k : Int) + 1).toNat = k + 1 := by omega
    have CCT := Lib.hid (concat_rows (some ⟨w3.heap.size, 0, none⟩) 2 2 [s.take k, s.drop (k + 1)] (w3.alloc (.cells #[.slice (some ⟨b0, off, none⟩) k cs, .slice (some ⟨b0, off + (k + 1), none⟩) (ns - (k + 1)) (cs - (k + 1))] 22)).drew rfl (by omega) (by have := HLS.out; simp; omega)
      (rows2 (HH.out.hs.keep (below_step HB.out hb03)) hk (fun j hj => by omega)))
    go_region_held3 (fun w' => w'.cell? ⟨w.heap.size, 0, none⟩ = some (.slice (some ⟨b0, off, none⟩) ns cs)) (first | exact y0d | exact ((below_step (below_alloc w3 _).drew hb4).cell (p := ⟨w.heap.size, 0, none⟩) hlt3).trans y0x | go_keep)
      ((go_at_call 59; ((with_reducible refine CCT.out.mono ?_); rintro e w4 ⟨v, rfl, oS, hb4⟩)))
    clear kp0 kp1 kp2 kw kt
    have hb4' := below_step (below_alloc w3 (.cells #[.slice (some ⟨b0, off, none⟩) k cs, .slice (some ⟨b0, off + (k + 1), none⟩) (ns - (k + 1)) (cs - (k + 1))] 22)).drew hb4
    have hb04 := below_step hb03 hb4'
    have hfl : ([s.take k, s.drop (k + 1)] : List (List Int)).flatten = smS s k := by simp [smS]
    rw [hfl] at oS
    have oS := oS.mono (B' := w0.heap.size) (by have := hb03.size; simp; omega)
    obtain ⟨A1, c1, rfl⟩ : ∃ A1 c1, v = .slice A1 (ns - 1) c1 := by
      have hle := smS_length HLS.out hk
      rcases oS.form with ⟨e, hx⟩ | ⟨g, cap, e, _⟩
      · exact ⟨none, 0, by rw [e]; rw [hx] at hle; simp at hle; rw [← hle]⟩
      · exact ⟨_, _, by rw [e, hle]⟩
    have HOS := Lib.hid oS
    obtain ⟨z0, z1, z2, zlt⟩ := HD.out.keep hb04
    have hN4 : Hid (∃ D, (D = nxD (uN k : Nat) (vN s k : Nat) (aN s m k : Nat) (cN m k : Nat) ∨ D = nxD (vN s k : Nat) (uN k : Nat) (cN m k : Nat) (aN s m k : Nat)) ∧ w4.ownsMap Try.prog 3 (plainElem Try.prog 3) b 2 D) := Lib.hid (by
      obtain ⟨D, h1, h2⟩ := HN.out
      have h4 : ((uN k : Nat) : Int) = 4 * (k : Int) := by unfold uN; omega
      rw [h4]
      exact ⟨D, h1, h2.kept (row := none) (grown_of_below (below_step hb3 hb4')) (by simp)⟩)
    obtain ⟨D, hD1, hD2⟩ := hN4.out
    have CM := Lib.hid (mates_any (some ⟨b0, off, none⟩) B ns cs nm cm lp s m k b D w4 (HH.out.hs.keep (below_step HB.out hb04)) (HH.out.hm.keep (below_step HB.out hb04)) HV.out hk hD2 (NxD.of hD1 HNE.out))
    clear oS hfl hD1 hD2 hb4 y0 y1 y2 y0x y0d
    go_wp2_with (go_at_call 60; ((with_reducible refine CM.out.mono ?_); rintro e w5 ⟨gX, rfl, hAX, hgX, hb5⟩; have hr := HBX.out.kp (below_step hb04 hb5); have r0 := hr.1.1; have r1 := hr.1.2.1; have r2 := hr.1.2.2.1; have f0 := hr.2 0; have f1 := hr.2 1; have f2 := hr.2 2))
    obtain ⟨q0, q1, q2⟩ := set3_cells w5 gr (.slice A1 (ns - 1) c1) (.slice (some ⟨gX, 0, none⟩) (nm - 4) (nm - 4)) (.int .i64 (lp + z)) r0 r1 r2
    have HF : Hid (SmYes w s m lp k ns (.returned (.tuple #[dval A1 (ns - 1) c1 (some ⟨gX, 0, none⟩) (nm - 4) (nm - 4) (lp + z), .int .i64 0])) (set3 w5 gr (.slice A1 (ns - 1) c1) (.slice (some ⟨gX, 0, none⟩) (nm - 4) (nm - 4)) (.int .i64 (lp + z)))) := Lib.hid (by
      have hs4 := hb04.size
      have h4 := HNM.out
      have oX := oi_arr (B := w0.heap.size) hAX (by omega) (by omega)
      have oS5 := HOS.out.keep hb5
      refine ⟨A1, c1, some ⟨gX, 0, none⟩, nm - 4, by rw [HLZ.out, h4], ?_, ?_, ?_, by omega, set3_below (below_step HB.out (below_step hb04 hb5)) hlt1.1 _ _ _⟩
      · exact (oS5.set3 (fun e => by have := World.ownsRow.lt oS5 _ e; omega) _ _ _).mono HB.out.size
      · have h5 := (oX.set3 (g := gr) (fun e => by have := World.ownsRow.lt oX _ e; omega) (.slice A1 (ns - 1) c1) (.slice (some ⟨gX, 0, none⟩) (nm - 4) (nm - 4)) (.int .i64 (lp + z))).mono HB.out.size
        unfold smM; rw [← h4]; exact h5
      · have hle := smS_length HLS.out hk
        obtain ⟨_, ⟨e, _⟩ | ⟨g, cap, cur, e, _, _, h6, _⟩⟩ := HOS.out
        · injection e with e1 e2 e3; omega
        · injection e with e1 e2 e3; omega)
    exact bodyPost_ret (v := .tuple #[dval A1 (ns - 1) c1 (some ⟨gX, 0, none⟩) (nm - 4) (nm - 4) (lp + z), .int .i64 0]) (by simp [results, Try.results24, go_sem, q0, q1, q2]) rfl HF.out

end Go.Proofs.Ytdamfoobnbjojaa

/- The examples of the chapter, computed. -/
namespace Go.Proofs.Ytdamfoobnbjojaa
open Go.RowKit

def trS : List Int := [1, 1, 1]
def trM : List Int := [9, 4, 7, 10, 1, 8, 11, 2, 5, 0, 3, 6]
def kkS : List Int := [1]
def kkM : List Int := [1, 0, 3, 2]

theorem tr_lab : IsLab (matesOf trM) 12 3 (fun _ => 0) := by
  refine ⟨fun c hc => ⟨Nat.zero_le _, ?_⟩, fun _ _ => rfl⟩
  have h0 : Conn (matesOf trM) 12 0 2 := Conn.step 0 (by omega) (Conn.refl 0)
  have h1 : Conn (matesOf trM) 12 0 1 := Conn.step 1 (by omega) (Conn.refl 0)
  match c, hc with
  | 0, _ => exact .refl _
  | 1, _ => exact h1.symm
  | 2, _ => exact h0.symm
theorem kk_lab : IsLab (matesOf kkM) 4 1 (fun _ => 0) := by
  refine ⟨fun c hc => ⟨Nat.zero_le _, ?_⟩, fun _ _ => rfl⟩
  match c, hc with
  | 0, _ => exact .refl _
theorem tr_sph : sphM trM 3 = true := by
  show sphB (ufLab (matesOf trM) 12) (ff (matesOf trM)) (4 * 3) 3 = true
  rw [sphB_congr (G := fun _ => 0) fun c hc => (ufLab_isLab (matesOf trM) 12 3).unique tr_lab c hc]
  decide +kernel
theorem kk_sph : sphM kkM 1 = true := by
  show sphB (ufLab (matesOf kkM) 4) (ff (matesOf kkM)) (4 * 1) 1 = true
  rw [sphB_congr (G := fun _ => 0) fun c hc => (ufLab_isLab (matesOf kkM) 4 1).unique kk_lab c hc]
  decide +kernel
theorem tr_valid : validB trS trM 0 = true := by
  unfold validB
  rw [show trS.length = 3 from rfl, tr_sph]
  decide +kernel
theorem kk_valid : validB kkS kkM 0 = true := by
  unfold validB
  rw [show kkS.length = 1 from rfl, kk_sph]
  decide +kernel
theorem tr_faces : facesM trS trM 0 = [[0, 8, 4], [1, 7], [2, 6, 10], [3, 9], [5, 11]] := by
  unfold facesM; rw [if_pos tr_valid]; decide +kernel
theorem tr_strands : strandsM trS trM 0 = [[1, 6, 9, 2, 5, 10]] := by
  unfold strandsM; rw [if_pos tr_valid]; decide +kernel
theorem kk_faces : facesM kkS kkM 0 = [[0], [1, 3], [2]] := by
  unfold facesM; rw [if_pos kk_valid]; decide +kernel

end Go.Proofs.Ytdamfoobnbjojaa

/- Walk: the reference's Equal. -/
namespace Go.Proofs.Ytdamfoobnbjojaa
open Go.RowKit

def eqD (s m : List Int) (lp : Int) (s' m' : List Int) (lp' : Int) : Bool := decide (s = s') && decide (m = m') && decide (lp = lp')

set_option maxHeartbeats 1600000 in
theorem requal_any (A B A' B' : Option Addr) (ns cs nm cm ns' cs' nm' cm' : Nat) (lp lp' : Int) (s m s' m' : List Int) (w : World) (hs : RI w A ns s) (hm : RI w B nm m) (hs' : RI w A' ns' s') (hm' : RI w B' nm' m')
    (h1 : ns ≤ 1000000000000000) (h2 : nm ≤ 1000000000000000) (h3 : ns' ≤ 1000000000000000) (h4 : nm' ≤ 1000000000000000) :
    Calls Try.prog 18 #[dval A ns cs B nm cm lp, dval A' ns' cs' B' nm' cm' lp'] w fun e w' => e = .returned (.bool (eqD s m lp s' m' lp')) ∧ Below w.heap.size w w' := by
  have hba := below_alloc w (dbox A ns cs B nm cm lp)
  have hbb := below_alloc (w.alloc (dbox A ns cs B nm cm lp)) (dbox A' ns' cs' B' nm' cm' lp')
  have hb0 := below_step hba hbb
  have hd := (DB.new w A ns cs B nm cm lp).keep hbb
  have hd' := DB.new (w.alloc (dbox A ns cs B nm cm lp)) A' ns' cs' B' nm' cm' lp'
  have hsz : (w.alloc (dbox A ns cs B nm cm lp)).heap.size = w.heap.size + 1 := by simp
  rw [hsz] at hd'
  obtain ⟨d0, d1, d2, dlt⟩ := hd
  obtain ⟨e0, e1, e2, elt⟩ := hd'
  have C1 : ∀ W : World, Below w.heap.size w W → Hid (Calls Try.prog 49 #[.slice A ns cs, .slice A' ns' cs'] W fun e w' => e = .returned (.bool (decide (s = s'))) ∧ Below W.heap.size W w') := fun W hb => ints_r (decide (s = s')) A A' ns cs ns' cs' s s' W (hs.keep hb) (hs'.keep hb) h1 h3 rfl
  have C2 : ∀ W : World, Below w.heap.size w W → Hid (Calls Try.prog 49 #[.slice B nm cm, .slice B' nm' cm'] W fun e w' => e = .returned (.bool (decide (m = m'))) ∧ Below W.heap.size W w') := fun W hb => ints_r (decide (m = m')) B B' nm cm nm' cm' m m' W (hm.keep hb) (hm'.keep hb) h2 h4 rfl
  clear hba hbb hs hm hs' hm' h1 h2 h3 h4 hsz
  unfold eqD
  by_cases hss : s = s'
  · have es : decide (s = s') = true := by simp [hss]
    rw [es] at C1 ⊢
    by_cases hmm : m = m'
    · have em : decide (m = m') = true := by simp [hmm]
      rw [em] at C2 ⊢
      by_cases hl : lp = lp'
      · have el : decide (lp = lp') = true := by simp [hl]
        rw [el]
        subst hl
        clear hss hmm es em el
        go_enter Try.func18, Try.ntmps18
        go_wp2_with (first
          | (go_at_call 49; ((with_reducible refine (C1 _ hb0).out.mono ?_); rintro e w1 ⟨rfl, hb1⟩; have f0 := (hb1.cell (p := ⟨w.heap.size, 1, none⟩) dlt).trans d1; have f1 := (hb1.cell (p := ⟨w.heap.size, 2, none⟩) dlt).trans d2; have g0 := (hb1.cell (p := ⟨w.heap.size + 1, 1, none⟩) elt).trans e1; have g1 := (hb1.cell (p := ⟨w.heap.size + 1, 2, none⟩) elt).trans e2; have dlt1 := Nat.lt_of_lt_of_le dlt hb1.size; have elt1 := Nat.lt_of_lt_of_le elt hb1.size))
          | (go_at_call 49; ((with_reducible refine (C2 _ (below_step hb0 hb1)).out.mono ?_); rintro e w2 ⟨rfl, hb2⟩; have k0 := (hb2.cell (p := ⟨w.heap.size, 2, none⟩) dlt1).trans f1; have k1 := (hb2.cell (p := ⟨w.heap.size + 1, 2, none⟩) elt1).trans g1)))
        go_ret
        exact ⟨rfl, below_step (below_step hb0 hb1) hb2⟩
      · have el : decide (lp = lp') = false := by simp [hl]
        have el' : (lp == lp') = false := by simp only [beq_eq_false_iff_ne, ne_eq]; exact hl
        rw [el]
        clear hss hmm es em el
        go_enter Try.func18, Try.ntmps18
        go_wp2_with (first
          | (go_at_call 49; ((with_reducible refine (C1 _ hb0).out.mono ?_); rintro e w1 ⟨rfl, hb1⟩; have f0 := (hb1.cell (p := ⟨w.heap.size, 1, none⟩) dlt).trans d1; have f1 := (hb1.cell (p := ⟨w.heap.size, 2, none⟩) dlt).trans d2; have g0 := (hb1.cell (p := ⟨w.heap.size + 1, 1, none⟩) elt).trans e1; have g1 := (hb1.cell (p := ⟨w.heap.size + 1, 2, none⟩) elt).trans e2; have dlt1 := Nat.lt_of_lt_of_le dlt hb1.size; have elt1 := Nat.lt_of_lt_of_le elt hb1.size))
          | (go_at_call 49; ((with_reducible refine (C2 _ (below_step hb0 hb1)).out.mono ?_); rintro e w2 ⟨rfl, hb2⟩; have k0 := (hb2.cell (p := ⟨w.heap.size, 2, none⟩) dlt1).trans f1; have k1 := (hb2.cell (p := ⟨w.heap.size + 1, 2, none⟩) elt1).trans g1)))
        go_ret
        exact ⟨rfl, below_step (below_step hb0 hb1) hb2⟩
    · have em : decide (m = m') = false := by simp [hmm]
      rw [em] at C2 ⊢
      clear hss hmm es em
      go_enter Try.func18, Try.ntmps18
      go_wp2_with (first
        | (go_at_call 49; ((with_reducible refine (C1 _ hb0).out.mono ?_); rintro e w1 ⟨rfl, hb1⟩; have f0 := (hb1.cell (p := ⟨w.heap.size, 1, none⟩) dlt).trans d1; have f1 := (hb1.cell (p := ⟨w.heap.size, 2, none⟩) dlt).trans d2; have g0 := (hb1.cell (p := ⟨w.heap.size + 1, 1, none⟩) elt).trans e1; have g1 := (hb1.cell (p := ⟨w.heap.size + 1, 2, none⟩) elt).trans e2; have dlt1 := Nat.lt_of_lt_of_le dlt hb1.size; have elt1 := Nat.lt_of_lt_of_le elt hb1.size))
        | (go_at_call 49; ((with_reducible refine (C2 _ (below_step hb0 hb1)).out.mono ?_); rintro e w2 ⟨rfl, hb2⟩; have k0 := (hb2.cell (p := ⟨w.heap.size, 2, none⟩) dlt1).trans f1; have k1 := (hb2.cell (p := ⟨w.heap.size + 1, 2, none⟩) elt1).trans g1)))
      go_ret
      exact ⟨rfl, below_step (below_step hb0 hb1) hb2⟩
  · have es : decide (s = s') = false := by simp [hss]
    rw [es] at C1 ⊢
    clear hss es
    go_enter Try.func18, Try.ntmps18
    go_wp2_with (first
      | (go_at_call 49; ((with_reducible refine (C1 _ hb0).out.mono ?_); rintro e w1 ⟨rfl, hb1⟩; have f0 := (hb1.cell (p := ⟨w.heap.size, 1, none⟩) dlt).trans d1; have f1 := (hb1.cell (p := ⟨w.heap.size, 2, none⟩) dlt).trans d2; have g0 := (hb1.cell (p := ⟨w.heap.size + 1, 1, none⟩) elt).trans e1; have g1 := (hb1.cell (p := ⟨w.heap.size + 1, 2, none⟩) elt).trans e2; have dlt1 := Nat.lt_of_lt_of_le dlt hb1.size; have elt1 := Nat.lt_of_lt_of_le elt hb1.size))
      | (go_at_call 49; ((with_reducible refine (C2 _ (below_step hb0 hb1)).out.mono ?_); rintro e w2 ⟨rfl, hb2⟩; have k0 := (hb2.cell (p := ⟨w.heap.size, 2, none⟩) dlt1).trans f1; have k1 := (hb2.cell (p := ⟨w.heap.size + 1, 2, none⟩) elt1).trans g1)))
    go_ret
    exact ⟨rfl, below_step hb0 hb1⟩

end Go.Proofs.Ytdamfoobnbjojaa

/- Walks: Equal, the reference's Equal. -/
namespace Go.Proofs.Ytdamfoobnbjojaa
open Go.RowKit

set_option maxHeartbeats 1600000 in
theorem equal_any (A B A' B' : Option Addr) (ns cs nm cm ns' cs' nm' cm' : Nat) (lp lp' : Int) (s m s' m' : List Int) (w : World) (hs : RI w A ns s) (hm : RI w B nm m) (hs' : RI w A' ns' s') (hm' : RI w B' nm' m')
    (h1 : ns ≤ 1000000000000000) (h2 : nm ≤ 1000000000000000) (h3 : ns' ≤ 1000000000000000) (h4 : nm' ≤ 1000000000000000) :
    Calls Try.prog 33 #[dval A ns cs B nm cm lp, dval A' ns' cs' B' nm' cm' lp'] w fun e w' => e = .returned (.bool (eqD s m lp s' m' lp')) ∧ Below w.heap.size w w' := by
  have hba := below_alloc w (dbox A ns cs B nm cm lp)
  have hbb := below_alloc (w.alloc (dbox A ns cs B nm cm lp)) (dbox A' ns' cs' B' nm' cm' lp')
  have hb0 := below_step hba hbb
  have hd := (DB.new w A ns cs B nm cm lp).keep hbb
  have hd' := DB.new (w.alloc (dbox A ns cs B nm cm lp)) A' ns' cs' B' nm' cm' lp'
  have hsz : (w.alloc (dbox A ns cs B nm cm lp)).heap.size = w.heap.size + 1 := by simp
  rw [hsz] at hd'
  obtain ⟨d0, d1, d2, dlt⟩ := hd
  obtain ⟨e0, e1, e2, elt⟩ := hd'
  have C1 : ∀ W : World, Below w.heap.size w W → Hid (Calls Try.prog 37 #[.slice A ns cs, .slice A' ns' cs'] W fun e w' => e = .returned (.bool (decide (s = s'))) ∧ Below W.heap.size W w') := fun W hb => sequal_r (decide (s = s')) A A' ns cs ns' cs' s s' W (hs.keep hb) (hs'.keep hb) h1 h3 rfl
  have C2 : ∀ W : World, Below w.heap.size w W → Hid (Calls Try.prog 37 #[.slice B nm cm, .slice B' nm' cm'] W fun e w' => e = .returned (.bool (decide (m = m'))) ∧ Below W.heap.size W w') := fun W hb => sequal_r (decide (m = m')) B B' nm cm nm' cm' m m' W (hm.keep hb) (hm'.keep hb) h2 h4 rfl
  clear hba hbb hs hm hs' hm' h1 h2 h3 h4 hsz
  unfold eqD
  by_cases hss : s = s'
  · have es : decide (s = s') = true := by simp [hss]
    rw [es] at C1 ⊢
    by_cases hmm : m = m'
    · have em : decide (m = m') = true := by simp [hmm]
      rw [em] at C2 ⊢
      by_cases hl : lp = lp'
      · have el : decide (lp = lp') = true := by simp [hl]
        rw [el]
        subst hl
        clear hss hmm es em el
        go_enter Try.func33, Try.ntmps33
        go_wp2_with (first
          | (go_at_call 37; ((with_reducible refine (C1 _ hb0).out.mono ?_); rintro e w1 ⟨rfl, hb1⟩; have f0 := (hb1.cell (p := ⟨w.heap.size, 1, none⟩) dlt).trans d1; have f1 := (hb1.cell (p := ⟨w.heap.size, 2, none⟩) dlt).trans d2; have g0 := (hb1.cell (p := ⟨w.heap.size + 1, 1, none⟩) elt).trans e1; have g1 := (hb1.cell (p := ⟨w.heap.size + 1, 2, none⟩) elt).trans e2; have dlt1 := Nat.lt_of_lt_of_le dlt hb1.size; have elt1 := Nat.lt_of_lt_of_le elt hb1.size))
          | (go_at_call 37; ((with_reducible refine (C2 _ (below_step hb0 hb1)).out.mono ?_); rintro e w2 ⟨rfl, hb2⟩; have k0 := (hb2.cell (p := ⟨w.heap.size, 2, none⟩) dlt1).trans f1; have k1 := (hb2.cell (p := ⟨w.heap.size + 1, 2, none⟩) elt1).trans g1)))
        go_ret
        exact ⟨rfl, below_step (below_step hb0 hb1) hb2⟩
      · have el : decide (lp = lp') = false := by simp [hl]
        have el' : (lp == lp') = false := by simp only [beq_eq_false_iff_ne, ne_eq]; exact hl
        rw [el]
        clear hss hmm es em el
        go_enter Try.func33, Try.ntmps33
        go_wp2_with (first
          | (go_at_call 37; ((with_reducible refine (C1 _ hb0).out.mono ?_); rintro e w1 ⟨rfl, hb1⟩; have f0 := (hb1.cell (p := ⟨w.heap.size, 1, none⟩) dlt).trans d1; have f1 := (hb1.cell (p := ⟨w.heap.size, 2, none⟩) dlt).trans d2; have g0 := (hb1.cell (p := ⟨w.heap.size + 1, 1, none⟩) elt).trans e1; have g1 := (hb1.cell (p := ⟨w.heap.size + 1, 2, none⟩) elt).trans e2; have dlt1 := Nat.lt_of_lt_of_le dlt hb1.size; have elt1 := Nat.lt_of_lt_of_le elt hb1.size))
          | (go_at_call 37; ((with_reducible refine (C2 _ (below_step hb0 hb1)).out.mono ?_); rintro e w2 ⟨rfl, hb2⟩; have k0 := (hb2.cell (p := ⟨w.heap.size, 2, none⟩) dlt1).trans f1; have k1 := (hb2.cell (p := ⟨w.heap.size + 1, 2, none⟩) elt1).trans g1)))
        go_ret
        exact ⟨rfl, below_step (below_step hb0 hb1) hb2⟩
    · have em : decide (m = m') = false := by simp [hmm]
      rw [em] at C2 ⊢
      clear hss hmm es em
      go_enter Try.func33, Try.ntmps33
      go_wp2_with (first
        | (go_at_call 37; ((with_reducible refine (C1 _ hb0).out.mono ?_); rintro e w1 ⟨rfl, hb1⟩; have f0 := (hb1.cell (p := ⟨w.heap.size, 1, none⟩) dlt).trans d1; have f1 := (hb1.cell (p := ⟨w.heap.size, 2, none⟩) dlt).trans d2; have g0 := (hb1.cell (p := ⟨w.heap.size + 1, 1, none⟩) elt).trans e1; have g1 := (hb1.cell (p := ⟨w.heap.size + 1, 2, none⟩) elt).trans e2; have dlt1 := Nat.lt_of_lt_of_le dlt hb1.size; have elt1 := Nat.lt_of_lt_of_le elt hb1.size))
        | (go_at_call 37; ((with_reducible refine (C2 _ (below_step hb0 hb1)).out.mono ?_); rintro e w2 ⟨rfl, hb2⟩; have k0 := (hb2.cell (p := ⟨w.heap.size, 2, none⟩) dlt1).trans f1; have k1 := (hb2.cell (p := ⟨w.heap.size + 1, 2, none⟩) elt1).trans g1)))
      go_ret
      exact ⟨rfl, below_step (below_step hb0 hb1) hb2⟩
  · have es : decide (s = s') = false := by simp [hss]
    rw [es] at C1 ⊢
    clear hss es
    go_enter Try.func33, Try.ntmps33
    go_wp2_with (first
      | (go_at_call 37; ((with_reducible refine (C1 _ hb0).out.mono ?_); rintro e w1 ⟨rfl, hb1⟩; have f0 := (hb1.cell (p := ⟨w.heap.size, 1, none⟩) dlt).trans d1; have f1 := (hb1.cell (p := ⟨w.heap.size, 2, none⟩) dlt).trans d2; have g0 := (hb1.cell (p := ⟨w.heap.size + 1, 1, none⟩) elt).trans e1; have g1 := (hb1.cell (p := ⟨w.heap.size + 1, 2, none⟩) elt).trans e2; have dlt1 := Nat.lt_of_lt_of_le dlt hb1.size; have elt1 := Nat.lt_of_lt_of_le elt hb1.size))
      | (go_at_call 37; ((with_reducible refine (C2 _ (below_step hb0 hb1)).out.mono ?_); rintro e w2 ⟨rfl, hb2⟩; have k0 := (hb2.cell (p := ⟨w.heap.size, 2, none⟩) dlt1).trans f1; have k1 := (hb2.cell (p := ⟨w.heap.size + 1, 2, none⟩) elt1).trans g1)))
    go_ret
    exact ⟨rfl, below_step hb0 hb1⟩

end Go.Proofs.Ytdamfoobnbjojaa
