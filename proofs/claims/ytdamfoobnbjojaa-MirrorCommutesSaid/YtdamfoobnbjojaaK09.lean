import Derived.Test.YtdamfoobnbjojaaK08
/- Walk: operate, for the four operations that concern no component. -/
namespace Go.Proofs.Ytdamfoobnbjojaa
open Go.RowKit

theorem OI.frs {w : World} {B n c : Nat} {A : Option Addr} {xs : List Int} (h : OI w B (.slice A n c) xs) : ∀ b o, 0 < n → A = some ⟨b, o, none⟩ → B ≤ b := fun b o hn e => by
  rcases h.2 with ⟨e1, _⟩ | ⟨g, cap, cur, e1, hg, _⟩
  · injection e1 with _ e2; omega
  · injection e1 with e2; rw [e] at e2; injection e2 with e2; injection e2 with e2; omega
theorem RI.set3f {w : World} {A : Option Addr} {n g : Nat} {xs : List Int} (h : RI w A n xs) (hg : ∀ b o, 0 < n → A = some ⟨b, o, none⟩ → g ≠ b) (x y z : Value) : RI (set3 w g x y z) A n xs :=
  ⟨h.1, fun hn => by
    obtain ⟨b, off, e, hlt, hc⟩ := h.2 hn
    refine ⟨b, off, e, by simp [World.setCell]; exact hlt, fun j hj => (set3_far w g x y z (hg b off hn e) _).trans (hc j hj)⟩⟩
/-- operate has carried the operation q out, at the crossing j. -/
def OpeYes (w : World) (ns nm : Nat) (lp : Int) (s m : List Int) (q j : Nat) (e : Ending) (w' : World) : Prop :=
  ∃ A cs B cm s' m', e = .returned (.tuple #[dval A ns cs B nm cm lp, .bool true]) ∧ RI w' A ns s' ∧ RI w' B nm m' ∧ (∀ b o, 0 < ns → A = some ⟨b, o, none⟩ → w.heap.size ≤ b) ∧ (∀ b o, 0 < nm → B = some ⟨b, o, none⟩ → w.heap.size ≤ b) ∧
    Moved (opT q j s) (opP q j) ns s m s' m' ∧ Below w.heap.size w w'
theorem opT_irr (q j j' : Nat) (hq : q < 3) (s : List Int) : opT q j s = opT q j' s := by
  have : q = 0 ∨ q = 1 ∨ q = 2 := by omega
  rcases this with rfl | rfl | rfl <;> rfl
theorem opP_irr (q j j' : Nat) (hq : q < 3) : opP q j = opP q j' := by
  have : q = 0 ∨ q = 1 ∨ q = 2 := by omega
  rcases this with rfl | rfl | rfl <;> rfl

set_option maxHeartbeats 3200000 in
set_option maxRecDepth 100000 in
theorem operate0 (A B : Option Addr) (ns cs nm cm : Nat) (lp : Int) (s m : List Int) (k : Nat) (w : World) (h : DV w A ns B nm s m) (hv : validB s m lp = true) (_hk : k ≤ 255) :
    Calls Try.prog 30 #[dval A ns cs B nm cm lp, .int .i64 0, .int .i64 (k : Nat)] w (OpeYes w ns nm lp s m 0 (k % ns)) := by
  have hb1 := below_alloc w (dbox A ns cs B nm cm lp)
  have hb2 := below_alloc (w.alloc (dbox A ns cs B nm cm lp)) (.cells #[.slice none 0 0, .slice none 0 0, .int .i64 0] 24)
  have hd := (DB.new w A ns cs B nm cm lp).keep hb2
  have hdf : ∀ i, ((w.alloc (dbox A ns cs B nm cm lp)).alloc (.cells #[.slice none 0 0, .slice none 0 0, .int .i64 0] 24)).frozen? ⟨w.heap.size, i, none⟩ = false := fun i => (hb2.frozen (p := ⟨w.heap.size, i, none⟩) (by simp)).trans (World.frozen?_alloc_at _ _ _ _ rfl)
  have hbx := bx0_new (w.alloc (dbox A ns cs B nm cm lp))
  have hb := below_step hb1 hb2
  have hsz : (w.alloc (dbox A ns cs B nm cm lp)).heap.size = w.heap.size + 1 := by simp
  rw [hsz] at hbx
  have hsz2 : ((w.alloc (dbox A ns cs B nm cm lp)).alloc (.cells #[.slice none 0 0, .slice none 0 0, .int .i64 0] 24)).heap.size = w.heap.size + 2 := by simp
  have HH := Lib.hid h
  have HV := Lib.hid hv
  have HL := Lib.hid (And.intro h.hs.1 h.hm.1)
  obtain ⟨hnm, hns, _⟩ := valid_data hv h.hs.1 h.hm.1
  have HNM := Lib.hid hnm
  clear hb1 hb2 h hv hsz hnm
  unfold dbox at hd hdf hbx hb hsz2
  go_enter Try.func30, Try.ntmps30
  go_upto_region 1 with fail
  generalize (w.alloc (.cells #[.slice A ns cs, .slice B nm cm, .int .i64 lp] 24)).alloc (.cells #[.slice none 0 0, .slice none 0 0, .int .i64 0] 24) = w0 at hd hdf hbx hb hsz2 ⊢
  obtain ⟨gd, hgd⟩ : ∃ gd, w.heap.size = gd := ⟨_, rfl⟩
  obtain ⟨gr, hgr⟩ : ∃ gr, gd + 1 = gr := ⟨_, rfl⟩
  rw [hgd] at hd hdf hsz2 hbx ⊢
  rw [hgr] at hbx ⊢
  have HBX := Lib.hid hbx
  have HB := Lib.hid hb
  have HDF := Lib.hid hdf
  have HLT : Hid (gd < gr ∧ gr < w0.heap.size ∧ w.heap.size = gd) := Lib.hid ⟨by omega, by omega, hgd⟩
  obtain ⟨d0, d1, d2, dlt⟩ := hd
  have hne : gd ≠ gr := by omega
  clear hb hbx hgr hgd hsz2 hdf
  have CM := Lib.hid (mirror_yes A B ns cs nm cm lp s m w0 (HH.out.keep HB.out) HV.out)
  go_wp2_with (go_at_call 13; ((with_reducible refine CM.out.mono ?_); rintro e w1 ⟨A1, c1, B1, m1, s1, l1, rfl, oS, oM, hM, hb1⟩; have r0 := (hb1.cell (p := ⟨gd, 0, none⟩) dlt).trans d0; have r1 := (hb1.cell (p := ⟨gd, 1, none⟩) dlt).trans d1; have r2 := (hb1.cell (p := ⟨gd, 2, none⟩) dlt).trans d2; have f0 := (hb1.frozen (p := ⟨gd, 0, none⟩) dlt).trans (HDF.out 0); have f1 := (hb1.frozen (p := ⟨gd, 1, none⟩) dlt).trans (HDF.out 1); have f2 := (hb1.frozen (p := ⟨gd, 2, none⟩) dlt).trans (HDF.out 2); obtain ⟨k0, k1, k2⟩ := set3_cells w1 gd (.slice A1 ns c1) (.slice B1 nm m1) (.int .i64 lp) r0 r1 r2; have hr := HBX.out.kp hb1; have x0 := (set3_far w1 gd (.slice A1 ns c1) (.slice B1 nm m1) (.int .i64 lp) hne 0).trans hr.1.1; have x1 := (set3_far w1 gd (.slice A1 ns c1) (.slice B1 nm m1) (.int .i64 lp) hne 1).trans hr.1.2.1; have x2 := (set3_far w1 gd (.slice A1 ns c1) (.slice B1 nm m1) (.int .i64 lp) hne 2).trans hr.1.2.2.1; have y0 := hr.2 0; have y1 := hr.2 1; have y2 := hr.2 2))
  obtain ⟨q0, q1, q2⟩ := set3_cells (set3 w1 gd (.slice A1 ns c1) (.slice B1 nm m1) (.int .i64 lp)) gr (.slice A1 ns c1) (.slice B1 nm m1) (.int .i64 lp) x0 x1 x2
  have HF : Hid (OpeYes w ns nm lp s m 0 (k % ns) (.returned (.tuple #[dval A1 ns c1 B1 nm m1 lp, .bool true])) (set3 (set3 w1 gd (.slice A1 ns c1) (.slice B1 nm m1) (.int .i64 lp)) gr (.slice A1 ns c1) (.slice B1 nm m1) (.int .i64 lp))) := Lib.hid (by
    have hg := HLT.out
    have h0 := HB.out.size
    have hM2 : Moved (opT 0 (k % ns) s) (opP 0 (k % ns)) ns s m s1 l1 := by rw [opT_irr 0 (k % ns) 0 (by omega) s, opP_irr 0 (k % ns) 0 (by omega)]; exact hM
    have n1 : ∀ g, g < w0.heap.size → (Value.slice A1 ns c1).ownBlock ≠ some g := fun g hg e => by have := (World.ownsRow.lt oS g e).1; omega
    have n2 : ∀ g, g < w0.heap.size → (Value.slice B1 nm m1).ownBlock ≠ some g := fun g hg e => by have := (World.ownsRow.lt oM g e).1; omega
    exact ⟨A1, c1, B1, m1, s1, l1, rfl, ((oS.set3 (n1 _ (by omega)) _ _ _).set3 (n1 _ (by omega)) _ _ _).ri, ((oM.set3 (n2 _ (by omega)) _ _ _).set3 (n2 _ (by omega)) _ _ _).ri, fun b o hn e => by have := oS.frs b o hn e; omega, fun b o hn e => by have := oM.frs b o hn e; omega, hM2,
      set3_below (set3_below (below_step HB.out hb1) (by omega) _ _ _) (by omega) _ _ _⟩)
  exact bodyPost_ret (v := .tuple #[dval A1 ns c1 B1 nm m1 lp, .bool true]) (by simp [results, Try.results30, go_sem, q0, q1, q2]) rfl HF.out

set_option maxHeartbeats 3200000 in
set_option maxRecDepth 100000 in
theorem operate1 (A B : Option Addr) (ns cs nm cm : Nat) (lp : Int) (s m : List Int) (k : Nat) (w : World) (h : DV w A ns B nm s m) (hv : validB s m lp = true) (_hk : k ≤ 255) :
    Calls Try.prog 30 #[dval A ns cs B nm cm lp, .int .i64 1, .int .i64 (k : Nat)] w (OpeYes w ns nm lp s m 1 (k % ns)) := by
  have hb1 := below_alloc w (dbox A ns cs B nm cm lp)
  have hb2 := below_alloc (w.alloc (dbox A ns cs B nm cm lp)) (.cells #[.slice none 0 0, .slice none 0 0, .int .i64 0] 24)
  have hd := (DB.new w A ns cs B nm cm lp).keep hb2
  have hdf : ∀ i, ((w.alloc (dbox A ns cs B nm cm lp)).alloc (.cells #[.slice none 0 0, .slice none 0 0, .int .i64 0] 24)).frozen? ⟨w.heap.size, i, none⟩ = false := fun i => (hb2.frozen (p := ⟨w.heap.size, i, none⟩) (by simp)).trans (World.frozen?_alloc_at _ _ _ _ rfl)
  have hbx := bx0_new (w.alloc (dbox A ns cs B nm cm lp))
  have hb := below_step hb1 hb2
  have hsz : (w.alloc (dbox A ns cs B nm cm lp)).heap.size = w.heap.size + 1 := by simp
  rw [hsz] at hbx
  have hsz2 : ((w.alloc (dbox A ns cs B nm cm lp)).alloc (.cells #[.slice none 0 0, .slice none 0 0, .int .i64 0] 24)).heap.size = w.heap.size + 2 := by simp
  have HH := Lib.hid h
  have HV := Lib.hid hv
  have HL := Lib.hid (And.intro h.hs.1 h.hm.1)
  obtain ⟨hnm, hns, _⟩ := valid_data hv h.hs.1 h.hm.1
  have HNM := Lib.hid hnm
  clear hb1 hb2 h hv hsz hnm
  unfold dbox at hd hdf hbx hb hsz2
  go_enter Try.func30, Try.ntmps30
  go_upto_region 1 with fail
  generalize (w.alloc (.cells #[.slice A ns cs, .slice B nm cm, .int .i64 lp] 24)).alloc (.cells #[.slice none 0 0, .slice none 0 0, .int .i64 0] 24) = w0 at hd hdf hbx hb hsz2 ⊢
  obtain ⟨gd, hgd⟩ : ∃ gd, w.heap.size = gd := ⟨_, rfl⟩
  obtain ⟨gr, hgr⟩ : ∃ gr, gd + 1 = gr := ⟨_, rfl⟩
  rw [hgd] at hd hdf hsz2 hbx ⊢
  rw [hgr] at hbx ⊢
  have HBX := Lib.hid hbx
  have HB := Lib.hid hb
  have HDF := Lib.hid hdf
  have HLT : Hid (gd < gr ∧ gr < w0.heap.size ∧ w.heap.size = gd) := Lib.hid ⟨by omega, by omega, hgd⟩
  obtain ⟨d0, d1, d2, dlt⟩ := hd
  have hne : gd ≠ gr := by omega
  clear hb hbx hgr hgd hsz2 hdf
  have CM := Lib.hid (reflect_yes A B ns cs nm cm lp s m w0 (HH.out.keep HB.out) HV.out)
  go_wp2_with (go_at_call 14; ((with_reducible refine CM.out.mono ?_); rintro e w1 ⟨A1, c1, B1, m1, s1, l1, rfl, oS, oM, hM, hb1⟩; have r0 := (hb1.cell (p := ⟨gd, 0, none⟩) dlt).trans d0; have r1 := (hb1.cell (p := ⟨gd, 1, none⟩) dlt).trans d1; have r2 := (hb1.cell (p := ⟨gd, 2, none⟩) dlt).trans d2; have f0 := (hb1.frozen (p := ⟨gd, 0, none⟩) dlt).trans (HDF.out 0); have f1 := (hb1.frozen (p := ⟨gd, 1, none⟩) dlt).trans (HDF.out 1); have f2 := (hb1.frozen (p := ⟨gd, 2, none⟩) dlt).trans (HDF.out 2); obtain ⟨k0, k1, k2⟩ := set3_cells w1 gd (.slice A1 ns c1) (.slice B1 nm m1) (.int .i64 lp) r0 r1 r2; have hr := HBX.out.kp hb1; have x0 := (set3_far w1 gd (.slice A1 ns c1) (.slice B1 nm m1) (.int .i64 lp) hne 0).trans hr.1.1; have x1 := (set3_far w1 gd (.slice A1 ns c1) (.slice B1 nm m1) (.int .i64 lp) hne 1).trans hr.1.2.1; have x2 := (set3_far w1 gd (.slice A1 ns c1) (.slice B1 nm m1) (.int .i64 lp) hne 2).trans hr.1.2.2.1; have y0 := hr.2 0; have y1 := hr.2 1; have y2 := hr.2 2))
  obtain ⟨q0, q1, q2⟩ := set3_cells (set3 w1 gd (.slice A1 ns c1) (.slice B1 nm m1) (.int .i64 lp)) gr (.slice A1 ns c1) (.slice B1 nm m1) (.int .i64 lp) x0 x1 x2
  have HF : Hid (OpeYes w ns nm lp s m 1 (k % ns) (.returned (.tuple #[dval A1 ns c1 B1 nm m1 lp, .bool true])) (set3 (set3 w1 gd (.slice A1 ns c1) (.slice B1 nm m1) (.int .i64 lp)) gr (.slice A1 ns c1) (.slice B1 nm m1) (.int .i64 lp))) := Lib.hid (by
    have hg := HLT.out
    have h0 := HB.out.size
    have hM2 : Moved (opT 1 (k % ns) s) (opP 1 (k % ns)) ns s m s1 l1 := by rw [opT_irr 1 (k % ns) 0 (by omega) s, opP_irr 1 (k % ns) 0 (by omega)]; exact hM
    have n1 : ∀ g, g < w0.heap.size → (Value.slice A1 ns c1).ownBlock ≠ some g := fun g hg e => by have := (World.ownsRow.lt oS g e).1; omega
    have n2 : ∀ g, g < w0.heap.size → (Value.slice B1 nm m1).ownBlock ≠ some g := fun g hg e => by have := (World.ownsRow.lt oM g e).1; omega
    exact ⟨A1, c1, B1, m1, s1, l1, rfl, ((oS.set3 (n1 _ (by omega)) _ _ _).set3 (n1 _ (by omega)) _ _ _).ri, ((oM.set3 (n2 _ (by omega)) _ _ _).set3 (n2 _ (by omega)) _ _ _).ri, fun b o hn e => by have := oS.frs b o hn e; omega, fun b o hn e => by have := oM.frs b o hn e; omega, hM2,
      set3_below (set3_below (below_step HB.out hb1) (by omega) _ _ _) (by omega) _ _ _⟩)
  exact bodyPost_ret (v := .tuple #[dval A1 ns c1 B1 nm m1 lp, .bool true]) (by simp [results, Try.results30, go_sem, q0, q1, q2]) rfl HF.out

set_option maxHeartbeats 3200000 in
set_option maxRecDepth 100000 in
theorem operate2 (A B : Option Addr) (ns cs nm cm : Nat) (lp : Int) (s m : List Int) (k : Nat) (w : World) (h : DV w A ns B nm s m) (hv : validB s m lp = true) (_hk : k ≤ 255) :
    Calls Try.prog 30 #[dval A ns cs B nm cm lp, .int .i64 2, .int .i64 (k : Nat)] w (OpeYes w ns nm lp s m 2 (k % ns)) := by
  have hb1 := below_alloc w (dbox A ns cs B nm cm lp)
  have hb2 := below_alloc (w.alloc (dbox A ns cs B nm cm lp)) (.cells #[.slice none 0 0, .slice none 0 0, .int .i64 0] 24)
  have hd := (DB.new w A ns cs B nm cm lp).keep hb2
  have hdf : ∀ i, ((w.alloc (dbox A ns cs B nm cm lp)).alloc (.cells #[.slice none 0 0, .slice none 0 0, .int .i64 0] 24)).frozen? ⟨w.heap.size, i, none⟩ = false := fun i => (hb2.frozen (p := ⟨w.heap.size, i, none⟩) (by simp)).trans (World.frozen?_alloc_at _ _ _ _ rfl)
  have hbx := bx0_new (w.alloc (dbox A ns cs B nm cm lp))
  have hb := below_step hb1 hb2
  have hsz : (w.alloc (dbox A ns cs B nm cm lp)).heap.size = w.heap.size + 1 := by simp
  rw [hsz] at hbx
  have hsz2 : ((w.alloc (dbox A ns cs B nm cm lp)).alloc (.cells #[.slice none 0 0, .slice none 0 0, .int .i64 0] 24)).heap.size = w.heap.size + 2 := by simp
  have HH := Lib.hid h
  have HV := Lib.hid hv
  have HL := Lib.hid (And.intro h.hs.1 h.hm.1)
  obtain ⟨hnm, hns, _⟩ := valid_data hv h.hs.1 h.hm.1
  have HNM := Lib.hid hnm
  clear hb1 hb2 h hv hsz hnm
  unfold dbox at hd hdf hbx hb hsz2
  go_enter Try.func30, Try.ntmps30
  go_upto_region 1 with fail
  generalize (w.alloc (.cells #[.slice A ns cs, .slice B nm cm, .int .i64 lp] 24)).alloc (.cells #[.slice none 0 0, .slice none 0 0, .int .i64 0] 24) = w0 at hd hdf hbx hb hsz2 ⊢
  obtain ⟨gd, hgd⟩ : ∃ gd, w.heap.size = gd := ⟨_, rfl⟩
  obtain ⟨gr, hgr⟩ : ∃ gr, gd + 1 = gr := ⟨_, rfl⟩
  rw [hgd] at hd hdf hsz2 hbx ⊢
  rw [hgr] at hbx ⊢
  have HBX := Lib.hid hbx
  have HB := Lib.hid hb
  have HDF := Lib.hid hdf
  have HLT : Hid (gd < gr ∧ gr < w0.heap.size ∧ w.heap.size = gd) := Lib.hid ⟨by omega, by omega, hgd⟩
  obtain ⟨d0, d1, d2, dlt⟩ := hd
  have hne : gd ≠ gr := by omega
  clear hb hbx hgr hgd hsz2 hdf
  have CM := Lib.hid (reverse_yes A B ns cs nm cm lp s m w0 (HH.out.keep HB.out) HV.out)
  go_wp2_with (go_at_call 15; ((with_reducible refine CM.out.mono ?_); rintro e w1 ⟨A1, c1, B1, m1, s1, l1, rfl, oS, oM, hM, hb1⟩; have r0 := (hb1.cell (p := ⟨gd, 0, none⟩) dlt).trans d0; have r1 := (hb1.cell (p := ⟨gd, 1, none⟩) dlt).trans d1; have r2 := (hb1.cell (p := ⟨gd, 2, none⟩) dlt).trans d2; have f0 := (hb1.frozen (p := ⟨gd, 0, none⟩) dlt).trans (HDF.out 0); have f1 := (hb1.frozen (p := ⟨gd, 1, none⟩) dlt).trans (HDF.out 1); have f2 := (hb1.frozen (p := ⟨gd, 2, none⟩) dlt).trans (HDF.out 2); obtain ⟨k0, k1, k2⟩ := set3_cells w1 gd (.slice A1 ns c1) (.slice B1 nm m1) (.int .i64 lp) r0 r1 r2; have hr := HBX.out.kp hb1; have x0 := (set3_far w1 gd (.slice A1 ns c1) (.slice B1 nm m1) (.int .i64 lp) hne 0).trans hr.1.1; have x1 := (set3_far w1 gd (.slice A1 ns c1) (.slice B1 nm m1) (.int .i64 lp) hne 1).trans hr.1.2.1; have x2 := (set3_far w1 gd (.slice A1 ns c1) (.slice B1 nm m1) (.int .i64 lp) hne 2).trans hr.1.2.2.1; have y0 := hr.2 0; have y1 := hr.2 1; have y2 := hr.2 2))
  obtain ⟨q0, q1, q2⟩ := set3_cells (set3 w1 gd (.slice A1 ns c1) (.slice B1 nm m1) (.int .i64 lp)) gr (.slice A1 ns c1) (.slice B1 nm m1) (.int .i64 lp) x0 x1 x2
  have HF : Hid (OpeYes w ns nm lp s m 2 (k % ns) (.returned (.tuple #[dval A1 ns c1 B1 nm m1 lp, .bool true])) (set3 (set3 w1 gd (.slice A1 ns c1) (.slice B1 nm m1) (.int .i64 lp)) gr (.slice A1 ns c1) (.slice B1 nm m1) (.int .i64 lp))) := Lib.hid (by
    have hg := HLT.out
    have h0 := HB.out.size
    have hM2 : Moved (opT 2 (k % ns) s) (opP 2 (k % ns)) ns s m s1 l1 := by rw [opT_irr 2 (k % ns) 0 (by omega) s, opP_irr 2 (k % ns) 0 (by omega)]; exact hM
    have n1 : ∀ g, g < w0.heap.size → (Value.slice A1 ns c1).ownBlock ≠ some g := fun g hg e => by have := (World.ownsRow.lt oS g e).1; omega
    have n2 : ∀ g, g < w0.heap.size → (Value.slice B1 nm m1).ownBlock ≠ some g := fun g hg e => by have := (World.ownsRow.lt oM g e).1; omega
    exact ⟨A1, c1, B1, m1, s1, l1, rfl, ((oS.set3 (n1 _ (by omega)) _ _ _).set3 (n1 _ (by omega)) _ _ _).ri, ((oM.set3 (n2 _ (by omega)) _ _ _).set3 (n2 _ (by omega)) _ _ _).ri, fun b o hn e => by have := oS.frs b o hn e; omega, fun b o hn e => by have := oM.frs b o hn e; omega, hM2,
      set3_below (set3_below (below_step HB.out hb1) (by omega) _ _ _) (by omega) _ _ _⟩)
  exact bodyPost_ret (v := .tuple #[dval A1 ns c1 B1 nm m1 lp, .bool true]) (by simp [results, Try.results30, go_sem, q0, q1, q2]) rfl HF.out

set_option maxHeartbeats 3200000 in
set_option maxRecDepth 100000 in
theorem operate3z (A B : Option Addr) (cs nm cm : Nat) (lp : Int) (s m : List Int) (k : Nat) (w : World) (h : DV w A 0 B nm s m) (hv : validB s m lp = true) (_hk : k ≤ 255) :
    Calls Try.prog 30 #[dval A 0 cs B nm cm lp, .int .i64 3, .int .i64 (k : Nat)] w (OpeYes w 0 nm lp s m 3 (k % 0)) := by
  have hb1 := below_alloc w (dbox A 0 cs B nm cm lp)
  have hb2 := below_alloc (w.alloc (dbox A 0 cs B nm cm lp)) (.cells #[.slice none 0 0, .slice none 0 0, .int .i64 0] 24)
  have hd := (DB.new w A 0 cs B nm cm lp).keep hb2
  have hdf : ∀ i, ((w.alloc (dbox A 0 cs B nm cm lp)).alloc (.cells #[.slice none 0 0, .slice none 0 0, .int .i64 0] 24)).frozen? ⟨w.heap.size, i, none⟩ = false := fun i => (hb2.frozen (p := ⟨w.heap.size, i, none⟩) (by simp)).trans (World.frozen?_alloc_at _ _ _ _ rfl)
  have hbx := bx0_new (w.alloc (dbox A 0 cs B nm cm lp))
  have hb := below_step hb1 hb2
  have hsz : (w.alloc (dbox A 0 cs B nm cm lp)).heap.size = w.heap.size + 1 := by simp
  rw [hsz] at hbx
  have hsz2 : ((w.alloc (dbox A 0 cs B nm cm lp)).alloc (.cells #[.slice none 0 0, .slice none 0 0, .int .i64 0] 24)).heap.size = w.heap.size + 2 := by simp
  have HH := Lib.hid h
  have HV := Lib.hid hv
  have HL := Lib.hid (And.intro h.hs.1 h.hm.1)
  obtain ⟨hnm, hns, _⟩ := valid_data hv h.hs.1 h.hm.1
  have HNM := Lib.hid hnm
  clear hb1 hb2 h hv hsz hnm
  unfold dbox at hd hdf hbx hb hsz2
  go_enter Try.func30, Try.ntmps30
  go_upto_region 1 with fail
  generalize (w.alloc (.cells #[.slice A 0 cs, .slice B nm cm, .int .i64 lp] 24)).alloc (.cells #[.slice none 0 0, .slice none 0 0, .int .i64 0] 24) = w0 at hd hdf hbx hb hsz2 ⊢
  obtain ⟨gd, hgd⟩ : ∃ gd, w.heap.size = gd := ⟨_, rfl⟩
  obtain ⟨gr, hgr⟩ : ∃ gr, gd + 1 = gr := ⟨_, rfl⟩
  rw [hgd] at hd hdf hsz2 hbx ⊢
  rw [hgr] at hbx ⊢
  have HBX := Lib.hid hbx
  have HB := Lib.hid hb
  have HDF := Lib.hid hdf
  have HLT : Hid (gd < gr ∧ gr < w0.heap.size ∧ w.heap.size = gd) := Lib.hid ⟨by omega, by omega, hgd⟩
  obtain ⟨d0, d1, d2, dlt⟩ := hd
  have hne : gd ≠ gr := by omega
  clear hb hbx hgr hgd hsz2 hdf
  have hr := HBX.out
  obtain ⟨q0, q1, q2⟩ := set3_cells w0 gr (.slice A 0 cs) (.slice B nm cm) (.int .i64 lp) hr.1.1 hr.1.2.1 hr.1.2.2.1
  have x0 := hr.1.1
  have x1 := hr.1.2.1
  have x2 := hr.1.2.2.1
  have y0 := hr.2 0
  have y1 := hr.2 1
  have y2 := hr.2 2
  have HF : Hid (OpeYes w 0 nm lp s m 3 (k % 0) (.returned (.tuple #[dval A 0 cs B nm cm lp, .bool true])) (set3 w0 gr (.slice A 0 cs) (.slice B nm cm) (.int .i64 lp))) := Lib.hid (by
    have hg := HLT.out
    have hnm := HNM.out
    have hl := HL.out
    have e1 : RI (set3 w0 gr (.slice A 0 cs) (.slice B nm cm) (.int .i64 lp)) A 0 s := ⟨hl.1, fun hn => absurd hn (by omega)⟩
    have e2 : RI (set3 w0 gr (.slice A 0 cs) (.slice B nm cm) (.int .i64 lp)) B nm m := ⟨hl.2, fun hn => absurd hn (by omega)⟩
    exact ⟨A, cs, B, cm, s, m, rfl, e1, e2, fun b o hn => absurd hn (by omega), fun b o hn => absurd hn (by omega), ⟨hl.1, by omega, fun c hc => absurd hc (by omega), fun x hx => absurd hx (by omega)⟩, set3_below HB.out (by omega) _ _ _⟩)
  clear hr
  go_wp2
  exact bodyPost_ret (v := .tuple #[dval A 0 cs B nm cm lp, .bool true]) (by simp [results, Try.results30, go_sem, q0, q1, q2]) rfl HF.out

set_option maxHeartbeats 3200000 in
set_option maxRecDepth 100000 in
theorem operate3p (A B : Option Addr) (ns cs nm cm : Nat) (lp : Int) (s m : List Int) (k : Nat) (w : World) (h : DV w A ns B nm s m) (hv : validB s m lp = true) (hk : k ≤ 255) (hz : 0 < ns) :
    Calls Try.prog 30 #[dval A ns cs B nm cm lp, .int .i64 3, .int .i64 (k : Nat)] w (OpeYes w ns nm lp s m 3 (k % ns)) := by
  have hb1 := below_alloc w (dbox A ns cs B nm cm lp)
  have hb2 := below_alloc (w.alloc (dbox A ns cs B nm cm lp)) (.cells #[.slice none 0 0, .slice none 0 0, .int .i64 0] 24)
  have hd := (DB.new w A ns cs B nm cm lp).keep hb2
  have hdf : ∀ i, ((w.alloc (dbox A ns cs B nm cm lp)).alloc (.cells #[.slice none 0 0, .slice none 0 0, .int .i64 0] 24)).frozen? ⟨w.heap.size, i, none⟩ = false := fun i => (hb2.frozen (p := ⟨w.heap.size, i, none⟩) (by simp)).trans (World.frozen?_alloc_at _ _ _ _ rfl)
  have hbx := bx0_new (w.alloc (dbox A ns cs B nm cm lp))
  have hb := below_step hb1 hb2
  have hsz : (w.alloc (dbox A ns cs B nm cm lp)).heap.size = w.heap.size + 1 := by simp
  rw [hsz] at hbx
  have hsz2 : ((w.alloc (dbox A ns cs B nm cm lp)).alloc (.cells #[.slice none 0 0, .slice none 0 0, .int .i64 0] 24)).heap.size = w.heap.size + 2 := by simp
  have HH := Lib.hid h
  have HV := Lib.hid hv
  have HL := Lib.hid (And.intro h.hs.1 h.hm.1)
  obtain ⟨hnm, hns, _⟩ := valid_data hv h.hs.1 h.hm.1
  have HNM := Lib.hid hnm
  clear hb1 hb2 h hv hsz hnm
  unfold dbox at hd hdf hbx hb hsz2
  go_enter Try.func30, Try.ntmps30
  go_upto_region 1 with fail
  generalize (w.alloc (.cells #[.slice A ns cs, .slice B nm cm, .int .i64 lp] 24)).alloc (.cells #[.slice none 0 0, .slice none 0 0, .int .i64 0] 24) = w0 at hd hdf hbx hb hsz2 ⊢
  obtain ⟨gd, hgd⟩ : ∃ gd, w.heap.size = gd := ⟨_, rfl⟩
  obtain ⟨gr, hgr⟩ : ∃ gr, gd + 1 = gr := ⟨_, rfl⟩
  rw [hgd] at hd hdf hsz2 hbx ⊢
  rw [hgr] at hbx ⊢
  have HBX := Lib.hid hbx
  have HB := Lib.hid hb
  have HDF := Lib.hid hdf
  have HLT : Hid (gd < gr ∧ gr < w0.heap.size ∧ w.heap.size = gd) := Lib.hid ⟨by omega, by omega, hgd⟩
  obtain ⟨d0, d1, d2, dlt⟩ := hd
  have hne : gd ≠ gr := by omega
  clear hb hbx hgr hgd hsz2 hdf
  have hz2 : ((ns : Int) == 0) = false := by simp only [beq_eq_false_iff_ne, ne_eq]; omega
  have hnz : (ns : Int) ≠ 0 := by omega
  have hpos : (0 : Int) < (ns : Int) := by omega
  obtain ⟨j, hj⟩ : ∃ j, k % ns = j := ⟨_, rfl⟩
  have hjn : j < ns := by rw [← hj]; exact Nat.mod_lt _ hz
  have hk0 : (0 : Int) ≤ (k : Int) := Int.natCast_nonneg _
  have hk1 : (k : Int) ≤ 255 := by omega
  have hji : (k : Int).tmod (ns : Int) = (j : Int) := by rw [Int.tmod_eq_emod_of_nonneg (by omega), ← hj]; simp
  have hji' : (k : Int) % (ns : Int) = (j : Int) := by rw [← hj]; simp
  have hw3 : IntKind.i64.wrap (j : Int) = (j : Int) := IntWalk.i64_in _ (by omega)
  have HJ := Lib.hid hj
  have CM := Lib.hid (switch_yes A B ns cs nm cm lp s m j w0.drew (HH.out.keep HB.out.drew) HV.out hjn)
  have d0d : w0.drew.cell? ⟨gd, 0, none⟩ = some (.slice A ns cs) := d0
  have d1d : w0.drew.cell? ⟨gd, 1, none⟩ = some (.slice B nm cm) := d1
  have d2d : w0.drew.cell? ⟨gd, 2, none⟩ = some (.int .i64 lp) := d2
  have hbD : Below w0.heap.size w0 w0.drew := (Below.refl _ _).drew
  have hsD : w0.drew.heap.size = w0.heap.size := rfl
  clear hj
  go_upto_region 12 with fail
  go_region_with ((go_at_call 23; ((with_reducible refine CM.out.mono ?_); rintro e w1 ⟨A1, c1, B1, m1, s1, l1, rfl, oS, oM, hM, hb1'⟩; have hb1 := below_step hbD hb1'; have r0 := (hb1.cell (p := ⟨gd, 0, none⟩) dlt).trans d0; have r1 := (hb1.cell (p := ⟨gd, 1, none⟩) dlt).trans d1; have r2 := (hb1.cell (p := ⟨gd, 2, none⟩) dlt).trans d2; have f0 := (hb1.frozen (p := ⟨gd, 0, none⟩) dlt).trans (HDF.out 0); have f1 := (hb1.frozen (p := ⟨gd, 1, none⟩) dlt).trans (HDF.out 1); have f2 := (hb1.frozen (p := ⟨gd, 2, none⟩) dlt).trans (HDF.out 2); obtain ⟨k0, k1, k2⟩ := set3_cells w1 gd (.slice A1 ns c1) (.slice B1 nm m1) (.int .i64 lp) r0 r1 r2; have hr := HBX.out.kp hb1; have x0 := (set3_far w1 gd (.slice A1 ns c1) (.slice B1 nm m1) (.int .i64 lp) hne 0).trans hr.1.1; have x1 := (set3_far w1 gd (.slice A1 ns c1) (.slice B1 nm m1) (.int .i64 lp) hne 1).trans hr.1.2.1; have x2 := (set3_far w1 gd (.slice A1 ns c1) (.slice B1 nm m1) (.int .i64 lp) hne 2).trans hr.1.2.2.1; have y0 := hr.2 0; have y1 := hr.2 1; have y2 := hr.2 2)))
  all_goals
    obtain ⟨q0, q1, q2⟩ := set3_cells (set3 w1 gd (.slice A1 ns c1) (.slice B1 nm m1) (.int .i64 lp)) gr (.slice A1 ns c1) (.slice B1 nm m1) (.int .i64 lp) x0 x1 x2
    have HF : Hid (OpeYes w ns nm lp s m 3 (k % ns) (.returned (.tuple #[dval A1 ns c1 B1 nm m1 lp, .bool true])) (set3 (set3 w1 gd (.slice A1 ns c1) (.slice B1 nm m1) (.int .i64 lp)) gr (.slice A1 ns c1) (.slice B1 nm m1) (.int .i64 lp))) := Lib.hid (by
      have hg := HLT.out
      have h0 := HB.out.size
      have hM2 : Moved (opT 3 (k % ns) s) (opP 3 (k % ns)) ns s m s1 l1 := by rw [HJ.out]; exact hM
      rw [hsD] at oS oM
      have n1 : ∀ g, g < w0.heap.size → (Value.slice A1 ns c1).ownBlock ≠ some g := fun g hg e => by have := (World.ownsRow.lt oS g e).1; omega
      have n2 : ∀ g, g < w0.heap.size → (Value.slice B1 nm m1).ownBlock ≠ some g := fun g hg e => by have := (World.ownsRow.lt oM g e).1; omega
      exact ⟨A1, c1, B1, m1, s1, l1, rfl, ((oS.set3 (n1 _ (by omega)) _ _ _).set3 (n1 _ (by omega)) _ _ _).ri, ((oM.set3 (n2 _ (by omega)) _ _ _).set3 (n2 _ (by omega)) _ _ _).ri, fun b o hn e => by have := oS.frs b o hn e; omega, fun b o hn e => by have := oM.frs b o hn e; omega, hM2,
        set3_below (set3_below (below_step HB.out hb1) (by omega) _ _ _) (by omega) _ _ _⟩)
    go_wp2
    exact bodyPost_ret (v := .tuple #[dval A1 ns c1 B1 nm m1 lp, .bool true]) (by simp [results, Try.results30, go_sem, q0, q1, q2]) rfl HF.out

theorem operate_any (A B : Option Addr) (ns cs nm cm : Nat) (lp : Int) (s m : List Int) (q k : Nat) (w : World) (h : DV w A ns B nm s m) (hv : validB s m lp = true) (hq : q < 4) (hk : k ≤ 255) :
    Calls Try.prog 30 #[dval A ns cs B nm cm lp, .int .i64 (q : Nat), .int .i64 (k : Nat)] w (OpeYes w ns nm lp s m q (k % ns)) := by
  have : q = 0 ∨ q = 1 ∨ q = 2 ∨ q = 3 := by omega
  rcases this with rfl | rfl | rfl | rfl
  · exact operate0 A B ns cs nm cm lp s m k w h hv hk
  · exact operate1 A B ns cs nm cm lp s m k w h hv hk
  · exact operate2 A B ns cs nm cm lp s m k w h hv hk
  · rcases Nat.eq_zero_or_pos ns with hz | hz
    · subst hz; exact operate3z A B cs nm cm lp s m k w h hv hk
    · exact operate3p A B ns cs nm cm lp s m k w h hv hk hz

end Go.Proofs.Ytdamfoobnbjojaa

/- For every diagram and all numbers the law MirrorCommutes returns true, and its arguments read afterwards as before. No condition. -/
namespace Go.Proofs.Ytdamfoobnbjojaa
open Go.ChangeShapes Go.WideShapes Go.ChangeAt Go.RowKit Go.Joins

/-- A diagram of one's own at a box. -/
structure BxD (w : World) (g : Nat) (A : Option Addr) (ns cs : Nat) (B : Option Addr) (nm cm : Nat) (lp : Int) (s m : List Int) : Prop where
  box : DB w g A ns cs B nm cm lp
  bf : ∀ i, w.frozen? ⟨g, i, none⟩ = false
  dv : DV w A ns B nm s m
theorem BxD.keep {w w' : World} {g : Nat} {A : Option Addr} {ns cs : Nat} {B : Option Addr} {nm cm : Nat} {lp : Int} {s m : List Int} (h : BxD w g A ns cs B nm cm lp s m) (hb : Below w.heap.size w w') : BxD w' g A ns cs B nm cm lp s m :=
  ⟨h.box.keep hb, fun i => (hb.frozen (p := ⟨g, i, none⟩) h.box.2.2.2).trans (h.bf i), h.dv.keep hb⟩
theorem bxD_new {w : World} {A : Option Addr} {ns cs : Nat} {B : Option Addr} {nm cm : Nat} {lp : Int} {s m : List Int} (h : DV w A ns B nm s m) : BxD (w.alloc (.cells #[.slice A ns cs, .slice B nm cm, .int .i64 lp] 24)) w.heap.size A ns cs B nm cm lp s m :=
  ⟨DB.new w A ns cs B nm cm lp, fun _i => World.frozen?_alloc_at _ _ _ _ rfl, h.keep (below_alloc w _)⟩
theorem bxD_set {w : World} {g B0 : Nat} {A A' : Option Addr} {ns cs ns' cs' : Nat} {B B' : Option Addr} {nm cm nm' cm' : Nat} {lp lp' : Int} {s m s' m' : List Int} (h : BxD w g A ns cs B nm cm lp s m) (d : DV w A' ns' B' nm' s' m') (hg : g < B0)
    (f1 : ∀ b o, 0 < ns' → A' = some ⟨b, o, none⟩ → B0 ≤ b) (f2 : ∀ b o, 0 < nm' → B' = some ⟨b, o, none⟩ → B0 ≤ b) : BxD (set3 w g (.slice A' ns' cs') (.slice B' nm' cm') (.int .i64 lp')) g A' ns' cs' B' nm' cm' lp' s' m' := by
  obtain ⟨k0, k1, k2⟩ := set3_cells w g (.slice A' ns' cs') (.slice B' nm' cm') (.int .i64 lp') h.box.1 h.box.2.1 h.box.2.2.1
  refine ⟨⟨k0, k1, k2, by simp [World.setCell]; exact h.box.2.2.2⟩, fun i => ?_, ⟨d.hs.set3f (fun b o hn e => by have := f1 b o hn e; omega) _ _ _, d.hm.set3f (fun b o hn e => by have := f2 b o hn e; omega) _ _ _, d.hns, d.hnm, d.hrange⟩⟩
  exact (World.frozen?_setCell _ _ _ _).trans ((World.frozen?_setCell _ _ _ _).trans ((World.frozen?_setCell _ _ _ _).trans (h.bf i)))

set_option maxHeartbeats 6400000 in
set_option maxRecDepth 100000 in
theorem mirrorcommutes_walk (A B : Option Addr) (ns cs nm cm : Nat) (lp : Int) (s m : List Int) (a b k l : Nat) (w : World) (hs : RI w A ns s) (hm : RI w B nm m) (hns : ns ≤ 9223372036854775807) (hnm : nm ≤ 9223372036854775807) (hmI : ∀ z ∈ m, inI z) (ha : a ≤ 255) (hb : b ≤ 255) (hk : k ≤ 255) (hl : l ≤ 255) :
    Calls Try.prog 6 #[dval A ns cs B nm cm lp, .int .u8 (a : Nat), .int .u8 (b : Nat), .int .u8 (k : Nat), .int .u8 (l : Nat)] w fun e w' => e = .returned (.bool true) ∧ Below w.heap.size w w' := by
  have hd := DB.new w A ns cs B nm cm lp
  have hb0 := below_alloc w (dbox A ns cs B nm cm lp)
  have HD := Lib.hid hd
  have HB := Lib.hid hb0
  obtain ⟨d0, d1, d2, dlt⟩ := hd
  have CA : ∀ W : World, Hid (Calls Try.prog 11 #[] W fun e w' => e = .returned (.bool true) ∧ Below W.heap.size W w') := fun W => Lib.hid (mawake_any W)
  have CF : ∀ W : World, Hid (Calls Try.prog 12 #[dval A ns cs B nm cm lp] W fun e w' => e = .returned (.bool (fewM ns nm)) ∧ Below W.heap.size W w') := fun W => Lib.hid (mfew_any A B ns cs nm cm lp W hns hnm)
  cases hf : fewM ns nm with
  | false =>
    rw [hf] at CF
    clear hf hs hm hmI hb0
    go_enter Try.func6, Try.ntmps6
    go_wp2_with (first
      | (go_at_call 12; ((with_reducible refine (CF _).out.mono ?_); rintro e w2 ⟨rfl, hb2⟩))
      | (go_at_call 11; ((with_reducible refine (CA w2).out.mono ?_); rintro e w3 ⟨rfl, hb3⟩))
      | (go_at_call 11; ((with_reducible refine (CA _).out.mono ?_); rintro e w1 ⟨rfl, hb1⟩; have y0 := (hb1.cell (p := ⟨w.heap.size, 0, none⟩) dlt).trans d0; have y1 := (hb1.cell (p := ⟨w.heap.size, 1, none⟩) dlt).trans d1; have y2 := (hb1.cell (p := ⟨w.heap.size, 2, none⟩) dlt).trans d2)))
    go_ret
    exact ⟨rfl, below_step HB.out (below_step hb1 (below_step hb2 hb3))⟩
  | true =>
    rw [hf] at CF
    have H := Lib.hid (DV.ofI hs hm hmI hf)
    obtain ⟨hn14, hn70⟩ := fewM_out hf
    clear hf hs hm hmI hb0 hns hnm
    have CV : ∀ W : World, Below w.heap.size w W → Hid (Calls Try.prog 29 #[dval A ns cs B nm cm lp] W fun e w' => e = .returned (.bool (validB s m lp)) ∧ Below W.heap.size W w') := fun W hW => Lib.hid ((H.out.keep hW).valid cs cm lp _ rfl)
    cases hv : validB s m lp with
    | false =>
      rw [hv] at CV
      clear hv
      go_enter Try.func6, Try.ntmps6
      go_wp2_with (first
        | (go_at_call 12; ((with_reducible refine (CF _).out.mono ?_); rintro e w2 ⟨rfl, hb2⟩; have hb12 := below_step hb1 hb2; have z0 := (hb12.cell (p := ⟨w.heap.size, 0, none⟩) dlt).trans d0; have z1 := (hb12.cell (p := ⟨w.heap.size, 1, none⟩) dlt).trans d1; have z2 := (hb12.cell (p := ⟨w.heap.size, 2, none⟩) dlt).trans d2))
        | (go_at_call 29; ((with_reducible refine (CV _ (below_step HB.out hb12)).out.mono ?_); rintro e w3 ⟨rfl, hb3⟩))
        | (go_at_call 11; ((with_reducible refine (CA w3).out.mono ?_); rintro e w4 ⟨rfl, hb4⟩))
        | (go_at_call 11; ((with_reducible refine (CA _).out.mono ?_); rintro e w1 ⟨rfl, hb1⟩; have y0 := (hb1.cell (p := ⟨w.heap.size, 0, none⟩) dlt).trans d0; have y1 := (hb1.cell (p := ⟨w.heap.size, 1, none⟩) dlt).trans d1; have y2 := (hb1.cell (p := ⟨w.heap.size, 2, none⟩) dlt).trans d2)))
      go_ret
      exact ⟨rfl, below_step HB.out (below_step hb12 (below_step hb3 hb4))⟩
    | true =>
      rw [hv] at CV
      have HV := Lib.hid hv
      clear hv
      go_enter Try.func6, Try.ntmps6
      go_upto_region 3 with (first
        | (go_at_call 12; ((with_reducible refine (CF _).out.mono ?_); rintro e w2 ⟨rfl, hb2⟩; have hb12 := below_step hb1 hb2; have z0 := (hb12.cell (p := ⟨w.heap.size, 0, none⟩) dlt).trans d0; have z1 := (hb12.cell (p := ⟨w.heap.size, 1, none⟩) dlt).trans d1; have z2 := (hb12.cell (p := ⟨w.heap.size, 2, none⟩) dlt).trans d2))
        | (go_at_call 29; ((with_reducible refine (CV _ (below_step HB.out hb12)).out.mono ?_); rintro e w3 ⟨rfl, hb3⟩))
        | (go_at_call 11; ((with_reducible refine (CA _).out.mono ?_); rintro e w1 ⟨rfl, hb1⟩; have y0 := (hb1.cell (p := ⟨w.heap.size, 0, none⟩) dlt).trans d0; have y1 := (hb1.cell (p := ⟨w.heap.size, 1, none⟩) dlt).trans d1; have y2 := (hb1.cell (p := ⟨w.heap.size, 2, none⟩) dlt).trans d2)))
      have hb13 := below_step hb12 hb3
      have HB3 := Lib.hid (below_step HB.out hb13)
      have hd3 := HD.out.keep hb13
      clear y0 y1 y2 z0 z1 z2 CV CF CA d0 d1 d2 hb1 hb2 hb3 hb12 hb13
      obtain ⟨hnm, hns64, hM, hS, _, _⟩ := valid_data HV.out H.out.hs.1 H.out.hm.1
      have HLS := Lib.hid H.out.hs.1
      have HLM := Lib.hid H.out.hm.1
      have HNM := Lib.hid hnm
      obtain ⟨d0, d1, d2, dlt3⟩ := hd3
      have HD3 := Lib.hid (show DB w3 w.heap.size A ns cs B nm cm lp from ⟨d0, d1, d2, dlt3⟩)
      obtain ⟨qa, hqa⟩ : ∃ qa, a % 4 = qa := ⟨_, rfl⟩
      obtain ⟨qb, hqb⟩ : ∃ qb, b % 4 = qb := ⟨_, rfl⟩
      have hqa4 : qa < 4 := by omega
      have hqb4 : qb < 4 := by omega
      have ia : (a : Int) % 4 = (qa : Int) := by omega
      have ib : (b : Int) % 4 = (qb : Int) := by omega
      have a0 : (0 : Int) ≤ (a : Int) := Int.natCast_nonneg _
      have a1 : (a : Int) ≤ 255 := by omega
      have b0 : (0 : Int) ≤ (b : Int) := Int.natCast_nonneg _
      have b1 : (b : Int) ≤ 255 := by omega
      have k0 : (0 : Int) ≤ (k : Int) := Int.natCast_nonneg _
      have k1 : (k : Int) ≤ 255 := by omega
      have l0 : (0 : Int) ≤ (l : Int) := Int.natCast_nonneg _
      have l1 : (l : Int) ≤ 255 := by omega
      have C1 := Lib.hid (operate_any A B ns cs nm cm lp s m qa k w3 (H.out.keep HB3.out) HV.out hqa4 hk)
      clear hM hS hnm HD HB dlt hqa hqb
      go_upto_region 4 with (go_at_call 30; ((with_reducible refine C1.out.mono ?_); rintro e w4 ⟨A1, c1, B1, m1, s1, t1, rfl, rS1, rM1, fA1, fB1, hM1, hb4⟩))
      have dv1 : DV w4 A1 ns B1 nm s1 t1 := ⟨rS1, rM1, by omega, by omega, hM1.range (op_place _ _ _ _) hns64 HNM.out (mates_lt (by rw [HLM.out]; exact HNM.out) (validB_out HV.out).2.2.1)⟩
      have v1 := op_valid hqa4 hM1 HV.out HLS.out
      have hX := bxD_new (cs := c1) (cm := m1) (lp := lp) dv1
      have hb4X := below_step hb4 (below_alloc w4 (.cells #[.slice A1 ns c1, .slice B1 nm m1, .int .i64 lp] 24))
      have hsX : (w4.alloc (.cells #[.slice A1 ns c1, .slice B1 nm m1, .int .i64 lp] 24)).heap.size = w4.heap.size + 1 := by simp
      generalize w4.alloc (.cells #[.slice A1 ns c1, .slice B1 nm m1, .int .i64 lp] 24) = wX at hX hb4X hsX ⊢
      obtain ⟨gx, hgx⟩ : ∃ gx, w4.heap.size = gx := ⟨_, rfl⟩
      have hgx3 : w3.heap.size ≤ gx := by have := hb4.size; omega
      have hgxX : gx < wX.heap.size := by omega
      rw [hgx] at hX ⊢
      have HX := Lib.hid hX
      have HM1 := Lib.hid hM1
      have HV1 := Lib.hid v1
      have HBX := Lib.hid hb4X
      have C2 := Lib.hid (operate_any A1 B1 ns c1 nm m1 lp s1 t1 qb l wX hX.dv v1 hqb4 hl)
      obtain ⟨x0, x1, x2, xlt⟩ := hX.box
      clear hX hb4X hsX hgx rS1 rM1 fA1 fB1 hM1 hb4 dv1 v1 C1 d0 d1 d2
      go_upto_region 5 with (go_at_call 30; ((with_reducible refine C2.out.mono ?_); rintro e w5 ⟨A2, c2, B2, m2, s2, t2, rfl, rS2, rM2, fA2, fB2, hM2, hb5⟩; have hbx := HX.out.keep hb5; have r0 := hbx.box.1; have r1 := hbx.box.2.1; have r2 := hbx.box.2.2.1; have e0 := hbx.bf 0; have e1 := hbx.bf 1; have e2 := hbx.bf 2))
      have hlt1 : t1.length = nm := HX.out.dv.hm.1
      have hls1 : s1.length = ns := HX.out.dv.hs.1
      have dv2 : DV w5 A2 ns B2 nm s2 t2 := ⟨rS2, rM2, by omega, by omega, hM2.range (op_place _ _ _ _) hns64 HNM.out (mates_lt (by rw [hlt1]; exact HNM.out) (validB_out HV1.out).2.2.1)⟩
      have hY := bxD_set (cs' := c2) (cm' := m2) (lp' := lp) hbx dv2 hgxX fA2 fB2
      have hb3Y := set3_below (below_step HBX.out hb5) hgx3 (.slice A2 ns c2) (.slice B2 nm m2) (.int .i64 lp)
      have hlty : gx < (set3 w5 gx (.slice A2 ns c2) (.slice B2 nm m2) (.int .i64 lp)).heap.size := hY.box.2.2.2
      generalize hwY : set3 w5 gx (.slice A2 ns c2) (.slice B2 nm m2) (.int .i64 lp) = wY at hY hb3Y hlty
      first | (rw [hwY]) | (show (_ : Prop); unfold set3 at hwY; rw [hwY])
      have HY := Lib.hid hY
      have HM2 := Lib.hid hM2
      have HBY := Lib.hid hb3Y
      clear hY rS2 rM2 fA2 fB2 hM2 hb5 dv2 C2 r0 r1 r2 e0 e1 e2 hbx hwY x0 x1 x2 hlt1 hls1
      have HDY := Lib.hid (HD3.out.keep hb3Y)
      obtain ⟨d0, d1, d2, dltY⟩ := HDY.out
      have C3 := Lib.hid (operate_any A B ns cs nm cm lp s m qb l wY (H.out.keep (below_step HB3.out hb3Y)) HV.out hqb4 hl)
      clear hb3Y
      go_upto_region 6 with (go_at_call 30; ((with_reducible refine C3.out.mono ?_); rintro e w6 ⟨A3, c3, B3, m3, s3, t3, rfl, rS3, rM3, fA3, fB3, hM3, hb6⟩))
      have dv3 : DV w6 A3 ns B3 nm s3 t3 := ⟨rS3, rM3, by omega, by omega, hM3.range (op_place _ _ _ _) hns64 HNM.out (mates_lt (by rw [HLM.out]; exact HNM.out) (validB_out HV.out).2.2.1)⟩
      have v3 := op_valid hqb4 hM3 HV.out HLS.out
      have hZ := bxD_new (cs := c3) (cm := m3) (lp := lp) dv3
      have hbYZ := below_step hb6 (below_alloc w6 (.cells #[.slice A3 ns c3, .slice B3 nm m3, .int .i64 lp] 24))
      have hsZ : (w6.alloc (.cells #[.slice A3 ns c3, .slice B3 nm m3, .int .i64 lp] 24)).heap.size = w6.heap.size + 1 := by simp
      generalize w6.alloc (.cells #[.slice A3 ns c3, .slice B3 nm m3, .int .i64 lp] 24) = wZ at hZ hbYZ hsZ ⊢
      obtain ⟨gy, hgy⟩ : ∃ gy, w6.heap.size = gy := ⟨_, rfl⟩
      have hgyY : wY.heap.size ≤ gy := by have := hb6.size; omega
      have hgyZ : gy < wZ.heap.size := by omega
      rw [hgy] at hZ ⊢
      have HZ := Lib.hid hZ
      have HM3 := Lib.hid hM3
      have HV3 := Lib.hid v3
      have HBZ := Lib.hid hbYZ
      have C4 := Lib.hid (operate_any A3 B3 ns c3 nm m3 lp s3 t3 qa k wZ hZ.dv v3 hqa4 hk)
      obtain ⟨z0, z1, z2, zlt⟩ := hZ.box
      clear hZ hbYZ hsZ hgy rS3 rM3 fA3 fB3 hM3 hb6 dv3 v3 C3 d0 d1 d2
      go_upto_region 7 with (go_at_call 30; ((with_reducible refine C4.out.mono ?_); rintro e w7 ⟨A4, c4, B4, m4, s4, t4, rfl, rS4, rM4, fA4, fB4, hM4, hb7⟩; have hbx := HZ.out.keep hb7; have r0 := hbx.box.1; have r1 := hbx.box.2.1; have r2 := hbx.box.2.2.1; have e0 := hbx.bf 0; have e1 := hbx.bf 1; have e2 := hbx.bf 2))
      have hlt3 : t3.length = nm := HZ.out.dv.hm.1
      have dv4 : DV w7 A4 ns B4 nm s4 t4 := ⟨rS4, rM4, by omega, by omega, hM4.range (op_place _ _ _ _) hns64 HNM.out (mates_lt (by rw [hlt3]; exact HNM.out) (validB_out HV3.out).2.2.1)⟩
      have hU := bxD_set (cs' := c4) (cm' := m4) (lp' := lp) hbx dv4 hgyZ fA4 fB4
      have hbYU := set3_below (below_step HBZ.out hb7) hgyY (.slice A4 ns c4) (.slice B4 nm m4) (.int .i64 lp)
      generalize hwU : set3 w7 gy (.slice A4 ns c4) (.slice B4 nm m4) (.int .i64 lp) = wU at hU hbYU
      first | (rw [hwU]) | (unfold set3 at hwU; rw [hwU])
      have hXU := HY.out.keep hbYU
      obtain ⟨es, et⟩ := op_comm hqa4 hqb4 HM1.out HM2.out HM3.out hM4 HV.out HLS.out (by rw [HLM.out]; exact HNM.out)
      have HE := Lib.hid (equal_any A2 B2 A4 B4 ns c2 nm m2 ns c4 nm m4 lp lp s2 t2 s4 t4 wU hXU.dv.hs hXU.dv.hm hU.dv.hs hU.dv.hm (by omega) (by omega) (by omega) (by omega))
      rw [es, et, eqD_refl] at HE
      obtain ⟨u0, u1, u2, ult⟩ := hXU.box
      obtain ⟨v0, v1, v2, vlt⟩ := hU.box
      have HF := Lib.hid (below_step HB3.out (below_step HBY.out hbYU))
      clear es et hXU hU hbYU dv4 hbx hwU rS4 rM4 fA4 fB4 hM4 hb7 C4 r0 r1 r2 e0 e1 e2 z0 z1 z2 hlt3
      go_wp2_with (go_at_call 33; ((with_reducible refine HE.out.mono ?_); rintro e w9 ⟨rfl, hb9⟩))
      go_ret
      exact ⟨rfl, below_step HF.out hb9⟩

end Go.Proofs.Ytdamfoobnbjojaa

/- Opening four and five arguments. -/
namespace Go.Proofs.Ytdamfoobnbjojaa
open Go.ChangeShapes Go.WideShapes Go.ChangeAt Go.RowKit Go.Joins

section
variable {H : Type} {enc : TypeId × Value → H} {P : Program} {w : World} {base : Nat} {spare : Nat → Bool} {held : Bool}
theorem trodAll_four {t0 t1 t2 t3 : TypeId} {args : Array Value} {ds : List (DataW H)} {ps : List MemPlace} (h : DataW.TrodAll enc P w base spare held [t0, t1, t2, t3] args.toList ds ps) :
    ∃ v0 v1 v2 v3 d0 d1 d2 d3 p0 p1 p2 p3, args = #[v0, v1, v2, v3] ∧ ds = [d0, d1, d2, d3] ∧ ps = p0 ++ p1 ++ p2 ++ p3 ∧ DataW.Trod enc P w base spare held t0 v0 d0 p0 ∧ DataW.Trod enc P w base spare held t1 v1 d1 p1 ∧ DataW.Trod enc P w base spare held t2 v2 d2 p2 ∧ DataW.Trod enc P w base spare held t3 v3 d3 p3 := by
  obtain ⟨v0, vs0, d0, ds0, p0, q0, hargs, rfl, rfl, h0, r0⟩ := trodAll_cons h
  obtain ⟨v1, vs1, d1, ds1, p1, q1, rfl, rfl, rfl, h1, r1⟩ := trodAll_cons r0
  obtain ⟨v2, vs2, d2, ds2, p2, q2, rfl, rfl, rfl, h2, r2⟩ := trodAll_cons r1
  obtain ⟨v3, vs3, d3, ds3, p3, q3, rfl, rfl, rfl, h3, r3⟩ := trodAll_cons r2
  obtain ⟨rfl, rfl, rfl⟩ := trodAll_nil r3
  exact ⟨v0, v1, v2, v3, d0, d1, d2, d3, p0, p1, p2, p3, by cases args; simp_all, rfl, by simp, h0, h1, h2, h3⟩
theorem trodAll_five {t0 t1 t2 t3 t4 : TypeId} {args : Array Value} {ds : List (DataW H)} {ps : List MemPlace} (h : DataW.TrodAll enc P w base spare held [t0, t1, t2, t3, t4] args.toList ds ps) :
    ∃ v0 v1 v2 v3 v4 d0 d1 d2 d3 d4 p0 p1 p2 p3 p4, args = #[v0, v1, v2, v3, v4] ∧ ds = [d0, d1, d2, d3, d4] ∧ ps = p0 ++ p1 ++ p2 ++ p3 ++ p4 ∧ DataW.Trod enc P w base spare held t0 v0 d0 p0 ∧ DataW.Trod enc P w base spare held t1 v1 d1 p1 ∧ DataW.Trod enc P w base spare held t2 v2 d2 p2 ∧ DataW.Trod enc P w base spare held t3 v3 d3 p3 ∧ DataW.Trod enc P w base spare held t4 v4 d4 p4 := by
  obtain ⟨v0, vs0, d0, ds0, p0, q0, hargs, rfl, rfl, h0, r0⟩ := trodAll_cons h
  obtain ⟨v1, vs1, d1, ds1, p1, q1, rfl, rfl, rfl, h1, r1⟩ := trodAll_cons r0
  obtain ⟨v2, vs2, d2, ds2, p2, q2, rfl, rfl, rfl, h2, r2⟩ := trodAll_cons r1
  obtain ⟨v3, vs3, d3, ds3, p3, q3, rfl, rfl, rfl, h3, r3⟩ := trodAll_cons r2
  obtain ⟨v4, vs4, d4, ds4, p4, q4, rfl, rfl, rfl, h4, r4⟩ := trodAll_cons r3
  obtain ⟨rfl, rfl, rfl⟩ := trodAll_nil r4
  exact ⟨v0, v1, v2, v3, v4, d0, d1, d2, d3, d4, p0, p1, p2, p3, p4, by cases args; simp_all, rfl, by simp, h0, h1, h2, h3, h4⟩
end

end Go.Proofs.Ytdamfoobnbjojaa
