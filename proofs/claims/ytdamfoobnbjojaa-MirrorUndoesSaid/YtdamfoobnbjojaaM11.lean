import Derived.Test.YtdamfoobnbjojaaM10
import Derived.Test.YtdamfoobnbjojaaM04
import Derived.Test.YtdamfoobnbjojaaM08
/- Walk: operate, for the reversal of one component. -/
namespace Go.Proofs.Ytdamfoobnbjojaa
open Go.RowKit

/-- operate has reversed one component, if there is one. -/
def Ro4 (s m : List Int) (lp : Int) (ns k : Nat) (s' m' : List Int) : Prop := ∀ N : Nat, ((strandsM s m lp).length : Int) + lp = (N : Int) → (N = 0 → s' = s ∧ m' = m) ∧
  (0 < N → (k % N < (strandsM s m lp).length → Moved (rvT (roU s m (k % N))) (rvP (roU s m (k % N)) (roV s m (k % N))) ns s m s' m') ∧ ((strandsM s m lp).length ≤ k % N → s' = s ∧ m' = m))
def Ope4 (w : World) (ns nm : Nat) (lp : Int) (s m : List Int) (k : Nat) (e : Ending) (w' : World) : Prop :=
  ∃ A cs B cm s' m', e = .returned (.tuple #[dval A ns cs B nm cm lp, .bool true]) ∧ RI w' A ns s' ∧ RI w' B nm m' ∧ Ro4 s m lp ns k s' m' ∧ Below w.heap.size w w'

set_option maxHeartbeats 3200000 in
set_option maxRecDepth 100000 in
theorem operG4 (A B : Option Addr) (ns cs nm cm : Nat) (lp : Int) (s m : List Int) (op k : Nat) (hop : op % 5 = 4) (ho : op ≤ 255) (w : World) (h : DV w A ns B nm s m) (hv : validB s m lp = true) (hk : k ≤ 255) :
    Calls Try.prog 30 #[dval A ns cs B nm cm lp, .int .i64 (op : Nat), .int .i64 (k : Nat)] w (Ope4 w ns nm lp s m k) := by
  have hb1 := below_alloc w (dbox A ns cs B nm cm lp)
  have hb2 := below_alloc (w.alloc (dbox A ns cs B nm cm lp)) (.cells #[.slice none 0 0, .slice none 0 0, .int .i64 0] 24)
  have hd := (DB.new w A ns cs B nm cm lp).keep hb2
  have hdf : ∀ i, ((w.alloc (dbox A ns cs B nm cm lp)).alloc (.cells #[.slice none 0 0, .slice none 0 0, .int .i64 0] 24)).frozen? ⟨w.heap.size, i, none⟩ = false := fun i => (hb2.frozen (p := ⟨w.heap.size, i, none⟩) (by simp)).trans (World.frozen?_alloc_at _ _ _ _ rfl)
  have hbx := bx0_new (w.alloc (dbox A ns cs B nm cm lp))
  have hb := below_step hb1 hb2
  have hsz : (w.alloc (dbox A ns cs B nm cm lp)).heap.size = w.heap.size + 1 := by simp
  rw [hsz] at hbx
  have hsz2 : ((w.alloc (dbox A ns cs B nm cm lp)).alloc (.cells #[.slice none 0 0, .slice none 0 0, .int .i64 0] 24)).heap.size = w.heap.size + 2 := by simp
  obtain ⟨v1, v2, v3, v4⟩ := validB_out hv
  rw [h.hs.1, h.hm.1] at v1
  obtain ⟨l1, l2, l3, l4⟩ := limB_out v1
  have hsl := strandsM_le (signs := s) (mate := m) (lp := lp)
  rw [h.hm.1] at hsl
  clear v1 v2 v3 v4
  have HH := Lib.hid h
  have CS : ∀ W : World, Below w.heap.size w W → Hid (Calls Try.prog 36 #[dval A ns cs B nm cm lp] W (CycsPost W (strandsM s m lp))) := fun W hb =>
    Lib.hid (strands_any A B ns cs nm cm lp s m W (HH.out.keep hb))
  have HRO : Hid (∀ (j : Nat) (W : World), (j : Int) < ((strandsM s m lp).length : Int) + lp → Below w.heap.size w W → Calls Try.prog 22 #[dval A ns cs B nm cm lp, .int .i64 (j : Nat)] W (RoYes W ns nm lp s m j)) := Lib.hid fun j W hj hb => ro_any A B ns cs nm cm lp s m j W (HH.out.keep hb) hv hj
  obtain ⟨xss, hxss⟩ : ∃ xss, strandsM s m lp = xss := ⟨_, rfl⟩
  have HX := Lib.hid hxss
  rw [hxss] at hsl CS HRO
  obtain ⟨N, hN⟩ : ∃ N : Nat, (xss.length : Int) + lp = (N : Int) := ⟨((xss.length : Int) + lp).toNat, by omega⟩
  have HN := Lib.hid hN
  have hwr : IntKind.i64.wrap ((xss.length : Int) + lp) = (N : Int) := by rw [← hN]; exact IntWalk.i64_in _ (by omega)
  have N1 : (N : Int) ≤ 1000 := by omega
  have N0 : (0 : Int) ≤ (N : Int) := Int.natCast_nonneg _
  clear hxss hN hsl l1 l2 l3 l4
  have HV := Lib.hid hv
  have HL := Lib.hid (And.intro h.hs.1 h.hm.1)
  obtain ⟨hnm, hns, _⟩ := valid_data hv h.hs.1 h.hm.1
  have HNM := Lib.hid hnm
  clear hb1 hb2 h hv hsz hnm
  unfold dbox at hd hdf hbx hb hsz2
  have o0 : (0 : Int) ≤ (op : Int) := Int.natCast_nonneg _
  have o1 : (op : Int) ≤ 255 := by omega
  have t5 : (op : Int).tmod 5 = 4 := by rw [Int.tmod_eq_emod_of_nonneg o0]; omega
  have t5' : (op : Int) % 5 = 4 := by omega
  clear hop ho
  go_enter Try.func30, Try.ntmps30
  go_upto_region 1 with fail
  generalize (w.alloc (.cells #[.slice A ns cs, .slice B nm cm, .int .i64 lp] 24)).alloc (.cells #[.slice none 0 0, .slice none 0 0, .int .i64 0] 24) = w0 at hd hdf hbx hb hsz2 ⊢
  obtain ⟨gd, hgd⟩ : ∃ gd, w.heap.size = gd := ⟨_, rfl⟩
  obtain ⟨gr, hgr⟩ : ∃ gr, gd + 1 = gr := ⟨_, rfl⟩
  rw [hgd] at hd hdf hsz2 hbx ⊢
  rw [hgr] at hbx ⊢
  have HBX := Lib.hid hbx
  have HB := Lib.hid hb
  have HDF := Lib.hid hdf
  have HLT : Hid (gd < gr ∧ gr < w0.heap.size ∧ w.heap.size = gd) := Lib.hid ⟨by omega, by omega, hgd⟩
  obtain ⟨d0, d1, d2, dlt⟩ := hd
  have hne : gd ≠ gr := by omega
  clear hb hbx hgr hgd hsz2 hdf
  go_upto_region 14 with fail
  have hbD : Below w0.heap.size w0 w0.drew := (Below.refl _ _).drew
  go_region_held3 (fun w' => w'.cell? ⟨gd, 0, none⟩ = some (.slice A ns cs) ∧ w'.cell? ⟨gd, 1, none⟩ = some (.slice B nm cm) ∧ w'.cell? ⟨gd, 2, none⟩ = some (.int .i64 lp))
    (first
      | go_keep
      | exact ⟨(hbB.cell (p := ⟨gd, 0, none⟩) dlt).trans d0, (hbB.cell (p := ⟨gd, 1, none⟩) dlt).trans d1, (hbB.cell (p := ⟨gd, 2, none⟩) dlt).trans d2⟩)
    (first
      | (go_at_call 36; ((with_reducible refine (CS _ (below_step HB.out hbD)).out.mono ?_); rintro e w2 ⟨v, rfl, hov, hb2⟩; have hbB := below_step hbD hb2; obtain ⟨Av, cv, rfl⟩ := hov.form)))
  have HB2 := Lib.hid hbB
  have y0 := (hbB.cell (p := ⟨gd, 0, none⟩) dlt).trans d0
  have y1 := (hbB.cell (p := ⟨gd, 1, none⟩) dlt).trans d1
  have y2 := (hbB.cell (p := ⟨gd, 2, none⟩) dlt).trans d2
  have ylt : gd < w2.heap.size := Nat.lt_of_lt_of_le dlt hbB.size
  have HF2 : Hid (∀ i, w2.frozen? ⟨gd, i, none⟩ = false) := Lib.hid fun i => (hbB.frozen (p := ⟨gd, i, none⟩) dlt).trans (HDF.out i)
  clear hov CS hb2 hbB d0 d1 d2
  rcases Nat.eq_zero_or_pos N with hz | hz
  · subst hz
    have hr := HBX.out.kp HB2.out
    have x0 := hr.1.1
    have x1 := hr.1.2.1
    have x2 := hr.1.2.2.1
    have g0 := hr.2 0
    have g1 := hr.2 1
    have g2 := hr.2 2
    clear hr
    go_wp2
    obtain ⟨q0, q1, q2⟩ := set3_cells w2 gr (.slice A ns cs) (.slice B nm cm) (.int .i64 lp) x0 x1 x2
    have HF : Hid (Ope4 w ns nm lp s m k (.returned (.tuple #[dval A ns cs B nm cm lp, .bool true])) (set3 w2 gr (.slice A ns cs) (.slice B nm cm) (.int .i64 lp))) := Lib.hid (by
      have hg := HLT.out
      have hbb : Below w.heap.size w (set3 w2 gr (.slice A ns cs) (.slice B nm cm) (.int .i64 lp)) := set3_below (below_step HB.out HB2.out) (by omega) _ _ _
      refine ⟨A, cs, B, cm, s, m, rfl, (HH.out.keep hbb).hs, (HH.out.keep hbb).hm, fun N' hN' => ?_, hbb⟩
      have := HN.out
      rw [HX.out] at hN'
      exact ⟨fun _ => ⟨rfl, rfl⟩, fun hp => absurd hp (by omega)⟩)
    exact bodyPost_ret (v := .tuple #[dval A ns cs B nm cm lp, .bool true]) (by simp [results, Try.results30, go_sem, q0, q1, q2]) rfl HF.out
  · have hz2 : ((N : Int) == 0) = false := by simp only [beq_eq_false_iff_ne, ne_eq]; omega
    have hnz : (N : Int) ≠ 0 := by omega
    have hpos : (0 : Int) < (N : Int) := by omega
    obtain ⟨j, hj⟩ : ∃ j, k % N = j := ⟨_, rfl⟩
    have hjn : j < N := by rw [← hj]; exact Nat.mod_lt _ hz
    have hk0 : (0 : Int) ≤ (k : Int) := Int.natCast_nonneg _
    have hk1 : (k : Int) ≤ 255 := by omega
    have hji : (k : Int).tmod (N : Int) = (j : Int) := by rw [Int.tmod_eq_emod_of_nonneg (by omega), ← hj]; simp
    have hji' : (k : Int) % (N : Int) = (j : Int) := by rw [← hj]; simp
    have hw3 : IntKind.i64.wrap (j : Int) = (j : Int) := IntWalk.i64_in _ (by omega)
    have HJ := Lib.hid hj
    have CM := Lib.hid (HRO.out j w2.drew (by have := HN.out; omega) (below_step HB.out HB2.out.drew))
    have y0d : w2.drew.cell? ⟨gd, 0, none⟩ = some (.slice A ns cs) := y0
    have y1d : w2.drew.cell? ⟨gd, 1, none⟩ = some (.slice B nm cm) := y1
    have y2d : w2.drew.cell? ⟨gd, 2, none⟩ = some (.int .i64 lp) := y2
    have hb2D : Below w2.heap.size w2 w2.drew := (Below.refl _ _).drew
    have hsD : w2.drew.heap.size = w2.heap.size := rfl
    clear hj
    go_upto_region 16 with fail
    go_region_with ((go_at_call 22; ((with_reducible refine CM.out.mono ?_); rintro e w4 ⟨A1, c1, B1, m1, s1, l1, rfl, oS, oM, hM, hM', hb1'⟩; have hb1 := below_step hb2D hb1'; have r0 := (hb1.cell (p := ⟨gd, 0, none⟩) ylt).trans y0; have r1 := (hb1.cell (p := ⟨gd, 1, none⟩) ylt).trans y1; have r2 := (hb1.cell (p := ⟨gd, 2, none⟩) ylt).trans y2; have f0 := (hb1.frozen (p := ⟨gd, 0, none⟩) ylt).trans (HF2.out 0); have f1 := (hb1.frozen (p := ⟨gd, 1, none⟩) ylt).trans (HF2.out 1); have f2 := (hb1.frozen (p := ⟨gd, 2, none⟩) ylt).trans (HF2.out 2); obtain ⟨k0, k1, k2⟩ := set3_cells w4 gd (.slice A1 ns c1) (.slice B1 nm m1) (.int .i64 lp) r0 r1 r2; have hr := HBX.out.kp (below_step HB2.out hb1); have x0 := (set3_far w4 gd (.slice A1 ns c1) (.slice B1 nm m1) (.int .i64 lp) hne 0).trans hr.1.1; have x1 := (set3_far w4 gd (.slice A1 ns c1) (.slice B1 nm m1) (.int .i64 lp) hne 1).trans hr.1.2.1; have x2 := (set3_far w4 gd (.slice A1 ns c1) (.slice B1 nm m1) (.int .i64 lp) hne 2).trans hr.1.2.2.1; have g0 := hr.2 0; have g1 := hr.2 1; have g2 := hr.2 2)))
    all_goals
      obtain ⟨q0, q1, q2⟩ := set3_cells (set3 w4 gd (.slice A1 ns c1) (.slice B1 nm m1) (.int .i64 lp)) gr (.slice A1 ns c1) (.slice B1 nm m1) (.int .i64 lp) x0 x1 x2
      have HF : Hid (Ope4 w ns nm lp s m k (.returned (.tuple #[dval A1 ns c1 B1 nm m1 lp, .bool true])) (set3 (set3 w4 gd (.slice A1 ns c1) (.slice B1 nm m1) (.int .i64 lp)) gr (.slice A1 ns c1) (.slice B1 nm m1) (.int .i64 lp))) := Lib.hid (by
        have hg := HLT.out
        have h0 := HB.out.size
        have h2 := HB2.out.size
        rw [hsD] at oS oM
        have n1 : ∀ g, g < w0.heap.size → (Value.slice A1 ns c1).ownBlock ≠ some g := fun g hg e => by have := (World.ownsRow.lt oS g e).1; omega
        have n2 : ∀ g, g < w0.heap.size → (Value.slice B1 nm m1).ownBlock ≠ some g := fun g hg e => by have := (World.ownsRow.lt oM g e).1; omega
        refine ⟨A1, c1, B1, m1, s1, l1, rfl, ((oS.set3 (n1 _ (by omega)) _ _ _).set3 (n1 _ (by omega)) _ _ _).ri, ((oM.set3 (n2 _ (by omega)) _ _ _).set3 (n2 _ (by omega)) _ _ _).ri, fun N' hN' => ?_,
          set3_below (set3_below (below_step HB.out (below_step HB2.out hb1)) (by omega) _ _ _) (by omega) _ _ _⟩
        have hn := HN.out
        rw [HX.out] at hN'
        obtain rfl : N' = N := by omega
        rw [HJ.out]
        exact ⟨fun hp => absurd hp (by omega), fun _ => ⟨hM, hM'⟩⟩)
      go_wp2
      exact bodyPost_ret (v := .tuple #[dval A1 ns c1 B1 nm m1 lp, .bool true]) (by simp [results, Try.results30, go_sem, q0, q1, q2]) rfl HF.out

end Go.Proofs.Ytdamfoobnbjojaa

/- Plain mathematics: what operate has done keeps faces and components, and is undone. -/
namespace Go.Proofs.Ytdamfoobnbjojaa
open Go.RowKit

def RoM (s m : List Int) (lp : Int) (ns k : Nat) (s' m' : List Int) : Prop :=
  (k < (strandsM s m lp).length → Moved (rvT (roU s m k)) (rvP (roU s m k) (roV s m k)) ns s m s' m') ∧ ((strandsM s m lp).length ≤ k → s' = s ∧ m' = m)
/-- What operate has done. -/
def QQ (op k ns : Nat) (lp : Int) (s m s' m' : List Int) : Prop :=
  (op % 5 < 4 → Moved (opT (op % 5) (k % ns) s) (opP (op % 5) (k % ns)) ns s m s' m') ∧ (op % 5 = 4 → Ro4 s m lp ns k s' m')
section
variable {s m s1 m1 s2 m2 : List Int} {lp : Int} {ns op k : Nat}
theorem opT_trn2 (kd k : Nat) (s : List Int) (x : Nat) : opT kd k s (trn x 2) = trn (opT kd k s x) 2 := by
  unfold opT; split
  · exact rot_trn _ _ _
  · split
    · unfold rfl4 trn; omega
    · split
      · exact rot_trn _ _ _
      · exact rot_trn _ _ _
/-- What the law asks of the result. -/
def Und1 (s m s1 m1 : List Int) (lp : Int) (ns : Nat) : Prop :=
  validB s1 m1 lp = true ∧ s1.length = ns ∧ m1.length = 4 * ns ∧ (facesM s1 m1 lp).length = (facesM s m lp).length ∧ compM s1 m1 lp = compM s m lp
theorem und_self (hv : validB s m lp = true) (hn : s.length = ns) : Und1 s m s m lp ns := ⟨hv, hn, (std_of hv hn).hm, rfl, rfl⟩
theorem und_op {a : Nat} (ha : a < 4) (h : Moved (opT a k s) (opP a k) ns s m s1 m1) (hv : validB s m lp = true) (hn : s.length = ns) : Und1 s m s1 m1 lp ns := by
  have hv1 := op_valid ha h hv hn
  refine ⟨hv1, h.ls, h.lm, faces_same hv hn hv1 h (op_place _ _ _ _), ?_⟩
  rw [compM_add hv1, compM_add hv, strands_same (E := fun _ => decide (a = 2)) hv hn hv1 h (op_place _ _ _ _) (opT_trn2 _ _ _) (fun x hx => by
    rw [outB_eq, outB_eq, opT_div, opT_mod, h.sg _ (by omega), opP_eq]
    exact opQ_out a ha _ _ (sg_or (validB_out hv).2.1 (by omega)) _ (by omega)) (fun _ _ => rfl) (fun _ => rfl)]
theorem ro_sd (hv : validB s m lp = true) (hn : s.length = ns) (hk : k < (strandsM s m lp).length) : roH s m k < 4 * ns ∧ outB s (roH s m k) = true ∧ Sd s m ns (Orb (fs (matesOf m)) (roH s m k)) (roU s m k) (roV s m k) := by
  have D := std_of hv hn
  obtain ⟨r1, _⟩ := ro_strand hv hn hk
  rw [D.hm] at r1
  obtain ⟨r2, r3⟩ := reprs_mem.1 r1
  have r4 := ((D.perm.sel_iff _ r2).1 r3).1
  refine ⟨r2, r4, ?_⟩
  have := sd_of D r2 r4
  unfold roU roV
  rw [D.hm]
  exact this
theorem und_ro (hv : validB s m lp = true) (hn : s.length = ns) (hk : k < (strandsM s m lp).length) (M : Moved (rvT (roU s m k)) (rvP (roU s m k) (roV s m k)) ns s m s1 m1) : Und1 s m s1 m1 lp ns := by
  have D := std_of hv hn
  obtain ⟨_, _, hS⟩ := ro_sd hv hn hk
  have hv1 := rv_valid hv hn hS M
  refine ⟨hv1, M.ls, M.lm, faces_same hv hn hv1 M (rot_place _ _), ?_⟩
  rw [compM_add hv1, compM_add hv, strands_same (E := onE (roU s m k) (roV s m k)) hv hn hv1 M (rot_place _ _) (fun x => rot_trn _ _ _) (fun x hx => rv_out D M hx) (fun x hx => hS.mate D hx) (fun x => onE_trn2 _ _ x)]
theorem und1 (h : QQ op k ns lp s m s1 m1) (hv : validB s m lp = true) (hn : s.length = ns) : Und1 s m s1 m1 lp ns := by
  rcases Nat.lt_or_ge (op % 5) 4 with h4 | h4
  · exact und_op h4 (h.1 h4) hv hn
  · have D := std_of hv hn
    have l0 : 0 ≤ lp := by
      have v1 := (validB_out hv).1
      exact (limB_out v1).2.2.1
    obtain ⟨N, hN⟩ : ∃ N : Nat, ((strandsM s m lp).length : Int) + lp = (N : Int) := ⟨(((strandsM s m lp).length : Int) + lp).toNat, by omega⟩
    obtain ⟨h0, hp⟩ := h.2 (by omega) N hN
    rcases Nat.eq_zero_or_pos N with hz | hz
    · obtain ⟨rfl, rfl⟩ := h0 hz; exact und_self hv hn
    · obtain ⟨h1, h2⟩ := hp hz
      rcases Nat.lt_or_ge (k % N) (strandsM s m lp).length with hl | hl
      · exact und_ro hv hn hl (h1 hl)
      · obtain ⟨rfl, rfl⟩ := h2 hl; exact und_self hv hn
theorem und2 (h4 : op % 5 < 4) (h : QQ op k ns lp s m s1 m1) (g : QQ op k ns lp s1 m1 s2 m2) (hv : validB s m lp = true) (hn : s.length = ns) : s2 = s ∧ m2 = m :=
  op_undo h4 (h.1 h4) (g.1 h4) hv hn (std_of hv hn).hm
theorem und4 (h4 : op % 5 = 4) (h : QQ op k ns lp s m s1 m1) (hv : validB s m lp = true) (hn : s.length = ns) :
    compM s1 m1 lp = 0 ∨ ∃ c : Nat, (c : Int) < compM s1 m1 lp ∧ ∀ s2 m2, RoM s1 m1 lp ns c s2 m2 → s2 = s ∧ m2 = m := by
  have D := std_of hv hn
  have u := und1 h hv hn
  have l0 : 0 ≤ lp := by
    have v1 := (validB_out hv).1
    exact (limB_out v1).2.2.1
  obtain ⟨N, hN⟩ : ∃ N : Nat, ((strandsM s m lp).length : Int) + lp = (N : Int) := ⟨(((strandsM s m lp).length : Int) + lp).toNat, by omega⟩
  obtain ⟨h0, hp⟩ := h.2 h4 N hN
  rcases Nat.eq_zero_or_pos N with hz | hz
  · left; rw [u.2.2.2.2, compM_add hv]; omega
  · right
    obtain ⟨h1, h2⟩ := hp hz
    have hj : k % N < N := Nat.mod_lt _ hz
    rcases Nat.lt_or_ge (k % N) (strandsM s m lp).length with hl | hl
    · have M := h1 hl
      obtain ⟨q1, q2, hS⟩ := ro_sd hv hn hl
      obtain ⟨r, hr, hb⟩ := rev_back hv hn u.1 q1 q2 hS M
      have e1 : (strandsM s1 m1 lp).length = (reprs (fs (matesOf m1)) (4 * ns) (outB s1)).length := by
        unfold strandsM; rw [if_pos u.1, cycL_reprs, List.length_map, u.2.2.1]
      obtain ⟨c, hc, hcr⟩ := List.getElem_of_mem hr
      have hcs : c < (strandsM s1 m1 lp).length := by rw [e1]; exact hc
      have hH : roH s1 m1 c = r := by
        unfold roH; rw [u.2.2.1]; simp [List.getD, hc, hcr]
      refine ⟨c, by rw [compM_add u.1]; omega, fun s2 m2 g => ?_⟩
      have g1 := g.1 hcs
      unfold roU roV at g1
      rw [hH, u.2.2.1] at g1
      exact hb s2 m2 g1
    · obtain ⟨rfl, rfl⟩ := h2 hl
      exact ⟨(strandsM s1 m1 lp).length, by rw [compM_add hv]; omega, fun s2 m2 g => g.2 (Nat.le_refl _)⟩
end
/-- operate, whatever it is asked. -/
def OpeU (w : World) (ns nm : Nat) (lp : Int) (s m : List Int) (op k : Nat) (e : Ending) (w' : World) : Prop :=
  ∃ A cs B cm s' m', e = .returned (.tuple #[dval A ns cs B nm cm lp, .bool true]) ∧ RI w' A ns s' ∧ RI w' B nm m' ∧ QQ op k ns lp s m s' m' ∧ Below w.heap.size w w'
theorem opeU_of {w : World} {ns nm : Nat} {lp : Int} {s m : List Int} {op k q : Nat} (hq : op % 5 = q) (h4 : q < 4) {e : Ending} {w' : World} (h : OpeYes w ns nm lp s m q (k % ns) e w') : OpeU w ns nm lp s m op k e w' := by
  obtain ⟨A, cs, B, cm, s', m', rfl, r1, r2, _, _, hM, hb⟩ := h
  subst hq
  exact ⟨A, cs, B, cm, s', m', rfl, r1, r2, ⟨fun _ => hM, fun e => absurd e (by omega)⟩, hb⟩
theorem opeU_of4 {w : World} {ns nm : Nat} {lp : Int} {s m : List Int} {op k : Nat} (hq : op % 5 = 4) {e : Ending} {w' : World} (h : Ope4 w ns nm lp s m k e w') : OpeU w ns nm lp s m op k e w' := by
  obtain ⟨A, cs, B, cm, s', m', rfl, r1, r2, hM, hb⟩ := h
  exact ⟨A, cs, B, cm, s', m', rfl, r1, r2, ⟨fun e => absurd e (by omega), fun _ => hM⟩, hb⟩
theorem opU_any (A B : Option Addr) (ns cs nm cm : Nat) (lp : Int) (s m : List Int) (op k : Nat) (w : World) (h : DV w A ns B nm s m) (hv : validB s m lp = true) (ho : op ≤ 255) (hk : k ≤ 255) :
    Calls Try.prog 30 #[dval A ns cs B nm cm lp, .int .i64 (op : Nat), .int .i64 (k : Nat)] w (OpeU w ns nm lp s m op k) := by
  have : op % 5 = 0 ∨ op % 5 = 1 ∨ op % 5 = 2 ∨ op % 5 = 3 ∨ op % 5 = 4 := by omega
  rcases this with e | e | e | e | e
  · exact (operG0 A B ns cs nm cm lp s m op k e ho w h hv hk).mono fun _ _ => opeU_of e (by omega)
  · exact (operG1 A B ns cs nm cm lp s m op k e ho w h hv hk).mono fun _ _ => opeU_of e (by omega)
  · exact (operG2 A B ns cs nm cm lp s m op k e ho w h hv hk).mono fun _ _ => opeU_of e (by omega)
  · rcases Nat.eq_zero_or_pos ns with hz | hz
    · subst hz; exact (operG3z A B cs nm cm lp s m op k e ho w h hv hk).mono fun _ _ => opeU_of e (by omega)
    · exact (operG3p A B ns cs nm cm lp s m op k e ho w h hv hk hz).mono fun _ _ => opeU_of e (by omega)
  · exact (operG4 A B ns cs nm cm lp s m op k e ho w h hv hk).mono fun _ _ => opeU_of4 e

end Go.Proofs.Ytdamfoobnbjojaa

/- Plain mathematics: all crossings are switched, one after the other. -/
namespace Go.Proofs.Ytdamfoobnbjojaa
open Go.RowKit

/-- The crossings of F have been switched. -/
def SwI (F : Nat → Bool) (n : Nat) (s m s1 m1 : List Int) : Prop := Moved (rot fun c => if F c = true then swQ s c else 0) F n s m s1 m1
theorem SwI.step {F : Nat → Bool} {n k : Nat} {s m s1 m1 s2 m2 : List Int} (h : SwI F n s m s1 m1) (g : Moved (opT 3 k s1) (opP 3 k) n s1 m1 s2 m2) (hk : k < n) (hF : F k = false) : SwI (fun c => F c || decide (c = k)) n s m s2 m2 := by
  have h3 := switch_step h g
  have e1 : s1.getD k 0 = s.getD k 0 := by rw [h.sg k hk, hF]; simp
  have eT : (rot fun c => if c = k then (if F c = true then swQ s c else 0) + swQ s1 c else (if F c = true then swQ s c else 0)) = rot fun c => if (F c || decide (c = k)) = true then swQ s c else 0 := by
    funext x; unfold rot
    congr 1
    by_cases e : x / 4 = k
    · simp only [e, if_true, hF, decide_true, Bool.or_true]
      unfold swQ; rw [e1]; simp
    · simp [e]
  have eP : (fun c => xor (F c) (decide (c = k))) = fun c => F c || decide (c = k) := by
    funext c
    by_cases e : c = k
    · subst e; simp [hF]
    · simp [e]
  unfold SwI
  rw [← eT, ← eP]; exact h3
/-- The crossings that the first i rounds have switched. -/
def swF (f n i c : Nat) : Bool := (List.range i).any fun j => decide (c = (j + f) % n)
theorem swF_succ (f n i : Nat) : swF f n (i + 1) = fun c => swF f n i c || decide (c = (i + f) % n) := by
  funext c; unfold swF; rw [List.range_succ, List.any_append]; simp
theorem mod_inj {f n i j : Nat} (hi : i < n) (hj : j < n) (e : (i + f) % n = (j + f) % n) : i = j := by
  have h1 := Nat.div_add_mod (i + f) n
  have h2 := Nat.div_add_mod (j + f) n
  rw [e] at h1
  have h3 : ∀ a b : Nat, i + f = n * a + (j + f) % n → j + f = n * b + (j + f) % n → i = j := fun a b h1 h2 => by
    rcases Nat.lt_trichotomy a b with h | h | h
    · have : n * (a + 1) ≤ n * b := Nat.mul_le_mul_left n h
      rw [Nat.mul_add] at this; omega
    · subst h; omega
    · have : n * (b + 1) ≤ n * a := Nat.mul_le_mul_left n h
      rw [Nat.mul_add] at this; omega
  exact h3 _ _ h1.symm h2.symm
theorem swF_new {f n i : Nat} (hi : i < n) : swF f n i ((i + f) % n) = false := by
  unfold swF
  rw [List.any_eq_false]
  intro j hj
  have hj2 : j < i := by simpa using hj
  simp only [decide_eq_true_eq]
  intro e
  have := mod_inj hi (by omega) e
  omega
theorem swF_all {f n c : Nat} (hc : c < n) : swF f n n c = true := by
  unfold swF
  rw [List.any_eq_true]
  have hf := Nat.mod_lt f (by omega : 0 < n)
  refine ⟨(c + (n - f % n)) % n, by simpa using Nat.mod_lt _ (by omega), ?_⟩
  simp only [decide_eq_true_eq]
  rw [Nat.mod_add_mod, ← Nat.add_mod_mod, show c + (n - f % n) + f % n = c + n by omega, Nat.add_mod_right, Nat.mod_eq_of_lt hc]
theorem SwI.all {f n : Nat} {s m s1 m1 s2 m2 : List Int} (h : SwI (swF f n n) n s m s1 m1) (g : Moved (opT 0 0 s) (opP 0 0) n s m s2 m2) (hm : ∀ x, x < 4 * n → matesOf m x < 4 * n) : s2 = s1 ∧ m2 = m1 := by
  refine g.uniq h (op_place _ _ _ _) hm (fun x hx => ?_) (fun c hc => (swF_all hc).symm)
  have : opT 0 0 s = rot (swQ s) := by unfold opT; simp
  rw [this]; unfold rot
  show _ = trn x (if swF f n n (x / 4) = true then swQ s (x / 4) else 0)
  rw [swF_all (by omega : x / 4 < n)]; simp
theorem SwI.none {n : Nat} {s m : List Int} (f : Nat) (hs : s.length = n) (hl : m.length = 4 * n) (hp : pairB s m = true) : SwI (swF f n 0) n s m s m := by
  have h := Moved.self hs hl hp
  have e : (rot fun c => if swF f n 0 c = true then swQ s c else 0) = fun x => x := by
    funext x; unfold rot swF trn; simp; omega
  have e2 : swF f n 0 = fun _ => false := by funext c; rfl
  unfold SwI; rw [e, e2]; exact h

theorem Moved.range {T : Nat → Nat} {P : Nat → Bool} {n nm : Nat} {s m s1 m1 : List Int} (h : Moved T P n s m s1 m1) (q : Place T n) (hn : n ≤ 64) (hnm : nm = 4 * n) (hm : ∀ x, x < 4 * n → matesOf m x < 4 * n) : ∀ j, j < nm → -9223372036854775808 ≤ mt m1 j ∧ mt m1 j ≤ 9223372036854775807 := fun j hj => by
  obtain ⟨y, hy, rfl⟩ := q.q.hits (by omega : j < 4 * n)
  rw [h.mate y hy]
  have := q.q.lt _ (hm y hy)
  omega

end Go.Proofs.Ytdamfoobnbjojaa

/- For every diagram and all numbers the law MirrorCommutes returns true, and its arguments read afterwards as before. No condition. -/
namespace Go.Proofs.Ytdamfoobnbjojaa
open Go.ChangeShapes Go.WideShapes Go.ChangeAt Go.RowKit Go.Joins

/-- A diagram of one's own at a box. -/
structure BxD (w : World) (g : Nat) (A : Option Addr) (ns cs : Nat) (B : Option Addr) (nm cm : Nat) (lp : Int) (s m : List Int) : Prop where
  box : DB w g A ns cs B nm cm lp
  bf : ∀ i, w.frozen? ⟨g, i, none⟩ = false
  dv : DV w A ns B nm s m
theorem BxD.keep {w w' : World} {g : Nat} {A : Option Addr} {ns cs : Nat} {B : Option Addr} {nm cm : Nat} {lp : Int} {s m : List Int} (h : BxD w g A ns cs B nm cm lp s m) (hb : Below w.heap.size w w') : BxD w' g A ns cs B nm cm lp s m :=
  ⟨h.box.keep hb, fun i => (hb.frozen (p := ⟨g, i, none⟩) h.box.2.2.2).trans (h.bf i), h.dv.keep hb⟩
theorem bxD_new {w : World} {A : Option Addr} {ns cs : Nat} {B : Option Addr} {nm cm : Nat} {lp : Int} {s m : List Int} (h : DV w A ns B nm s m) : BxD (w.alloc (.cells #[.slice A ns cs, .slice B nm cm, .int .i64 lp] 24)) w.heap.size A ns cs B nm cm lp s m :=
  ⟨DB.new w A ns cs B nm cm lp, fun _i => World.frozen?_alloc_at _ _ _ _ rfl, h.keep (below_alloc w _)⟩
theorem bxD_set {w : World} {g B0 : Nat} {A A' : Option Addr} {ns cs ns' cs' : Nat} {B B' : Option Addr} {nm cm nm' cm' : Nat} {lp lp' : Int} {s m s' m' : List Int} (h : BxD w g A ns cs B nm cm lp s m) (d : DV w A' ns' B' nm' s' m') (hg : g < B0)
    (f1 : ∀ b o, 0 < ns' → A' = some ⟨b, o, none⟩ → B0 ≤ b) (f2 : ∀ b o, 0 < nm' → B' = some ⟨b, o, none⟩ → B0 ≤ b) : BxD (set3 w g (.slice A' ns' cs') (.slice B' nm' cm') (.int .i64 lp')) g A' ns' cs' B' nm' cm' lp' s' m' := by
  obtain ⟨k0, k1, k2⟩ := set3_cells w g (.slice A' ns' cs') (.slice B' nm' cm') (.int .i64 lp') h.box.1 h.box.2.1 h.box.2.2.1
  refine ⟨⟨k0, k1, k2, by simp [World.setCell]; exact h.box.2.2.2⟩, fun i => ?_, ⟨d.hs.set3f (fun b o hn e => by have := f1 b o hn e; omega) _ _ _, d.hm.set3f (fun b o hn e => by have := f2 b o hn e; omega) _ _ _, d.hns, d.hnm, d.hrange⟩⟩
  exact (World.frozen?_setCell _ _ _ _).trans ((World.frozen?_setCell _ _ _ _).trans ((World.frozen?_setCell _ _ _ _).trans (h.bf i)))

set_option maxHeartbeats 6400000 in
set_option maxRecDepth 100000 in
theorem mirrorcommutes_walk (A B : Option Addr) (ns cs nm cm : Nat) (lp : Int) (s m : List Int) (a b k l : Nat) (w : World) (hs : RI w A ns s) (hm : RI w B nm m) (hns : ns ≤ 9223372036854775807) (hnm : nm ≤ 9223372036854775807) (hmI : ∀ z ∈ m, inI z) (ha : a ≤ 255) (hb : b ≤ 255) (hk : k ≤ 255) (hl : l ≤ 255) :
    Calls Try.prog 6 #[dval A ns cs B nm cm lp, .int .u8 (a : Nat), .int .u8 (b : Nat), .int .u8 (k : Nat), .int .u8 (l : Nat)] w fun e w' => e = .returned (.bool true) ∧ Below w.heap.size w w' := by
  have hd := DB.new w A ns cs B nm cm lp
  have hb0 := below_alloc w (dbox A ns cs B nm cm lp)
  have HD := Lib.hid hd
  have HB := Lib.hid hb0
  obtain ⟨d0, d1, d2, dlt⟩ := hd
  have CA : ∀ W : World, Hid (Calls Try.prog 11 #[] W fun e w' => e = .returned (.bool true) ∧ Below W.heap.size W w') := fun W => Lib.hid (mawake_any W)
  have CF : ∀ W : World, Hid (Calls Try.prog 12 #[dval A ns cs B nm cm lp] W fun e w' => e = .returned (.bool (fewM ns nm)) ∧ Below W.heap.size W w') := fun W => Lib.hid (mfew_any A B ns cs nm cm lp W hns hnm)
  cases hf : fewM ns nm with
  | false =>
    rw [hf] at CF
    clear hf hs hm hmI hb0
    go_enter Try.func6, Try.ntmps6
    go_wp2_with (first
      | (go_at_call 12; ((with_reducible refine (CF _).out.mono ?_); rintro e w2 ⟨rfl, hb2⟩))
      | (go_at_call 11; ((with_reducible refine (CA w2).out.mono ?_); rintro e w3 ⟨rfl, hb3⟩))
      | (go_at_call 11; ((with_reducible refine (CA _).out.mono ?_); rintro e w1 ⟨rfl, hb1⟩; have y0 := (hb1.cell (p := ⟨w.heap.size, 0, none⟩) dlt).trans d0; have y1 := (hb1.cell (p := ⟨w.heap.size, 1, none⟩) dlt).trans d1; have y2 := (hb1.cell (p := ⟨w.heap.size, 2, none⟩) dlt).trans d2)))
    go_ret
    exact ⟨rfl, below_step HB.out (below_step hb1 (below_step hb2 hb3))⟩
  | true =>
    rw [hf] at CF
    have H := Lib.hid (DV.ofI hs hm hmI hf)
    obtain ⟨hn14, hn70⟩ := fewM_out hf
    clear hf hs hm hmI hb0 hns hnm
    have CV : ∀ W : World, Below w.heap.size w W → Hid (Calls Try.prog 29 #[dval A ns cs B nm cm lp] W fun e w' => e = .returned (.bool (validB s m lp)) ∧ Below W.heap.size W w') := fun W hW => Lib.hid ((H.out.keep hW).valid cs cm lp _ rfl)
    cases hv : validB s m lp with
    | false =>
      rw [hv] at CV
      clear hv
      go_enter Try.func6, Try.ntmps6
      go_wp2_with (first
        | (go_at_call 12; ((with_reducible refine (CF _).out.mono ?_); rintro e w2 ⟨rfl, hb2⟩; have hb12 := below_step hb1 hb2; have z0 := (hb12.cell (p := ⟨w.heap.size, 0, none⟩) dlt).trans d0; have z1 := (hb12.cell (p := ⟨w.heap.size, 1, none⟩) dlt).trans d1; have z2 := (hb12.cell (p := ⟨w.heap.size, 2, none⟩) dlt).trans d2))
        | (go_at_call 29; ((with_reducible refine (CV _ (below_step HB.out hb12)).out.mono ?_); rintro e w3 ⟨rfl, hb3⟩))
        | (go_at_call 11; ((with_reducible refine (CA w3).out.mono ?_); rintro e w4 ⟨rfl, hb4⟩))
        | (go_at_call 11; ((with_reducible refine (CA _).out.mono ?_); rintro e w1 ⟨rfl, hb1⟩; have y0 := (hb1.cell (p := ⟨w.heap.size, 0, none⟩) dlt).trans d0; have y1 := (hb1.cell (p := ⟨w.heap.size, 1, none⟩) dlt).trans d1; have y2 := (hb1.cell (p := ⟨w.heap.size, 2, none⟩) dlt).trans d2)))
      go_ret
      exact ⟨rfl, below_step HB.out (below_step hb12 (below_step hb3 hb4))⟩
    | true =>
      rw [hv] at CV
      have HV := Lib.hid hv
      clear hv
      go_enter Try.func6, Try.ntmps6
      go_upto_region 3 with (first
        | (go_at_call 12; ((with_reducible refine (CF _).out.mono ?_); rintro e w2 ⟨rfl, hb2⟩; have hb12 := below_step hb1 hb2; have z0 := (hb12.cell (p := ⟨w.heap.size, 0, none⟩) dlt).trans d0; have z1 := (hb12.cell (p := ⟨w.heap.size, 1, none⟩) dlt).trans d1; have z2 := (hb12.cell (p := ⟨w.heap.size, 2, none⟩) dlt).trans d2))
        | (go_at_call 29; ((with_reducible refine (CV _ (below_step HB.out hb12)).out.mono ?_); rintro e w3 ⟨rfl, hb3⟩))
        | (go_at_call 11; ((with_reducible refine (CA _).out.mono ?_); rintro e w1 ⟨rfl, hb1⟩; have y0 := (hb1.cell (p := ⟨w.heap.size, 0, none⟩) dlt).trans d0; have y1 := (hb1.cell (p := ⟨w.heap.size, 1, none⟩) dlt).trans d1; have y2 := (hb1.cell (p := ⟨w.heap.size, 2, none⟩) dlt).trans d2)))
      have hb13 := below_step hb12 hb3
      have HB3 := Lib.hid (below_step HB.out hb13)
      have hd3 := HD.out.keep hb13
      clear y0 y1 y2 z0 z1 z2 CV CF CA d0 d1 d2 hb1 hb2 hb3 hb12 hb13
      obtain ⟨hnm, hns64, hM, hS, _, _⟩ := valid_data HV.out H.out.hs.1 H.out.hm.1
      have HLS := Lib.hid H.out.hs.1
      have HLM := Lib.hid H.out.hm.1
      have HNM := Lib.hid hnm
      obtain ⟨d0, d1, d2, dlt3⟩ := hd3
      have HD3 := Lib.hid (show DB w3 w.heap.size A ns cs B nm cm lp from ⟨d0, d1, d2, dlt3⟩)
      obtain ⟨qa, hqa⟩ : ∃ qa, a % 4 = qa := ⟨_, rfl⟩
      obtain ⟨qb, hqb⟩ : ∃ qb, b % 4 = qb := ⟨_, rfl⟩
      have hqa4 : qa < 4 := by omega
      have hqb4 : qb < 4 := by omega
      have ia : (a : Int) % 4 = (qa : Int) := by omega
      have ib : (b : Int) % 4 = (qb : Int) := by omega
      have a0 : (0 : Int) ≤ (a : Int) := Int.natCast_nonneg _
      have a1 : (a : Int) ≤ 255 := by omega
      have b0 : (0 : Int) ≤ (b : Int) := Int.natCast_nonneg _
      have b1 : (b : Int) ≤ 255 := by omega
      have k0 : (0 : Int) ≤ (k : Int) := Int.natCast_nonneg _
      have k1 : (k : Int) ≤ 255 := by omega
      have l0 : (0 : Int) ≤ (l : Int) := Int.natCast_nonneg _
      have l1 : (l : Int) ≤ 255 := by omega
      have C1 := Lib.hid (operate_any A B ns cs nm cm lp s m qa k w3 (H.out.keep HB3.out) HV.out hqa4 hk)
      clear hM hS hnm HD HB dlt hqa hqb
      go_upto_region 4 with (go_at_call 30; ((with_reducible refine C1.out.mono ?_); rintro e w4 ⟨A1, c1, B1, m1, s1, t1, rfl, rS1, rM1, fA1, fB1, hM1, hb4⟩))
      have dv1 : DV w4 A1 ns B1 nm s1 t1 := ⟨rS1, rM1, by omega, by omega, hM1.range (op_place _ _ _ _) hns64 HNM.out (mates_lt (by rw [HLM.out]; exact HNM.out) (validB_out HV.out).2.2.1)⟩
      have v1 := op_valid hqa4 hM1 HV.out HLS.out
      have hX := bxD_new (cs := c1) (cm := m1) (lp := lp) dv1
      have hb4X := below_step hb4 (below_alloc w4 (.cells #[.slice A1 ns c1, .slice B1 nm m1, .int .i64 lp] 24))
      have hsX : (w4.alloc (.cells #[.slice A1 ns c1, .slice B1 nm m1, .int .i64 lp] 24)).heap.size = w4.heap.size + 1 := by simp
      generalize w4.alloc (.cells #[.slice A1 ns c1, .slice B1 nm m1, .int .i64 lp] 24) = wX at hX hb4X hsX ⊢
      obtain ⟨gx, hgx⟩ : ∃ gx, w4.heap.size = gx := ⟨_, rfl⟩
      have hgx3 : w3.heap.size ≤ gx := by have := hb4.size; omega
      have hgxX : gx < wX.heap.size := by omega
      rw [hgx] at hX ⊢
      have HX := Lib.hid hX
      have HM1 := Lib.hid hM1
      have HV1 := Lib.hid v1
      have HBX := Lib.hid hb4X
      have C2 := Lib.hid (operate_any A1 B1 ns c1 nm m1 lp s1 t1 qb l wX hX.dv v1 hqb4 hl)
      obtain ⟨x0, x1, x2, xlt⟩ := hX.box
      clear hX hb4X hsX hgx rS1 rM1 fA1 fB1 hM1 hb4 dv1 v1 C1 d0 d1 d2
      go_upto_region 5 with (go_at_call 30; ((with_reducible refine C2.out.mono ?_); rintro e w5 ⟨A2, c2, B2, m2, s2, t2, rfl, rS2, rM2, fA2, fB2, hM2, hb5⟩; have hbx := HX.out.keep hb5; have r0 := hbx.box.1; have r1 := hbx.box.2.1; have r2 := hbx.box.2.2.1; have e0 := hbx.bf 0; have e1 := hbx.bf 1; have e2 := hbx.bf 2))
      have hlt1 : t1.length = nm := HX.out.dv.hm.1
      have hls1 : s1.length = ns := HX.out.dv.hs.1
      have dv2 : DV w5 A2 ns B2 nm s2 t2 := ⟨rS2, rM2, by omega, by omega, hM2.range (op_place _ _ _ _) hns64 HNM.out (mates_lt (by rw [hlt1]; exact HNM.out) (validB_out HV1.out).2.2.1)⟩
      have hY := bxD_set (cs' := c2) (cm' := m2) (lp' := lp) hbx dv2 hgxX fA2 fB2
      have hb3Y := set3_below (below_step HBX.out hb5) hgx3 (.slice A2 ns c2) (.slice B2 nm m2) (.int .i64 lp)
      have hlty : gx < (set3 w5 gx (.slice A2 ns c2) (.slice B2 nm m2) (.int .i64 lp)).heap.size := hY.box.2.2.2
      generalize hwY : set3 w5 gx (.slice A2 ns c2) (.slice B2 nm m2) (.int .i64 lp) = wY at hY hb3Y hlty
      first | (rw [hwY]) | (show (_ : Prop); unfold set3 at hwY; rw [hwY])
      have HY := Lib.hid hY
      have HM2 := Lib.hid hM2
      have HBY := Lib.hid hb3Y
      clear hY rS2 rM2 fA2 fB2 hM2 hb5 dv2 C2 r0 r1 r2 e0 e1 e2 hbx hwY x0 x1 x2 hlt1 hls1
      have HDY := Lib.hid (HD3.out.keep hb3Y)
      obtain ⟨d0, d1, d2, dltY⟩ := HDY.out
      have C3 := Lib.hid (operate_any A B ns cs nm cm lp s m qb l wY (H.out.keep (below_step HB3.out hb3Y)) HV.out hqb4 hl)
      clear hb3Y
      go_upto_region 6 with (go_at_call 30; ((with_reducible refine C3.out.mono ?_); rintro e w6 ⟨A3, c3, B3, m3, s3, t3, rfl, rS3, rM3, fA3, fB3, hM3, hb6⟩))
      have dv3 : DV w6 A3 ns B3 nm s3 t3 := ⟨rS3, rM3, by omega, by omega, hM3.range (op_place _ _ _ _) hns64 HNM.out (mates_lt (by rw [HLM.out]; exact HNM.out) (validB_out HV.out).2.2.1)⟩
      have v3 := op_valid hqb4 hM3 HV.out HLS.out
      have hZ := bxD_new (cs := c3) (cm := m3) (lp := lp) dv3
      have hbYZ := below_step hb6 (below_alloc w6 (.cells #[.slice A3 ns c3, .slice B3 nm m3, .int .i64 lp] 24))
      have hsZ : (w6.alloc (.cells #[.slice A3 ns c3, .slice B3 nm m3, .int .i64 lp] 24)).heap.size = w6.heap.size + 1 := by simp
      generalize w6.alloc (.cells #[.slice A3 ns c3, .slice B3 nm m3, .int .i64 lp] 24) = wZ at hZ hbYZ hsZ ⊢
      obtain ⟨gy, hgy⟩ : ∃ gy, w6.heap.size = gy := ⟨_, rfl⟩
      have hgyY : wY.heap.size ≤ gy := by have := hb6.size; omega
      have hgyZ : gy < wZ.heap.size := by omega
      rw [hgy] at hZ ⊢
      have HZ := Lib.hid hZ
      have HM3 := Lib.hid hM3
      have HV3 := Lib.hid v3
      have HBZ := Lib.hid hbYZ
      have C4 := Lib.hid (operate_any A3 B3 ns c3 nm m3 lp s3 t3 qa k wZ hZ.dv v3 hqa4 hk)
      obtain ⟨z0, z1, z2, zlt⟩ := hZ.box
      clear hZ hbYZ hsZ hgy rS3 rM3 fA3 fB3 hM3 hb6 dv3 v3 C3 d0 d1 d2
      go_upto_region 7 with (go_at_call 30; ((with_reducible refine C4.out.mono ?_); rintro e w7 ⟨A4, c4, B4, m4, s4, t4, rfl, rS4, rM4, fA4, fB4, hM4, hb7⟩; have hbx := HZ.out.keep hb7; have r0 := hbx.box.1; have r1 := hbx.box.2.1; have r2 := hbx.box.2.2.1; have e0 := hbx.bf 0; have e1 := hbx.bf 1; have e2 := hbx.bf 2))
      have hlt3 : t3.length = nm := HZ.out.dv.hm.1
      have dv4 : DV w7 A4 ns B4 nm s4 t4 := ⟨rS4, rM4, by omega, by omega, hM4.range (op_place _ _ _ _) hns64 HNM.out (mates_lt (by rw [hlt3]; exact HNM.out) (validB_out HV3.out).2.2.1)⟩
      have hU := bxD_set (cs' := c4) (cm' := m4) (lp' := lp) hbx dv4 hgyZ fA4 fB4
      have hbYU := set3_below (below_step HBZ.out hb7) hgyY (.slice A4 ns c4) (.slice B4 nm m4) (.int .i64 lp)
      generalize hwU : set3 w7 gy (.slice A4 ns c4) (.slice B4 nm m4) (.int .i64 lp) = wU at hU hbYU
      first | (rw [hwU]) | (unfold set3 at hwU; rw [hwU])
      have hXU := HY.out.keep hbYU
      obtain ⟨es, et⟩ := op_comm hqa4 hqb4 HM1.out HM2.out HM3.out hM4 HV.out HLS.out (by rw [HLM.out]; exact HNM.out)
      have HE := Lib.hid (equal_any A2 B2 A4 B4 ns c2 nm m2 ns c4 nm m4 lp lp s2 t2 s4 t4 wU hXU.dv.hs hXU.dv.hm hU.dv.hs hU.dv.hm (by omega) (by omega) (by omega) (by omega))
      rw [es, et, eqD_refl] at HE
      obtain ⟨u0, u1, u2, ult⟩ := hXU.box
      obtain ⟨v0, v1, v2, vlt⟩ := hU.box
      have HF := Lib.hid (below_step HB3.out (below_step HBY.out hbYU))
      clear es et hXU hU hbYU dv4 hbx hwU rS4 rM4 fA4 fB4 hM4 hb7 C4 r0 r1 r2 e0 e1 e2 z0 z1 z2 hlt3
      go_wp2_with (go_at_call 33; ((with_reducible refine HE.out.mono ?_); rintro e w9 ⟨rfl, hb9⟩))
      go_ret
      exact ⟨rfl, below_step HF.out hb9⟩

end Go.Proofs.Ytdamfoobnbjojaa

/- Walk: Faces. -/
namespace Go.Proofs.Ytdamfoobnbjojaa
open Go.RowKit

theorem next56 (A B : Option Addr) (ns cs nm cm gd : Nat) (lp : Int) (mate : List Int) (m : Nat → Nat) (w : World) (hd : DB w gd A ns cs B nm cm lp) (hm : RI w B nm mate) (hmm : Mates mate nm m) (hnm : nm ≤ 256) :
    Next w 68 gd (ff m) nm := fun W x hW hx => by
  have hb0 := hd.keep hW
  obtain ⟨d0, d1, d2, dlt⟩ := hb0
  have C := Lib.hid (nextface_nat A B ns cs nm cm lp mate m x W (hm.keep hW) hx hmm hnm _ rfl)
  clear hd hm hmm hW
  go_enter Try.func68, Try.ntmps68
  go_wp2_with (go_at_call 69; ((with_reducible refine C.out.mono ?_); rintro e w1 ⟨rfl, hb1⟩))
  go_ret
  exact ⟨rfl, hb1⟩
theorem asks54 (N : Nat) (w : World) : Asks w 66 #[] (fun _ => true) N := fun W x hW hx => by
  show Calls Try.prog 66 #[.int .i64 (x : Nat)] W _
  clear hW
  go_enter Try.func66, Try.ntmps66
  go_wp2
  go_ret
  exact ⟨rfl, Below.refl _ _⟩

set_option maxHeartbeats 1600000 in
theorem faces_any (A B : Option Addr) (ns cs nm cm : Nat) (lp : Int) (signs mate : List Int) (w : World) (h : DV w A ns B nm signs mate) :
    Calls Try.prog 31 #[dval A ns cs B nm cm lp] w (CycsPost w (facesM signs mate lp)) := by
  have hd := DB.new w A ns cs B nm cm lp
  obtain ⟨d0, d1, d2, dlt⟩ := hd
  have hb0 := below_alloc w (dbox A ns cs B nm cm lp)
  have hls := h.hs.1
  have hlm := h.hm.1
  cases hv : validB signs mate lp with
  | false =>
    have e : facesM signs mate lp = [] := by simp [facesM, hv]
    rw [e]
    have CV := Lib.hid ((h.keep hb0).valid cs cm lp false hv)
    clear e hv hls hlm
    go_enter Try.func31, Try.ntmps31
    go_wp2_with (go_at_call 29; ((with_reducible refine CV.out.mono ?_); rintro e w1 ⟨rfl, hb1⟩))
    go_ret
    exact ⟨_, rfl, OO.nil _ _, below_step hb0 hb1⟩
  | true =>
    have e : facesM signs mate lp = cycL (ff (matesOf mate)) nm (fun _ => true) nm := by simp [facesM, hv, hlm]
    rw [e]
    have CV := Lib.hid ((h.keep hb0).valid cs cm lp true hv)
    obtain ⟨v1, v2, v3, v4⟩ := validB_out hv
    rw [hls, hlm] at v1
    obtain ⟨l1, l2, l3, l4⟩ := limB_out v1
    have HM := Lib.hid (matesOf_mates v3 hlm)
    have HI := Lib.hid (matesOf_invol v3 hlm)
    have HL := Lib.hid l2
    have HD := Lib.hid (DB.new w A ns cs B nm cm lp)
    have CCf : ∀ w1 : World, Below (w.alloc (dbox A ns cs B nm cm lp)).heap.size (w.alloc (dbox A ns cs B nm cm lp)) w1 →
        Hid (Calls Try.prog 67 #[.int .i64 (nm : Nat), .func (.func 66) #[] #[], .func (.func 68) #[] #[.pointer (some ⟨w.heap.size, 0, none⟩)]] w1 (CycsPost w1 (cycL (ff (matesOf mate)) nm (fun _ => true) nm))) := fun w1 hb1 =>
      cycles_any 68 66 w.heap.size nm #[] (ff (matesOf mate)) (fun _ => true) w1 enters56 enters54
        (next56 A B ns cs nm cm w.heap.size lp mate (matesOf mate) w1 (HD.out.keep hb1) (h.hm.keep (below_step hb0 hb1)) HM.out (by have := HL.out; omega)) (asks54 nm w1) (by have := HI.out; rw [HL.out] at this ⊢; exact this.perm 3) (by have := HL.out; omega)
    clear e hv hls hlm v1 v2 v3 v4 l2
    go_enter Try.func31, Try.ntmps31
    have hmf : ∀ (fn : Fn) (first cap : Array Value) (w : World), (Instr.makeFunc fn first cap).run Try.prog w = .ok (.func fn first cap) w := fun _ _ _ _ => rfl
    go_wp2_with (first
      | (go_at_call 29; ((with_reducible refine CV.out.mono ?_); rintro e w1 ⟨rfl, hb1⟩; have d0' := (hb1.cell (p := ⟨w.heap.size, 0, none⟩) dlt).trans d0; have d1' := (hb1.cell (p := ⟨w.heap.size, 1, none⟩) dlt).trans d1; have d2' := (hb1.cell (p := ⟨w.heap.size, 2, none⟩) dlt).trans d2))
      | (go_at_call 67; ((with_reducible refine (CCf _ hb1).out.mono ?_); rintro e w2 ⟨v, rfl, hov, hb2⟩)))
    go_ret
    have hb01 := below_step hb0 hb1
    exact ⟨_, rfl, hov.mono hb01.size, below_step hb01 hb2⟩

end Go.Proofs.Ytdamfoobnbjojaa

/- Walk: Components. -/
namespace Go.Proofs.Ytdamfoobnbjojaa
open Go.RowKit

set_option maxHeartbeats 1600000 in
theorem components_any (A B : Option Addr) (ns cs nm cm : Nat) (lp : Int) (signs mate : List Int) (w : World) (h : DV w A ns B nm signs mate) :
    Calls Try.prog 32 #[dval A ns cs B nm cm lp] w fun e w' => e = .returned (.int .i64 (compM signs mate lp)) ∧ Below w.heap.size w w' := by
  have hd := DB.new w A ns cs B nm cm lp
  obtain ⟨d0, d1, d2, dlt⟩ := hd
  have hb0 := below_alloc w (dbox A ns cs B nm cm lp)
  have hls := h.hs.1
  have hlm := h.hm.1
  cases hv : validB signs mate lp with
  | false =>
    have e : compM signs mate lp = 0 := by simp [compM, hv]
    rw [e]
    have CV := Lib.hid ((h.keep hb0).valid cs cm lp false hv)
    clear e hv hls hlm
    go_enter Try.func32, Try.ntmps32
    go_wp2_with (go_at_call 29; ((with_reducible refine CV.out.mono ?_); rintro e w1 ⟨rfl, hb1⟩))
    go_ret
    exact ⟨rfl, below_step hb0 hb1⟩
  | true =>
    have CV := Lib.hid ((h.keep hb0).valid cs cm lp true hv)
    obtain ⟨v1, v2, v3, v4⟩ := validB_out hv
    rw [hls, hlm] at v1
    obtain ⟨l1, l2, l3, l4⟩ := limB_out v1
    have hsl := strandsM_le (signs := signs) (mate := mate) (lp := lp)
    rw [compM_add hv]
    have H := Lib.hid h
    have CS : ∀ W : World, Below (w.alloc (dbox A ns cs B nm cm lp)).heap.size (w.alloc (dbox A ns cs B nm cm lp)) W → Hid (Calls Try.prog 36 #[dval A ns cs B nm cm lp] W (CycsPost W (strandsM signs mate lp))) := fun W hb =>
      strands_any A B ns cs nm cm lp signs mate W (H.out.keep (below_step hb0 hb))
    generalize strandsM signs mate lp = xss at *
    have hwr : IntKind.i64.wrap ((xss.length : Int) + lp) = (xss.length : Int) + lp := IntWalk.i64_in _ (by omega)
    clear hv hls hlm v1 v2 v3 v4 l1 l2 h
    go_enter Try.func32, Try.ntmps32
    go_upto_region 3 with (go_at_call 29; ((with_reducible refine CV.out.mono ?_); rintro e w1 ⟨rfl, hb1⟩))
    have c0 := (hb1.cell (p := ⟨w.heap.size, 0, none⟩) dlt).trans d0
    have c1 := (hb1.cell (p := ⟨w.heap.size, 1, none⟩) dlt).trans d1
    have c2 := (hb1.cell (p := ⟨w.heap.size, 2, none⟩) dlt).trans d2
    have wlt := Nat.lt_of_lt_of_le dlt hb1.size
    have hbD : Below w1.heap.size w1 w1.drew := (Below.refl _ _).drew
    go_region_held3 (fun w' => w'.cell? ⟨w.heap.size, 0, none⟩ = some (.slice A ns cs) ∧ w'.cell? ⟨w.heap.size, 1, none⟩ = some (.slice B nm cm) ∧ w'.cell? ⟨w.heap.size, 2, none⟩ = some (.int .i64 lp))
      (first
        | go_keep
        | exact ⟨(hbB.cell (p := ⟨w.heap.size, 0, none⟩) wlt).trans c0, (hbB.cell (p := ⟨w.heap.size, 1, none⟩) wlt).trans c1, (hbB.cell (p := ⟨w.heap.size, 2, none⟩) wlt).trans c2⟩)
      (first
        | (go_at_call 36; ((with_reducible refine (CS _ (below_step hb1 hbD)).out.mono ?_); rintro e w2 ⟨v, rfl, hov, hb2⟩; have hbB := below_step hbD hb2; obtain ⟨Av, cv, rfl⟩ := hov.form)))
    go_wp2
    go_ret
    exact ⟨rfl, below_step hb0 (below_step hb1 hbB)⟩

end Go.Proofs.Ytdamfoobnbjojaa
