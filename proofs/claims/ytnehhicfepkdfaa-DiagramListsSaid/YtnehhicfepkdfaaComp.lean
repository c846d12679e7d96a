/- Walks: Components, the reference's Components, Face. -/
import Derived.Test.YtnehhicfepkdfaaRGraph
namespace Go.Proofs.Ytnehhicfepkdfaa
open Go.RowKit

/-- The strand leaves each crossing by an out port when it enters by one that is none. -/
theorem out_closed {signs mate : List Int} {nm ns : Nat} (hs : sgnsB signs = true) (hp : pairB signs mate = true) (hl : mate.length = nm) (hls : signs.length = ns) (hn : nm = 4 * ns) (h : Nat) (hh : h < nm) (ho : outB signs h = true) : outB signs (fs (matesOf mate) h) = true := by
  obtain ⟨m, h1, h2, h3, h4⟩ := pOK_out ((pairB_iff _ _).1 hp h (by omega)) hl
  have e : matesOf mate h = m := by unfold matesOf; rw [h1]; simp
  have hm : outB signs m = false := by
    cases q : outB signs m with
    | false => rfl
    | true => rw [ho, q] at h4; exact absurd rfl h4
  have hg := (sgnsB_iff _).1 hs (m / 4) (by omega)
  unfold fs
  rw [e]
  have hd := trn_div m 2
  have hr : trn m 2 % 4 = (m % 4 + 2) % 4 := by unfold trn; omega
  unfold outB at hm ⊢
  rw [hd, hr]
  generalize signs.getD (m / 4) 0 = s at hm hg ⊢
  unfold sgB at hg
  have hr4 : m % 4 = 0 ∨ m % 4 = 1 ∨ m % 4 = 2 ∨ m % 4 = 3 := by omega
  rcases hr4 with e | e | e | e <;> rw [e] at hm ⊢ <;> simp at hm hg ⊢ <;> omega

def compM (signs mate : List Int) (lp : Int) : Int := if validB signs mate lp = true then ((strandsM signs mate lp).length : Int) + lp else 0
theorem compM_add {signs mate : List Int} {lp : Int} (h : validB signs mate lp = true) : compM signs mate lp = ((strandsM signs mate lp).length : Int) + lp := by unfold compM; rw [if_pos h]
theorem strandsM_le {signs mate : List Int} {lp : Int} : (strandsM signs mate lp).length ≤ mate.length := by
  unfold strandsM; split
  · exact cycL_length _ _ _ _
  · simp

set_option maxHeartbeats 1600000 in
theorem components_any (A B : Option Addr) (ns cs nm cm : Nat) (lp : Int) (signs mate : List Int) (w : World) (h : DV w A ns B nm signs mate) :
    Calls Try.prog 28 #[dval A ns cs B nm cm lp] w fun e w' => e = .returned (.int .i64 (compM signs mate lp)) ∧ Below w.heap.size w w' := by
  have hd := DB.new w A ns cs B nm cm lp
  obtain ⟨d0, d1, d2, dlt⟩ := hd
  have hb0 := below_alloc w (dbox A ns cs B nm cm lp)
  have hls := h.hs.1
  have hlm := h.hm.1
  cases hv : validB signs mate lp with
  | false =>
    have e : compM signs mate lp = 0 := by simp [compM, hv]
    rw [e]
    have CV := Lib.hid ((h.keep hb0).valid cs cm lp false hv)
    clear e hv hls hlm
    go_enter Try.func28, Try.ntmps28
    go_wp2_with (go_at_call 16; ((with_reducible refine CV.out.mono ?_); rintro e w1 ⟨rfl, hb1⟩))
    go_ret
    exact ⟨rfl, below_step hb0 hb1⟩
  | true =>
    have CV := Lib.hid ((h.keep hb0).valid cs cm lp true hv)
    obtain ⟨v1, v2, v3, v4⟩ := validB_out hv
    rw [hls, hlm] at v1
    obtain ⟨l1, l2, l3, l4⟩ := limB_out v1
    have hsl := strandsM_le (signs := signs) (mate := mate) (lp := lp)
    rw [compM_add hv]
    have H := Lib.hid h
    have CS : ∀ W : World, Below (w.alloc (dbox A ns cs B nm cm lp)).heap.size (w.alloc (dbox A ns cs B nm cm lp)) W → Hid (Calls Try.prog 27 #[dval A ns cs B nm cm lp] W (CycsPost W (strandsM signs mate lp))) := fun W hb =>
      strands_any A B ns cs nm cm lp signs mate W (H.out.keep (below_step hb0 hb))
    generalize strandsM signs mate lp = xss at *
    have hwr : IntKind.i64.wrap ((xss.length : Int) + lp) = (xss.length : Int) + lp := IntWalk.i64_in _ (by omega)
    clear hv hls hlm v1 v2 v3 v4 l1 l2 h
    go_enter Try.func28, Try.ntmps28
    go_upto_region 3 with (go_at_call 16; ((with_reducible refine CV.out.mono ?_); rintro e w1 ⟨rfl, hb1⟩))
    have c0 := (hb1.cell (p := ⟨w.heap.size, 0, none⟩) dlt).trans d0
    have c1 := (hb1.cell (p := ⟨w.heap.size, 1, none⟩) dlt).trans d1
    have c2 := (hb1.cell (p := ⟨w.heap.size, 2, none⟩) dlt).trans d2
    have wlt := Nat.lt_of_lt_of_le dlt hb1.size
    have hbD : Below w1.heap.size w1 w1.drew := (Below.refl _ _).drew
    go_region_held3 (fun w' => w'.cell? ⟨w.heap.size, 0, none⟩ = some (.slice A ns cs) ∧ w'.cell? ⟨w.heap.size, 1, none⟩ = some (.slice B nm cm) ∧ w'.cell? ⟨w.heap.size, 2, none⟩ = some (.int .i64 lp))
      (first
        | go_keep
        | exact ⟨(hbB.cell (p := ⟨w.heap.size, 0, none⟩) wlt).trans c0, (hbB.cell (p := ⟨w.heap.size, 1, none⟩) wlt).trans c1, (hbB.cell (p := ⟨w.heap.size, 2, none⟩) wlt).trans c2⟩)
      (first
        | (go_at_call 27; ((with_reducible refine (CS _ (below_step hb1 hbD)).out.mono ?_); rintro e w2 ⟨v, rfl, hov, hb2⟩; have hbB := below_step hbD hb2; obtain ⟨Av, cv, rfl⟩ := hov.form)))
    go_wp2
    go_ret
    exact ⟨rfl, below_step hb0 (below_step hb1 hbB)⟩

set_option maxHeartbeats 1600000 in
theorem rcomponents_any (A B : Option Addr) (ns cs nm cm : Nat) (lp : Int) (signs mate : List Int) (w : World) (h : DV w A ns B nm signs mate) (hv : validB signs mate lp = true) :
    Calls Try.prog 35 #[dval A ns cs B nm cm lp] w fun e w' => e = .returned (.int .i64 (compM signs mate lp)) ∧ Below w.heap.size w w' := by
  have hd := DB.new w A ns cs B nm cm lp
  obtain ⟨c0, c1, c2, wlt⟩ := hd
  have hb1 := below_alloc w (dbox A ns cs B nm cm lp)
  have hls := h.hs.1
  have hlm := h.hm.1
  obtain ⟨v1, v2, v3, v4⟩ := validB_out hv
  have hcl := out_closed v2 v3 hlm hls
  rw [hls, hlm] at v1
  obtain ⟨l1, l2, l3, l4⟩ := limB_out v1
  have hsl := strandsM_le (signs := signs) (mate := mate) (lp := lp)
  rw [compM_add hv]
  have e : strandsM signs mate lp = cycL (fs (matesOf mate)) nm (outB signs) nm := by simp [strandsM, hv, hlm]
  have HM := matesOf_mates v3 hlm
  have HI := matesOf_invol v3 hlm
  have CS : ∀ W : World, Below w.heap.size w W → Hid (Calls Try.prog 34 #[dval A ns cs B nm cm lp] W (CycsPost W (strandsM signs mate lp))) := fun W hb => by
    rw [e]
    exact rstrands_any A B ns cs nm cm lp signs mate (matesOf mate) W (h.hs.keep hb) l2 (h.hm.keep hb) HM (by rw [l2] at HI ⊢; exact HI.perm 2) (by omega) (hcl l2)
  clear e HM HI hcl
  generalize strandsM signs mate lp = xss at *
  have hwr : IntKind.i64.wrap ((xss.length : Int) + lp) = (xss.length : Int) + lp := IntWalk.i64_in _ (by omega)
  have hbD : Below w.heap.size w (w.alloc (dbox A ns cs B nm cm lp)).drew := hb1.drew
  clear hv hls hlm v1 v2 v3 v4 l1 l2 h hb1
  go_enter Try.func35, Try.ntmps35
  go_upto_region 1 with fail
  generalize w.alloc (dbox A ns cs B nm cm lp) = wA at *
  go_region_held3 (fun w' => w'.cell? ⟨w.heap.size, 0, none⟩ = some (.slice A ns cs) ∧ w'.cell? ⟨w.heap.size, 1, none⟩ = some (.slice B nm cm) ∧ w'.cell? ⟨w.heap.size, 2, none⟩ = some (.int .i64 lp))
    (first
      | go_keep
      | exact ⟨(hb2.cell (p := ⟨w.heap.size, 0, none⟩) wlt).trans c0, (hb2.cell (p := ⟨w.heap.size, 1, none⟩) wlt).trans c1, (hb2.cell (p := ⟨w.heap.size, 2, none⟩) wlt).trans c2⟩)
    (first
      | (go_at_call 34; ((with_reducible refine (CS _ hbD).out.mono ?_); rintro e w2 ⟨v, rfl, hov, hb2⟩; obtain ⟨Av, cv, rfl⟩ := hov.form)))
  go_wp2
  go_ret
  exact ⟨rfl, below_step hbD hb2⟩

def faceM (signs mate : List Int) (lp x : Int) : List Int := if validB signs mate lp = true ∧ 0 ≤ x ∧ x < mate.length then itl (ff (matesOf mate)) x.toNat (per (ff (matesOf mate)) mate.length x.toNat) else []

set_option maxHeartbeats 1600000 in
theorem face_any (A B : Option Addr) (ns cs nm cm : Nat) (lp x : Int) (signs mate : List Int) (w : World) (h : DV w A ns B nm signs mate) (hlo : -9223372036854775808 ≤ x) (hhi : x ≤ 9223372036854775807) :
    Calls Try.prog 24 #[dval A ns cs B nm cm lp, .int .i64 x] w (CycPost w (faceM signs mate lp x)) := by
  have hd := DB.new w A ns cs B nm cm lp
  obtain ⟨d0, d1, d2, dlt⟩ := hd
  have hb0 := below_alloc w (dbox A ns cs B nm cm lp)
  have hls := h.hs.1
  have hlm := h.hm.1
  cases hv : validB signs mate lp with
  | false =>
    have e : faceM signs mate lp x = [] := by simp [faceM, hv]
    rw [e]
    have CV := Lib.hid ((h.keep hb0).valid cs cm lp false hv)
    clear e hv hls hlm
    go_enter Try.func24, Try.ntmps24
    go_wp2_with (go_at_call 16; ((with_reducible refine CV.out.mono ?_); rintro e w1 ⟨rfl, hb1⟩))
    go_ret
    exact ⟨_, rfl, OI.nil _ _, below_step hb0 hb1⟩
  | true =>
    have CV := Lib.hid ((h.keep hb0).valid cs cm lp true hv)
    obtain ⟨v1, v2, v3, v4⟩ := validB_out hv
    rw [hls, hlm] at v1
    obtain ⟨l1, l2, l3, l4⟩ := limB_out v1
    have CH : ∀ W : World, Hid (Calls Try.prog 49 #[dval A ns cs B nm cm lp, .int .i64 x] W fun e w' => e = .returned (.bool (decide (0 ≤ x ∧ x < nm))) ∧ Below W.heap.size W w') := fun W =>
      ishalf_any A B ns cs nm cm lp x W hlo hhi (by omega)
    by_cases hx : 0 ≤ x ∧ x < nm
    · have e : faceM signs mate lp x = itl (ff (matesOf mate)) x.toNat (per (ff (matesOf mate)) nm x.toNat) := by unfold faceM; rw [hlm, if_pos ⟨hv, hx.1, hx.2⟩]
      rw [e]
      have hdx : decide (0 ≤ x ∧ x < nm) = true := by simp [hx]
      obtain ⟨k, rfl⟩ := Int.eq_ofNat_of_zero_le hx.1
      have hk : k < nm := by omega
      rw [hdx] at CH
      have HM := matesOf_mates v3 hlm
      have HI := matesOf_invol v3 hlm
      have HD := Lib.hid (DB.new w A ns cs B nm cm lp)
      have CC : ∀ w1 : World, Below (w.alloc (dbox A ns cs B nm cm lp)).heap.size (w.alloc (dbox A ns cs B nm cm lp)) w1 →
          Hid (Calls Try.prog 51 #[.int .i64 (k : Nat), .func (.func 52) #[] #[.pointer (some ⟨w.heap.size, 0, none⟩)]] w1 (CycPost w1 (itl (ff (matesOf mate)) k (per (ff (matesOf mate)) nm k)))) := fun w1 hb1 =>
        cycle_any 52 w.heap.size k nm (ff (matesOf mate)) w1 enters52
          (next52 A B ns cs nm cm w.heap.size lp mate (matesOf mate) w1 (HD.out.keep hb1) (h.hm.keep (below_step hb0 hb1)) HM (by omega)) (by rw [l2] at HI ⊢; exact HI.perm 3) hk (by omega)
      have hkk : (k : Int).toNat = k := by simp
      rw [hkk]
      clear e hv hls hlm v1 v2 v3 v4 l2 hx hdx HM HI h hkk
      go_enter Try.func24, Try.ntmps24
      have hmf : ∀ (fn : Fn) (first cap : Array Value) (w : World), (Instr.makeFunc fn first cap).run Try.prog w = .ok (.func fn first cap) w := fun _ _ _ _ => rfl
      go_wp2_with (first
        | (go_at_call 16; ((with_reducible refine CV.out.mono ?_); rintro e w1 ⟨rfl, hb1⟩; have d0' := (hb1.cell (p := ⟨w.heap.size, 0, none⟩) dlt).trans d0; have d1' := (hb1.cell (p := ⟨w.heap.size, 1, none⟩) dlt).trans d1; have d2' := (hb1.cell (p := ⟨w.heap.size, 2, none⟩) dlt).trans d2))
        | (go_at_call 49; ((with_reducible refine (CH _).out.mono ?_); rintro e w2 ⟨rfl, hb2⟩))
        | (go_at_call 51; ((with_reducible refine (CC _ (below_step hb1 hb2)).out.mono ?_); rintro e w3 ⟨v, rfl, hov, hb3⟩)))
      go_ret
      have hb02 := below_step hb0 (below_step hb1 hb2)
      exact ⟨_, rfl, hov.mono hb02.size, below_step hb02 hb3⟩
    · have e : faceM signs mate lp x = [] := by unfold faceM; rw [hlm, if_neg (fun q => hx q.2)]
      rw [e]
      have hdx : decide (0 ≤ x ∧ x < nm) = false := by simp only [decide_eq_false_iff_not]; exact hx
      rw [hdx] at CH
      clear e hv hls hlm v1 v2 v3 v4 l2 hx hdx h
      go_enter Try.func24, Try.ntmps24
      go_wp2_with (first
        | (go_at_call 16; ((with_reducible refine CV.out.mono ?_); rintro e w1 ⟨rfl, hb1⟩; have d0' := (hb1.cell (p := ⟨w.heap.size, 0, none⟩) dlt).trans d0; have d1' := (hb1.cell (p := ⟨w.heap.size, 1, none⟩) dlt).trans d1; have d2' := (hb1.cell (p := ⟨w.heap.size, 2, none⟩) dlt).trans d2))
        | (go_at_call 49; ((with_reducible refine (CH _).out.mono ?_); rintro e w2 ⟨rfl, hb2⟩)))
      go_ret
      exact ⟨_, rfl, OI.nil _ _, below_step hb0 (below_step hb1 hb2)⟩

end Go.Proofs.Ytnehhicfepkdfaa
