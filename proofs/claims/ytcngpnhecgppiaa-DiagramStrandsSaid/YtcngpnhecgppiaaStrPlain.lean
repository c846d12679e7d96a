/- Plain facts of the strands of a valid diagram: the rows, their lengths together, their components. -/
import Derived.Test.YtcngpnhecgppiaaDv
import Derived.Test.YtcngpnhecgppiaaFlatPlain
import Derived.Test.YtcngpnhecgppiaaHuePlain
import Derived.Test.YtcngpnhecgppiaaOutW
namespace Go.Proofs.Ytcngpnhecgppiaa
open Go.RowKit

theorem count_out {s : List Int} {n : Nat} (h : sgnsB s = true) (hl : s.length = n) : (List.range (4 * n)).countP (outB s) = 2 * n := by
  refine count_two _ n fun c hc => ?_
  have hg := (sgnsB_iff _).1 h c (by omega)
  have e0 : outB s (4 * c) = false := by unfold outB; rw [show 4 * c % 4 = 0 by omega]; simp
  have e1 : outB s (4 * c + 1) = (s.getD c 0 == 1) := by unfold outB; rw [show (4 * c + 1) % 4 = 1 by omega, show (4 * c + 1) / 4 = c by omega]; simp
  have e2 : outB s (4 * c + 2) = true := by unfold outB; rw [show (4 * c + 2) % 4 = 2 by omega]; simp
  have e3 : outB s (4 * c + 3) = (s.getD c 0 == -1) := by unfold outB; rw [show (4 * c + 3) % 4 = 3 by omega, show (4 * c + 3) / 4 = c by omega]; simp
  have hr : List.range 4 = [0, 1, 2, 3] := rfl
  rw [hr]
  simp only [List.countP_cons, List.countP_nil, Nat.add_zero, e0, e1, e2, e3]
  unfold sgB at hg
  simp only [Bool.or_eq_true, beq_iff_eq] at hg
  rcases hg with e | e <;> rw [e] <;> rfl

structure StRow (f F : Nat → Nat) (nm : Nat) (s m : List Int) (R : Nat) : Prop where
  lt : R < nm
  out : ∀ j, outB s (it f j R) = true
  gt : ∀ j, 0 < j → j < per f nm R → R < it f j R
  lab : ∀ j, F (it f j R / 4) = F (R / 4)
  itlt : ∀ j, it f j R < nm
  ple : per f nm R ≤ 256
  back : it f (per f nm R) R = R
  next : ∀ j, it f (j + 1) R = trn (matesOf m (it f j R)) 2
structure StF (f F : Nat → Nat) (ns nm : Nat) (s m : List Int) (lp : Int) : Prop where
  n4 : nm = 4 * ns
  le : ns ≤ 64
  p : Perm f nm
  len : (strandsM s m lp).length = (reprs f nm (outB s)).length
  kle : (reprs f nm (outB s)).length ≤ 256
  row : ∀ k, k < (reprs f nm (outB s)).length → (strandsM s m lp).getD k [] = itl f ((reprs f nm (outB s)).getD k 0) (per f nm ((reprs f nm (outB s)).getD k 0)) ∧ StRow f F nm s m ((reprs f nm (outB s)).getD k 0)
  mates : ∀ h, h < nm → mt m h = (matesOf m h : Nat) ∧ matesOf m h < nm
  tot : totR (strandsM s m lp) (strandsM s m lp).length = 2 * ns
  totle : ∀ k, k ≤ (reprs f nm (outB s)).length → totR (strandsM s m lp) k ≤ 256 * k
  graph : graphM s m lp = graphL F ns
  fle : ∀ b, F b ≤ b
  fid : ∀ b, F (F b) = F b
  v : validB s m lp = true
  lm : m.length = nm
theorem strand_facts {s m : List Int} {lp : Int} {ns nm : Nat} (hv : validB s m lp = true) (hls : s.length = ns) (hlm : m.length = nm) : StF (fs (matesOf m)) (labM m) ns nm s m lp := by
  obtain ⟨v1, v2, v3, v4⟩ := validB_out hv
  obtain ⟨l1, l2, l3, l4⟩ := limB_out v1
  have hn4 : nm = 4 * ns := by omega
  have hi : Invol (matesOf m) (4 * ns) := by have := matesOf_invol v3 (nm := 4 * ns) (by omega); exact this
  have hP : Perm (fs (matesOf m)) nm := by rw [hn4]; exact hi.perm 2
  have hcl : ClosedN (fs (matesOf m)) nm (outB s) := fun h hh ho => out_closed v2 v3 hlm hls hn4 h hh ho
  have eS : strandsM s m lp = cycL (fs (matesOf m)) nm (outB s) nm := by unfold strandsM; rw [if_pos hv, hlm]
  have hlab : IsLab (matesOf m) nm ns (labM m) := by unfold labM; rw [hlm]; exact ufLab_isLab _ _ _
  have hkl : (reprs (fs (matesOf m)) nm (outB s)).length ≤ nm := Nat.le_trans (List.length_filter_le _ _) (by simp)
  refine ⟨hn4, by omega, hP, by rw [eS, cycL_len], by omega, fun k hk => ?_, fun h hh => matesOf_mates v3 hlm h hh, ?_, ?_, ?_, labM_le m, labM_idem m, hv, hlm⟩
  · obtain ⟨h1, h2⟩ := cycL_get (fs (matesOf m)) nm (outB s) (i := k) (by rw [cycL_len]; exact hk)
    rw [eS]
    refine ⟨h2, ?_⟩
    generalize (reprs (fs (matesOf m)) nm (outB s)).getD k 0 = R at h1
    obtain ⟨r1, r2⟩ := reprs_mem.1 h1
    obtain ⟨r3, r4⟩ := (hP.sel_iff _ r1).1 r2
    have hps := hP.per_spec r1
    refine ⟨r1, fun j => hcl.it hP r1 r3 j, fun j h0 hj => ?_, fun j => ?_, fun j => hP.it_lt r1 j, by omega, hps.1, fun j => rfl⟩
    · have hne := hps.2.2 j h0 hj
      rcases Nat.lt_trichotomy R (it (fs (matesOf m)) j R) with e | e | e
      · exact e
      · exact absurd e.symm hne
      · exact absurd (hP.orb_symm r1 ⟨j, rfl⟩) (r4 _ e (hcl.it hP r1 r3 j))
    · induction j with
      | zero => rfl
      | succ j ih =>
        have h3 := hP.it_lt r1 j
        have h4 : it (fs (matesOf m)) (j + 1) R / 4 = matesOf m (it (fs (matesOf m)) j R) / 4 := by
          show trn (matesOf m (it (fs (matesOf m)) j R)) 2 / 4 = _
          exact trn_div _ _
        rw [h4, ← hlab.2 _ h3, ih]
  · rw [eS, totR_all hP hcl, hn4]
    exact count_out v2 hls
  · intro k
    induction k with
    | zero => intro _; rw [totR_zero]; omega
    | succ k ih =>
      intro hk
      have h0 := ih (by omega)
      have hk' : k < (strandsM s m lp).length := by rw [eS, cycL_len]; omega
      rw [totR_succ hk', eS] at *
      obtain ⟨h1, h2⟩ := cycL_get (fs (matesOf m)) nm (outB s) (i := k) (by rw [cycL_len]; omega)
      rw [h2, itl_length]
      have := (hP.per_spec (reprs_mem.1 h1).1).2.1
      omega
  · unfold graphM; rw [if_pos hv, hls]

end Go.Proofs.Ytcngpnhecgppiaa
