/- Plain mathematics: a renumbered diagram is drawn on spheres as the given one is. -/
import Derived.Test.YtcllnoigppkjiaaRenPlain
namespace Go.Proofs.Ytcllnoigppkjiaa

theorem conn_conj {m m' T t : Nat → Nat} {N : Nat} (hT : ∀ x, x < N → T x < N ∧ m' (T x) = T (m x) ∧ T x / 4 = t (x / 4)) (hm : ∀ x, x < N → m x < N) {a b : Nat} (h : Conn m N a b) : Conn m' N (t a) (t b) := by
  induction h with
  | refl => exact .refl _
  | step x hx _ ih =>
    obtain ⟨h1, h2, h3⟩ := hT x hx
    have h4 := (hT (m x) (hm x hx)).2.2
    rw [← h3] at ih
    have := Conn.step (m := m') (T x) h1 ih
    rw [h2, h4] at this
    exact this
  | back x hx _ ih =>
    obtain ⟨h1, h2, h3⟩ := hT x hx
    have h4 := (hT (m x) (hm x hx)).2.2
    rw [← h4, ← h2] at ih
    have := Conn.back (m := m') (T x) h1 ih
    rw [h3] at this
    exact this
theorem IsLab.iff {m : Nat → Nat} {N n : Nat} {F : Nat → Nat} (h : IsLab m N n F) {a b : Nat} (ha : a < n) (hb : b < n) : F a = F b ↔ Conn m N a b :=
  ⟨fun e => by
    have h1 := (h.1 a ha).2
    rw [e] at h1
    exact h1.trans (h.1 b hb).2.symm, h.conn⟩
theorem sel_closed {f : Nat → Nat} {N : Nat} {p : Nat → Bool} (q : Perm f N) (c : ClosedN f N p) {h : Nat} (hh : h < N) : sel f N p h = (fst f N h && p h) := by
  rw [Bool.eq_iff_iff, Bool.and_eq_true, q.sel_iff p hh, q.fst_iff hh]
  constructor
  · rintro ⟨h1, h2⟩
    refine ⟨fun h' hlt o => h2 h' hlt ?_ o, h1⟩
    obtain ⟨i, e⟩ := q.orb_symm (by omega) o
    rw [← e]; exact c.it q hh h1 i
  · rintro ⟨h1, h2⟩
    exact ⟨h2, fun h' hlt _ o => h1 h' hlt o⟩
theorem cntF_reprs {f F : Nat → Nat} {N l : Nat} (q : Perm f N) (c : ClosedN f N (fun h => F (h / 4) == l)) : cntF F f N N l = (reprs f N (fun h => F (h / 4) == l)).length := by
  unfold cntF reprs
  rw [List.countP_eq_length_filter]
  congr 1
  exact (List.filter_congr fun x hx => by rw [sel_closed q c (by simpa using hx)]).symm

section
variable {o : List Int} {n : Nat} {m m' : Nat → Nat}
/-- The mates of the renumbered diagram. -/
structure Ren (o : List Int) (n : Nat) (m m' : Nat → Nat) : Prop where
  ord : IsOrd o n
  inv : Invol m (4 * n)
  eq : ∀ x, x < 4 * n → m' x = newH o n (m (wasH o x))
theorem Ren.at (r : Ren o n m m') {x : Nat} (hx : x < 4 * n) : m' (newH o n x) = newH o n (m x) := by rw [r.eq _ (newH_lt r.ord hx), wasH_new r.ord hx]
theorem Ren.inv' (r : Ren o n m m') : Invol m' (4 * n) :=
  ⟨fun x hx => by rw [r.eq x hx]; exact newH_lt r.ord (r.inv.lt _ (wasH_lt r.ord hx)), fun x hx => by
    have h1 := r.inv.lt _ (wasH_lt r.ord hx)
    rw [r.eq x hx, r.at h1, r.inv.inv _ (wasH_lt r.ord hx), newH_was r.ord hx]⟩
theorem newH_trn (s x : Nat) : newH o n (trn x s) = trn (newH o n x) s := by
  have h1 : trn x s / 4 = x / 4 := trn_div x s
  have h2 : trn x s % 4 = (x % 4 + s) % 4 := by unfold trn; omega
  have h3 : newH o n x % 4 = x % 4 := by unfold newH; omega
  unfold newH at *
  rw [h1, h2]
  unfold trn
  rw [h3]; omega
theorem Ren.step (r : Ren o n m m') (s : Nat) {x : Nat} (hx : x < 4 * n) : trn (m' (newH o n x)) s = newH o n (trn (m x) s) := by rw [r.at hx, newH_trn]
theorem Ren.lab (r : Ren o n m m') {a b : Nat} (ha : a < n) (hb : b < n) : ufLab m (4 * n) a = ufLab m (4 * n) b ↔ ufLab m' (4 * n) (invN o n a) = ufLab m' (4 * n) (invN o n b) := by
  have qa := (ord_invN r.ord ha)
  have qb := (ord_invN r.ord hb)
  rw [(ufLab_isLab m (4 * n) n).iff ha hb, (ufLab_isLab m' (4 * n) n).iff qa.2 qb.2]
  constructor
  · exact conn_conj (T := newH o n) (fun x hx => ⟨newH_lt r.ord hx, r.at hx, by unfold newH; omega⟩) (fun x hx => r.inv.lt x hx)
  · intro h
    have := conn_conj (m := m') (m' := m) (T := wasH o) (t := ordN o) (fun x hx => ⟨wasH_lt r.ord hx, by
      rw [r.eq x hx, wasH_new r.ord (r.inv.lt _ (wasH_lt r.ord hx))], by unfold wasH; omega⟩) (fun x hx => r.inv'.lt x hx) h
    rw [qa.1, qb.1] at this
    exact this
theorem closed_lab {m : Nat → Nat} {n : Nat} (s l : Nat) : ClosedN (fun x => trn (m x) s) (4 * n) (fun h => ufLab m (4 * n) (h / 4) == l) := fun h hh e => by
  have := (ufLab_isLab m (4 * n) n).2 h hh
  simp only [trn_div, ← this]
  exact e
theorem Ren.sph (r : Ren o n m m') (h : sphB (ufLab m (4 * n)) (fun x => trn (m x) 3) (4 * n) n = true) : sphB (ufLab m' (4 * n)) (fun x => trn (m' x) 3) (4 * n) n = true := by
  rw [sphB_iff] at h ⊢
  intro c hc
  obtain ⟨a, ha, rfl⟩ := (invN_perm r.ord).onto hc
  have h0 := h a ha
  rw [cntF_reprs (r.inv.perm 3) (closed_lab 3 _)] at h0
  rw [cntF_reprs (r.inv'.perm 3) (closed_lab 3 _)]
  have e1 := reprs_conj (r.inv.perm 3) (r.inv'.perm 3) (newH_perm r.ord) (fun x hx => r.step 3 hx) (p := fun h => ufLab m (4 * n) (h / 4) == ufLab m (4 * n) a) (p' := fun h => ufLab m' (4 * n) (h / 4) == ufLab m' (4 * n) (invN o n a)) (fun x hx => by
    have e : newH o n x / 4 = invN o n (x / 4) := by unfold newH; omega
    rw [Bool.eq_iff_iff, e]
    simp only [beq_iff_eq]
    exact (r.lab (by omega) ha).symm) (closed_lab 3 _) (closed_lab 3 _)
  have e2 : cntV (ufLab m' (4 * n)) n (ufLab m' (4 * n) (invN o n a)) = cntV (ufLab m (4 * n)) n (ufLab m (4 * n) a) := by
    unfold cntV
    rw [List.countP_eq_length_filter, List.countP_eq_length_filter]
    have := (filter_map_perm (invN_perm r.ord) (p := fun c => ufLab m (4 * n) c == ufLab m (4 * n) a) (p' := fun c => ufLab m' (4 * n) c == ufLab m' (4 * n) (invN o n a)) fun x hx => by
      rw [Bool.eq_iff_iff]
      simp only [beq_iff_eq]
      exact (r.lab hx ha).symm).length_eq
    rw [List.length_map] at this
    exact this
  rw [← e1, e2]; exact h0
end

end Go.Proofs.Ytcllnoigppkjiaa
