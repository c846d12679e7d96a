import Derived.Test.YtkfjledhnakfoaaA06
/- Plain mathematics: in a diagram that is drawn on spheres the two sides of an edge are different faces. -/
namespace Go.Proofs.Ytkfjledhnakfoaa

theorem Cnt.all (n : Nat) (p : Nat → Prop) (h : ∀ x, x < n → p x) : Cnt p n n := by
  induction n with
  | zero => exact .zero
  | succ n ih => exact .yes (h n (by omega)) (ih fun x hx => h x (by omega))

def mmx (m : Nat → Nat) (N x : Nat) : Nat := if x < N then m x else x
theorem mmx_lt {m : Nat → Nat} {N x : Nat} (hx : x < N) : mmx m N x = m x := by simp [mmx, hx]
theorem mmx_mmx {m : Nat → Nat} {N : Nat} (i : Invol m N) (x : Nat) : mmx m N (mmx m N x) = x := by
  by_cases hx : x < N
  · rw [mmx_lt hx, mmx_lt (i.lt x hx), i.inv x hx]
  · have : mmx m N x = x := by simp [mmx, hx]
    rw [this, this]
theorem mmx_N {m : Nat → Nat} {N x : Nat} (i : Invol m N) (hx : x < N) : mmx m N x < N := by rw [mmx_lt hx]; exact i.lt x hx
/-- The edges whose lower end lies below k, without the edges E. -/
def mk (m : Nat → Nat) (N : Nat) (E : Nat → Bool) (k x : Nat) : Nat := if min x (mmx m N x) < k ∧ E (min x (mmx m N x)) = false then mmx m N x else x
def phi (m : Nat → Nat) (N : Nat) (E : Nat → Bool) (k : Nat) : Nat → Nat := fun x => trn (mk m N E k x) 3
theorem mk_step {m : Nat → Nat} {N k : Nat} {E : Nat → Bool} (i : Invol m N) (h1 : k < mmx m N k) (h2 : E k = false) (x : Nat) : mk m N E (k + 1) x = mk m N E k (sw k (mmx m N k) x) := by
  have hb := mmx_mmx i k
  by_cases e1 : x = k
  · subst e1
    rw [sw_left]
    have l1 : min x (mmx m N x) = x := by omega
    have l2 : min (mmx m N x) (mmx m N (mmx m N x)) = x := by rw [hb]; omega
    unfold mk
    rw [l1, l2, if_pos ⟨by omega, h2⟩, if_neg (fun q => by have := q.1; omega)]
  · by_cases e2 : x = mmx m N k
    · rw [e2, sw_right]
      have l1 : min k (mmx m N k) = k := by omega
      have l2 : min (mmx m N k) (mmx m N (mmx m N k)) = k := by rw [hb]; omega
      unfold mk
      rw [l1, l2, if_pos ⟨by omega, h2⟩, if_neg (fun q => by have := q.1; omega), hb]
    · rw [sw_other e1 e2]
      have hne : min x (mmx m N x) ≠ k := fun q => by
        by_cases hle : x ≤ mmx m N x
        · exact e1 (by omega)
        · have : mmx m N x = k := by omega
          exact e2 (by rw [← this, mmx_mmx i])
      unfold mk
      by_cases hc : min x (mmx m N x) < k ∧ E (min x (mmx m N x)) = false
      · rw [if_pos hc, if_pos ⟨by omega, hc.2⟩]
      · rw [if_neg hc, if_neg (fun q => hc ⟨by omega, q.2⟩)]
theorem mk_stay {m : Nat → Nat} {N k : Nat} {E : Nat → Bool} (i : Invol m N) (h : ¬ (k < mmx m N k ∧ E k = false)) (x : Nat) : mk m N E (k + 1) x = mk m N E k x := by
  by_cases hl : min x (mmx m N x) = k
  · by_cases hk : E k = true
    · unfold mk; rw [hl, hk]; simp
    · replace hk : E k = false := by simpa using hk
      have hnot : ¬ k < mmx m N k := fun q => h ⟨q, hk⟩
      have hx : mmx m N x = x := by
        by_cases hle : x ≤ mmx m N x
        · have : x = k := by omega
          subst this; omega
        · have h1 : mmx m N x = k := by omega
          have h2 : mmx m N k = x := by rw [← h1, mmx_mmx i]
          omega
      unfold mk; rw [hx]; simp
  · unfold mk
    by_cases hc : min x (mmx m N x) < k ∧ E (min x (mmx m N x)) = false
    · rw [if_pos hc, if_pos ⟨by omega, hc.2⟩]
    · rw [if_neg hc, if_neg (fun q => hc ⟨by omega, q.2⟩)]

structure Grown (m : Nat → Nat) (n : Nat) (E : Nat → Bool) (k : Nat) (C : Nat → Nat → Prop) (F c t : Nat) : Prop where
  perm : Perm (phi m (4 * n) E k) (4 * n)
  eqv : Eqv C (4 * n)
  sub : ∀ x y, RO' (phi m (4 * n) E k) (4 * n) x y → C x y
  cross : ∀ x y, x < 4 * n → y < 4 * n → x / 4 = y / 4 → C x y
  edge : ∀ x, x < 4 * n → min x (mmx m (4 * n) x) < k → E (min x (mmx m (4 * n) x)) = false → C x (mmx m (4 * n) x)
  gen : ∀ D, Eqv D (4 * n) → (∀ x y, x < 4 * n → y < 4 * n → x / 4 = y / 4 → D x y) → (∀ x, x < 4 * n → D x (mmx m (4 * n) x)) → ∀ x y, C x y → D x y
  faces : Cls (RO' (phi m (4 * n) E k) (4 * n)) (4 * n) F
  parts : Cls C (4 * n) c
  edges : Cnt (fun x => x < mmx m (4 * n) x ∧ E x = false) k t
  euler : F + n ≤ 2 * c + t
  defect : ∃ d, F + n + 2 * d = 2 * c + t

theorem orb_trn3 {g x : Nat} (h : Orb (fun x => trn x 3) g x) : g / 4 = x / 4 := by
  obtain ⟨i, rfl⟩ := h
  induction i with
  | zero => rfl
  | succ i ih => show _ = trn (it _ i g) 3 / 4; rw [trn_div]; exact ih
theorem grown_zero (m : Nat → Nat) (n : Nat) (E : Nat → Bool) : Grown m n E 0 (fun x y => x < 4 * n ∧ y < 4 * n ∧ x / 4 = y / 4) n n 0 := by
  have hphi : phi m (4 * n) E 0 = fun x => trn x 3 := by funext x; simp [phi, mk]
  have hfour : Cnt (fun x => x % 4 = 0 ∧ True) (4 * n) n := (Cnt.all n (fun _ => True) (fun _ _ => trivial)).firsts
  have hp : Perm (fun x => trn x 3) (4 * n) := ⟨fun h hh => trn_lt hh, fun h g _ _ e => trn_inj e⟩
  refine ⟨by rw [hphi]; exact hp, ⟨fun x y h => ⟨h.1, h.2.1⟩, fun x hx => ⟨hx, hx, rfl⟩, fun x y h => ⟨h.2.1, h.1, h.2.2.symm⟩, fun x y z h k => ⟨h.1, k.2.1, h.2.2.trans k.2.2⟩⟩, ?_, fun x y hx hy e => ⟨hx, hy, e⟩, fun x _ h => absurd h (by omega), fun D _ h2 _ x y h => h2 x y h.1 h.2.1 h.2.2, ?_, ?_, .zero, by omega, 0, by omega⟩
  · rw [hphi]
    rintro x y ⟨hx, o⟩
    exact ⟨hx, by obtain ⟨i, e⟩ := o; rw [← e]; exact hp.it_lt hx i, orb_trn3 o⟩
  · rw [hphi]
    refine hfour.congr fun x hx => ⟨fun h g hg o => ?_, fun h => ⟨?_, trivial⟩⟩
    · have := orb_trn3 o.2; omega
    · by_cases h0 : x % 4 = 0
      · exact h0
      · refine absurd ⟨by omega, ?_⟩ (h (x - x % 4) (by omega))
        have hr : x % 4 = 3 ∨ x % 4 = 2 ∨ x % 4 = 1 := by omega
        rcases hr with e | e | e
        · exact ⟨1, by show trn (x - x % 4) 3 = x; unfold trn; omega⟩
        · exact ⟨2, by show trn (trn (x - x % 4) 3) 3 = x; unfold trn; omega⟩
        · exact ⟨3, by show trn (trn (trn (x - x % 4) 3) 3) 3 = x; unfold trn; omega⟩
  · refine hfour.congr fun x hx => ⟨fun h g hg o => ?_, fun h => ⟨?_, trivial⟩⟩
    · have := o.2.2; omega
    · by_cases h0 : x % 4 = 0
      · exact h0
      · exact absurd ⟨by omega, hx, by omega⟩ (h (x - x % 4) (by omega))
theorem cls_congr {R S : Nat → Nat → Prop} {N k : Nat} (h : Cls R N k) (e : ∀ x y, R x y ↔ S x y) : Cls S N k :=
  Cnt.congr h fun _ _ => ⟨fun q g hg hs => q g hg ((e _ _).2 hs), fun q g hg hs => q g hg ((e _ _).1 hs)⟩
theorem grown_succ {m : Nat → Nat} {n k F c t : Nat} {E : Nat → Bool} {C : Nat → Nat → Prop} (i : Invol m (4 * n)) (hfix : ∀ x, x < 4 * n → m x ≠ x) (h : Grown m n E k C F c t) : ∃ C' F' c' t', Grown m n E (k + 1) C' F' c' t' := by
  by_cases hc : k < mmx m (4 * n) k ∧ E k = false
  · obtain ⟨h1, h2⟩ := hc
    have hk : k < 4 * n := by
      by_cases hk : k < 4 * n
      · exact hk
      · have : mmx m (4 * n) k = k := by simp [mmx, hk]
        omega
    have hb := mmx_N i hk
    have hphi : phi m (4 * n) E (k + 1) = swf (phi m (4 * n) E k) k (mmx m (4 * n) k) := by funext x; unfold phi swf; rw [mk_step i h1 h2]
    generalize hbb : mmx m (4 * n) k = b at *
    obtain ⟨F', hF'⟩ := Cnt.ex (fun x => ∀ g, g < x → ¬ RO' (phi m (4 * n) E (k + 1)) (4 * n) g x) (4 * n)
    obtain ⟨c', hc'⟩ := Cnt.ex (fun x => ∀ g, g < x → ¬ Merge C k b g x) (4 * n)
    have hsub : ∀ x y, RO' (phi m (4 * n) E (k + 1)) (4 * n) x y → Merge C k b x y := by
      intro x y hr
      rw [hphi] at hr
      by_cases ho : Orb (phi m (4 * n) E k) k b
      · have hsp := h.perm.split hk (by omega) ho
        have hps := h.perm.swf hk hb
        have hns : ¬ Orb (swf (phi m (4 * n) E k) k b) k b := fun q => hsp (hps.orb_symm hk q)
        have hm := (hps.merge hk hb hns x y).2 (.inl hr)
        rw [swf_swf] at hm
        exact .inl (h.sub x y hm)
      · rcases (h.perm.merge hk hb ho x y).1 hr with q | ⟨q1, q2⟩ | ⟨q1, q2⟩
        · exact .inl (h.sub _ _ q)
        · exact .inr (.inl ⟨h.sub _ _ q1, h.sub _ _ q2⟩)
        · exact .inr (.inr ⟨h.sub _ _ q1, h.sub _ _ q2⟩)
    have hde : ∃ d, F' + n + 2 * d = 2 * c' + (t + 1) := by
      have hcc : C k b → c' = c := fun q => Cnt.uniq hc' (cls_congr h.parts fun x y => (Merge.same h.eqv q).symm)
      have hcn : ¬ C k b → c = c' + 1 := fun q => cls_merge h.eqv hk hb q h.parts hc'
      obtain ⟨d, heu⟩ := h.defect
      by_cases ho : Orb (phi m (4 * n) E k) k b
      · have hsp := h.perm.split hk (by omega) ho
        have hps := h.perm.swf hk hb
        have hns : ¬ Orb (swf (phi m (4 * n) E k) k b) k b := fun q => hsp (hps.orb_symm hk q)
        have hCab := h.sub k b ⟨hk, ho⟩
        have e1 : F' = F + 1 := by
          rw [hphi] at hF'
          refine cls_merge hps.eqv hk hb (fun q => hns q.2) hF' (cls_congr h.faces fun x y => ?_)
          have := hps.merge hk hb hns x y
          rw [swf_swf] at this
          exact this
        have := hcc hCab
        exact ⟨d, by omega⟩
      · have e1 : F = F' + 1 := by
          rw [hphi] at hF'
          exact cls_merge h.perm.eqv hk hb (fun q => ho q.2) h.faces (cls_congr hF' fun x y => h.perm.merge hk hb ho x y)
        by_cases hC : C k b
        · have := hcc hC; exact ⟨d + 1, by omega⟩
        · have := hcn hC; exact ⟨d, by omega⟩
    refine ⟨Merge C k b, F', c', t + 1, by rw [hphi]; exact h.perm.swf hk hb, Merge.eqv h.eqv, hsub, fun x y hx hy e => .inl (h.cross x y hx hy e), fun x hx hl hne => ?_, fun D hD d1 d2 x y hm => ?_, hF', hc', .yes ⟨by rw [hbb]; exact h1, h2⟩ h.edges, by obtain ⟨d, hd⟩ := hde; omega, hde⟩
    · by_cases hlk : min x (mmx m (4 * n) x) < k
      · exact .inl (h.edge x hx hlk hne)
      · by_cases hle : x ≤ mmx m (4 * n) x
        · have : x = k := by omega
          subst this
          rw [hbb]
          exact .inr (.inl ⟨h.eqv.refl _ hk, h.eqv.refl _ hb⟩)
        · have e1 : mmx m (4 * n) x = k := by omega
          have e2 : x = b := by rw [← hbb, ← e1, mmx_mmx i]
          rw [e1, e2]
          exact .inr (.inr ⟨h.eqv.refl _ hb, h.eqv.refl _ hk⟩)
    · have hab : D k b := by have := d2 k hk; rw [hbb] at this; exact this
      rcases hm with q | ⟨q1, q2⟩ | ⟨q1, q2⟩
      · exact h.gen D hD d1 d2 x y q
      · exact hD.trans _ _ _ (h.gen D hD d1 d2 _ _ q1) (hD.trans _ _ _ hab (h.gen D hD d1 d2 _ _ q2))
      · exact hD.trans _ _ _ (h.gen D hD d1 d2 _ _ q1) (hD.trans _ _ _ (hD.symm _ _ hab) (h.gen D hD d1 d2 _ _ q2))
  · have hphi : phi m (4 * n) E (k + 1) = phi m (4 * n) E k := by funext x; unfold phi; rw [mk_stay i hc]
    refine ⟨C, F, c, t, by rw [hphi]; exact h.perm, h.eqv, by rw [hphi]; exact h.sub, h.cross, fun x hx hl hne => ?_, h.gen, by rw [hphi]; exact h.faces, h.parts, .no hc h.edges, h.euler, h.defect⟩
    by_cases hlk : min x (mmx m (4 * n) x) < k
    · exact h.edge x hx hlk hne
    · exfalso
      have hfx := hfix x hx
      have hxx := mmx_lt (m := m) hx
      by_cases hle : x ≤ mmx m (4 * n) x
      · have : x = k := by omega
        subst this
        have hmn : min x (mmx m (4 * n) x) = x := by omega
        rw [hmn] at hne
        exact hc ⟨by omega, hne⟩
      · have e1 : mmx m (4 * n) x = k := by omega
        have e2 : mmx m (4 * n) k = x := by rw [← e1, mmx_mmx i]
        have hmn : min x (mmx m (4 * n) x) = k := by omega
        rw [hmn] at hne
        exact hc ⟨by omega, hne⟩
theorem grown_all {m : Nat → Nat} {n : Nat} (E : Nat → Bool) (i : Invol m (4 * n)) (hfix : ∀ x, x < 4 * n → m x ≠ x) (k : Nat) : ∃ C F c t, Grown m n E k C F c t := by
  induction k with
  | zero => exact ⟨_, _, _, _, grown_zero m n E⟩
  | succ k ih =>
    obtain ⟨C, F, c, t, h⟩ := ih
    exact grown_succ i hfix h

theorem it_congr {f g : Nat → Nat} {N : Nat} (p : Perm f N) (e : ∀ x, x < N → f x = g x) {x : Nat} (hx : x < N) (i : Nat) : it f i x = it g i x := by
  induction i with
  | zero => rfl
  | succ i ih => show f _ = g _; rw [← ih, e _ (p.it_lt hx i)]
/-- The two sides of an edge are different faces. -/
theorem sides {m : Nat → Nat} {n Ff c : Nat} {D : Nat → Nat → Prop} (i : Invol m (4 * n)) (hfix : ∀ x, x < 4 * n → m x ≠ x) (hD : Eqv D (4 * n))
    (hcross : ∀ x y, x < 4 * n → y < 4 * n → x / 4 = y / 4 → D x y) (hedge : ∀ x, x < 4 * n → D x (m x))
    (hmin : ∀ C, Eqv C (4 * n) → (∀ x y, x < 4 * n → y < 4 * n → x / 4 = y / 4 → C x y) → (∀ x, x < 4 * n → C x (m x)) → ∀ x y, D x y → C x y)
    (hF : Cls (RO' (fun x => trn (m x) 3) (4 * n)) (4 * n) Ff) (hc : Cls D (4 * n) c) (hsph : Ff = n + 2 * c) (h : Nat) (hh : h < 4 * n) : ¬ Orb (fun x => trn (m x) 3) h (m h) := by
  intro ho
  have pf : Perm (fun x => trn (m x) 3) (4 * n) := i.perm 3
  obtain ⟨e, b, he, hb, hlt, hmb, hme, hoe⟩ : ∃ e b, e < 4 * n ∧ b < 4 * n ∧ e < b ∧ m e = b ∧ m b = e ∧ Orb (fun x => trn (m x) 3) e b := by
    have h1 := i.lt h hh
    have h2 := i.inv h hh
    by_cases q : h < m h
    · exact ⟨h, m h, hh, h1, q, rfl, h2, ho⟩
    · exact ⟨m h, h, h1, hh, by have := hfix h hh; omega, h2, rfl, pf.orb_symm hh ho⟩
  obtain ⟨E, hE⟩ : ∃ E : Nat → Bool, ∀ x, E x = false ↔ x ≠ e := ⟨fun x => x == e, fun x => by simp⟩
  obtain ⟨C, F, c', t, g⟩ := grown_all E i hfix (4 * n)
  have hxe := mmx_lt (m := m) he
  have hxb := mmx_lt (m := m) hb
  rw [hmb] at hxe
  rw [hme] at hxb
  -- every half-edge of another edge
  have hlo : ∀ x, x < 4 * n → x ≠ e → x ≠ b → min x (mmx m (4 * n) x) < 4 * n ∧ E (min x (mmx m (4 * n) x)) = false := fun x hx n1 n2 => by
    refine ⟨by omega, (hE _).2 fun q => ?_⟩
    by_cases hle : x ≤ mmx m (4 * n) x
    · omega
    · have e1 : mmx m (4 * n) x = e := by omega
      have e2 : mmx m (4 * n) e = x := by rw [← e1, mmx_mmx i]
      omega
  have hfull : ∀ x, x < 4 * n → trn (m x) 3 = swf (phi m (4 * n) E (4 * n)) e b x := fun x hx => by
    unfold swf phi
    by_cases e1 : x = e
    · rw [e1, sw_left, hmb]
      have : mk m (4 * n) E (4 * n) b = b := by unfold mk; rw [if_neg]; rw [hxb, hE]; omega
      rw [this]
    · by_cases e2 : x = b
      · rw [e2, sw_right, hme]
        have : mk m (4 * n) E (4 * n) e = e := by unfold mk; rw [if_neg]; rw [hxe, hE]; omega
        rw [this]
      · rw [sw_other e1 e2]
        have : mk m (4 * n) E (4 * n) x = m x := by unfold mk; rw [if_pos (hlo x hx e1 e2), mmx_lt hx]
        rw [this]
  have hit : ∀ x, x < 4 * n → ∀ j, it (fun x => trn (m x) 3) j x = it (swf (phi m (4 * n) E (4 * n)) e b) j x := fun x hx j => it_congr pf hfull hx j
  have hRO : ∀ x y, RO' (fun x => trn (m x) 3) (4 * n) x y ↔ RO' (swf (phi m (4 * n) E (4 * n)) e b) (4 * n) x y := fun x y => by
    constructor
    · rintro ⟨hx, j, q⟩; exact ⟨hx, j, by rw [← hit x hx]; exact q⟩
    · rintro ⟨hx, j, q⟩; exact ⟨hx, j, by rw [hit x hx]; exact q⟩
  have hps := g.perm.swf he hb
  have hos : Orb (swf (phi m (4 * n) E (4 * n)) e b) e b := ((hRO e b).1 ⟨he, hoe⟩).2
  have hsp := hps.split he (by omega) hos
  rw [swf_swf] at hsp
  have hns : ¬ Orb (phi m (4 * n) E (4 * n)) e b := fun q => hsp (g.perm.orb_symm he q)
  have e1 : F = Ff + 1 := cls_merge g.perm.eqv he hb (fun q => hns q.2) g.faces (cls_congr hF fun x y => (hRO x y).trans (g.perm.merge he hb hns x y))
  -- all edges but one
  obtain ⟨T, hT⟩ := Cnt.ex (fun x => x < 4 * n ∧ x < mmx m (4 * n) x) (4 * n)
  have e2 : 4 * n = 2 * T := Cnt.pairs (4 * n) (mmx m (4 * n)) (4 * n) (fun x => x < 4 * n) T (Cnt.all _ _ fun x hx => hx) hT (fun x hx _ => ⟨mmx_N i hx, mmx_N i hx, mmx_mmx i x, by rw [mmx_lt hx]; exact hfix x hx⟩)
  have e3 : T = t + 1 := hT.drop g.edges he ⟨he, by omega⟩ (fun q => (hE e).1 q.2 rfl) (fun x hx hne => ⟨fun q => ⟨q.2, (hE x).2 hne⟩, fun q => ⟨hx, q.1⟩⟩)
  have heu := g.euler
  have hsubD : ∀ x y, C x y → D x y := g.gen D hD hcross (fun x hx => by rw [mmx_lt hx]; exact hedge x hx)
  have hnC : ¬ C e b := fun hC => by
    have hall : ∀ x, x < 4 * n → C x (m x) := fun x hx => by
      by_cases q1 : x = e
      · rw [q1, hmb]; exact hC
      · by_cases q2 : x = b
        · rw [q2, hme]; exact g.eqv.symm _ _ hC
        · have := g.edge x hx (hlo x hx q1 q2).1 (hlo x hx q1 q2).2
          rw [mmx_lt hx] at this; exact this
    have hDC := hmin C g.eqv g.cross hall
    have : c = c' := Cnt.uniq hc (cls_congr g.parts fun x y => ⟨hsubD x y, hDC x y⟩)
    omega
  -- the part on e's side has an odd number of half-edges but e's, and four at each crossing
  obtain ⟨κ, hκ⟩ := Cnt.ex (fun x => C e x) (4 * n)
  have p4 := Cnt.fours n hκ (fun x y hx hy q hC => g.eqv.trans _ _ _ hC (g.cross x y hx hy q))
  obtain ⟨κ', hκ'⟩ := Cnt.ex (fun x => C e x ∧ x ≠ e) (4 * n)
  obtain ⟨τ, hτ⟩ := Cnt.ex (fun x => (C e x ∧ x ≠ e) ∧ x < mmx m (4 * n) x) (4 * n)
  have p1 := hκ.drop hκ' he (g.eqv.refl e he) (by simp) (fun x _ hne => ⟨fun q => ⟨q, hne⟩, fun q => q.1⟩)
  have p2 := Cnt.pairs (4 * n) (mmx m (4 * n)) κ' _ τ hκ' hτ (fun x hx hq => by
    have hxb' : x ≠ b := fun q => hnC (by rw [← q]; exact hq.1)
    have hed := g.edge x hx (hlo x hx hq.2 hxb').1 (hlo x hx hq.2 hxb').2
    refine ⟨mmx_N i hx, ⟨g.eqv.trans _ _ _ hq.1 hed, fun q => hxb' ?_⟩, mmx_mmx i x, by rw [mmx_lt hx]; exact hfix x hx⟩
    rw [← hxe, ← q, mmx_mmx i])
  omega

end Go.Proofs.Ytkfjledhnakfoaa

/- Plain mathematics: the count of the faces of all components together; the two sides of an edge of a diagram that is drawn on spheres. -/
namespace Go.Proofs.Ytkfjledhnakfoaa

def sumN (f : Nat → Nat) : Nat → Nat
  | 0 => 0
  | n + 1 => sumN f n + f n
theorem sumN_add (f g : Nat → Nat) (n : Nat) : sumN (fun l => f l + g l) n = sumN f n + sumN g n := by
  induction n with
  | zero => rfl
  | succ n ih => show sumN _ n + (f n + g n) = sumN f n + f n + (sumN g n + g n); rw [ih]; omega
theorem sumN_congr {f g : Nat → Nat} {n : Nat} (h : ∀ l, l < n → f l = g l) : sumN f n = sumN g n := by
  induction n with
  | zero => rfl
  | succ n ih => show sumN f n + f n = sumN g n + g n; rw [ih fun l hl => h l (by omega), h n (by omega)]
theorem sumN_zero (n : Nat) : sumN (fun _ => 0) n = 0 := by
  induction n with
  | zero => rfl
  | succ n ih => show sumN _ n + 0 = 0; rw [ih]
theorem sumN_one {c n : Nat} (hc : c < n) : sumN (fun l => if c == l then 1 else 0) n = 1 := by
  induction n with
  | zero => omega
  | succ n ih =>
    show sumN _ n + _ = 1
    by_cases h : c = n
    · have : sumN (fun l => if c == l then 1 else 0) n = 0 := by
        rw [sumN_congr (g := fun _ => 0) fun l hl => by simp; omega]; exact sumN_zero n
      rw [this]; simp [h]
    · rw [ih (by omega)]; simp [h]
/-- Counted by labels, and all at once. -/
theorem count_by (p : Nat → Bool) (G : Nat → Nat) (n : Nat) : ∀ N, (∀ x, x < N → G x < n) → sumN (fun l => (List.range N).countP fun x => p x && G x == l) n = (List.range N).countP p := by
  intro N
  induction N with
  | zero => intro _; simp; exact sumN_zero n
  | succ N ih =>
    intro h
    rw [List.range_succ, List.countP_append, ← ih fun x hx => h x (by omega)]
    have e : ∀ l, l < n → ((List.range N ++ [N]).countP fun x => p x && G x == l) = ((List.range N).countP fun x => p x && G x == l) + (if p N then (if G N == l then 1 else 0) else 0) := fun l _ => by
      rw [List.countP_append]
      cases hp : p N <;> simp [hp, List.countP_cons]
    rw [sumN_congr e, sumN_add]
    congr 1
    cases hp : p N with
    | true => simpa [hp] using sumN_one (h N (by omega))
    | false => simpa [hp] using sumN_zero n

def rootsN (F : Nat → Nat) (n : Nat) : Nat := (List.range n).countP fun l => F l == l
/-- Faces = crossings + 2 components, over all components. -/
theorem euler_all {F f : Nat → Nat} {n : Nat} (hs : sphB F f (4 * n) n = true) (hle : ∀ c, F c ≤ c) (hid : ∀ c, F (F c) = F c) : (List.range (4 * n)).countP (fst f (4 * n)) = n + 2 * rootsN F n := by
  have h1 := count_by (fst f (4 * n)) (fun x => F (x / 4)) n (4 * n) (fun x hx => by have := hle (x / 4); omega)
  have h2 := count_by (fun _ => true) F n n (fun x hx => by have := hle x; omega)
  have h3 : (List.range n).countP (fun _ => true) = n := by simp
  rw [h3] at h2
  have h4 : sumN (fun l => if F l == l then 1 else 0) n = rootsN F n := by
    have : ∀ k, sumN (fun l => if F l == l then 1 else 0) k = rootsN F k := by
      intro k
      induction k with
      | zero => rfl
      | succ k ih => show sumN _ k + _ = _; rw [ih]; unfold rootsN; rw [List.range_succ, List.countP_append]; simp [List.countP_cons]
    exact this n
  have h5 : ∀ l, l < n → ((List.range (4 * n)).countP fun x => fst f (4 * n) x && F (x / 4) == l) = (((List.range n).countP fun x => true && F x == l) + (if F l == l then 1 else 0)) + (if F l == l then 1 else 0) := fun l hl => by
    by_cases hr : F l = l
    · have := (sphB_iff _ _ _ _).1 hs l hl
      rw [hr] at this
      unfold cntF cntV at this
      simp only [Bool.true_and]
      rw [this]; simp [hr]
    · have e1 : ((List.range (4 * n)).countP fun x => fst f (4 * n) x && F (x / 4) == l) = 0 := by
        rw [List.countP_eq_zero]
        intro x _ q
        simp only [Bool.and_eq_true, beq_iff_eq] at q
        exact hr (by rw [← q.2, hid])
      have e2 : ((List.range n).countP fun x => true && F x == l) = 0 := by
        rw [List.countP_eq_zero]
        intro x _ q
        simp only [Bool.true_and, beq_iff_eq] at q
        exact hr (by rw [← q, hid])
      rw [e1, e2]; simp [hr]
  rw [sumN_congr h5, sumN_add, sumN_add, h2, h4] at h1
  omega

theorem cls_orb {f : Nat → Nat} {N : Nat} (p : Perm f N) : Cls (RO' f N) N ((List.range N).countP (fst f N)) :=
  (Cnt.countP (fst f N) N).congr fun x hx => by
    rw [p.fst_iff hx]
    exact ⟨fun q g hg o => q g hg o.2, fun q g hg o => q g hg ⟨by omega, o⟩⟩
theorem cls_lab {F : Nat → Nat} {n : Nat} (hle : ∀ c, F c ≤ c) (hid : ∀ c, F (F c) = F c) : Cls (fun x y => x < 4 * n ∧ y < 4 * n ∧ F (x / 4) = F (y / 4)) (4 * n) (rootsN F n) := by
  have h := (Cnt.countP (fun l => F l == l) n).firsts
  refine h.congr fun x hx => ⟨fun q g hg o => ?_, fun q => ?_⟩
  · obtain ⟨q1, q2⟩ := q
    have q3 : F (x / 4) = x / 4 := by simpa using q2
    have := hle (g / 4)
    rw [o.2.2, q3] at this
    omega
  · have hl := hle (x / 4)
    have h4 : x % 4 = 0 := by
      by_cases h0 : x % 4 = 0
      · exact h0
      · exact absurd ⟨by omega, hx, by rw [show (x - x % 4) / 4 = x / 4 by omega]⟩ (q (x - x % 4) (by omega))
    refine ⟨h4, ?_⟩
    have : F (x / 4) = x / 4 := by
      by_cases h0 : F (x / 4) = x / 4
      · exact h0
      · refine absurd ⟨by omega, hx, ?_⟩ (q (4 * F (x / 4)) (by omega))
        rw [show 4 * F (x / 4) / 4 = F (x / 4) by omega, hid]
    simpa using this

/-- In a diagram that is drawn on spheres the two sides of an edge are different faces. -/
theorem sides_sph {m : Nat → Nat} {n : Nat} (i : Invol m (4 * n)) (hfix : ∀ x, x < 4 * n → m x ≠ x) (hs : sphB (ufLab m (4 * n)) (fun x => trn (m x) 3) (4 * n) n = true) (h : Nat) (hh : h < 4 * n) : ¬ Orb (fun x => trn (m x) 3) h (m h) := by
  have hle : ∀ c, ufLab m (4 * n) c ≤ c := fun c => root_le _ _
  have hid : ∀ c, ufLab m (4 * n) (ufLab m (4 * n) c) = ufLab m (4 * n) c := fun c => root_root _ _
  have hlab := ufLab_isLab m (4 * n) n
  generalize ufLab m (4 * n) = F at *
  refine sides i hfix (D := fun x y => x < 4 * n ∧ y < 4 * n ∧ F (x / 4) = F (y / 4)) ⟨fun x y q => ⟨q.1, q.2.1⟩, fun x hx => ⟨hx, hx, rfl⟩, fun x y q => ⟨q.2.1, q.1, q.2.2.symm⟩, fun x y z q r => ⟨q.1, r.2.1, q.2.2.trans r.2.2⟩⟩
    (fun x y hx hy e => ⟨hx, hy, by rw [e]⟩) (fun x hx => ⟨hx, i.lt x hx, hlab.2 x hx⟩) ?_ (cls_orb (i.perm 3)) (cls_lab hle hid) (euler_all hs hle hid) h hh
  intro C hC h1 h2 x y hd
  have key : ∀ {a b : Nat}, Conn m (4 * n) a b → a < n → b < n ∧ C (4 * a) (4 * b) := by
    intro a b hc ha
    induction hc with
    | refl => exact ⟨ha, hC.refl _ (by omega)⟩
    | step z hz _ ih =>
      have hm := i.lt z hz
      exact ⟨by omega, hC.trans _ _ _ ih.2 (hC.trans _ _ _ (h1 _ z (by omega) hz (by omega)) (hC.trans _ _ _ (h2 z hz) (h1 _ _ hm (by omega) (by omega))))⟩
    | back z hz _ ih =>
      have hm := i.lt z hz
      exact ⟨by omega, hC.trans _ _ _ ih.2 (hC.trans _ _ _ (h1 _ (m z) (by omega) hm (by omega)) (hC.trans _ _ _ (hC.symm _ _ (h2 z hz)) (h1 _ _ hz (by omega) (by omega))))⟩
  obtain ⟨hx, hy, e⟩ := hd
  have c1 := (hlab.1 (x / 4) (by omega)).2
  have c2 := (hlab.1 (y / 4) (by omega)).2
  rw [e] at c1
  have := (key (c1.trans c2.symm) (by omega)).2
  exact hC.trans _ _ _ (h1 x _ hx (by omega) (by omega)) (hC.trans _ _ _ this (h1 _ y (by omega) hy (by omega)))

end Go.Proofs.Ytkfjledhnakfoaa

/- Plain mathematics: where all faces together are as many as on spheres, each component is drawn on a sphere. -/
namespace Go.Proofs.Ytkfjledhnakfoaa

theorem Cnt.or {p q : Nat → Prop} {n a b : Nat} (h : Cnt p n a) (g : Cnt q n b) (hd : ∀ x, x < n → p x → ¬ q x) : Cnt (fun x => p x ∨ q x) n (a + b) := by
  induction h generalizing b with
  | zero => cases g; exact .zero
  | @yes n k hp h ih =>
    cases g with
    | yes hq _ => exact absurd hq (hd n (by omega) hp)
    | @no _ j hq g =>
      have := ih g fun x hx => hd x (by omega)
      rw [show k + 1 + b = (k + b) + 1 by omega]
      exact .yes (.inl hp) this
  | @no n k hp h ih =>
    cases g with
    | @yes _ j hq g =>
      have := ih g fun x hx => hd x (by omega)
      exact .yes (.inr hq) this
    | @no _ j hq g =>
      have := ih g fun x hx => hd x (by omega)
      exact .no (fun e => e.elim hp hq) this
theorem Cnt.le {p q : Nat → Prop} {n a b : Nat} (h : Cnt p n a) (g : Cnt q n b) (hs : ∀ x, x < n → p x → q x) : a ≤ b := by
  induction h generalizing b with
  | zero => omega
  | @yes n k hp h ih =>
    cases g with
    | yes hq g => have := ih g fun x hx => hs x (by omega); omega
    | no hq _ => exact absurd (hs n (by omega) hp) hq
  | @no n k hp h ih =>
    cases g with
    | yes hq g => have := ih g fun x hx => hs x (by omega); omega
    | no hq g => exact ih g fun x hx => hs x (by omega)
theorem Cnt.quad {q : Nat → Prop} {n k : Nat} (h : Cnt q n k) : Cnt (fun x => q (x / 4)) (4 * n) (4 * k) := by
  induction h with
  | zero => exact .zero
  | @yes n k hq _ ih =>
    have e : 4 * (n + 1) = 4 * n + 1 + 1 + 1 + 1 := by omega
    have e2 : 4 * (k + 1) = 4 * k + 1 + 1 + 1 + 1 := by omega
    rw [e, e2]
    exact .yes (by show q ((4 * n + 1 + 1 + 1) / 4); rw [show (4 * n + 1 + 1 + 1) / 4 = n by omega]; exact hq) (.yes (by show q ((4 * n + 1 + 1) / 4); rw [show (4 * n + 1 + 1) / 4 = n by omega]; exact hq) (.yes (by show q ((4 * n + 1) / 4); rw [show (4 * n + 1) / 4 = n by omega]; exact hq) (.yes (by show q (4 * n / 4); rw [show 4 * n / 4 = n by omega]; exact hq) ih)))
  | @no n k hq _ ih =>
    have e : 4 * (n + 1) = 4 * n + 1 + 1 + 1 + 1 := by omega
    rw [e]
    exact .no (by show ¬ q ((4 * n + 1 + 1 + 1) / 4); rw [show (4 * n + 1 + 1 + 1) / 4 = n by omega]; exact hq) (.no (by show ¬ q ((4 * n + 1 + 1) / 4); rw [show (4 * n + 1 + 1) / 4 = n by omega]; exact hq) (.no (by show ¬ q ((4 * n + 1) / 4); rw [show (4 * n + 1) / 4 = n by omega]; exact hq) (.no (by show ¬ q (4 * n / 4); rw [show 4 * n / 4 = n by omega]; exact hq) ih)))
theorem Cnt.one {N c : Nat} (hc : c < N) : Cnt (fun x => x = c) N 1 := by
  obtain ⟨k, hk⟩ := Cnt.ex (fun x => x = c) N
  have h0 : Cnt (fun _ => False) N 0 := Cnt.none fun x _ h => h
  have := hk.drop h0 hc rfl (fun h => h) (fun x _ hne => ⟨fun e => hne e, fun h => h.elim⟩)
  subst this
  exact hk
theorem min_edge {m : Nat → Nat} {N x : Nat} : min x (mmx m N x) = x ∨ min x (mmx m N x) = mmx m N x := by omega
theorem trn3_first {N x : Nat} (hx : x < 4 * N) : (∀ g, g < x → ¬ (g < 4 * N ∧ Orb (fun y => trn y 3) g x)) ↔ x % 4 = 0 := by
  constructor
  · intro h
    by_cases h0 : x % 4 = 0
    · exact h0
    · refine absurd ⟨by omega, ?_⟩ (h (x - x % 4) (by omega))
      have hr : x % 4 = 3 ∨ x % 4 = 2 ∨ x % 4 = 1 := by omega
      rcases hr with e | e | e
      · exact ⟨1, by show trn (x - x % 4) 3 = x; unfold trn; omega⟩
      · exact ⟨2, by show trn (trn (x - x % 4) 3) 3 = x; unfold trn; omega⟩
      · exact ⟨3, by show trn (trn (trn (x - x % 4) 3) 3) 3 = x; unfold trn; omega⟩
  · intro h0 g hg o
    have := orb_trn3 o.2
    omega

/-- No component has more faces than on a sphere. -/
theorem comp_face_le {m : Nat → Nat} {n L : Nat} {F : Nat → Nat} (i : Invol m (4 * n)) (hfix : ∀ x, x < 4 * n → m x ≠ x) (hlab : IsLab m (4 * n) n F) (hle : ∀ c, F c ≤ c) (hL : L < n) (hLL : F L = L) :
    cntF F (fun x => trn (m x) 3) (4 * n) (4 * n) L ≤ cntV F n L + 2 := by
  obtain ⟨E, hE⟩ : ∃ E : Nat → Bool, ∀ x, E x = false ↔ F (x / 4) = L := ⟨fun x => !(F (x / 4) == L), fun x => by simp⟩
  obtain ⟨C, Fc, c, t, g⟩ := grown_all E i hfix (4 * n)
  have pf : Perm (fun x => trn (m x) 3) (4 * n) := i.perm 3
  have hmin : ∀ x, x < 4 * n → F (min x (mmx m (4 * n) x) / 4) = F (x / 4) := fun x hx => by
    rcases min_edge (m := m) (N := 4 * n) (x := x) with e | e
    · rw [e]
    · rw [e, mmx_lt hx]; exact (hlab.2 x hx).symm
  have hphi : ∀ x, x < 4 * n → phi m (4 * n) E (4 * n) x = if F (x / 4) = L then trn (m x) 3 else trn x 3 := fun x hx => by
    have h1 : min x (mmx m (4 * n) x) < 4 * n := by omega
    unfold phi mk
    by_cases h : F (x / 4) = L
    · rw [if_pos ⟨h1, (hE _).2 (by rw [hmin x hx]; exact h)⟩, if_pos h, mmx_lt hx]
    · rw [if_neg (fun q => h (by rw [← hmin x hx]; exact (hE _).1 q.2)), if_neg h]
  have hlabphi : ∀ x, x < 4 * n → F (phi m (4 * n) E (4 * n) x / 4) = F (x / 4) := fun x hx => by
    rw [hphi x hx]
    split
    · rw [trn_div]; exact (hlab.2 x hx).symm
    · rw [trn_div]
  have hlabit : ∀ x j, x < 4 * n → F (it (phi m (4 * n) E (4 * n)) j x / 4) = F (x / 4) := fun x j hx => by
    induction j with
    | zero => rfl
    | succ j ih => show F (phi m (4 * n) E (4 * n) (it _ j x) / 4) = _; rw [hlabphi _ (g.perm.it_lt hx j), ih]
  have hitL : ∀ x j, x < 4 * n → F (x / 4) = L → it (phi m (4 * n) E (4 * n)) j x = it (fun x => trn (m x) 3) j x := fun x j hx h => by
    induction j with
    | zero => rfl
    | succ j ih =>
      show phi m (4 * n) E (4 * n) (it _ j x) = trn (m (it _ j x)) 3
      rw [hphi _ (g.perm.it_lt hx j), if_pos (by rw [hlabit x j hx]; exact h), ih]
  have hitN : ∀ x j, x < 4 * n → F (x / 4) ≠ L → it (phi m (4 * n) E (4 * n)) j x = it (fun x => trn x 3) j x := fun x j hx h => by
    induction j with
    | zero => rfl
    | succ j ih =>
      show phi m (4 * n) E (4 * n) (it _ j x) = trn (it _ j x) 3
      rw [hphi _ (g.perm.it_lt hx j), if_neg (by rw [hlabit x j hx]; exact h), ih]
  have hlabff : ∀ x j, x < 4 * n → F (it (fun x => trn (m x) 3) j x / 4) = F (x / 4) := fun x j hx => by
    induction j with
    | zero => rfl
    | succ j ih => show F (trn (m (it _ j x)) 3 / 4) = _; rw [trn_div, ← hlab.2 _ (pf.it_lt hx j), ih]
  -- the faces
  have hV : Cnt (fun c => (!(F c == L)) = true) n ((List.range n).countP fun c => !(F c == L)) := Cnt.countP _ _
  have hVV : Cnt (fun c => (F c == L) = true) n (cntV F n L) := Cnt.countP _ _
  have hsum : cntV F n L + ((List.range n).countP fun c => !(F c == L)) = n := by
    have h1 := hVV.or hV (fun x _ h k => by rw [h] at k; cases k)
    have h2 : Cnt (fun c => (F c == L) = true ∨ (!(F c == L)) = true) n n := Cnt.all n _ fun x _ => by cases F x == L <;> simp
    exact h1.uniq h2
  generalize ((List.range n).countP fun c => !(F c == L)) = U at hV hsum
  have hq := hV.firsts
  have hp : Cnt (fun h => (fst (fun x => trn (m x) 3) (4 * n) h && F (h / 4) == L) = true) (4 * n) (cntF F (fun x => trn (m x) 3) (4 * n) (4 * n) L) := Cnt.countP _ _
  have hFc : Fc = cntF F (fun x => trn (m x) 3) (4 * n) (4 * n) L + U := by
    refine g.faces.uniq ((hp.or hq fun x hx h k => ?_).congr fun x hx => ?_)
    · simp only [Bool.and_eq_true, Bool.not_eq_true'] at h k
      rw [h.2] at k
      exact absurd k.2 (by simp)
    · simp only [Bool.and_eq_true, beq_iff_eq, Bool.not_eq_true', beq_eq_false_iff_ne, ne_eq]
      by_cases hl : F (x / 4) = L
      · constructor
        · rintro (⟨h1, _⟩ | ⟨_, h2⟩)
          · intro y hy ⟨hyN, j, e⟩
            have h3 : F (y / 4) = L := by rw [← hl, ← e, hlabit y j hyN]
            exact (pf.fst_iff hx).1 h1 y hy ⟨j, by rw [← hitL y j hyN h3]; exact e⟩
          · exact absurd hl h2
        · intro h
          refine .inl ⟨(pf.fst_iff hx).2 fun y hy ⟨j, e⟩ => ?_, hl⟩
          have h3 : F (y / 4) = L := by rw [← hl, ← e, hlabff y j (by omega)]
          exact h y hy ⟨by omega, j, by rw [hitL y j (by omega) h3]; exact e⟩
      · constructor
        · rintro (⟨_, h1⟩ | ⟨h0, _⟩)
          · exact absurd h1 hl
          · intro y hy ⟨hyN, j, e⟩
            have h3 : F (y / 4) ≠ L := by rw [← hlabit y j hyN, e]; exact hl
            rw [hitN y j hyN h3] at e
            exact (trn3_first hx).2 h0 y hy ⟨hyN, j, e⟩
        · intro h
          refine .inr ⟨(trn3_first hx).1 fun y hy ⟨hyN, j, e⟩ => ?_, hl⟩
          have h3 : F (y / 4) ≠ L := by
            have h4 := orb_trn3 ⟨j, e⟩
            rw [h4]; exact hl
          exact h y hy ⟨hyN, j, by rw [hitN y j hyN h3]; exact e⟩
  -- the parts
  have key : ∀ {a b : Nat}, Conn m (4 * n) a b → a < n → F a = L → b < n ∧ C (4 * a) (4 * b) := by
    intro a b hc ha hFa
    induction hc with
    | refl => exact ⟨ha, g.eqv.refl _ (by omega)⟩
    | step z hz hcz ih =>
      have hm := i.lt z hz
      have hFz : F (z / 4) = L := by rw [← hlab.conn hcz]; exact hFa
      have he := g.edge z hz (by omega) ((hE _).2 (by rw [hmin z hz]; exact hFz))
      rw [mmx_lt hz] at he
      exact ⟨by omega, g.eqv.trans _ _ _ ih.2 (g.eqv.trans _ _ _ (g.cross _ z (by omega) hz (by omega)) (g.eqv.trans _ _ _ he (g.cross _ _ hm (by omega) (by omega))))⟩
    | back z hz hcz ih =>
      have hm := i.lt z hz
      have hFz : F (z / 4) = L := by rw [hlab.2 z hz, ← hlab.conn hcz]; exact hFa
      have he := g.edge z hz (by omega) ((hE _).2 (by rw [hmin z hz]; exact hFz))
      rw [mmx_lt hz] at he
      exact ⟨by omega, g.eqv.trans _ _ _ ih.2 (g.eqv.trans _ _ _ (g.cross _ (m z) (by omega) hm (by omega)) (g.eqv.trans _ _ _ (g.eqv.symm _ _ he) (g.cross _ _ hz (by omega) (by omega))))⟩
  have hc : c ≤ U + 1 := by
    refine Cnt.le g.parts (hq.or (Cnt.one (c := 4 * L) (N := 4 * n) (by omega)) fun x hx h e => ?_) fun x hx h => ?_
    · simp only [Bool.not_eq_true', beq_eq_false_iff_ne, ne_eq] at h
      subst e
      rw [show 4 * L / 4 = L by omega] at h
      exact h.2 hLL
    · simp only [Bool.not_eq_true', beq_eq_false_iff_ne, ne_eq]
      by_cases hl : F (x / 4) = L
      · right
        have h1 := (hlab.1 (x / 4) (by omega)).2
        rw [hl] at h1
        have h2 := key h1.symm hL hLL
        by_cases e : x = 4 * L
        · exact e
        · have h3 := hle (x / 4)
          exact absurd (g.eqv.trans _ _ _ h2.2 (g.cross _ _ (by omega) hx (by omega))) (h (4 * L) (by omega))
      · left
        refine ⟨?_, hl⟩
        by_cases h0 : x % 4 = 0
        · exact h0
        · exact absurd (g.cross (x - x % 4) x (by omega) hx (by omega)) (h (x - x % 4) (by omega))
  -- the edges
  have ht : 4 * cntV F n L = 2 * t := by
    have h1 := hVV.quad
    refine Cnt.pairs (4 * n) m _ (fun x => (F (x / 4) == L) = true) t h1 (g.edges.congr fun x hx => ?_) fun x hx hpx => ?_
    · rw [mmx_lt hx, hE]; simp only [beq_iff_eq]; exact ⟨fun h => ⟨h.2, h.1⟩, fun h => ⟨h.2, h.1⟩⟩
    · refine ⟨i.lt x hx, ?_, i.inv x hx, hfix x hx⟩
      rw [← hlab.2 x hx]; exact hpx
  have := g.euler
  omega

theorem sumN_le {a b : Nat → Nat} (n : Nat) (h : ∀ l, l < n → a l ≤ b l) : sumN a n ≤ sumN b n := by
  induction n with
  | zero => exact Nat.le_refl _
  | succ n ih =>
    have h1 := ih fun l hl => h l (by omega)
    have h2 := h n (by omega)
    show sumN a n + a n ≤ sumN b n + b n
    omega
theorem sumN_eq {a b : Nat → Nat} (n : Nat) (h : ∀ l, l < n → a l ≤ b l) (e : sumN a n = sumN b n) : ∀ l, l < n → a l = b l := by
  induction n with
  | zero => intro l hl; omega
  | succ n ih =>
    intro l hl
    have h1 := sumN_le n fun l hl => h l (show l < n + 1 by omega)
    have h2 := h n (by omega)
    have e2 : sumN a n + a n = sumN b n + b n := e
    by_cases hln : l = n
    · subst hln; omega
    · exact ih (fun l hl => h l (by omega)) (by omega) l (by omega)
theorem sph_of_total {m : Nat → Nat} {n : Nat} {F : Nat → Nat} (i : Invol m (4 * n)) (hfix : ∀ x, x < 4 * n → m x ≠ x) (hlab : IsLab m (4 * n) n F) (hle : ∀ c, F c ≤ c) (hid : ∀ c, F (F c) = F c)
    (htot : (List.range (4 * n)).countP (fst (fun x => trn (m x) 3) (4 * n)) = n + 2 * rootsN F n) : sphB F (fun x => trn (m x) 3) (4 * n) n = true := by
  have h1 := count_by (fst (fun x => trn (m x) 3) (4 * n)) (fun x => F (x / 4)) n (4 * n) (fun x hx => by have := hle (x / 4); omega)
  have h2 := count_by (fun _ => true) F n n (fun x hx => by have := hle x; omega)
  have h3 : (List.range n).countP (fun _ => true) = n := by simp
  rw [h3] at h2
  have h4 : sumN (fun l => if F l == l then 1 else 0) n = rootsN F n := by
    have : ∀ k, sumN (fun l => if F l == l then 1 else 0) k = rootsN F k := by
      intro k
      induction k with
      | zero => rfl
      | succ k ih =>
        show sumN _ k + _ = _
        rw [ih]
        unfold rootsN
        rw [List.range_succ, List.countP_append]
        cases h : F k == k <;> simp [h]
    exact this n
  have hroot : ∀ l, l < n → F l ≠ l → cntF F (fun x => trn (m x) 3) (4 * n) (4 * n) l = 0 := fun l _ hne => by
    unfold cntF
    rw [List.countP_eq_zero]
    intro x _ hx
    simp only [Bool.and_eq_true, beq_iff_eq] at hx
    exact hne (by rw [← hx.2, hid])
  have hall : ∀ l, l < n → cntF F (fun x => trn (m x) 3) (4 * n) (4 * n) l ≤ cntV F n l + ((if F l == l then 1 else 0) + (if F l == l then 1 else 0)) := fun l hl => by
    by_cases e : F l = l
    · have := comp_face_le i hfix hlab hle hl e
      simp [e]; omega
    · rw [hroot l hl e]; omega
  have hs : sumN (fun l => cntV F n l + ((if F l == l then 1 else 0) + (if F l == l then 1 else 0))) n = n + 2 * rootsN F n := by
    rw [sumN_add, sumN_add, h4]
    have e : sumN (fun l => (List.range n).countP fun x => true && F x == l) n = sumN (cntV F n) n := sumN_congr fun l _ => by unfold cntV; simp
    have e2 : sumN (cntV F n) n = n := by rw [← e]; exact h2
    omega
  have hf : sumN (fun l => cntF F (fun x => trn (m x) 3) (4 * n) (4 * n) l) n = n + 2 * rootsN F n := by
    rw [← htot, ← h1]; rfl
  have heq := sumN_eq n hall (hf.trans hs.symm)
  rw [sphB_iff]
  intro c hc
  have h5 := hle c
  have := heq (F c) (by omega)
  rw [this, hid c]
  simp

end Go.Proofs.Ytkfjledhnakfoaa
