/- Plain mathematics: in a diagram that is drawn on spheres the two sides of an edge are different faces. -/
import Derived.Test.YtcngpnhecgppiaaPlanePlain
namespace Go.Proofs.Ytcngpnhecgppiaa

theorem Cnt.all (n : Nat) (p : Nat → Prop) (h : ∀ x, x < n → p x) : Cnt p n n := by
  induction n with
  | zero => exact .zero
  | succ n ih => exact .yes (h n (by omega)) (ih fun x hx => h x (by omega))

def mmx (m : Nat → Nat) (N x : Nat) : Nat := if x < N then m x else x
theorem mmx_lt {m : Nat → Nat} {N x : Nat} (hx : x < N) : mmx m N x = m x := by simp [mmx, hx]
theorem mmx_mmx {m : Nat → Nat} {N : Nat} (i : Invol m N) (x : Nat) : mmx m N (mmx m N x) = x := by
  by_cases hx : x < N
  · rw [mmx_lt hx, mmx_lt (i.lt x hx), i.inv x hx]
  · have : mmx m N x = x := by simp [mmx, hx]
    rw [this, this]
theorem mmx_N {m : Nat → Nat} {N x : Nat} (i : Invol m N) (hx : x < N) : mmx m N x < N := by rw [mmx_lt hx]; exact i.lt x hx
/-- The edges whose lower end lies below k, without the edges E. -/
def mk (m : Nat → Nat) (N : Nat) (E : Nat → Bool) (k x : Nat) : Nat := if min x (mmx m N x) < k ∧ E (min x (mmx m N x)) = false then mmx m N x else x
def phi (m : Nat → Nat) (N : Nat) (E : Nat → Bool) (k : Nat) : Nat → Nat := fun x => trn (mk m N E k x) 3
theorem mk_step {m : Nat → Nat} {N k : Nat} {E : Nat → Bool} (i : Invol m N) (h1 : k < mmx m N k) (h2 : E k = false) (x : Nat) : mk m N E (k + 1) x = mk m N E k (sw k (mmx m N k) x) := by
  have hb := mmx_mmx i k
  by_cases e1 : x = k
  · subst e1
    rw [sw_left]
    have l1 : min x (mmx m N x) = x := by omega
    have l2 : min (mmx m N x) (mmx m N (mmx m N x)) = x := by rw [hb]; omega
    unfold mk
    rw [l1, l2, if_pos ⟨by omega, h2⟩, if_neg (fun q => by have := q.1; omega)]
  · by_cases e2 : x = mmx m N k
    · rw [e2, sw_right]
      have l1 : min k (mmx m N k) = k := by omega
      have l2 : min (mmx m N k) (mmx m N (mmx m N k)) = k := by rw [hb]; omega
      unfold mk
      rw [l1, l2, if_pos ⟨by omega, h2⟩, if_neg (fun q => by have := q.1; omega), hb]
    · rw [sw_other e1 e2]
      have hne : min x (mmx m N x) ≠ k := fun q => by
        by_cases hle : x ≤ mmx m N x
        · exact e1 (by omega)
        · have : mmx m N x = k := by omega
          exact e2 (by rw [← this, mmx_mmx i])
      unfold mk
      by_cases hc : min x (mmx m N x) < k ∧ E (min x (mmx m N x)) = false
      · rw [if_pos hc, if_pos ⟨by omega, hc.2⟩]
      · rw [if_neg hc, if_neg (fun q => hc ⟨by omega, q.2⟩)]
theorem mk_stay {m : Nat → Nat} {N k : Nat} {E : Nat → Bool} (i : Invol m N) (h : ¬ (k < mmx m N k ∧ E k = false)) (x : Nat) : mk m N E (k + 1) x = mk m N E k x := by
  by_cases hl : min x (mmx m N x) = k
  · by_cases hk : E k = true
    · unfold mk; rw [hl, hk]; simp
    · replace hk : E k = false := by simpa using hk
      have hnot : ¬ k < mmx m N k := fun q => h ⟨q, hk⟩
      have hx : mmx m N x = x := by
        by_cases hle : x ≤ mmx m N x
        · have : x = k := by omega
          subst this; omega
        · have h1 : mmx m N x = k := by omega
          have h2 : mmx m N k = x := by rw [← h1, mmx_mmx i]
          omega
      unfold mk; rw [hx]; simp
  · unfold mk
    by_cases hc : min x (mmx m N x) < k ∧ E (min x (mmx m N x)) = false
    · rw [if_pos hc, if_pos ⟨by omega, hc.2⟩]
    · rw [if_neg hc, if_neg (fun q => hc ⟨by omega, q.2⟩)]

structure Grown (m : Nat → Nat) (n : Nat) (E : Nat → Bool) (k : Nat) (C : Nat → Nat → Prop) (F c t : Nat) : Prop where
  perm : Perm (phi m (4 * n) E k) (4 * n)
  eqv : Eqv C (4 * n)
  sub : ∀ x y, RO' (phi m (4 * n) E k) (4 * n) x y → C x y
  cross : ∀ x y, x < 4 * n → y < 4 * n → x / 4 = y / 4 → C x y
  edge : ∀ x, x < 4 * n → min x (mmx m (4 * n) x) < k → E (min x (mmx m (4 * n) x)) = false → C x (mmx m (4 * n) x)
  gen : ∀ D, Eqv D (4 * n) → (∀ x y, x < 4 * n → y < 4 * n → x / 4 = y / 4 → D x y) → (∀ x, x < 4 * n → D x (mmx m (4 * n) x)) → ∀ x y, C x y → D x y
  faces : Cls (RO' (phi m (4 * n) E k) (4 * n)) (4 * n) F
  parts : Cls C (4 * n) c
  edges : Cnt (fun x => x < mmx m (4 * n) x ∧ E x = false) k t
  euler : F + n ≤ 2 * c + t

theorem orb_trn3 {g x : Nat} (h : Orb (fun x => trn x 3) g x) : g / 4 = x / 4 := by
  obtain ⟨i, rfl⟩ := h
  induction i with
  | zero => rfl
  | succ i ih => show _ = trn (it _ i g) 3 / 4; rw [trn_div]; exact ih
theorem grown_zero (m : Nat → Nat) (n : Nat) (E : Nat → Bool) : Grown m n E 0 (fun x y => x < 4 * n ∧ y < 4 * n ∧ x / 4 = y / 4) n n 0 := by
  have hphi : phi m (4 * n) E 0 = fun x => trn x 3 := by funext x; simp [phi, mk]
  have hfour : Cnt (fun x => x % 4 = 0 ∧ True) (4 * n) n := (Cnt.all n (fun _ => True) (fun _ _ => trivial)).firsts
  have hp : Perm (fun x => trn x 3) (4 * n) := ⟨fun h hh => trn_lt hh, fun h g _ _ e => trn_inj e⟩
  refine ⟨by rw [hphi]; exact hp, ⟨fun x y h => ⟨h.1, h.2.1⟩, fun x hx => ⟨hx, hx, rfl⟩, fun x y h => ⟨h.2.1, h.1, h.2.2.symm⟩, fun x y z h k => ⟨h.1, k.2.1, h.2.2.trans k.2.2⟩⟩, ?_, fun x y hx hy e => ⟨hx, hy, e⟩, fun x _ h => absurd h (by omega), fun D _ h2 _ x y h => h2 x y h.1 h.2.1 h.2.2, ?_, ?_, .zero, by omega⟩
  · rw [hphi]
    rintro x y ⟨hx, o⟩
    exact ⟨hx, by obtain ⟨i, e⟩ := o; rw [← e]; exact hp.it_lt hx i, orb_trn3 o⟩
  · rw [hphi]
    refine hfour.congr fun x hx => ⟨fun h g hg o => ?_, fun h => ⟨?_, trivial⟩⟩
    · have := orb_trn3 o.2; omega
    · by_cases h0 : x % 4 = 0
      · exact h0
      · refine absurd ⟨by omega, ?_⟩ (h (x - x % 4) (by omega))
        have hr : x % 4 = 3 ∨ x % 4 = 2 ∨ x % 4 = 1 := by omega
        rcases hr with e | e | e
        · exact ⟨1, by show trn (x - x % 4) 3 = x; unfold trn; omega⟩
        · exact ⟨2, by show trn (trn (x - x % 4) 3) 3 = x; unfold trn; omega⟩
        · exact ⟨3, by show trn (trn (trn (x - x % 4) 3) 3) 3 = x; unfold trn; omega⟩
  · refine hfour.congr fun x hx => ⟨fun h g hg o => ?_, fun h => ⟨?_, trivial⟩⟩
    · have := o.2.2; omega
    · by_cases h0 : x % 4 = 0
      · exact h0
      · exact absurd ⟨by omega, hx, by omega⟩ (h (x - x % 4) (by omega))
theorem cls_congr {R S : Nat → Nat → Prop} {N k : Nat} (h : Cls R N k) (e : ∀ x y, R x y ↔ S x y) : Cls S N k :=
  Cnt.congr h fun _ _ => ⟨fun q g hg hs => q g hg ((e _ _).2 hs), fun q g hg hs => q g hg ((e _ _).1 hs)⟩
theorem grown_succ {m : Nat → Nat} {n k F c t : Nat} {E : Nat → Bool} {C : Nat → Nat → Prop} (i : Invol m (4 * n)) (hfix : ∀ x, x < 4 * n → m x ≠ x) (h : Grown m n E k C F c t) : ∃ C' F' c' t', Grown m n E (k + 1) C' F' c' t' := by
  by_cases hc : k < mmx m (4 * n) k ∧ E k = false
  · obtain ⟨h1, h2⟩ := hc
    have hk : k < 4 * n := by
      by_cases hk : k < 4 * n
      · exact hk
      · have : mmx m (4 * n) k = k := by simp [mmx, hk]
        omega
    have hb := mmx_N i hk
    have hphi : phi m (4 * n) E (k + 1) = swf (phi m (4 * n) E k) k (mmx m (4 * n) k) := by funext x; unfold phi swf; rw [mk_step i h1 h2]
    generalize hbb : mmx m (4 * n) k = b at *
    obtain ⟨F', hF'⟩ := Cnt.ex (fun x => ∀ g, g < x → ¬ RO' (phi m (4 * n) E (k + 1)) (4 * n) g x) (4 * n)
    obtain ⟨c', hc'⟩ := Cnt.ex (fun x => ∀ g, g < x → ¬ Merge C k b g x) (4 * n)
    have hsub : ∀ x y, RO' (phi m (4 * n) E (k + 1)) (4 * n) x y → Merge C k b x y := by
      intro x y hr
      rw [hphi] at hr
      by_cases ho : Orb (phi m (4 * n) E k) k b
      · have hsp := h.perm.split hk (by omega) ho
        have hps := h.perm.swf hk hb
        have hns : ¬ Orb (swf (phi m (4 * n) E k) k b) k b := fun q => hsp (hps.orb_symm hk q)
        have hm := (hps.merge hk hb hns x y).2 (.inl hr)
        rw [swf_swf] at hm
        exact .inl (h.sub x y hm)
      · rcases (h.perm.merge hk hb ho x y).1 hr with q | ⟨q1, q2⟩ | ⟨q1, q2⟩
        · exact .inl (h.sub _ _ q)
        · exact .inr (.inl ⟨h.sub _ _ q1, h.sub _ _ q2⟩)
        · exact .inr (.inr ⟨h.sub _ _ q1, h.sub _ _ q2⟩)
    refine ⟨Merge C k b, F', c', t + 1, by rw [hphi]; exact h.perm.swf hk hb, Merge.eqv h.eqv, hsub, fun x y hx hy e => .inl (h.cross x y hx hy e), fun x hx hl hne => ?_, fun D hD d1 d2 x y hm => ?_, hF', hc', .yes ⟨by rw [hbb]; exact h1, h2⟩ h.edges, ?_⟩
    · by_cases hlk : min x (mmx m (4 * n) x) < k
      · exact .inl (h.edge x hx hlk hne)
      · by_cases hle : x ≤ mmx m (4 * n) x
        · have : x = k := by omega
          subst this
          rw [hbb]
          exact .inr (.inl ⟨h.eqv.refl _ hk, h.eqv.refl _ hb⟩)
        · have e1 : mmx m (4 * n) x = k := by omega
          have e2 : x = b := by rw [← hbb, ← e1, mmx_mmx i]
          rw [e1, e2]
          exact .inr (.inr ⟨h.eqv.refl _ hb, h.eqv.refl _ hk⟩)
    · have hab : D k b := by have := d2 k hk; rw [hbb] at this; exact this
      rcases hm with q | ⟨q1, q2⟩ | ⟨q1, q2⟩
      · exact h.gen D hD d1 d2 x y q
      · exact hD.trans _ _ _ (h.gen D hD d1 d2 _ _ q1) (hD.trans _ _ _ hab (h.gen D hD d1 d2 _ _ q2))
      · exact hD.trans _ _ _ (h.gen D hD d1 d2 _ _ q1) (hD.trans _ _ _ (hD.symm _ _ hab) (h.gen D hD d1 d2 _ _ q2))
    · have hcc : C k b → c' = c := fun q => Cnt.uniq hc' (cls_congr h.parts fun x y => (Merge.same h.eqv q).symm)
      have hcn : ¬ C k b → c = c' + 1 := fun q => cls_merge h.eqv hk hb q h.parts hc'
      have heu := h.euler
      by_cases ho : Orb (phi m (4 * n) E k) k b
      · have hsp := h.perm.split hk (by omega) ho
        have hps := h.perm.swf hk hb
        have hns : ¬ Orb (swf (phi m (4 * n) E k) k b) k b := fun q => hsp (hps.orb_symm hk q)
        have hCab := h.sub k b ⟨hk, ho⟩
        have e1 : F' = F + 1 := by
          rw [hphi] at hF'
          refine cls_merge hps.eqv hk hb (fun q => hns q.2) hF' (cls_congr h.faces fun x y => ?_)
          have := hps.merge hk hb hns x y
          rw [swf_swf] at this
          exact this
        have := hcc hCab
        omega
      · have e1 : F = F' + 1 := by
          rw [hphi] at hF'
          exact cls_merge h.perm.eqv hk hb (fun q => ho q.2) h.faces (cls_congr hF' fun x y => h.perm.merge hk hb ho x y)
        by_cases hC : C k b
        · have := hcc hC; omega
        · have := hcn hC; omega
  · have hphi : phi m (4 * n) E (k + 1) = phi m (4 * n) E k := by funext x; unfold phi; rw [mk_stay i hc]
    refine ⟨C, F, c, t, by rw [hphi]; exact h.perm, h.eqv, by rw [hphi]; exact h.sub, h.cross, fun x hx hl hne => ?_, h.gen, by rw [hphi]; exact h.faces, h.parts, .no hc h.edges, h.euler⟩
    by_cases hlk : min x (mmx m (4 * n) x) < k
    · exact h.edge x hx hlk hne
    · exfalso
      have hfx := hfix x hx
      have hxx := mmx_lt (m := m) hx
      by_cases hle : x ≤ mmx m (4 * n) x
      · have : x = k := by omega
        subst this
        have hmn : min x (mmx m (4 * n) x) = x := by omega
        rw [hmn] at hne
        exact hc ⟨by omega, hne⟩
      · have e1 : mmx m (4 * n) x = k := by omega
        have e2 : mmx m (4 * n) k = x := by rw [← e1, mmx_mmx i]
        have hmn : min x (mmx m (4 * n) x) = k := by omega
        rw [hmn] at hne
        exact hc ⟨by omega, hne⟩
theorem grown_all {m : Nat → Nat} {n : Nat} (E : Nat → Bool) (i : Invol m (4 * n)) (hfix : ∀ x, x < 4 * n → m x ≠ x) (k : Nat) : ∃ C F c t, Grown m n E k C F c t := by
  induction k with
  | zero => exact ⟨_, _, _, _, grown_zero m n E⟩
  | succ k ih =>
    obtain ⟨C, F, c, t, h⟩ := ih
    exact grown_succ i hfix h

theorem it_congr {f g : Nat → Nat} {N : Nat} (p : Perm f N) (e : ∀ x, x < N → f x = g x) {x : Nat} (hx : x < N) (i : Nat) : it f i x = it g i x := by
  induction i with
  | zero => rfl
  | succ i ih => show f _ = g _; rw [← ih, e _ (p.it_lt hx i)]
/-- The two sides of an edge are different faces. -/
theorem sides {m : Nat → Nat} {n Ff c : Nat} {D : Nat → Nat → Prop} (i : Invol m (4 * n)) (hfix : ∀ x, x < 4 * n → m x ≠ x) (hD : Eqv D (4 * n))
    (hcross : ∀ x y, x < 4 * n → y < 4 * n → x / 4 = y / 4 → D x y) (hedge : ∀ x, x < 4 * n → D x (m x))
    (hmin : ∀ C, Eqv C (4 * n) → (∀ x y, x < 4 * n → y < 4 * n → x / 4 = y / 4 → C x y) → (∀ x, x < 4 * n → C x (m x)) → ∀ x y, D x y → C x y)
    (hF : Cls (RO' (fun x => trn (m x) 3) (4 * n)) (4 * n) Ff) (hc : Cls D (4 * n) c) (hsph : Ff = n + 2 * c) (h : Nat) (hh : h < 4 * n) : ¬ Orb (fun x => trn (m x) 3) h (m h) := by
  intro ho
  have pf : Perm (fun x => trn (m x) 3) (4 * n) := i.perm 3
  obtain ⟨e, b, he, hb, hlt, hmb, hme, hoe⟩ : ∃ e b, e < 4 * n ∧ b < 4 * n ∧ e < b ∧ m e = b ∧ m b = e ∧ Orb (fun x => trn (m x) 3) e b := by
    have h1 := i.lt h hh
    have h2 := i.inv h hh
    by_cases q : h < m h
    · exact ⟨h, m h, hh, h1, q, rfl, h2, ho⟩
    · exact ⟨m h, h, h1, hh, by have := hfix h hh; omega, h2, rfl, pf.orb_symm hh ho⟩
  obtain ⟨E, hE⟩ : ∃ E : Nat → Bool, ∀ x, E x = false ↔ x ≠ e := ⟨fun x => x == e, fun x => by simp⟩
  obtain ⟨C, F, c', t, g⟩ := grown_all E i hfix (4 * n)
  have hxe := mmx_lt (m := m) he
  have hxb := mmx_lt (m := m) hb
  rw [hmb] at hxe
  rw [hme] at hxb
  -- every half-edge of another edge
  have hlo : ∀ x, x < 4 * n → x ≠ e → x ≠ b → min x (mmx m (4 * n) x) < 4 * n ∧ E (min x (mmx m (4 * n) x)) = false := fun x hx n1 n2 => by
    refine ⟨by omega, (hE _).2 fun q => ?_⟩
    by_cases hle : x ≤ mmx m (4 * n) x
    · omega
    · have e1 : mmx m (4 * n) x = e := by omega
      have e2 : mmx m (4 * n) e = x := by rw [← e1, mmx_mmx i]
      omega
  have hfull : ∀ x, x < 4 * n → trn (m x) 3 = swf (phi m (4 * n) E (4 * n)) e b x := fun x hx => by
    unfold swf phi
    by_cases e1 : x = e
    · rw [e1, sw_left, hmb]
      have : mk m (4 * n) E (4 * n) b = b := by unfold mk; rw [if_neg]; rw [hxb, hE]; omega
      rw [this]
    · by_cases e2 : x = b
      · rw [e2, sw_right, hme]
        have : mk m (4 * n) E (4 * n) e = e := by unfold mk; rw [if_neg]; rw [hxe, hE]; omega
        rw [this]
      · rw [sw_other e1 e2]
        have : mk m (4 * n) E (4 * n) x = m x := by unfold mk; rw [if_pos (hlo x hx e1 e2), mmx_lt hx]
        rw [this]
  have hit : ∀ x, x < 4 * n → ∀ j, it (fun x => trn (m x) 3) j x = it (swf (phi m (4 * n) E (4 * n)) e b) j x := fun x hx j => it_congr pf hfull hx j
  have hRO : ∀ x y, RO' (fun x => trn (m x) 3) (4 * n) x y ↔ RO' (swf (phi m (4 * n) E (4 * n)) e b) (4 * n) x y := fun x y => by
    constructor
    · rintro ⟨hx, j, q⟩; exact ⟨hx, j, by rw [← hit x hx]; exact q⟩
    · rintro ⟨hx, j, q⟩; exact ⟨hx, j, by rw [hit x hx]; exact q⟩
  have hps := g.perm.swf he hb
  have hos : Orb (swf (phi m (4 * n) E (4 * n)) e b) e b := ((hRO e b).1 ⟨he, hoe⟩).2
  have hsp := hps.split he (by omega) hos
  rw [swf_swf] at hsp
  have hns : ¬ Orb (phi m (4 * n) E (4 * n)) e b := fun q => hsp (g.perm.orb_symm he q)
  have e1 : F = Ff + 1 := cls_merge g.perm.eqv he hb (fun q => hns q.2) g.faces (cls_congr hF fun x y => (hRO x y).trans (g.perm.merge he hb hns x y))
  -- all edges but one
  obtain ⟨T, hT⟩ := Cnt.ex (fun x => x < 4 * n ∧ x < mmx m (4 * n) x) (4 * n)
  have e2 : 4 * n = 2 * T := Cnt.pairs (4 * n) (mmx m (4 * n)) (4 * n) (fun x => x < 4 * n) T (Cnt.all _ _ fun x hx => hx) hT (fun x hx _ => ⟨mmx_N i hx, mmx_N i hx, mmx_mmx i x, by rw [mmx_lt hx]; exact hfix x hx⟩)
  have e3 : T = t + 1 := hT.drop g.edges he ⟨he, by omega⟩ (fun q => (hE e).1 q.2 rfl) (fun x hx hne => ⟨fun q => ⟨q.2, (hE x).2 hne⟩, fun q => ⟨hx, q.1⟩⟩)
  have heu := g.euler
  have hsubD : ∀ x y, C x y → D x y := g.gen D hD hcross (fun x hx => by rw [mmx_lt hx]; exact hedge x hx)
  have hnC : ¬ C e b := fun hC => by
    have hall : ∀ x, x < 4 * n → C x (m x) := fun x hx => by
      by_cases q1 : x = e
      · rw [q1, hmb]; exact hC
      · by_cases q2 : x = b
        · rw [q2, hme]; exact g.eqv.symm _ _ hC
        · have := g.edge x hx (hlo x hx q1 q2).1 (hlo x hx q1 q2).2
          rw [mmx_lt hx] at this; exact this
    have hDC := hmin C g.eqv g.cross hall
    have : c = c' := Cnt.uniq hc (cls_congr g.parts fun x y => ⟨hsubD x y, hDC x y⟩)
    omega
  -- the part on e's side has an odd number of half-edges but e's, and four at each crossing
  obtain ⟨κ, hκ⟩ := Cnt.ex (fun x => C e x) (4 * n)
  have p4 := Cnt.fours n hκ (fun x y hx hy q hC => g.eqv.trans _ _ _ hC (g.cross x y hx hy q))
  obtain ⟨κ', hκ'⟩ := Cnt.ex (fun x => C e x ∧ x ≠ e) (4 * n)
  obtain ⟨τ, hτ⟩ := Cnt.ex (fun x => (C e x ∧ x ≠ e) ∧ x < mmx m (4 * n) x) (4 * n)
  have p1 := hκ.drop hκ' he (g.eqv.refl e he) (by simp) (fun x _ hne => ⟨fun q => ⟨q, hne⟩, fun q => q.1⟩)
  have p2 := Cnt.pairs (4 * n) (mmx m (4 * n)) κ' _ τ hκ' hτ (fun x hx hq => by
    have hxb' : x ≠ b := fun q => hnC (by rw [← q]; exact hq.1)
    have hed := g.edge x hx (hlo x hx hq.2 hxb').1 (hlo x hx hq.2 hxb').2
    refine ⟨mmx_N i hx, ⟨g.eqv.trans _ _ _ hq.1 hed, fun q => hxb' ?_⟩, mmx_mmx i x, by rw [mmx_lt hx]; exact hfix x hx⟩
    rw [← hxe, ← q, mmx_mmx i])
  omega

end Go.Proofs.Ytcngpnhecgppiaa
