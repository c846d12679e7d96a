import Derived.Test.YtdamfoobnbjojaaM08
import Derived.Test.YtdamfoobnbjojaaM04
import Derived.Test.YtdamfoobnbjojaaM01
import Derived.Test.YtdamfoobnbjojaaM05
/- Plain mathematics: in a diagram that is drawn on spheres the two sides of an edge are different faces. -/
namespace Go.Proofs.Ytdamfoobnbjojaa

theorem Cnt.all (n : Nat) (p : Nat → Prop) (h : ∀ x, x < n → p x) : Cnt p n n := by
  induction n with
  | zero => exact .zero
  | succ n ih => exact .yes (h n (by omega)) (ih fun x hx => h x (by omega))

def mmx (m : Nat → Nat) (N x : Nat) : Nat := if x < N then m x else x
theorem mmx_lt {m : Nat → Nat} {N x : Nat} (hx : x < N) : mmx m N x = m x := by simp [mmx, hx]
theorem mmx_mmx {m : Nat → Nat} {N : Nat} (i : Invol m N) (x : Nat) : mmx m N (mmx m N x) = x := by
  by_cases hx : x < N
  · rw [mmx_lt hx, mmx_lt (i.lt x hx), i.inv x hx]
  · have : mmx m N x = x := by simp [mmx, hx]
    rw [this, this]
theorem mmx_N {m : Nat → Nat} {N x : Nat} (i : Invol m N) (hx : x < N) : mmx m N x < N := by rw [mmx_lt hx]; exact i.lt x hx
/-- The edges whose lower end lies below k, without the edges E. -/
def mk (m : Nat → Nat) (N : Nat) (E : Nat → Bool) (k x : Nat) : Nat := if min x (mmx m N x) < k ∧ E (min x (mmx m N x)) = false then mmx m N x else x
def phi (m : Nat → Nat) (N : Nat) (E : Nat → Bool) (k : Nat) : Nat → Nat := fun x => trn (mk m N E k x) 3
theorem mk_step {m : Nat → Nat} {N k : Nat} {E : Nat → Bool} (i : Invol m N) (h1 : k < mmx m N k) (h2 : E k = false) (x : Nat) : mk m N E (k + 1) x = mk m N E k (sw k (mmx m N k) x) := by
  have hb := mmx_mmx i k
  by_cases e1 : x = k
  · subst e1
    rw [sw_left]
    have l1 : min x (mmx m N x) = x := by omega
    have l2 : min (mmx m N x) (mmx m N (mmx m N x)) = x := by rw [hb]; omega
    unfold mk
    rw [l1, l2, if_pos ⟨by omega, h2⟩, if_neg (fun q => by have := q.1; omega)]
  · by_cases e2 : x = mmx m N k
    · rw [e2, sw_right]
      have l1 : min k (mmx m N k) = k := by omega
      have l2 : min (mmx m N k) (mmx m N (mmx m N k)) = k := by rw [hb]; omega
      unfold mk
      rw [l1, l2, if_pos ⟨by omega, h2⟩, if_neg (fun q => by have := q.1; omega), hb]
    · rw [sw_other e1 e2]
      have hne : min x (mmx m N x) ≠ k := fun q => by
        by_cases hle : x ≤ mmx m N x
        · exact e1 (by omega)
        · have : mmx m N x = k := by omega
          exact e2 (by rw [← this, mmx_mmx i])
      unfold mk
      by_cases hc : min x (mmx m N x) < k ∧ E (min x (mmx m N x)) = false
      · rw [if_pos hc, if_pos ⟨by omega, hc.2⟩]
      · rw [if_neg hc, if_neg (fun q => hc ⟨by omega, q.2⟩)]
theorem mk_stay {m : Nat → Nat} {N k : Nat} {E : Nat → Bool} (i : Invol m N) (h : ¬ (k < mmx m N k ∧ E k = false)) (x : Nat) : mk m N E (k + 1) x = mk m N E k x := by
  by_cases hl : min x (mmx m N x) = k
  · by_cases hk : E k = true
    · unfold mk; rw [hl, hk]; simp
    · replace hk : E k = false := by simpa using hk
      have hnot : ¬ k < mmx m N k := fun q => h ⟨q, hk⟩
      have hx : mmx m N x = x := by
        by_cases hle : x ≤ mmx m N x
        · have : x = k := by omega
          subst this; omega
        · have h1 : mmx m N x = k := by omega
          have h2 : mmx m N k = x := by rw [← h1, mmx_mmx i]
          omega
      unfold mk; rw [hx]; simp
  · unfold mk
    by_cases hc : min x (mmx m N x) < k ∧ E (min x (mmx m N x)) = false
    · rw [if_pos hc, if_pos ⟨by omega, hc.2⟩]
    · rw [if_neg hc, if_neg (fun q => hc ⟨by omega, q.2⟩)]

structure Grown (m : Nat → Nat) (n : Nat) (E : Nat → Bool) (k : Nat) (C : Nat → Nat → Prop) (F c t : Nat) : Prop where
  perm : Perm (phi m (4 * n) E k) (4 * n)
  eqv : Eqv C (4 * n)
  sub : ∀ x y, RO' (phi m (4 * n) E k) (4 * n) x y → C x y
  cross : ∀ x y, x < 4 * n → y < 4 * n → x / 4 = y / 4 → C x y
  edge : ∀ x, x < 4 * n → min x (mmx m (4 * n) x) < k → E (min x (mmx m (4 * n) x)) = false → C x (mmx m (4 * n) x)
  gen : ∀ D, Eqv D (4 * n) → (∀ x y, x < 4 * n → y < 4 * n → x / 4 = y / 4 → D x y) → (∀ x, x < 4 * n → D x (mmx m (4 * n) x)) → ∀ x y, C x y → D x y
  faces : Cls (RO' (phi m (4 * n) E k) (4 * n)) (4 * n) F
  parts : Cls C (4 * n) c
  edges : Cnt (fun x => x < mmx m (4 * n) x ∧ E x = false) k t
  euler : F + n ≤ 2 * c + t
  defect : ∃ d, F + n + 2 * d = 2 * c + t

theorem orb_trn3 {g x : Nat} (h : Orb (fun x => trn x 3) g x) : g / 4 = x / 4 := by
  obtain ⟨i, rfl⟩ := h
  induction i with
  | zero => rfl
  | succ i ih => show _ = trn (it _ i g) 3 / 4; rw [trn_div]; exact ih
theorem grown_zero (m : Nat → Nat) (n : Nat) (E : Nat → Bool) : Grown m n E 0 (fun x y => x < 4 * n ∧ y < 4 * n ∧ x / 4 = y / 4) n n 0 := by
  have hphi : phi m (4 * n) E 0 = fun x => trn x 3 := by funext x; simp [phi, mk]
  have hfour : Cnt (fun x => x % 4 = 0 ∧ True) (4 * n) n := (Cnt.all n (fun _ => True) (fun _ _ => trivial)).firsts
  have hp : Perm (fun x => trn x 3) (4 * n) := ⟨fun h hh => trn_lt hh, fun h g _ _ e => trn_inj e⟩
  refine ⟨by rw [hphi]; exact hp, ⟨fun x y h => ⟨h.1, h.2.1⟩, fun x hx => ⟨hx, hx, rfl⟩, fun x y h => ⟨h.2.1, h.1, h.2.2.symm⟩, fun x y z h k => ⟨h.1, k.2.1, h.2.2.trans k.2.2⟩⟩, ?_, fun x y hx hy e => ⟨hx, hy, e⟩, fun x _ h => absurd h (by omega), fun D _ h2 _ x y h => h2 x y h.1 h.2.1 h.2.2, ?_, ?_, .zero, by omega, 0, by omega⟩
  · rw [hphi]
    rintro x y ⟨hx, o⟩
    exact ⟨hx, by obtain ⟨i, e⟩ := o; rw [← e]; exact hp.it_lt hx i, orb_trn3 o⟩
  · rw [hphi]
    refine hfour.congr fun x hx => ⟨fun h g hg o => ?_, fun h => ⟨?_, trivial⟩⟩
    · have := orb_trn3 o.2; omega
    · by_cases h0 : x % 4 = 0
      · exact h0
      · refine absurd ⟨by omega, ?_⟩ (h (x - x % 4) (by omega))
        have hr : x % 4 = 3 ∨ x % 4 = 2 ∨ x % 4 = 1 := by omega
        rcases hr with e | e | e
        · exact ⟨1, by show trn (x - x % 4) 3 = x; unfold trn; omega⟩
        · exact ⟨2, by show trn (trn (x - x % 4) 3) 3 = x; unfold trn; omega⟩
        · exact ⟨3, by show trn (trn (trn (x - x % 4) 3) 3) 3 = x; unfold trn; omega⟩
  · refine hfour.congr fun x hx => ⟨fun h g hg o => ?_, fun h => ⟨?_, trivial⟩⟩
    · have := o.2.2; omega
    · by_cases h0 : x % 4 = 0
      · exact h0
      · exact absurd ⟨by omega, hx, by omega⟩ (h (x - x % 4) (by omega))
theorem cls_congr {R S : Nat → Nat → Prop} {N k : Nat} (h : Cls R N k) (e : ∀ x y, R x y ↔ S x y) : Cls S N k :=
  Cnt.congr h fun _ _ => ⟨fun q g hg hs => q g hg ((e _ _).2 hs), fun q g hg hs => q g hg ((e _ _).1 hs)⟩
theorem grown_succ {m : Nat → Nat} {n k F c t : Nat} {E : Nat → Bool} {C : Nat → Nat → Prop} (i : Invol m (4 * n)) (hfix : ∀ x, x < 4 * n → m x ≠ x) (h : Grown m n E k C F c t) : ∃ C' F' c' t', Grown m n E (k + 1) C' F' c' t' := by
  by_cases hc : k < mmx m (4 * n) k ∧ E k = false
  · obtain ⟨h1, h2⟩ := hc
    have hk : k < 4 * n := by
      by_cases hk : k < 4 * n
      · exact hk
      · have : mmx m (4 * n) k = k := by simp [mmx, hk]
        omega
    have hb := mmx_N i hk
    have hphi : phi m (4 * n) E (k + 1) = swf (phi m (4 * n) E k) k (mmx m (4 * n) k) := by funext x; unfold phi swf; rw [mk_step i h1 h2]
    generalize hbb : mmx m (4 * n) k = b at *
    obtain ⟨F', hF'⟩ := Cnt.ex (fun x => ∀ g, g < x → ¬ RO' (phi m (4 * n) E (k + 1)) (4 * n) g x) (4 * n)
    obtain ⟨c', hc'⟩ := Cnt.ex (fun x => ∀ g, g < x → ¬ Merge C k b g x) (4 * n)
    have hsub : ∀ x y, RO' (phi m (4 * n) E (k + 1)) (4 * n) x y → Merge C k b x y := by
      intro x y hr
      rw [hphi] at hr
      by_cases ho : Orb (phi m (4 * n) E k) k b
      · have hsp := h.perm.split hk (by omega) ho
        have hps := h.perm.swf hk hb
        have hns : ¬ Orb (swf (phi m (4 * n) E k) k b) k b := fun q => hsp (hps.orb_symm hk q)
        have hm := (hps.merge hk hb hns x y).2 (.inl hr)
        rw [swf_swf] at hm
        exact .inl (h.sub x y hm)
      · rcases (h.perm.merge hk hb ho x y).1 hr with q | ⟨q1, q2⟩ | ⟨q1, q2⟩
        · exact .inl (h.sub _ _ q)
        · exact .inr (.inl ⟨h.sub _ _ q1, h.sub _ _ q2⟩)
        · exact .inr (.inr ⟨h.sub _ _ q1, h.sub _ _ q2⟩)
    have hde : ∃ d, F' + n + 2 * d = 2 * c' + (t + 1) := by
      have hcc : C k b → c' = c := fun q => Cnt.uniq hc' (cls_congr h.parts fun x y => (Merge.same h.eqv q).symm)
      have hcn : ¬ C k b → c = c' + 1 := fun q => cls_merge h.eqv hk hb q h.parts hc'
      obtain ⟨d, heu⟩ := h.defect
      by_cases ho : Orb (phi m (4 * n) E k) k b
      · have hsp := h.perm.split hk (by omega) ho
        have hps := h.perm.swf hk hb
        have hns : ¬ Orb (swf (phi m (4 * n) E k) k b) k b := fun q => hsp (hps.orb_symm hk q)
        have hCab := h.sub k b ⟨hk, ho⟩
        have e1 : F' = F + 1 := by
          rw [hphi] at hF'
          refine cls_merge hps.eqv hk hb (fun q => hns q.2) hF' (cls_congr h.faces fun x y => ?_)
          have := hps.merge hk hb hns x y
          rw [swf_swf] at this
          exact this
        have := hcc hCab
        exact ⟨d, by omega⟩
      · have e1 : F = F' + 1 := by
          rw [hphi] at hF'
          exact cls_merge h.perm.eqv hk hb (fun q => ho q.2) h.faces (cls_congr hF' fun x y => h.perm.merge hk hb ho x y)
        by_cases hC : C k b
        · have := hcc hC; exact ⟨d + 1, by omega⟩
        · have := hcn hC; exact ⟨d, by omega⟩
    refine ⟨Merge C k b, F', c', t + 1, by rw [hphi]; exact h.perm.swf hk hb, Merge.eqv h.eqv, hsub, fun x y hx hy e => .inl (h.cross x y hx hy e), fun x hx hl hne => ?_, fun D hD d1 d2 x y hm => ?_, hF', hc', .yes ⟨by rw [hbb]; exact h1, h2⟩ h.edges, by obtain ⟨d, hd⟩ := hde; omega, hde⟩
    · by_cases hlk : min x (mmx m (4 * n) x) < k
      · exact .inl (h.edge x hx hlk hne)
      · by_cases hle : x ≤ mmx m (4 * n) x
        · have : x = k := by omega
          subst this
          rw [hbb]
          exact .inr (.inl ⟨h.eqv.refl _ hk, h.eqv.refl _ hb⟩)
        · have e1 : mmx m (4 * n) x = k := by omega
          have e2 : x = b := by rw [← hbb, ← e1, mmx_mmx i]
          rw [e1, e2]
          exact .inr (.inr ⟨h.eqv.refl _ hb, h.eqv.refl _ hk⟩)
    · have hab : D k b := by have := d2 k hk; rw [hbb] at this; exact this
      rcases hm with q | ⟨q1, q2⟩ | ⟨q1, q2⟩
      · exact h.gen D hD d1 d2 x y q
      · exact hD.trans _ _ _ (h.gen D hD d1 d2 _ _ q1) (hD.trans _ _ _ hab (h.gen D hD d1 d2 _ _ q2))
      · exact hD.trans _ _ _ (h.gen D hD d1 d2 _ _ q1) (hD.trans _ _ _ (hD.symm _ _ hab) (h.gen D hD d1 d2 _ _ q2))
  · have hphi : phi m (4 * n) E (k + 1) = phi m (4 * n) E k := by funext x; unfold phi; rw [mk_stay i hc]
    refine ⟨C, F, c, t, by rw [hphi]; exact h.perm, h.eqv, by rw [hphi]; exact h.sub, h.cross, fun x hx hl hne => ?_, h.gen, by rw [hphi]; exact h.faces, h.parts, .no hc h.edges, h.euler, h.defect⟩
    by_cases hlk : min x (mmx m (4 * n) x) < k
    · exact h.edge x hx hlk hne
    · exfalso
      have hfx := hfix x hx
      have hxx := mmx_lt (m := m) hx
      by_cases hle : x ≤ mmx m (4 * n) x
      · have : x = k := by omega
        subst this
        have hmn : min x (mmx m (4 * n) x) = x := by omega
        rw [hmn] at hne
        exact hc ⟨by omega, hne⟩
      · have e1 : mmx m (4 * n) x = k := by omega
        have e2 : mmx m (4 * n) k = x := by rw [← e1, mmx_mmx i]
        have hmn : min x (mmx m (4 * n) x) = k := by omega
        rw [hmn] at hne
        exact hc ⟨by omega, hne⟩
theorem grown_all {m : Nat → Nat} {n : Nat} (E : Nat → Bool) (i : Invol m (4 * n)) (hfix : ∀ x, x < 4 * n → m x ≠ x) (k : Nat) : ∃ C F c t, Grown m n E k C F c t := by
  induction k with
  | zero => exact ⟨_, _, _, _, grown_zero m n E⟩
  | succ k ih =>
    obtain ⟨C, F, c, t, h⟩ := ih
    exact grown_succ i hfix h

theorem it_congr {f g : Nat → Nat} {N : Nat} (p : Perm f N) (e : ∀ x, x < N → f x = g x) {x : Nat} (hx : x < N) (i : Nat) : it f i x = it g i x := by
  induction i with
  | zero => rfl
  | succ i ih => show f _ = g _; rw [← ih, e _ (p.it_lt hx i)]
/-- The two sides of an edge are different faces. -/
theorem sides {m : Nat → Nat} {n Ff c : Nat} {D : Nat → Nat → Prop} (i : Invol m (4 * n)) (hfix : ∀ x, x < 4 * n → m x ≠ x) (hD : Eqv D (4 * n))
    (hcross : ∀ x y, x < 4 * n → y < 4 * n → x / 4 = y / 4 → D x y) (hedge : ∀ x, x < 4 * n → D x (m x))
    (hmin : ∀ C, Eqv C (4 * n) → (∀ x y, x < 4 * n → y < 4 * n → x / 4 = y / 4 → C x y) → (∀ x, x < 4 * n → C x (m x)) → ∀ x y, D x y → C x y)
    (hF : Cls (RO' (fun x => trn (m x) 3) (4 * n)) (4 * n) Ff) (hc : Cls D (4 * n) c) (hsph : Ff = n + 2 * c) (h : Nat) (hh : h < 4 * n) : ¬ Orb (fun x => trn (m x) 3) h (m h) := by
  intro ho
  have pf : Perm (fun x => trn (m x) 3) (4 * n) := i.perm 3
  obtain ⟨e, b, he, hb, hlt, hmb, hme, hoe⟩ : ∃ e b, e < 4 * n ∧ b < 4 * n ∧ e < b ∧ m e = b ∧ m b = e ∧ Orb (fun x => trn (m x) 3) e b := by
    have h1 := i.lt h hh
    have h2 := i.inv h hh
    by_cases q : h < m h
    · exact ⟨h, m h, hh, h1, q, rfl, h2, ho⟩
    · exact ⟨m h, h, h1, hh, by have := hfix h hh; omega, h2, rfl, pf.orb_symm hh ho⟩
  obtain ⟨E, hE⟩ : ∃ E : Nat → Bool, ∀ x, E x = false ↔ x ≠ e := ⟨fun x => x == e, fun x => by simp⟩
  obtain ⟨C, F, c', t, g⟩ := grown_all E i hfix (4 * n)
  have hxe := mmx_lt (m := m) he
  have hxb := mmx_lt (m := m) hb
  rw [hmb] at hxe
  rw [hme] at hxb
  -- every half-edge of another edge
  have hlo : ∀ x, x < 4 * n → x ≠ e → x ≠ b → min x (mmx m (4 * n) x) < 4 * n ∧ E (min x (mmx m (4 * n) x)) = false := fun x hx n1 n2 => by
    refine ⟨by omega, (hE _).2 fun q => ?_⟩
    by_cases hle : x ≤ mmx m (4 * n) x
    · omega
    · have e1 : mmx m (4 * n) x = e := by omega
      have e2 : mmx m (4 * n) e = x := by rw [← e1, mmx_mmx i]
      omega
  have hfull : ∀ x, x < 4 * n → trn (m x) 3 = swf (phi m (4 * n) E (4 * n)) e b x := fun x hx => by
    unfold swf phi
    by_cases e1 : x = e
    · rw [e1, sw_left, hmb]
      have : mk m (4 * n) E (4 * n) b = b := by unfold mk; rw [if_neg]; rw [hxb, hE]; omega
      rw [this]
    · by_cases e2 : x = b
      · rw [e2, sw_right, hme]
        have : mk m (4 * n) E (4 * n) e = e := by unfold mk; rw [if_neg]; rw [hxe, hE]; omega
        rw [this]
      · rw [sw_other e1 e2]
        have : mk m (4 * n) E (4 * n) x = m x := by unfold mk; rw [if_pos (hlo x hx e1 e2), mmx_lt hx]
        rw [this]
  have hit : ∀ x, x < 4 * n → ∀ j, it (fun x => trn (m x) 3) j x = it (swf (phi m (4 * n) E (4 * n)) e b) j x := fun x hx j => it_congr pf hfull hx j
  have hRO : ∀ x y, RO' (fun x => trn (m x) 3) (4 * n) x y ↔ RO' (swf (phi m (4 * n) E (4 * n)) e b) (4 * n) x y := fun x y => by
    constructor
    · rintro ⟨hx, j, q⟩; exact ⟨hx, j, by rw [← hit x hx]; exact q⟩
    · rintro ⟨hx, j, q⟩; exact ⟨hx, j, by rw [hit x hx]; exact q⟩
  have hps := g.perm.swf he hb
  have hos : Orb (swf (phi m (4 * n) E (4 * n)) e b) e b := ((hRO e b).1 ⟨he, hoe⟩).2
  have hsp := hps.split he (by omega) hos
  rw [swf_swf] at hsp
  have hns : ¬ Orb (phi m (4 * n) E (4 * n)) e b := fun q => hsp (g.perm.orb_symm he q)
  have e1 : F = Ff + 1 := cls_merge g.perm.eqv he hb (fun q => hns q.2) g.faces (cls_congr hF fun x y => (hRO x y).trans (g.perm.merge he hb hns x y))
  -- all edges but one
  obtain ⟨T, hT⟩ := Cnt.ex (fun x => x < 4 * n ∧ x < mmx m (4 * n) x) (4 * n)
  have e2 : 4 * n = 2 * T := Cnt.pairs (4 * n) (mmx m (4 * n)) (4 * n) (fun x => x < 4 * n) T (Cnt.all _ _ fun x hx => hx) hT (fun x hx _ => ⟨mmx_N i hx, mmx_N i hx, mmx_mmx i x, by rw [mmx_lt hx]; exact hfix x hx⟩)
  have e3 : T = t + 1 := hT.drop g.edges he ⟨he, by omega⟩ (fun q => (hE e).1 q.2 rfl) (fun x hx hne => ⟨fun q => ⟨q.2, (hE x).2 hne⟩, fun q => ⟨hx, q.1⟩⟩)
  have heu := g.euler
  have hsubD : ∀ x y, C x y → D x y := g.gen D hD hcross (fun x hx => by rw [mmx_lt hx]; exact hedge x hx)
  have hnC : ¬ C e b := fun hC => by
    have hall : ∀ x, x < 4 * n → C x (m x) := fun x hx => by
      by_cases q1 : x = e
      · rw [q1, hmb]; exact hC
      · by_cases q2 : x = b
        · rw [q2, hme]; exact g.eqv.symm _ _ hC
        · have := g.edge x hx (hlo x hx q1 q2).1 (hlo x hx q1 q2).2
          rw [mmx_lt hx] at this; exact this
    have hDC := hmin C g.eqv g.cross hall
    have : c = c' := Cnt.uniq hc (cls_congr g.parts fun x y => ⟨hsubD x y, hDC x y⟩)
    omega
  -- the part on e's side has an odd number of half-edges but e's, and four at each crossing
  obtain ⟨κ, hκ⟩ := Cnt.ex (fun x => C e x) (4 * n)
  have p4 := Cnt.fours n hκ (fun x y hx hy q hC => g.eqv.trans _ _ _ hC (g.cross x y hx hy q))
  obtain ⟨κ', hκ'⟩ := Cnt.ex (fun x => C e x ∧ x ≠ e) (4 * n)
  obtain ⟨τ, hτ⟩ := Cnt.ex (fun x => (C e x ∧ x ≠ e) ∧ x < mmx m (4 * n) x) (4 * n)
  have p1 := hκ.drop hκ' he (g.eqv.refl e he) (by simp) (fun x _ hne => ⟨fun q => ⟨q, hne⟩, fun q => q.1⟩)
  have p2 := Cnt.pairs (4 * n) (mmx m (4 * n)) κ' _ τ hκ' hτ (fun x hx hq => by
    have hxb' : x ≠ b := fun q => hnC (by rw [← q]; exact hq.1)
    have hed := g.edge x hx (hlo x hx hq.2 hxb').1 (hlo x hx hq.2 hxb').2
    refine ⟨mmx_N i hx, ⟨g.eqv.trans _ _ _ hq.1 hed, fun q => hxb' ?_⟩, mmx_mmx i x, by rw [mmx_lt hx]; exact hfix x hx⟩
    rw [← hxe, ← q, mmx_mmx i])
  omega

end Go.Proofs.Ytdamfoobnbjojaa

/- Plain mathematics: the count of the faces of all components together; the two sides of an edge of a diagram that is drawn on spheres. -/
namespace Go.Proofs.Ytdamfoobnbjojaa

def sumN (f : Nat → Nat) : Nat → Nat
  | 0 => 0
  | n + 1 => sumN f n + f n
theorem sumN_add (f g : Nat → Nat) (n : Nat) : sumN (fun l => f l + g l) n = sumN f n + sumN g n := by
  induction n with
  | zero => rfl
  | succ n ih => show sumN _ n + (f n + g n) = sumN f n + f n + (sumN g n + g n); rw [ih]; omega
theorem sumN_congr {f g : Nat → Nat} {n : Nat} (h : ∀ l, l < n → f l = g l) : sumN f n = sumN g n := by
  induction n with
  | zero => rfl
  | succ n ih => show sumN f n + f n = sumN g n + g n; rw [ih fun l hl => h l (by omega), h n (by omega)]
theorem sumN_zero (n : Nat) : sumN (fun _ => 0) n = 0 := by
  induction n with
  | zero => rfl
  | succ n ih => show sumN _ n + 0 = 0; rw [ih]
theorem sumN_one {c n : Nat} (hc : c < n) : sumN (fun l => if c == l then 1 else 0) n = 1 := by
  induction n with
  | zero => omega
  | succ n ih =>
    show sumN _ n + _ = 1
    by_cases h : c = n
    · have : sumN (fun l => if c == l then 1 else 0) n = 0 := by
        rw [sumN_congr (g := fun _ => 0) fun l hl => by simp; omega]; exact sumN_zero n
      rw [this]; simp [h]
    · rw [ih (by omega)]; simp [h]
/-- Counted by labels, and all at once. -/
theorem count_by (p : Nat → Bool) (G : Nat → Nat) (n : Nat) : ∀ N, (∀ x, x < N → G x < n) → sumN (fun l => (List.range N).countP fun x => p x && G x == l) n = (List.range N).countP p := by
  intro N
  induction N with
  | zero => intro _; simp; exact sumN_zero n
  | succ N ih =>
    intro h
    rw [List.range_succ, List.countP_append, ← ih fun x hx => h x (by omega)]
    have e : ∀ l, l < n → ((List.range N ++ [N]).countP fun x => p x && G x == l) = ((List.range N).countP fun x => p x && G x == l) + (if p N then (if G N == l then 1 else 0) else 0) := fun l _ => by
      rw [List.countP_append]
      cases hp : p N <;> simp [hp, List.countP_cons]
    rw [sumN_congr e, sumN_add]
    congr 1
    cases hp : p N with
    | true => simpa [hp] using sumN_one (h N (by omega))
    | false => simpa [hp] using sumN_zero n

def rootsN (F : Nat → Nat) (n : Nat) : Nat := (List.range n).countP fun l => F l == l
/-- Faces = crossings + 2 components, over all components. -/
theorem euler_all {F f : Nat → Nat} {n : Nat} (hs : sphB F f (4 * n) n = true) (hle : ∀ c, F c ≤ c) (hid : ∀ c, F (F c) = F c) : (List.range (4 * n)).countP (fst f (4 * n)) = n + 2 * rootsN F n := by
  have h1 := count_by (fst f (4 * n)) (fun x => F (x / 4)) n (4 * n) (fun x hx => by have := hle (x / 4); omega)
  have h2 := count_by (fun _ => true) F n n (fun x hx => by have := hle x; omega)
  have h3 : (List.range n).countP (fun _ => true) = n := by simp
  rw [h3] at h2
  have h4 : sumN (fun l => if F l == l then 1 else 0) n = rootsN F n := by
    have : ∀ k, sumN (fun l => if F l == l then 1 else 0) k = rootsN F k := by
      intro k
      induction k with
      | zero => rfl
      | succ k ih => show sumN _ k + _ = _; rw [ih]; unfold rootsN; rw [List.range_succ, List.countP_append]; simp [List.countP_cons]
    exact this n
  have h5 : ∀ l, l < n → ((List.range (4 * n)).countP fun x => fst f (4 * n) x && F (x / 4) == l) = (((List.range n).countP fun x => true && F x == l) + (if F l == l then 1 else 0)) + (if F l == l then 1 else 0) := fun l hl => by
    by_cases hr : F l = l
    · have := (sphB_iff _ _ _ _).1 hs l hl
      rw [hr] at this
      unfold cntF cntV at this
      simp only [Bool.true_and]
      rw [this]; simp [hr]
    · have e1 : ((List.range (4 * n)).countP fun x => fst f (4 * n) x && F (x / 4) == l) = 0 := by
        rw [List.countP_eq_zero]
        intro x _ q
        simp only [Bool.and_eq_true, beq_iff_eq] at q
        exact hr (by rw [← q.2, hid])
      have e2 : ((List.range n).countP fun x => true && F x == l) = 0 := by
        rw [List.countP_eq_zero]
        intro x _ q
        simp only [Bool.true_and, beq_iff_eq] at q
        exact hr (by rw [← q, hid])
      rw [e1, e2]; simp [hr]
  rw [sumN_congr h5, sumN_add, sumN_add, h2, h4] at h1
  omega

theorem cls_orb {f : Nat → Nat} {N : Nat} (p : Perm f N) : Cls (RO' f N) N ((List.range N).countP (fst f N)) :=
  (Cnt.countP (fst f N) N).congr fun x hx => by
    rw [p.fst_iff hx]
    exact ⟨fun q g hg o => q g hg o.2, fun q g hg o => q g hg ⟨by omega, o⟩⟩
theorem cls_lab {F : Nat → Nat} {n : Nat} (hle : ∀ c, F c ≤ c) (hid : ∀ c, F (F c) = F c) : Cls (fun x y => x < 4 * n ∧ y < 4 * n ∧ F (x / 4) = F (y / 4)) (4 * n) (rootsN F n) := by
  have h := (Cnt.countP (fun l => F l == l) n).firsts
  refine h.congr fun x hx => ⟨fun q g hg o => ?_, fun q => ?_⟩
  · obtain ⟨q1, q2⟩ := q
    have q3 : F (x / 4) = x / 4 := by simpa using q2
    have := hle (g / 4)
    rw [o.2.2, q3] at this
    omega
  · have hl := hle (x / 4)
    have h4 : x % 4 = 0 := by
      by_cases h0 : x % 4 = 0
      · exact h0
      · exact absurd ⟨by omega, hx, by rw [show (x - x % 4) / 4 = x / 4 by omega]⟩ (q (x - x % 4) (by omega))
    refine ⟨h4, ?_⟩
    have : F (x / 4) = x / 4 := by
      by_cases h0 : F (x / 4) = x / 4
      · exact h0
      · refine absurd ⟨by omega, hx, ?_⟩ (q (4 * F (x / 4)) (by omega))
        rw [show 4 * F (x / 4) / 4 = F (x / 4) by omega, hid]
    simpa using this

/-- In a diagram that is drawn on spheres the two sides of an edge are different faces. -/
theorem sides_sph {m : Nat → Nat} {n : Nat} (i : Invol m (4 * n)) (hfix : ∀ x, x < 4 * n → m x ≠ x) (hs : sphB (ufLab m (4 * n)) (fun x => trn (m x) 3) (4 * n) n = true) (h : Nat) (hh : h < 4 * n) : ¬ Orb (fun x => trn (m x) 3) h (m h) := by
  have hle : ∀ c, ufLab m (4 * n) c ≤ c := fun c => root_le _ _
  have hid : ∀ c, ufLab m (4 * n) (ufLab m (4 * n) c) = ufLab m (4 * n) c := fun c => root_root _ _
  have hlab := ufLab_isLab m (4 * n) n
  generalize ufLab m (4 * n) = F at *
  refine sides i hfix (D := fun x y => x < 4 * n ∧ y < 4 * n ∧ F (x / 4) = F (y / 4)) ⟨fun x y q => ⟨q.1, q.2.1⟩, fun x hx => ⟨hx, hx, rfl⟩, fun x y q => ⟨q.2.1, q.1, q.2.2.symm⟩, fun x y z q r => ⟨q.1, r.2.1, q.2.2.trans r.2.2⟩⟩
    (fun x y hx hy e => ⟨hx, hy, by rw [e]⟩) (fun x hx => ⟨hx, i.lt x hx, hlab.2 x hx⟩) ?_ (cls_orb (i.perm 3)) (cls_lab hle hid) (euler_all hs hle hid) h hh
  intro C hC h1 h2 x y hd
  have key : ∀ {a b : Nat}, Conn m (4 * n) a b → a < n → b < n ∧ C (4 * a) (4 * b) := by
    intro a b hc ha
    induction hc with
    | refl => exact ⟨ha, hC.refl _ (by omega)⟩
    | step z hz _ ih =>
      have hm := i.lt z hz
      exact ⟨by omega, hC.trans _ _ _ ih.2 (hC.trans _ _ _ (h1 _ z (by omega) hz (by omega)) (hC.trans _ _ _ (h2 z hz) (h1 _ _ hm (by omega) (by omega))))⟩
    | back z hz _ ih =>
      have hm := i.lt z hz
      exact ⟨by omega, hC.trans _ _ _ ih.2 (hC.trans _ _ _ (h1 _ (m z) (by omega) hm (by omega)) (hC.trans _ _ _ (hC.symm _ _ (h2 z hz)) (h1 _ _ hz (by omega) (by omega))))⟩
  obtain ⟨hx, hy, e⟩ := hd
  have c1 := (hlab.1 (x / 4) (by omega)).2
  have c2 := (hlab.1 (y / 4) (by omega)).2
  rw [e] at c1
  have := (key (c1.trans c2.symm) (by omega)).2
  exact hC.trans _ _ _ (h1 x _ hx (by omega) (by omega)) (hC.trans _ _ _ this (h1 _ y (by omega) hy (by omega)))

end Go.Proofs.Ytdamfoobnbjojaa

/- Plain mathematics: one strand is reversed; how many faces and strands there are. -/
namespace Go.Proofs.Ytdamfoobnbjojaa
open Go.RowKit

/-- What a valid diagram's lists are, in numbers. -/
structure Std (s m : List Int) (n : Nat) : Prop where
  hs : s.length = n
  hm : m.length = 4 * n
  inv : Invol (matesOf m) (4 * n)
  io : ∀ x, x < 4 * n → outB s (matesOf m x) = !(outB s x)
  sg : ∀ c, c < n → s.getD c 0 = 1 ∨ s.getD c 0 = -1
theorem std_of {s m : List Int} {lp : Int} {n : Nat} (hv : validB s m lp = true) (hn : s.length = n) : Std s m n := by
  obtain ⟨v1, v2, v3, _⟩ := validB_out hv
  have hl : m.length = 4 * n := by unfold limB at v1; simp only [Bool.and_eq_true, decide_eq_true_eq] at v1; omega
  refine ⟨hn, hl, matesOf_invol v3 hl, fun x hx => ?_, fun c hc => sg_or v2 (by omega)⟩
  obtain ⟨y, g1, g2, g3, g4⟩ := pOK_out ((pairB_iff _ _).1 v3 x (by omega)) hl
  have gy : matesOf m x = y := by unfold matesOf; rw [g1]; rfl
  rw [gy]
  cases hA : outB s x <;> cases hB : outB s y <;> simp [hA, hB] at g4 ⊢
theorem outQ_two (sg : Int) (h : sg = 1 ∨ sg = -1) (r : Nat) (hr : r < 4) : outQ sg ((r + 2) % 4) = !(outQ sg r) := by
  have hr' : r = 0 ∨ r = 1 ∨ r = 2 ∨ r = 3 := by omega
  rcases h with rfl | rfl <;> rcases hr' with rfl | rfl | rfl | rfl <;> rfl
section
variable {s m : List Int} {n : Nat}
theorem Std.out2 (D : Std s m n) {x : Nat} (hx : x < 4 * n) : outB s (trn x 2) = !(outB s x) := by
  rw [outB_eq, outB_eq, trn_div, show trn x 2 % 4 = (x % 4 + 2) % 4 by unfold trn; omega]
  exact outQ_two _ (D.sg _ (by omega)) _ (by omega)
theorem Std.perm (D : Std s m n) : Perm (fs (matesOf m)) (4 * n) := D.inv.perm 2
theorem Std.outf (D : Std s m n) {x : Nat} (hx : x < 4 * n) : outB s (fs (matesOf m) x) = outB s x := by
  unfold fs
  rw [D.out2 (D.inv.lt x hx), D.io x hx]; simp
theorem trn22 (x : Nat) : trn (trn x 2) 2 = x := by unfold trn; omega

/-- The crossings that a strand passes under (U) and over (V). -/
structure Sd (s m : List Int) (n : Nat) (S : Nat → Prop) (U V : Nat → Bool) : Prop where
  out : ∀ y, S y → y < 4 * n ∧ outB s y = true
  step : ∀ y, y < 4 * n → (S y ↔ S (fs (matesOf m) y))
  u : ∀ c, U c = true ↔ ∃ y, S y ∧ y / 4 = c ∧ y % 4 = 2
  v : ∀ c, V c = true ↔ ∃ y, S y ∧ y / 4 = c ∧ y % 4 ≠ 2
def onE (U V : Nat → Bool) (x : Nat) : Bool := if x % 2 = 0 then U (x / 4) else V (x / 4)
theorem onE_trn2 (U V : Nat → Bool) (x : Nat) : onE U V (trn x 2) = onE U V x := by
  unfold onE; rw [trn_div, show trn x 2 % 2 = x % 2 by unfold trn; omega]
variable {S : Nat → Prop} {U V : Nat → Bool}
theorem Sd.on (D : Std s m n) (h : Sd s m n S U V) {x : Nat} (hx : x < 4 * n) (ho : outB s x = true) : onE U V x = true ↔ S x := by
  have hsg := D.sg (x / 4) (by omega)
  rw [outB_eq] at ho
  unfold onE
  by_cases e : x % 4 = 2
  · rw [if_pos (by omega), h.u]
    constructor
    · rintro ⟨y, hy, h1, h2⟩
      have : y = x := by omega
      rw [← this]; exact hy
    · exact fun hS => ⟨x, hS, rfl, e⟩
  · have hodd : x % 4 = 1 ∨ x % 4 = 3 := by
      have : x % 4 = 0 ∨ x % 4 = 1 ∨ x % 4 = 3 := by omega
      rcases this with r | r | r
      · rw [r] at ho; exact absurd ho (by unfold outQ; simp)
      · exact .inl r
      · exact .inr r
    rw [if_neg (by omega), h.v]
    constructor
    · rintro ⟨y, hy, h1, h2⟩
      obtain ⟨hy1, hy2⟩ := h.out y hy
      rw [outB_eq, h1] at hy2
      have : y % 4 = x % 4 := by
        have hy4 : y % 4 = 0 ∨ y % 4 = 1 ∨ y % 4 = 3 := by omega
        unfold outQ at ho hy2
        rcases hsg with q | q <;> rw [q] at ho hy2 <;> rcases hodd with r | r <;> rcases hy4 with t | t | t <;> rw [r] at ho <;> rw [t] at hy2 <;> simp at ho hy2 <;> omega
      have : y = x := by omega
      rw [← this]; exact hy
    · exact fun hS => ⟨x, hS, rfl, e⟩
theorem Sd.onOut (D : Std s m n) (h : Sd s m n S U V) {x : Nat} (hx : x < 4 * n) (ho : outB s x = true) : onE U V (matesOf m x) = onE U V x := by
  have hm := D.inv.lt x hx
  have hf : fs (matesOf m) x < 4 * n := D.perm.lt x hx
  rw [← onE_trn2 U V (matesOf m x), Bool.eq_iff_iff]
  exact (h.on D hf (by rw [D.outf hx]; exact ho)).trans ((h.step x hx).symm.trans (h.on D hx ho).symm)
theorem Sd.mate (D : Std s m n) (h : Sd s m n S U V) {x : Nat} (hx : x < 4 * n) : onE U V (matesOf m x) = onE U V x := by
  cases ho : outB s x with
  | true => exact h.onOut D hx ho
  | false =>
    have h1 := h.onOut D (D.inv.lt x hx) (by rw [D.io x hx, ho]; rfl)
    rw [D.inv.inv x hx] at h1
    exact h1.symm
/-- The places and the flips when a strand is reversed. -/
def rvT (U : Nat → Bool) : Nat → Nat := rot fun c => if U c = true then 2 else 0
def rvP (U V : Nat → Bool) (c : Nat) : Bool := U c != V c
theorem rvQ (u v : Bool) (sg : Int) (h : sg = 1 ∨ sg = -1) (r : Nat) (hr : r < 4) : outQ (if (u != v) = true then -sg else sg) ((r + if u = true then 2 else 0) % 4) = xor (outQ sg r) (if r % 2 = 0 then u else v) := by
  have hr' : r = 0 ∨ r = 1 ∨ r = 2 ∨ r = 3 := by omega
  cases u <;> cases v <;> rcases h with rfl | rfl <;> rcases hr' with rfl | rfl | rfl | rfl <;> rfl
theorem rv_out {s1 m1 : List Int} (D : Std s m n) (M : Moved (rvT U) (rvP U V) n s m s1 m1) {x : Nat} (hx : x < 4 * n) : outB s1 (rvT U x) = xor (outB s x) (onE U V x) := by
  have e1 : rvT U x / 4 = x / 4 := rot_div _ _
  have e2 : rvT U x % 4 = (x % 4 + if U (x / 4) = true then 2 else 0) % 4 := by
    show trn x (if U (x / 4) = true then 2 else 0) % 4 = _
    unfold trn; split <;> omega
  rw [outB_eq, outB_eq, e1, e2, M.sg _ (by omega)]
  have h := rvQ (U (x / 4)) (V (x / 4)) (s.getD (x / 4) 0) (D.sg _ (by omega)) (x % 4) (by omega)
  unfold onE rvP
  rw [show x % 2 = x % 4 % 2 by omega]
  exact h
theorem rv_valid {s1 m1 : List Int} {lp : Int} (hv : validB s m lp = true) (hn : s.length = n) (h : Sd s m n S U V) (M : Moved (rvT U) (rvP U V) n s m s1 m1) : validB s1 m1 lp = true :=
  M.valid (E := onE U V) hv hn (rot_place _ _) (.inl fun _x => rot_trn _ _ _) (fun _ hx => rv_out (std_of hv hn) M hx) (fun _ hx => h.mate (std_of hv hn) hx)
end

/-! ## Faces -/
theorem faces_len {s m : List Int} {lp : Int} {n : Nat} (hv : validB s m lp = true) (hn : s.length = n) : (facesM s m lp).length = n + 2 * rootsN (ufLab (matesOf m) (4 * n)) n := by
  have D := std_of hv hn
  have hsp := (validB_out hv).2.2.2
  unfold sphM at hsp
  rw [hn, D.hm] at hsp
  have he := euler_all hsp (fun c => root_le _ _) (fun c => root_root _ _)
  rw [← he]
  unfold facesM
  rw [if_pos hv, D.hm]
  unfold cycL
  rw [List.length_map, List.countP_eq_length_filter]
  congr 1
theorem rootsN_congr {F G : Nat → Nat} {n : Nat} (h : ∀ c, c < n → F c = G c) : rootsN F n = rootsN G n := by
  unfold rootsN
  exact List.countP_congr fun c hc => by rw [h c (by simpa using hc)]
theorem faces_same {T : Nat → Nat} {P : Nat → Bool} {s m s1 m1 : List Int} {lp : Int} {n : Nat} (hv : validB s m lp = true) (hn : s.length = n) (hv1 : validB s1 m1 lp = true) (M : Moved T P n s m s1 m1) (q : Place T n) : (facesM s1 m1 lp).length = (facesM s m lp).length := by
  have D := std_of hv hn
  have D1 := std_of hv1 M.ls
  rw [faces_len hv hn, faces_len hv1 M.ls]
  have sl : Slots (matesOf m) (matesOf m1) T n := ⟨D.inv, D1.inv, q.q, q.div, fun x hx => M.at hx⟩
  rw [rootsN_congr fun c hc => (ufLab_isLab (matesOf m1) (4 * n) n).unique sl.lab c hc]

/-! ## Strands -/
theorem reprs_inv {f g : Nat → Nat} {N : Nat} {p : Nat → Bool} (a : Perm f N) (b : Perm g N) (hfg : ∀ x, x < N → f (g x) = x) (cf : ClosedN f N p) (cg : ClosedN g N p) : reprs g N p = reprs f N p := by
  unfold reprs
  exact List.filter_congr fun x hx => by
    have hx : x < N := by simpa using hx
    rw [sel_closed a cf hx, sel_closed b cg hx, fst_inv a b hfg hx]
theorem count_or (a p q : Nat → Bool) : ∀ l : List Nat, (∀ x ∈ l, ¬ (p x = true ∧ q x = true)) → l.countP (fun x => a x && (p x || q x)) = l.countP (fun x => a x && p x) + l.countP (fun x => a x && q x)
  | [], _ => rfl
  | x :: l, h => by
    have h1 := h x (by simp)
    rw [List.countP_cons, List.countP_cons, List.countP_cons, count_or a p q l fun y hy => h y (by simp [hy])]
    cases a x <;> cases hp : p x <;> cases hq : q x <;> simp [hp, hq] at h1 ⊢ <;> omega
theorem reprs_or {f : Nat → Nat} {N : Nat} {p q : Nat → Bool} (a : Perm f N) (cp : ClosedN f N p) (cq : ClosedN f N q) (hd : ∀ x, x < N → ¬ (p x = true ∧ q x = true)) : (reprs f N (fun x => p x || q x)).length = (reprs f N p).length + (reprs f N q).length := by
  have cpq : ClosedN f N (fun x => p x || q x) := fun x hx e => by
    simp only [Bool.or_eq_true] at e ⊢
    rcases e with e | e
    · exact .inl (cp x hx e)
    · exact .inr (cq x hx e)
  have key : ∀ r : Nat → Bool, ClosedN f N r → (reprs f N r).length = (List.range N).countP (fun x => fst f N x && r x) := fun r cr => by
    unfold reprs
    rw [← List.countP_eq_length_filter]
    exact List.countP_congr fun x hx => by rw [sel_closed a cr (by simpa using hx)]
  rw [key _ cpq, key _ cp, key _ cq]
  exact count_or _ _ _ _ fun x hx => hd x (by simpa using hx)
theorem strands_same {T : Nat → Nat} {P E : Nat → Bool} {s m s1 m1 : List Int} {lp : Int} {n : Nat} (hv : validB s m lp = true) (hn : s.length = n) (hv1 : validB s1 m1 lp = true) (M : Moved T P n s m s1 m1) (q : Place T n) (hT : ∀ x, T (trn x 2) = trn (T x) 2)
    (ho : ∀ x, x < 4 * n → outB s1 (T x) = xor (outB s x) (E x)) (hE : ∀ x, x < 4 * n → E (matesOf m x) = E x) (hE2 : ∀ x, E (trn x 2) = E x) : (strandsM s1 m1 lp).length = (strandsM s m lp).length := by
  have D := std_of hv hn
  have D1 := std_of hv1 M.ls
  have e0 : ∀ (s m : List Int), validB s m lp = true → m.length = 4 * n → (strandsM s m lp).length = (reprs (fs (matesOf m)) (4 * n) (outB s)).length := fun s m hv hm => by
    unfold strandsM; rw [if_pos hv, cycL_reprs, List.length_map, hm]
  rw [e0 _ _ hv D.hm, e0 _ _ hv1 D1.hm]
  have hEf : ∀ x, x < 4 * n → E (fs (matesOf m) x) = E x := fun x hx => by unfold fs; rw [hE2, hE x hx]
  have co : ClosedN (fs (matesOf m)) (4 * n) (outB s) := fun x hx e => by rw [D.outf hx]; exact e
  have c1 : ClosedN (fs (matesOf m1)) (4 * n) (outB s1) := fun x hx e => by rw [D1.outf hx]; exact e
  have cx : ClosedN (fs (matesOf m)) (4 * n) (fun x => xor (outB s x) (E x)) := fun x hx e => by
    show xor (outB s (fs (matesOf m) x)) (E (fs (matesOf m) x)) = true
    rw [D.outf hx, hEf x hx]; exact e
  have s1' := reprs_conj (f := fs (matesOf m)) (g := fs (matesOf m1)) (t := T) D.perm D1.perm q.q (fun x hx => by unfold fs; rw [M.at hx, hT]) (p := fun x => xor (outB s x) (E x)) (p' := outB s1) (fun x hx => ho x hx) cx c1
  rw [← s1']
  -- the two halves
  have cA : ClosedN (fs (matesOf m)) (4 * n) (fun x => outB s x && !(E x)) := fun x hx e => by
    show (outB s (fs (matesOf m) x) && !(E (fs (matesOf m) x))) = true
    rw [D.outf hx, hEf x hx]; exact e
  have cB : ClosedN (fs (matesOf m)) (4 * n) (fun x => outB s x && E x) := fun x hx e => by
    show (outB s (fs (matesOf m) x) && E (fs (matesOf m) x)) = true
    rw [D.outf hx, hEf x hx]; exact e
  have cC : ClosedN (fs (matesOf m)) (4 * n) (fun x => !(outB s x) && E x) := fun x hx e => by
    show (!(outB s (fs (matesOf m) x)) && E (fs (matesOf m) x)) = true
    rw [D.outf hx, hEf x hx]; exact e
  have eX : (fun x => xor (outB s x) (E x)) = fun x => (outB s x && !(E x)) || (!(outB s x) && E x) := by
    funext x; cases outB s x <;> cases E x <;> rfl
  have eO : outB s = fun x => (outB s x && !(E x)) || (outB s x && E x) := by
    funext x; cases outB s x <;> cases E x <;> rfl
  have l1 := reprs_or D.perm cA cC (fun x _ h => by revert h; cases outB s x <;> cases E x <;> simp)
  have l2 := reprs_or D.perm cA cB (fun x _ h => by revert h; cases outB s x <;> cases E x <;> simp)
  rw [eX, l1]
  have l2' : (reprs (fs (matesOf m)) (4 * n) (outB s)).length = _ := (congrArg (fun p => (reprs (fs (matesOf m)) (4 * n) p).length) eO).trans l2
  rw [l2']
  congr 1
  -- along the mates the strands run the other way
  have qm : Perm (matesOf m) (4 * n) := ⟨fun x hx => D.inv.lt x hx, fun x y hx hy e => by rw [← D.inv.inv x hx, ← D.inv.inv y hy, e]⟩
  have qg : Perm (fun x => matesOf m (trn x 2)) (4 * n) := ⟨fun x hx => D.inv.lt _ (trn_lt hx), fun x y hx hy e => trn_inj (qm.inj _ _ (trn_lt hx) (trn_lt hy) e)⟩
  have hfg : ∀ x, x < 4 * n → fs (matesOf m) (matesOf m (trn x 2)) = x := fun x hx => by unfold fs; rw [D.inv.inv _ (trn_lt hx), trn22]
  have hgE : ∀ x, x < 4 * n → outB s (matesOf m (trn x 2)) = outB s x ∧ E (matesOf m (trn x 2)) = E x := fun x hx => by
    rw [D.io _ (trn_lt hx), D.out2 hx, hE _ (trn_lt hx), hE2]; simp
  have cgB : ClosedN (fun x => matesOf m (trn x 2)) (4 * n) (fun x => outB s x && E x) := fun x hx e => by
    show (outB s (matesOf m (trn x 2)) && E (matesOf m (trn x 2))) = true
    rw [(hgE x hx).1, (hgE x hx).2]; exact e
  have l3 := reprs_conj (f := fun x => matesOf m (trn x 2)) (g := fs (matesOf m)) (t := matesOf m) qg D.perm qm (fun x hx => by
    show trn (matesOf m (matesOf m x)) 2 = matesOf m (matesOf m (trn x 2))
    rw [D.inv.inv x hx, D.inv.inv _ (trn_lt hx)]) (p := fun x => outB s x && E x) (p' := fun x => !(outB s x) && E x) (fun x hx => by rw [D.io x hx, hE x hx]; simp) cgB cC
  rw [← l3, reprs_inv D.perm qg hfg cB cgB]

end Go.Proofs.Ytdamfoobnbjojaa

/- The zero value of the array of 64 bools. (A seat of at most 80 functions.) -/
namespace Go.Proofs.Ytdamfoobnbjojaa
open Go.RowKit

def fal64 : Array Value := cellsN 64 (bv fun _ => false)
theorem fal64_def : fal64 = cellsN 64 (bv fun _ => false) := rfl
theorem fal64_run : ∀ w : World, (zeroValue 71).run Try.prog w = .ok (.agg fal64) w := fun _ => by kernel_rfl
theorem fal64_size : fal64.size = 64 := by rw [fal64_def, cellsN_size]
theorem fal64_ne : ¬ fal64 = #[] := fun e => by have := fal64_size; rw [e] at this; cases this
theorem fal64_eq : fal64 = fal64 := rfl

end Go.Proofs.Ytdamfoobnbjojaa

/- Walks: reversedAlong and its closures. -/
namespace Go.Proofs.Ytdamfoobnbjojaa
open Go.RowKit

/-- The crossings that the first k members pass under, and over. -/
def unK (L : Nat → Nat) (k c : Nat) : Bool := (List.range k).any fun i => L i / 4 == c && L i % 4 == 2
def ovK (L : Nat → Nat) (k c : Nat) : Bool := (List.range k).any fun i => L i / 4 == c && L i % 4 != 2
theorem unK_succ (L : Nat → Nat) (k c : Nat) : unK L (k + 1) c = (unK L k c || (L k / 4 == c && L k % 4 == 2)) := by unfold unK; rw [List.range_succ, List.any_append]; simp
theorem ovK_succ (L : Nat → Nat) (k c : Nat) : ovK L (k + 1) c = (ovK L k c || (L k / 4 == c && L k % 4 != 2)) := by unfold ovK; rw [List.range_succ, List.any_append]; simp
theorem enters_once : Enters 79 := fun _ _ => by kernel_rfl
theorem enters_turned : Enters 80 := fun _ _ => by kernel_rfl
theorem asks_once (w : World) (gU gV ns : Nat) (U V : Nat → Bool) (hU : Arr w gU 71 64 (bv U)) (hV : Arr w gV 71 64 (bv V)) (hns : ns ≤ 64) : Asks w 79 #[.pointer (some ⟨gU, 0, none⟩), .pointer (some ⟨gV, 0, none⟩)] (fun c => U c != V c) ns := fun W x hW hx => by
  show Calls Try.prog 79 #[.int .i64 (x : Nat), .pointer (some ⟨gU, 0, none⟩), .pointer (some ⟨gV, 0, none⟩)] W _
  have c1 := (hU.keep hW).cell x (by omega)
  have c2 := (hV.keep hW).cell x (by omega)
  unfold bv at c1 c2
  have x0 : (0 : Int) ≤ (x : Int) := Int.natCast_nonneg _
  have x1 : (x : Int) < 64 := by omega
  have HR : Hid (∃ r, (U x != V x) = r) := Lib.hid ⟨_, rfl⟩
  obtain ⟨r, hr⟩ := HR.out
  show Calls _ _ _ _ fun e W' => e = .returned (.bool (U x != V x)) ∧ _
  obtain ⟨u, hu⟩ : ∃ u, U x = u := ⟨_, rfl⟩
  obtain ⟨v, hv⟩ : ∃ v, V x = v := ⟨_, rfl⟩
  rw [hu] at c1
  rw [hv] at c2
  rw [hu, hv]
  clear hU hV hu hv hr HR
  go_enter Try.func79, Try.ntmps79
  go_wp2
  go_quiet (fail)
  go_wp2
  go_ret
  exact ⟨by cases u <;> cases v <;> rfl, below_drewN (Below.refl _ _) _⟩
theorem goes_turned (w : World) (gU ns nm : Nat) (U : Nat → Bool) (hU : Arr w gU 71 64 (bv U)) (hnm : nm = 4 * ns) (hns : ns ≤ 64) : Goes w 80 #[.pointer (some ⟨gU, 0, none⟩)] (rot fun c => if U c = true then 2 else 0) nm := fun W x hW hx => by
  show Calls Try.prog 80 #[.int .i64 (x : Nat), .pointer (some ⟨gU, 0, none⟩)] W _
  have hx4 : x / 4 < 64 := by omega
  have c1 := (hU.keep hW).cell (x / 4) hx4
  unfold bv at c1
  obtain ⟨q, hq⟩ : ∃ q, x / 4 = q := ⟨_, rfl⟩
  have hqi : (x : Int) / 4 = (q : Int) := by omega
  have x0 : (0 : Int) ≤ (x : Int) := Int.natCast_nonneg _
  have x1 : (x : Int) ≤ 1000 := by omega
  have q0 : (0 : Int) ≤ (q : Int) := Int.natCast_nonneg _
  have q1 : (q : Int) < 64 := by omega
  have CO := Lib.hid (opposite_any x W (by omega) (by omega))
  have HT : Hid ((rot (fun c => if U c = true then 2 else 0) x : Nat) = trn x (if U q = true then 2 else 0)) := Lib.hid (by rw [← hq]; rfl)
  have ht := turn_trn x 2 (by omega)
  rw [show ((2 : Nat) : Int) = 2 from rfl] at ht
  have HTT := Lib.hid ht
  rw [hq] at c1
  cases hu : U q with
  | false =>
    rw [hu] at c1
    have HE : Hid (trn x (if U q = true then 2 else 0) = x) := Lib.hid (by rw [hu]; unfold trn; simp; omega)
    clear hU hq hu ht
    go_enter Try.func80, Try.ntmps80
    go_wp2
    go_ret
    exact ⟨by rw [HT.out, HE.out]; rfl, Below.refl _ _⟩
  | true =>
    rw [hu] at c1
    have HE : Hid (trn x (if U q = true then 2 else 0) = trn x 2) := Lib.hid (by rw [hu]; rfl)
    clear hU hq hu ht
    go_enter Try.func80, Try.ntmps80
    go_wp2_with (go_at_call 45; ((with_reducible refine CO.out.mono ?_); rintro e w' ⟨rfl, rfl⟩))
    go_ret
    exact ⟨by rw [HT.out, HE.out]; exact ret_int HTT.out, Below.refl _ _⟩

set_option maxHeartbeats 3200000 in
set_option maxRecDepth 100000 in
theorem along_any (A B C : Option Addr) (ns cs nm cm nL cL : Nat) (lp : Int) (s m l : List Int) (L : Nat → Nat) (w : World) (hs : RI w A ns s) (hm : RI w B nm m) (hl : RI w C nL l) (hv : validB s m lp = true) (hL : ∀ i, i < nL → l.getD i 0 = (L i : Int) ∧ L i < nm) (hnL : nL ≤ 256) :
    Calls Try.prog 54 #[dval A ns cs B nm cm lp, .slice C nL cL] w (MvPost w ns nm lp (fpK (fun c => unK L nL c != ovK L nL c) s ns) (mvK (rot fun c => if unK L nL c = true then 2 else 0) m nm)) := by
  obtain ⟨hnm, hns, hM, hS, _, _⟩ := valid_data hv hs.1 hm.1
  have hzv := fal64_run
  have hzn := fal64_ne
  have HS := Lib.hid hs
  have HM := Lib.hid hm
  have HLL := Lib.hid hl
  have HLV := Lib.hid hL
  have HSV := Lib.hid hS
  have HMV := Lib.hid hM
  have HNM := Lib.hid hnm
  have nL0 : (0 : Int) ≤ (nL : Int) := Int.natCast_nonneg _
  have nL1 : (nL : Int) ≤ 256 := by omega
  clear hs hm hl hL hM hS hnm hv
  have hb1 := below_alloc w (dbox A ns cs B nm cm lp)
  have hb2 := below_alloc (w.alloc (dbox A ns cs B nm cm lp)) (.cells #[.slice none 0 0, .slice none 0 0, .int .i64 0] 24)
  have hd := (DB.new w A ns cs B nm cm lp).keep hb2
  have hbx := bx0_new (w.alloc (dbox A ns cs B nm cm lp))
  have hb := below_step hb1 hb2
  have hsz : (w.alloc (dbox A ns cs B nm cm lp)).heap.size = w.heap.size + 1 := by simp
  rw [hsz] at hbx
  have hsz2 : ((w.alloc (dbox A ns cs B nm cm lp)).alloc (.cells #[.slice none 0 0, .slice none 0 0, .int .i64 0] 24)).heap.size = w.heap.size + 2 := by simp
  clear hb1 hb2 hsz
  unfold dbox at hd hbx hb hsz2
  go_enter Try.func54, Try.ntmps54
  go_upto_region 1 with fail
  generalize (w.alloc (.cells #[.slice A ns cs, .slice B nm cm, .int .i64 lp] 24)).alloc (.cells #[.slice none 0 0, .slice none 0 0, .int .i64 0] 24) = w0 at hd hbx hb hsz2 ⊢
  obtain ⟨gd, hgd⟩ : ∃ gd, w.heap.size = gd := ⟨_, rfl⟩
  obtain ⟨gr, hgr⟩ : ∃ gr, gd + 1 = gr := ⟨_, rfl⟩
  rw [hgd] at hd hsz2 hbx ⊢
  rw [hgr] at hbx ⊢
  have HBX := Lib.hid hbx
  have HB := Lib.hid hb
  have HLT : Hid (gd < gr ∧ gr < w0.heap.size ∧ w.heap.size = gd) := Lib.hid ⟨by omega, by omega, hgd⟩
  have HD := Lib.hid hd
  have hne : gr ≠ gd := by omega
  obtain ⟨d0, d1, d2, dlt⟩ := hd
  clear hb hbx hgr hgd hsz2
  go_upto_region 2 with fail
  rw [fal64_def]
  clear hzv hzn
  have hU0 : Arr ((w0.alloc (.cells (cellsN 64 (bv fun _ => false)) 71)).alloc (.cells (cellsN 64 (bv fun _ => false)) 71)) w0.heap.size 71 64 (bv (unK L 0)) := ((Arr.new w0 64 71 (bv fun _ => false)).alloc _).congr fun _ _ => rfl
  have hV0 : Arr ((w0.alloc (.cells (cellsN 64 (bv fun _ => false)) 71)).alloc (.cells (cellsN 64 (bv fun _ => false)) 71)) (w0.heap.size + 1) 71 64 (bv (ovK L 0)) := by
    have := (Arr.new (w0.alloc (.cells (cellsN 64 (bv fun _ => false)) 71)) 64 71 (bv fun _ => false)).congr (V' := bv (ovK L 0)) fun _ _ => rfl
    rwa [show (w0.alloc (.cells (cellsN 64 (bv fun _ => false)) 71)).heap.size = w0.heap.size + 1 by simp] at this
  have hb2 := below_step (below_alloc w0 (.cells (cellsN 64 (bv fun _ => false)) 71)) (below_alloc _ (.cells (cellsN 64 (bv fun _ => false)) 71))
  generalize (w0.alloc (.cells (cellsN 64 (bv fun _ => false)) 71)).alloc (.cells (cellsN 64 (bv fun _ => false)) 71) = w1 at hU0 hV0 hb2 ⊢
  obtain ⟨gU, hgU⟩ : ∃ gU, w0.heap.size = gU := ⟨_, rfl⟩
  obtain ⟨gV, hgV⟩ : ∃ gV, gU + 1 = gV := ⟨_, rfl⟩
  rw [hgU] at hU0 hV0 ⊢
  rw [hgV] at hV0 ⊢
  have HG : Hid (w0.heap.size = gU ∧ gU < gV) := Lib.hid ⟨hgU, by omega⟩
  clear hgU hgV d0 d1 d2
  go_wp2
  go_loopw [8, 12] (fun _ i wr => ∃ k : Nat, k ≤ nL ∧ i = .int .i64 k ∧ Below w0.heap.size w0 wr ∧ Arr wr gU 71 64 (bv (unK L k)) ∧ Arr wr gV 71 64 (bv (ovK L k))) (fun _ i _ => nL - (intOf i).toNat)
  case atStart => exact ⟨0, by omega, rfl, hb2, hU0, hV0⟩
  case round =>
    obtain ⟨k, hk, rfl, hbr, hU, hV⟩ := hrel
    have hk0 : (0 : Int) ≤ (k : Int) := Int.natCast_nonneg _
    by_cases hkn : k < nL
    · have hk1 : (k : Int) < (nL : Int) := by omega
      obtain ⟨b, off, rfl, hb, hc⟩ := HLL.out.2 (by omega)
      obtain ⟨l1, l2⟩ := HLV.out k hkn
      have cL := ((below_step HB.out hbr).cell (p := ⟨b, off + k, none⟩) hb).trans (hc k hkn)
      rw [l1] at cL
      have h4n := HNM.out
      have hcl : L k / 4 < 64 := by omega
      have cU := hU.cell _ hcl
      have fU := hU.frozen (L k / 4)
      have cV := hV.cell _ hcl
      have fV := hV.frozen (L k / 4)
      have hlt : (L k : Int) ≤ 1000 := by omega
      obtain ⟨p, hp⟩ : ∃ p, L k / 4 = p := ⟨_, rfl⟩
      obtain ⟨r, hr⟩ : ∃ r, L k % 4 = r := ⟨_, rfl⟩
      have hpi : (L k : Int) / 4 = (p : Int) := by omega
      have hri : (L k : Int) % 4 = (r : Int) := by omega
      have eU : ∀ c, unK L (k + 1) c = (unK L k c || (p == c && r == 2)) := fun c => by rw [unK_succ, hp, hr]
      have eV : ∀ c, ovK L (k + 1) c = (ovK L k c || (p == c && r != 2)) := fun c => by rw [ovK_succ, hp, hr]
      have HEU := Lib.hid eU
      have HEV := Lib.hid eV
      rw [hp] at cU fU cV fV hcl
      obtain ⟨h, hh⟩ : ∃ h, L k = h := ⟨_, rfl⟩
      rw [hh] at cL hpi hri hlt
      have h0 : (0 : Int) ≤ (h : Int) := Int.natCast_nonneg _
      have p0 : (0 : Int) ≤ (p : Int) := Int.natCast_nonneg _
      have p1 : (p : Int) < 64 := by omega
      have HI := Lib.hid (And.intro hbr (And.intro hU hV))
      have hgg := HG.out
      by_cases hr2 : r = 2
      · subst hr2
        have HN : Hid (Below w0.heap.size w0 (wr.setCell ⟨gU, p, none⟩ (.bool true)) ∧ Arr (wr.setCell ⟨gU, p, none⟩ (.bool true)) gU 71 64 (bv (unK L (k + 1))) ∧ Arr (wr.setCell ⟨gU, p, none⟩ (.bool true)) gV 71 64 (bv (ovK L (k + 1)))) := Lib.hid (by
          obtain ⟨i1, i2, i3⟩ := HI.out
          refine ⟨below_set i1 (by omega) _, (i2.setb p true).congr fun i hi => ?_, (i3.far (p := ⟨gU, p, none⟩) (by show gV ≠ gU; omega) _).congr fun i hi => ?_⟩
          · show Value.bool _ = Value.bool _
            rw [HEU.out i]
            by_cases e : i = p
            · subst e; simp
            · have : (p == i) = false := by simp; omega
              simp [e, this]
          · show Value.bool _ = Value.bool _
            rw [HEV.out i]; simp)
        clear hbr hU hV hc l1 l2 h4n hp hr eU eV hh hgg
        go_wp2
        go_roundw
        case rel => exact ⟨k + 1, by omega, by go_num, HN.out⟩
        case measure => simp [intOf]; omega
      · have HN : Hid (Below w0.heap.size w0 (wr.setCell ⟨gV, p, none⟩ (.bool true)) ∧ Arr (wr.setCell ⟨gV, p, none⟩ (.bool true)) gU 71 64 (bv (unK L (k + 1))) ∧ Arr (wr.setCell ⟨gV, p, none⟩ (.bool true)) gV 71 64 (bv (ovK L (k + 1)))) := Lib.hid (by
          obtain ⟨i1, i2, i3⟩ := HI.out
          refine ⟨below_set i1 (by omega) _, (i2.far (p := ⟨gV, p, none⟩) (by show gU ≠ gV; omega) _).congr fun i hi => ?_, (i3.setb p true).congr fun i hi => ?_⟩
          · show Value.bool _ = Value.bool _
            rw [HEU.out i]; simp [hr2]
          · show Value.bool _ = Value.bool _
            rw [HEV.out i]
            by_cases e : i = p
            · subst e; simp [hr2]
            · have : (p == i) = false := by simp; omega
              simp [e, this])
        have hri2 : ((r : Int) == 2) = false := by simp only [beq_eq_false_iff_ne, ne_eq]; omega
        clear hbr hU hV hc l1 l2 h4n hp hr eU eV hh hgg hr2
        go_wp2
        go_roundw
        case rel => exact ⟨k + 1, by omega, by go_num, HN.out⟩
        case measure => simp [intOf]; omega
    · obtain rfl : nL = k := by omega
      have d0 := (hbr.cell (p := ⟨gd, 0, none⟩) dlt).trans HD.out.1
      have d1 := (hbr.cell (p := ⟨gd, 1, none⟩) dlt).trans HD.out.2.1
      have d2 := (hbr.cell (p := ⟨gd, 2, none⟩) dlt).trans HD.out.2.2.1
      have hbw := below_step HB.out hbr
      have hmf : ∀ (fn : Fn) (first cap : Array Value) (w : World), (Instr.makeFunc fn first cap).run Try.prog w = .ok (.func fn first cap) w := fun _ _ _ _ => rfl
      have CM := Lib.hid (moved_any 79 80 #[.pointer (some ⟨gU, 0, none⟩), .pointer (some ⟨gV, 0, none⟩)] #[.pointer (some ⟨gU, 0, none⟩)] (fun c => unK L nL c != ovK L nL c) (rot fun c => if unK L nL c = true then 2 else 0) A B ns cs nm cm lp s m wr
        (HS.out.keep hbw) (HM.out.keep hbw) HNM.out hns HMV.out HSV.out enters_once enters_turned (asks_once wr gU gV ns _ _ hU hV hns) (goes_turned wr gU ns nm _ hU HNM.out hns) (fun x hx => by have := HNM.out; rw [this] at hx ⊢; exact (rot_perm _ ns).lt x hx))
      have HBR := Lib.hid hbr
      have HBW := Lib.hid hbw
      clear hbr hU hV hbw hkn hk
      go_wp2_with (go_at_call 43; ((with_reducible refine CM.out.mono ?_); rintro e w3 ⟨A1, c1, B1, m1, rfl, oS, oM, hb3⟩; have hr := HBX.out.kp (below_step HBR.out hb3); have r0 := hr.1.1; have r1 := hr.1.2.1; have r2 := hr.1.2.2.1; have f0 := hr.2 0; have f1 := hr.2 1; have f2 := hr.2 2))
      obtain ⟨k0, k1, k2⟩ := set3_cells w3 gr (.slice A1 ns c1) (.slice B1 nm m1) (.int .i64 lp) r0 r1 r2
      have HF : Hid (MvPost w ns nm lp (fpK (fun c => unK L nL c != ovK L nL c) s ns) (mvK (rot fun c => if unK L nL c = true then 2 else 0) m nm) (.returned (dval A1 ns c1 B1 nm m1 lp)) (set3 w3 gr (.slice A1 ns c1) (.slice B1 nm m1) (.int .i64 lp))) := Lib.hid (by
        have hg := HLT.out
        have h3 := HBR.out.size
        have h4 := HB.out.size
        exact ⟨_, _, _, _, rfl, (oS.set3 (fun e => by have := World.ownsRow.lt oS _ e; omega) _ _ _).mono (by omega), (oM.set3 (fun e => by have := World.ownsRow.lt oM _ e; omega) _ _ _).mono (by omega), set3_below (below_step HBW.out hb3) (by omega) _ _ _⟩)
      exact bodyPost_ret (v := dval A1 ns c1 B1 nm m1 lp) (by simp [results, Try.results54, go_sem, k0, k1, k2]) rfl HF.out

end Go.Proofs.Ytdamfoobnbjojaa
