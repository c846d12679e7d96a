/- Plain mathematics: in a diagram that is drawn on spheres no edge joins the slots 1 and 3 of one crossing. -/
import Derived.Test.YtcngpnhecgppiaaPlane3Plain
namespace Go.Proofs.Ytcngpnhecgppiaa

theorem lo_eq {m : Nat → Nat} {N x y : Nat} (i : Invol m N) (h : min x (mmx m N x) = min y (mmx m N y)) : x = y ∨ x = mmx m N y := by
  have hx := mmx_mmx i x
  have hy := mmx_mmx i y
  by_cases h1 : x ≤ mmx m N x
  · by_cases h2 : y ≤ mmx m N y
    · left; omega
    · right; omega
  · by_cases h2 : y ≤ mmx m N y
    · right
      have : mmx m N x = y := by omega
      rw [← this, hx]
    · left
      have : mmx m N x = mmx m N y := by omega
      rw [← hx, this, hy]

theorem no_loop {m : Nat → Nat} {n Ff c c0 : Nat} {D : Nat → Nat → Prop} (i : Invol m (4 * n)) (hfix : ∀ x, x < 4 * n → m x ≠ x) (hD : Eqv D (4 * n))
    (hcross : ∀ x y, x < 4 * n → y < 4 * n → x / 4 = y / 4 → D x y) (hedge : ∀ x, x < 4 * n → D x (m x))
    (hmin : ∀ C, Eqv C (4 * n) → (∀ x y, x < 4 * n → y < 4 * n → x / 4 = y / 4 → C x y) → (∀ x, x < 4 * n → C x (m x)) → ∀ x y, D x y → C x y)
    (hF : Cls (RO' (fun x => trn (m x) 3) (4 * n)) (4 * n) Ff) (hc : Cls D (4 * n) c) (hsph : Ff = n + 2 * c) (hc0 : c0 < n) : m (4 * c0 + 1) ≠ 4 * c0 + 3 := by
  intro hme
  have hsides := sides i hfix hD hcross hedge hmin hF hc hsph (4 * c0 + 1) (by omega)
  rw [hme] at hsides
  have hp3 : trn (4 * c0 + 1) 3 = 4 * c0 := by unfold trn; omega
  have hp4 : trn (4 * c0) 3 = 4 * c0 + 3 := by unfold trn; omega
  obtain ⟨e, he'⟩ : ∃ e, 4 * c0 + 1 = e := ⟨_, rfl⟩
  obtain ⟨b, hb'⟩ : ∃ b, 4 * c0 + 3 = b := ⟨_, rfl⟩
  obtain ⟨p, hp'⟩ : ∃ p, 4 * c0 = p := ⟨_, rfl⟩
  have he4 : e / 4 = c0 := by omega
  have hb4 : b / 4 = c0 := by omega
  have hp04 : p / 4 = c0 := by omega
  rw [he', hb'] at hme
  rw [he', hb'] at hsides
  rw [he', hp'] at hp3
  rw [hb', hp'] at hp4
  have he : e < 4 * n := by omega
  have hb : b < 4 * n := by omega
  have hp : p < 4 * n := by omega
  have hmb : m b = e := by rw [← hme, i.inv e he]
  obtain ⟨q, hq'⟩ : ∃ q, m p = q := ⟨_, rfl⟩
  have hq : q < 4 * n := by rw [← hq']; exact i.lt p hp
  have hmq : m q = p := by rw [← hq', i.inv p hp]
  have hqe : q ≠ e := fun h => by rw [h, hme] at hmq; omega
  have hqb : q ≠ b := fun h => by rw [h, hmb] at hmq; omega
  have hqp : p ≠ q := fun h => hfix p hp (by rw [hq', h])
  clear he' hb' hp'
  have hneb : e ≠ b := fun h => hfix e he (by rw [hme, h])
  have hpe : p ≠ e := fun h => hqb (by rw [← hq', h, hme])
  have hpb : p ≠ b := fun h => hqe (by rw [← hq', h, hmb])
  have xe := mmx_lt (m := m) he
  have xb := mmx_lt (m := m) hb
  have xp := mmx_lt (m := m) hp
  have xq := mmx_lt (m := m) hq
  rw [hme] at xe
  rw [hmb] at xb
  rw [hq'] at xp
  rw [hmq] at xq
  obtain ⟨E, hE⟩ : ∃ E : Nat → Bool, ∀ x, E x = false ↔ x ≠ min e b ∧ x ≠ min p q := ⟨fun x => x == min e b || x == min p q, fun x => by simp⟩
  obtain ⟨C, F2, c2, t, g⟩ := grown_all E i hfix (4 * n)
  have pf : Perm (fun x => trn (m x) 3) (4 * n) := i.perm 3
  have hlo : ∀ x, x < 4 * n → x ≠ e → x ≠ b → x ≠ p → x ≠ q → min x (mmx m (4 * n) x) < 4 * n ∧ E (min x (mmx m (4 * n) x)) = false := fun x hx n1 n2 n3 n4 => by
    refine ⟨by omega, (hE _).2 ⟨fun h => ?_, fun h => ?_⟩⟩
    · rw [← xe] at h
      rcases lo_eq i h with k | k
      · exact n1 k
      · exact n2 (by rw [k, xe])
    · rw [← xp] at h
      rcases lo_eq i h with k | k
      · exact n3 k
      · exact n4 (by rw [k, xp])
  have stay : ∀ x, E (min x (mmx m (4 * n) x)) = true → mk m (4 * n) E (4 * n) x = x := fun x h => by unfold mk; rw [if_neg]; rw [h]; simp
  have hEe : E (min e b) = true := by
    cases h : E (min e b) with
    | true => rfl
    | false => exact absurd rfl ((hE _).1 h).1
  have hEp : E (min p q) = true := by
    cases h : E (min p q) with
    | true => rfl
    | false => exact absurd rfl ((hE _).1 h).2
  have se := stay e (by rw [xe]; exact hEe)
  have sb := stay b (by rw [xb, Nat.min_comm]; exact hEe)
  have sp := stay p (by rw [xp]; exact hEp)
  have sq := stay q (by rw [xq, Nat.min_comm]; exact hEp)
  have hphi : ∀ x, x < 4 * n → phi m (4 * n) E (4 * n) x = swf (swf (fun x => trn (m x) 3) e b) p q x := fun x hx => by
    unfold phi swf
    by_cases k1 : x = p
    · rw [k1, sp, sw_left, sw_other hqe hqb]; show trn p 3 = trn (m q) 3; rw [hmq]
    · by_cases k2 : x = q
      · rw [k2, sq, sw_right, sw_other hpe hpb]; show trn q 3 = trn (m p) 3; rw [hq']
      · rw [sw_other k1 k2]
        by_cases k3 : x = e
        · rw [k3, se, sw_left]; show trn e 3 = trn (m b) 3; rw [hmb]
        · by_cases k4 : x = b
          · rw [k4, sb, sw_right]; show trn b 3 = trn (m e) 3; rw [hme]
          · rw [sw_other k3 k4]
            have : mk m (4 * n) E (4 * n) x = m x := by unfold mk; rw [if_pos (hlo x hx k3 k4 k1 k2), mmx_lt hx]
            rw [this]
  have p1 := pf.swf he hb
  have hm1 := fun x y => pf.merge he hb hsides x y
  have o1 : Orb (swf (fun x => trn (m x) 3) e b) e b := ((hm1 e b).2 (.inr (.inl ⟨⟨he, Orb.refl _ _⟩, ⟨hb, Orb.refl _ _⟩⟩))).2
  obtain ⟨F1, hF1⟩ := Cnt.ex (fun x => ∀ y, y < x → ¬ RO' (swf (fun x => trn (m x) 3) e b) (4 * n) y x) (4 * n)
  have f1 : Ff = F1 + 1 := cls_merge pf.eqv he hb (fun k => hsides k.2) hF (cls_congr hF1 fun x y => hm1 x y)
  have ep : Orb (swf (fun x => trn (m x) 3) e b) e p := ⟨1, by show swf _ e b e = p; unfold swf; rw [sw_left]; show trn (m b) 3 = p; rw [hmb, hp3]⟩
  have qb : Orb (swf (fun x => trn (m x) 3) e b) q b := ⟨1, by show swf _ e b q = b; unfold swf; rw [sw_other hqe hqb]; show trn (m q) 3 = b; rw [hmq, hp4]⟩
  have o2 : Orb (swf (fun x => trn (m x) 3) e b) p q := (p1.orb_symm he ep).trans (o1.trans (p1.orb_symm hq qb))
  have p2 := p1.swf hp hq
  have nsp := p1.split hp hqp o2
  have ns : ¬ Orb (swf (swf (fun x => trn (m x) 3) e b) p q) p q := fun k => nsp (p2.orb_symm hp k)
  have hRO : ∀ x y, RO' (phi m (4 * n) E (4 * n)) (4 * n) x y ↔ RO' (swf (swf (fun x => trn (m x) 3) e b) p q) (4 * n) x y := fun x y => by
    constructor
    · rintro ⟨hx, j, k⟩; exact ⟨hx, j, by rw [← it_congr g.perm hphi hx]; exact k⟩
    · rintro ⟨hx, j, k⟩; exact ⟨hx, j, by rw [it_congr g.perm hphi hx]; exact k⟩
  have f2 : F2 = F1 + 1 := by
    refine cls_merge p2.eqv hp hq (fun k => ns k.2) (cls_congr g.faces hRO) (cls_congr hF1 fun x y => ?_)
    have := p2.merge hp hq ns x y
    rw [swf_swf] at this
    exact this
  obtain ⟨T, hT⟩ := Cnt.ex (fun x => x < 4 * n ∧ x < mmx m (4 * n) x) (4 * n)
  have e2 : 4 * n = 2 * T := Cnt.pairs (4 * n) (mmx m (4 * n)) (4 * n) (fun x => x < 4 * n) T (Cnt.all _ _ fun x hx => hx) hT (fun x hx _ => ⟨mmx_N i hx, mmx_N i hx, mmx_mmx i x, by rw [mmx_lt hx]; exact hfix x hx⟩)
  obtain ⟨T1, hT1⟩ := Cnt.ex (fun x => (x < 4 * n ∧ x < mmx m (4 * n) x) ∧ x ≠ min e b) (4 * n)
  have lower : ∀ u v, u < 4 * n → v < 4 * n → mmx m (4 * n) u = v → mmx m (4 * n) v = u → u ≠ v → min u v < 4 * n ∧ min u v < mmx m (4 * n) (min u v) := fun u v hu hv h1 h2 hne => by
    by_cases k : u < v
    · rw [show min u v = u by omega, h1]; omega
    · rw [show min u v = v by omega, h2]; omega
  have l1 := lower e b he hb xe xb hneb
  have l2 := lower p q hp hq xp xq hqp
  have hll : min p q ≠ min e b := by omega
  have e3 : T = T1 + 1 := hT.drop hT1 l1.1 l1 (by simp) (fun x _ hne => ⟨fun k => ⟨k, hne⟩, fun k => k.1⟩)
  have e4 : T1 = t + 1 := hT1.drop g.edges l2.1 ⟨l2, hll⟩ (fun k => ((hE _).1 k.2).2 rfl) (fun x hx hne => ⟨fun k => ⟨k.1.2, (hE x).2 ⟨k.2, hne⟩⟩, fun k => ⟨⟨hx, k.1⟩, ((hE x).1 k.2).1⟩⟩)
  have heu := g.euler
  have hsubD : ∀ x y, C x y → D x y := g.gen D hD hcross (fun x hx => by rw [mmx_lt hx]; exact hedge x hx)
  have hCeb : C e b := g.cross e b he hb (by omega)
  have hnC : ¬ C p q := fun hC => by
    have hall : ∀ x, x < 4 * n → C x (m x) := fun x hx => by
      by_cases k1 : x = e
      · rw [k1, hme]; exact hCeb
      · by_cases k2 : x = b
        · rw [k2, hmb]; exact g.eqv.symm _ _ hCeb
        · by_cases k3 : x = p
          · rw [k3, hq']; exact hC
          · by_cases k4 : x = q
            · rw [k4, hmq]; exact g.eqv.symm _ _ hC
            · have := g.edge x hx (hlo x hx k1 k2 k3 k4).1 (hlo x hx k1 k2 k3 k4).2
              rw [mmx_lt hx] at this; exact this
    have hDC := hmin C g.eqv g.cross hall
    have : c = c2 := Cnt.uniq hc (cls_congr g.parts fun x y => ⟨hsubD x y, hDC x y⟩)
    omega
  -- the part of p: four half-edges at each crossing, and p, e, b alone have no mate in it
  have hCpe : C p e := g.cross p e hp he (by omega)
  have hCpb : C p b := g.cross p b hp hb (by omega)
  obtain ⟨κ, hκ⟩ := Cnt.ex (fun x => C p x) (4 * n)
  have q4 := Cnt.fours n hκ (fun x y hx hy k hC => g.eqv.trans _ _ _ hC (g.cross x y hx hy k))
  obtain ⟨κ1, hκ1⟩ := Cnt.ex (fun x => C p x ∧ x ≠ p) (4 * n)
  obtain ⟨κ2, hκ2⟩ := Cnt.ex (fun x => (C p x ∧ x ≠ p) ∧ x ≠ e) (4 * n)
  obtain ⟨κ3, hκ3⟩ := Cnt.ex (fun x => ((C p x ∧ x ≠ p) ∧ x ≠ e) ∧ x ≠ b) (4 * n)
  obtain ⟨τ, hτ⟩ := Cnt.ex (fun x => (((C p x ∧ x ≠ p) ∧ x ≠ e) ∧ x ≠ b) ∧ x < mmx m (4 * n) x) (4 * n)
  have d1 := hκ.drop hκ1 hp (g.eqv.refl p hp) (by simp) (fun x _ hne => ⟨fun k => ⟨k, hne⟩, fun k => k.1⟩)
  have d2 := hκ1.drop hκ2 he ⟨hCpe, fun k => hpe k.symm⟩ (by simp) (fun x _ hne => ⟨fun k => ⟨k, hne⟩, fun k => k.1⟩)
  have d3 := hκ2.drop hκ3 hb ⟨⟨hCpb, fun k => hpb k.symm⟩, fun k => hneb k.symm⟩ (by simp) (fun x _ hne => ⟨fun k => ⟨k, hne⟩, fun k => k.1⟩)
  have d4 := Cnt.pairs (4 * n) (mmx m (4 * n)) κ3 _ τ hκ3 hτ (fun x hx hk => by
    obtain ⟨⟨⟨k1, k2⟩, k3⟩, k4⟩ := hk
    have k5 : x ≠ q := fun k => hnC (by rw [← k]; exact k1)
    have hed := g.edge x hx (hlo x hx k3 k4 k2 k5).1 (hlo x hx k3 k4 k2 k5).2
    refine ⟨mmx_N i hx, ⟨⟨⟨g.eqv.trans _ _ _ k1 hed, fun k => k5 ?_⟩, fun k => k4 ?_⟩, fun k => k3 ?_⟩, mmx_mmx i x, by rw [mmx_lt hx]; exact hfix x hx⟩
    · rw [← xp, ← k, mmx_mmx i]
    · rw [← xe, ← k, mmx_mmx i]
    · rw [← xb, ← k, mmx_mmx i])
  omega

end Go.Proofs.Ytcngpnhecgppiaa
