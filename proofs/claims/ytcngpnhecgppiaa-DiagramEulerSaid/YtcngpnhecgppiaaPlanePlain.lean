/- Plain mathematics: how a transposition changes the number of cycles; counting. -/
import Derived.Test.YtcngpnhecgppiaaOrbPlain
namespace Go.Proofs.Ytcngpnhecgppiaa

/-- The number of x below N with p x is k. -/
inductive Cnt (p : Nat → Prop) : Nat → Nat → Prop
  | zero : Cnt p 0 0
  | yes {n k : Nat} : p n → Cnt p n k → Cnt p (n + 1) (k + 1)
  | no {n k : Nat} : ¬ p n → Cnt p n k → Cnt p (n + 1) k
theorem Cnt.ex (p : Nat → Prop) (n : Nat) : ∃ k, Cnt p n k := by
  induction n with
  | zero => exact ⟨0, .zero⟩
  | succ n ih =>
    obtain ⟨k, hk⟩ := ih
    by_cases h : p n
    · exact ⟨k + 1, .yes h hk⟩
    · exact ⟨k, .no h hk⟩
theorem Cnt.uniq {p : Nat → Prop} {n k j : Nat} (h : Cnt p n k) (g : Cnt p n j) : k = j := by
  induction h generalizing j with
  | zero => cases g; rfl
  | yes hp _ ih =>
    cases g with
    | yes _ g => rw [ih g]
    | no hn _ => exact absurd hp hn
  | no hn _ ih =>
    cases g with
    | yes hp _ => exact absurd hp hn
    | no _ g => exact ih g
theorem Cnt.congr {p q : Nat → Prop} {n k : Nat} (h : Cnt p n k) (e : ∀ x, x < n → (p x ↔ q x)) : Cnt q n k := by
  induction h with
  | zero => exact .zero
  | yes hp _ ih => exact .yes ((e _ (by omega)).1 hp) (ih fun x hx => e x (by omega))
  | no hn _ ih => exact .no (fun hq => hn ((e _ (by omega)).2 hq)) (ih fun x hx => e x (by omega))
/-- One number less. -/
theorem Cnt.drop {p q : Nat → Prop} {n k j h0 : Nat} (h : Cnt p n k) (g : Cnt q n j) (h1 : h0 < n) (h2 : p h0) (h3 : ¬ q h0) (h4 : ∀ x, x < n → x ≠ h0 → (p x ↔ q x)) : k = j + 1 := by
  induction h generalizing j with
  | zero => omega
  | @yes n k hp h ih =>
    by_cases e : n = h0
    · subst e
      cases g with
      | yes hq _ => exact absurd hq h3
      | no _ g => rw [(h.congr fun x hx => h4 x (by omega) (by omega)).uniq g]
    · cases g with
      | yes _ g => rw [ih g (by omega) fun x hx => h4 x (by omega)]
      | no hn _ => exact absurd ((h4 n (by omega) e).1 hp) hn
  | @no n k hn h ih =>
    by_cases e : n = h0
    · subst e; exact absurd h2 hn
    · cases g with
      | yes hq _ => exact absurd ((h4 n (by omega) e).2 hq) hn
      | no _ g => exact ih g (by omega) fun x hx => h4 x (by omega)
theorem Cnt.countP (b : Nat → Bool) (n : Nat) : Cnt (fun x => b x = true) n ((List.range n).countP b) := by
  induction n with
  | zero => exact .zero
  | succ n ih =>
    rw [List.range_succ, List.countP_append]
    cases h : b n with
    | true => simp [h]; exact .yes h ih
    | false => simp [h]; exact .no (by simp [h]) ih
theorem Cnt.none {p : Nat → Prop} {n : Nat} (h : ∀ x, x < n → ¬ p x) : Cnt p n 0 := by
  induction n with
  | zero => exact .zero
  | succ n ih => exact .no (h n (by omega)) (ih fun x hx => h x (by omega))
theorem Cnt.pos {p : Nat → Prop} {n k : Nat} (h : Cnt p n k) (hk : 0 < k) : ∃ x, x < n ∧ p x := by
  by_cases e : ∃ x, x < n ∧ p x
  · exact e
  · have := h.uniq (Cnt.none fun x hx hp => e ⟨x, hx, hp⟩)
    omega
/-- Blocks of four, of which the first may count. -/
theorem Cnt.firsts {q : Nat → Prop} {n k : Nat} (h : Cnt q n k) : Cnt (fun x => x % 4 = 0 ∧ q (x / 4)) (4 * n) k := by
  induction h with
  | zero => exact .zero
  | @yes n k hq _ ih =>
    have e : 4 * (n + 1) = 4 * n + 1 + 1 + 1 + 1 := by omega
    rw [e]
    refine .no (by omega) (.no (by omega) (.no (by omega) (.yes ⟨by omega, ?_⟩ ih)))
    rw [show 4 * n / 4 = n by omega]; exact hq
  | @no n k hq _ ih =>
    have e : 4 * (n + 1) = 4 * n + 1 + 1 + 1 + 1 := by omega
    rw [e]
    refine .no (by omega) (.no (by omega) (.no (by omega) (.no ?_ ih)))
    rintro ⟨_, h⟩
    rw [show 4 * n / 4 = n by omega] at h; exact hq h
/-- Blocks of four, counted whole. -/
theorem Cnt.fours {p : Nat → Prop} (n : Nat) {k : Nat} (h : Cnt p (4 * n) k) (hp : ∀ x y, x < 4 * n → y < 4 * n → x / 4 = y / 4 → p x → p y) : k % 4 = 0 := by
  obtain ⟨j, hj⟩ := Cnt.ex (fun c => p (4 * c)) n
  have : Cnt p (4 * n) (4 * j) := by
    clear h
    induction hj with
    | zero => exact .zero
    | @yes n j hc _ ih =>
      have e : 4 * (n + 1) = 4 * n + 1 + 1 + 1 + 1 := by omega
      rw [e] at hp ⊢
      rw [show 4 * (j + 1) = 4 * j + 1 + 1 + 1 + 1 by omega]
      exact .yes (hp (4 * n) _ (by omega) (by omega) (by omega) hc) (.yes (hp (4 * n) _ (by omega) (by omega) (by omega) hc) (.yes (hp (4 * n) _ (by omega) (by omega) (by omega) hc) (.yes hc (ih fun x y hx hy => hp x y (by omega) (by omega)))))
    | @no n j hc _ ih =>
      have e : 4 * (n + 1) = 4 * n + 1 + 1 + 1 + 1 := by omega
      rw [e] at hp ⊢
      exact .no (fun h => hc (hp _ (4 * n) (by omega) (by omega) (by omega) h)) (.no (fun h => hc (hp _ (4 * n) (by omega) (by omega) (by omega) h)) (.no (fun h => hc (hp _ (4 * n) (by omega) (by omega) (by omega) h)) (.no hc (ih fun x y hx hy => hp x y (by omega) (by omega)))))
  rw [h.uniq this]; omega
/-- A set that an involution without fixed points keeps: twice its lower halves. -/
theorem Cnt.pairs (N : Nat) (m : Nat → Nat) : ∀ k, ∀ (p : Nat → Prop) (t : Nat), Cnt p N k → Cnt (fun x => p x ∧ x < m x) N t → (∀ x, x < N → p x → m x < N ∧ p (m x) ∧ m (m x) = x ∧ m x ≠ x) → k = 2 * t := by
  intro k
  induction k using Nat.strongRecOn with
  | ind k ih =>
    intro p t h g hm
    rcases Nat.eq_zero_or_pos k with h0 | h0
    · subst h0
      rcases Nat.eq_zero_or_pos t with t0 | t0
      · omega
      · obtain ⟨x, hx, hp, _⟩ := g.pos t0
        obtain ⟨j, hj⟩ := Cnt.ex (fun y => p y ∧ y ≠ x) N
        have := h.drop hj hx hp (by simp) (fun y _ hne => ⟨fun q => ⟨q, hne⟩, fun q => q.1⟩)
        omega
    · obtain ⟨x, hx, hp, hlt⟩ : ∃ x, x < N ∧ p x ∧ x < m x := by
        obtain ⟨x, hx, hp⟩ := h.pos h0
        obtain ⟨h1, h2, h3, h4⟩ := hm x hx hp
        by_cases e : x < m x
        · exact ⟨x, hx, hp, e⟩
        · exact ⟨m x, h1, h2, by rw [h3]; omega⟩
      obtain ⟨h1, h2, h3, h4⟩ := hm x hx hp
      obtain ⟨j, hj⟩ := Cnt.ex (fun y => p y ∧ y ≠ x) N
      obtain ⟨i, hi⟩ := Cnt.ex (fun y => (p y ∧ y ≠ x) ∧ y ≠ m x) N
      obtain ⟨s, hs⟩ := Cnt.ex (fun y => ((p y ∧ y ≠ x) ∧ y ≠ m x) ∧ y < m y) N
      have e1 := h.drop hj hx hp (by simp) (fun y _ hne => ⟨fun q => ⟨q, hne⟩, fun q => q.1⟩)
      have e2 := hj.drop hi h1 ⟨h2, h4⟩ (by simp) (fun y _ hne => ⟨fun q => ⟨q, hne⟩, fun q => q.1⟩)
      have e3 := g.drop hs hx ⟨hp, hlt⟩ (by simp) (fun y hy hne => ⟨fun q => ⟨⟨⟨q.1, hne⟩, fun e => by have := q.2; rw [e, h3] at this; omega⟩, q.2⟩, fun q => ⟨q.1.1.1, q.2⟩⟩)
      have e4 := ih i (by omega) _ s hi hs (fun y hy hq => by
        obtain ⟨k1, k2, k3, k4⟩ := hm y hy hq.1.1
        refine ⟨k1, ⟨⟨k2, fun e => hq.2 (by rw [← e, k3])⟩, fun e => hq.1.2 (by rw [← k3, e, h3])⟩, k3, k4⟩)
      omega

structure Eqv (R : Nat → Nat → Prop) (N : Nat) : Prop where
  lt : ∀ x y, R x y → x < N ∧ y < N
  refl : ∀ x, x < N → R x x
  symm : ∀ x y, R x y → R y x
  trans : ∀ x y z, R x y → R y z → R x z
/-- R has k classes below N. -/
def Cls (R : Nat → Nat → Prop) (N k : Nat) : Prop := Cnt (fun h => ∀ g, g < h → ¬ R g h) N k
def Merge (R : Nat → Nat → Prop) (a b x y : Nat) : Prop := R x y ∨ (R x a ∧ R b y) ∨ (R x b ∧ R a y)
theorem Merge.eqv {R : Nat → Nat → Prop} {N a b : Nat} (h : Eqv R N) : Eqv (Merge R a b) N := by
  refine ⟨?_, fun x hx => .inl (h.refl x hx), ?_, ?_⟩
  · rintro x y (k | ⟨k1, k2⟩ | ⟨k1, k2⟩)
    · exact h.lt x y k
    · exact ⟨(h.lt _ _ k1).1, (h.lt _ _ k2).2⟩
    · exact ⟨(h.lt _ _ k1).1, (h.lt _ _ k2).2⟩
  · rintro x y (k | ⟨k1, k2⟩ | ⟨k1, k2⟩)
    · exact .inl (h.symm _ _ k)
    · exact .inr (.inr ⟨h.symm _ _ k2, h.symm _ _ k1⟩)
    · exact .inr (.inl ⟨h.symm _ _ k2, h.symm _ _ k1⟩)
  · rintro x y z (k | ⟨k1, k2⟩ | ⟨k1, k2⟩) (l | ⟨l1, l2⟩ | ⟨l1, l2⟩)
    · exact .inl (h.trans _ _ _ k l)
    · exact .inr (.inl ⟨h.trans _ _ _ k l1, l2⟩)
    · exact .inr (.inr ⟨h.trans _ _ _ k l1, l2⟩)
    · exact .inr (.inl ⟨k1, h.trans _ _ _ k2 l⟩)
    · exact .inr (.inl ⟨k1, l2⟩)
    · exact .inl (h.trans _ _ _ k1 l2)
    · exact .inr (.inr ⟨k1, h.trans _ _ _ k2 l⟩)
    · exact .inl (h.trans _ _ _ k1 l2)
    · exact .inr (.inr ⟨k1, l2⟩)
theorem Merge.comm {R : Nat → Nat → Prop} {a b x y : Nat} : Merge R a b x y ↔ Merge R b a x y := by
  constructor
  · rintro (k | k | k)
    · exact .inl k
    · exact .inr (.inr k)
    · exact .inr (.inl k)
  · rintro (k | k | k)
    · exact .inl k
    · exact .inr (.inr k)
    · exact .inr (.inl k)
theorem Merge.same {R : Nat → Nat → Prop} {N a b x y : Nat} (h : Eqv R N) (k : R a b) : Merge R a b x y ↔ R x y := by
  constructor
  · rintro (l | ⟨l1, l2⟩ | ⟨l1, l2⟩)
    · exact l
    · exact h.trans _ _ _ l1 (h.trans _ _ _ k l2)
    · exact h.trans _ _ _ l1 (h.trans _ _ _ (h.symm _ _ k) l2)
  · exact .inl
theorem least_of (p : Nat → Prop) : ∀ x, p x → ∃ y, p y ∧ ∀ z, z < y → ¬ p z := by
  intro x
  induction x using Nat.strongRecOn with
  | ind x ih =>
    intro hx
    by_cases e : ∃ z, z < x ∧ p z
    · obtain ⟨z, hz, hp⟩ := e; exact ih z hz hp
    · exact ⟨x, hx, fun z hz hp => e ⟨z, hz, hp⟩⟩
theorem cls_merge_lt {R : Nat → Nat → Prop} {N a b k j ra rb : Nat} (h : Eqv R N) (_hab : ¬ R a b) (hk : Cls R N k) (hj : Cls (Merge R a b) N j)
    (ha : R ra a) (_ha' : ∀ z, z < ra → ¬ R z a) (hb : R rb b) (hb' : ∀ z, z < rb → ¬ R z b) (hlt : ra < rb) : k = j + 1 := by
  refine Cnt.drop (h0 := rb) hk hj (h.lt _ _ hb).1 (fun g hg hr => hb' g hg (h.trans _ _ _ hr hb)) (fun q => q ra hlt (.inr (.inl ⟨ha, h.symm _ _ hb⟩))) (fun x hx hne => ⟨fun q g hg hm => ?_, fun q g hg hr => q g hg (.inl hr)⟩)
  rcases hm with hm | ⟨h1, h2⟩ | ⟨h1, h2⟩
  · exact q g hg hm
  · -- x lies in b's class and is least there
    have h3 : R rb x := h.trans _ _ _ hb h2
    rcases Nat.lt_trichotomy rb x with e | e | e
    · exact q rb e h3
    · exact hne e.symm
    · exact hb' x e (h.symm _ _ h2)
  · have h3 : R ra x := h.trans _ _ _ ha h2
    have h4 : ¬ g < rb := fun e => hb' g e h1
    exact q ra (by omega) h3
theorem cls_merge {R : Nat → Nat → Prop} {N a b k j : Nat} (h : Eqv R N) (ha : a < N) (hb : b < N) (hab : ¬ R a b) (hk : Cls R N k) (hj : Cls (Merge R a b) N j) : k = j + 1 := by
  obtain ⟨ra, h1, h2⟩ := least_of (fun z => R z a) a (h.refl a ha)
  obtain ⟨rb, h3, h4⟩ := least_of (fun z => R z b) b (h.refl b hb)
  rcases Nat.lt_trichotomy ra rb with e | e | e
  · exact cls_merge_lt h hab hk hj h1 h2 h3 h4 e
  · subst e; exact absurd (h.trans _ _ _ (h.symm _ _ h1) h3) hab
  · exact cls_merge_lt h (fun q => hab (h.symm _ _ q)) hk (hj.congr fun x _ => ⟨fun q g hg hm => q g hg (Merge.comm.1 hm), fun q g hg hm => q g hg (Merge.comm.1 hm)⟩) h3 h4 h1 h2 e

/-- a and b change places. -/
def sw (a b x : Nat) : Nat := if x = a then b else if x = b then a else x
theorem sw_left (a b : Nat) : sw a b a = b := by simp [sw]
theorem sw_right (a b : Nat) : sw a b b = a := by unfold sw; split <;> simp_all
theorem sw_other {a b x : Nat} (h1 : x ≠ a) (h2 : x ≠ b) : sw a b x = x := by simp [sw, h1, h2]
theorem sw_sw (a b x : Nat) : sw a b (sw a b x) = x := by
  by_cases h1 : x = a
  · subst h1; rw [sw_left, sw_right]
  · by_cases h2 : x = b
    · subst h2; rw [sw_right, sw_left]
    · rw [sw_other h1 h2, sw_other h1 h2]
theorem sw_comm (a b x : Nat) : sw a b x = sw b a x := by
  by_cases h1 : x = a
  · subst h1; rw [sw_left, sw_right]
  · by_cases h2 : x = b
    · subst h2; rw [sw_right, sw_left]
    · rw [sw_other h1 h2, sw_other h2 h1]
theorem sw_lt {a b x N : Nat} (ha : a < N) (hb : b < N) (hx : x < N) : sw a b x < N := by unfold sw; split <;> (try split) <;> omega
def swf (f : Nat → Nat) (a b : Nat) : Nat → Nat := fun x => f (sw a b x)
theorem swf_swf (f : Nat → Nat) (a b : Nat) : swf (swf f a b) a b = f := by funext x; simp [swf, sw_sw]
theorem swf_comm (f : Nat → Nat) (a b : Nat) : swf f a b = swf f b a := by funext x; simp [swf, sw_comm a b]
theorem Perm.swf {f : Nat → Nat} {N a b : Nat} (p : Perm f N) (ha : a < N) (hb : b < N) : Perm (swf f a b) N :=
  ⟨fun h hh => p.lt _ (sw_lt ha hb hh), fun h g hh hg e => by
    have := p.inj _ _ (sw_lt ha hb hh) (sw_lt ha hb hg) e
    rw [← sw_sw a b h, this, sw_sw]⟩
def RO' (f : Nat → Nat) (N x y : Nat) : Prop := x < N ∧ Orb f x y
theorem Perm.eqv {f : Nat → Nat} {N : Nat} (p : Perm f N) : Eqv (RO' f N) N :=
  ⟨fun x y h => ⟨h.1, by obtain ⟨i, e⟩ := h.2; rw [← e]; exact p.it_lt h.1 i⟩, fun x hx => ⟨hx, Orb.refl f x⟩,
   fun x y h => ⟨by obtain ⟨i, e⟩ := h.2; rw [← e]; exact p.it_lt h.1 i, p.orb_symm h.1 h.2⟩, fun x y z h k => ⟨h.1, h.2.trans k.2⟩⟩
theorem it_shift (f : Nat → Nat) (i x : Nat) : it f (i + 1) x = it f i (f x) := it_add f i 1 x
theorem Orb.next (f : Nat → Nat) (x : Nat) : Orb f x (f x) := ⟨1, rfl⟩
/-- From every number of a's cycle the changed map leads to a. -/
theorem Perm.pull {f : Nat → Nat} {N a b : Nat} (p : Perm f N) (_hb : b < N) (hab : ¬ Orb f b a) (i : Nat) : ∀ x, x < N → it f i x = a → Orb (Go.Proofs.Ytcngpnhecgppiaa.swf f a b) x a := by
  induction i with
  | zero => intro x _ e; rw [← e]; exact Orb.refl _ _
  | succ i ih =>
    intro x hx e
    by_cases h1 : x = a
    · rw [h1]; exact Orb.refl _ _
    · have h2 : x ≠ b := fun e' => hab (by rw [← e']; exact ⟨i + 1, e⟩)
      have h3 : Go.Proofs.Ytcngpnhecgppiaa.swf f a b x = f x := by unfold Go.Proofs.Ytcngpnhecgppiaa.swf; rw [sw_other h1 h2]
      rw [it_shift] at e
      have h4 := ih (f x) (p.lt x hx) e
      rw [← h3] at h4
      exact (Orb.next _ x).trans h4
theorem Perm.apart {f : Nat → Nat} {a b x : Nat} (hx : ¬ Orb f x a) (hy : ¬ Orb f x b) (i : Nat) : it (Go.Proofs.Ytcngpnhecgppiaa.swf f a b) i x = it f i x := by
  induction i with
  | zero => rfl
  | succ i ih =>
    show Go.Proofs.Ytcngpnhecgppiaa.swf f a b _ = f _
    rw [ih]
    unfold Go.Proofs.Ytcngpnhecgppiaa.swf
    rw [sw_other (fun e => hx ⟨i, e⟩) (fun e => hy ⟨i, e⟩)]
theorem Perm.merge {f : Nat → Nat} {N a b : Nat} (p : Perm f N) (ha : a < N) (hb : b < N) (hab : ¬ Orb f a b) (x y : Nat) : RO' (Go.Proofs.Ytcngpnhecgppiaa.swf f a b) N x y ↔ Merge (RO' f N) a b x y := by
  have ps := p.swf ha hb
  have hM := Merge.eqv (a := a) (b := b) p.eqv
  have hS := ps.eqv
  have hba : ¬ Orb f b a := fun o => hab (p.orb_symm hb o)
  constructor
  · rintro ⟨hx, i, rfl⟩
    induction i with
    | zero => exact hM.refl x hx
    | succ i ih =>
      refine hM.trans _ _ _ ih ?_
      have hz := ps.it_lt hx i
      show Merge _ a b _ (Go.Proofs.Ytcngpnhecgppiaa.swf f a b _)
      generalize it (Go.Proofs.Ytcngpnhecgppiaa.swf f a b) i x = z at hz
      by_cases h1 : z = a
      · subst h1
        unfold Go.Proofs.Ytcngpnhecgppiaa.swf; rw [sw_left]
        exact .inr (.inl ⟨⟨hz, Orb.refl _ _⟩, ⟨hb, Orb.next _ _⟩⟩)
      · by_cases h2 : z = b
        · subst h2
          unfold Go.Proofs.Ytcngpnhecgppiaa.swf; rw [sw_right]
          exact .inr (.inr ⟨⟨hz, Orb.refl _ _⟩, ⟨ha, Orb.next _ _⟩⟩)
        · unfold Go.Proofs.Ytcngpnhecgppiaa.swf; rw [sw_other h1 h2]
          exact .inl ⟨hz, Orb.next _ _⟩
  · have hA : ∀ z, z < N → Orb f z a → RO' (Go.Proofs.Ytcngpnhecgppiaa.swf f a b) N z a := fun z hz ⟨i, e⟩ => ⟨hz, p.pull hb hba i z hz e⟩
    have hB : ∀ z, z < N → Orb f z b → RO' (Go.Proofs.Ytcngpnhecgppiaa.swf f a b) N z b := fun z hz ⟨i, e⟩ => by
      rw [swf_comm]; exact ⟨hz, p.pull ha hab i z hz e⟩
    have hAB : RO' (Go.Proofs.Ytcngpnhecgppiaa.swf f a b) N a b := by
      have h1 := hB (f b) (p.lt b hb) (p.orb_symm hb (Orb.next f b))
      have h2 : RO' (Go.Proofs.Ytcngpnhecgppiaa.swf f a b) N a (f b) := ⟨ha, 1, by show Go.Proofs.Ytcngpnhecgppiaa.swf f a b a = f b; unfold Go.Proofs.Ytcngpnhecgppiaa.swf; rw [sw_left]⟩
      exact hS.trans _ _ _ h2 h1
    have lt2 : ∀ {u v : Nat}, RO' f N u v → v < N := fun r => (p.eqv.lt _ _ r).2
    rintro (k | ⟨k1, k2⟩ | ⟨k1, k2⟩)
    · by_cases h1 : Orb f x a
      · exact hS.trans _ _ _ (hA x k.1 h1) (hS.symm _ _ (hA y (lt2 k) ((p.orb_symm k.1 k.2).trans h1)))
      · by_cases h2 : Orb f x b
        · exact hS.trans _ _ _ (hB x k.1 h2) (hS.symm _ _ (hB y (lt2 k) ((p.orb_symm k.1 k.2).trans h2)))
        · obtain ⟨hx, i, e⟩ := k
          exact ⟨hx, i, by rw [Perm.apart h1 h2]; exact e⟩
    · exact hS.trans _ _ _ (hA x k1.1 k1.2) (hS.trans _ _ _ hAB (hS.symm _ _ (hB y (lt2 k2) (p.orb_symm k2.1 k2.2))))
    · exact hS.trans _ _ _ (hB x k1.1 k1.2) (hS.trans _ _ _ (hS.symm _ _ hAB) (hS.symm _ _ (hA y (lt2 k2) (p.orb_symm k2.1 k2.2))))
theorem Perm.split {f : Nat → Nat} {N a b : Nat} (p : Perm f N) (ha : a < N) (hne : a ≠ b) (hab : Orb f a b) : ¬ Orb (Go.Proofs.Ytcngpnhecgppiaa.swf f a b) b a := by
  obtain ⟨i, hi, e⟩ := p.orb_lt ha hab
  have hi0 : 0 < i := by
    rcases Nat.eq_zero_or_pos i with h0 | h0
    · subst h0; exact absurd e hne
    · exact h0
  have key : ∀ j, ∃ t, 1 ≤ t ∧ t ≤ i ∧ it (Go.Proofs.Ytcngpnhecgppiaa.swf f a b) j b = it f t a := by
    intro j
    induction j with
    | zero => exact ⟨i, hi0, Nat.le_refl _, e.symm⟩
    | succ j ih =>
      obtain ⟨t, h1, h2, h3⟩ := ih
      have hs : it (Go.Proofs.Ytcngpnhecgppiaa.swf f a b) (j + 1) b = f (sw a b (it f t a)) := by show Go.Proofs.Ytcngpnhecgppiaa.swf f a b _ = _; rw [h3]; rfl
      rw [hs]
      by_cases ht : t = i
      · refine ⟨1, Nat.le_refl _, hi0, ?_⟩
        rw [ht, e, sw_right]; rfl
      · refine ⟨t + 1, by omega, by omega, ?_⟩
        have n1 : it f t a ≠ a := fun q => p.it_ne ha (i := 0) (j := t) (by omega) (by omega) q.symm
        have n2 : it f t a ≠ b := fun q => p.it_ne ha (i := t) (j := i) (by omega) hi (by rw [q, e])
        rw [sw_other n1 n2]; rfl
  rintro ⟨j, hj⟩
  obtain ⟨t, h1, h2, h3⟩ := key j
  rw [hj] at h3
  exact p.it_ne ha (i := 0) (j := t) (by omega) (by omega) h3

end Go.Proofs.Ytcngpnhecgppiaa
