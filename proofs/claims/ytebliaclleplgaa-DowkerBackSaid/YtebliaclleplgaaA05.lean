import Derived.Test.YtebliaclleplgaaA04
import Derived.Test.YtebliaclleplgaaA01
import Derived.Test.YtebliaclleplgaaA03
import Derived.Test.YtebliaclleplgaaA02
/- Plain mathematics: on spheres every set of edges that is even at each crossing parts the faces into two colours (by the double cover, which has as many faces again and so twice as many parts). -/
namespace Go.Proofs.Ytebliaclleplgaa

theorem Cnt.inj {p q : Nat → Prop} {n m a b : Nat} (h : Cnt p n a) (g : Cnt q m b) (f : Nat → Nat) (hf : ∀ x, x < n → p x → f x < m ∧ q (f x)) (hi : ∀ x y, x < n → y < n → p x → p y → f x = f y → x = y) : a ≤ b := by
  induction h generalizing q b with
  | zero => omega
  | @yes n k hp h ih =>
    obtain ⟨h1, h2⟩ := hf n (by omega) hp
    obtain ⟨j, hj⟩ := Cnt.ex (fun y => q y ∧ y ≠ f n) m
    have e := g.drop hj h1 h2 (by simp) (fun x _ hne => ⟨fun w => ⟨w, hne⟩, fun w => w.1⟩)
    have := ih hj (fun x hx px => ⟨(hf x (by omega) px).1, (hf x (by omega) px).2, fun e => absurd (hi x n (by omega) (by omega) px hp e) (by omega)⟩) (fun x y hx hy => hi x y (by omega) (by omega))
    omega
  | @no n k hn h ih => exact ih g (fun x hx => hf x (by omega)) (fun x y hx hy => hi x y (by omega) (by omega))
theorem Cnt.rel {p q : Nat → Prop} {n m a b : Nat} (h : Cnt p n a) (g : Cnt q m b) (S : Nat → Nat → Prop) (hf : ∀ x, x < n → p x → ∃ y, y < m ∧ q y ∧ S x y) (hi : ∀ x y z, x < n → y < n → p x → p y → S x z → S y z → x = y) : a ≤ b := by
  classical
  refine h.inj g (fun x => if w : x < n ∧ p x then Classical.choose (hf x w.1 w.2) else 0) (fun x hx px => ?_) (fun x y hx hy px py e => ?_)
  · have := Classical.choose_spec (hf x hx px)
    simp only [dif_pos (And.intro hx px)]
    exact ⟨this.1, this.2.1⟩
  · have h1 := Classical.choose_spec (hf x hx px)
    have h2 := Classical.choose_spec (hf y hy py)
    simp only [dif_pos (And.intro hx px), dif_pos (And.intro hy py)] at e
    rw [← e] at h2
    exact hi x y _ hx hy px py h1.2.2 h2.2.2

/-- Half-edges of the double cover: x is the half-edge dn x in the sheet sh x. -/
def dn (x : Nat) : Nat := 4 * (x / 8) + x % 4
def sh (x : Nat) : Nat := x / 4 % 2
def up (h e : Nat) : Nat := 8 * (h / 4) + 4 * (e % 2) + h % 4
theorem dn_up (h e : Nat) : dn (up h e) = h := by unfold dn up; omega
theorem sh_up (h e : Nat) : sh (up h e) = e % 2 := by unfold sh up; omega
theorem up_dn (x : Nat) : up (dn x) (sh x) = x := by unfold dn up sh; omega
theorem up_congr {h e e' : Nat} (q : e % 2 = e' % 2) : up h e = up h e' := by unfold up; omega
theorem up_lt {h e n : Nat} (hh : h < 4 * n) : up h e < 4 * (2 * n) := by unfold up; omega
theorem dn_lt {x n : Nat} (hx : x < 4 * (2 * n)) : dn x < 4 * n := by unfold dn; omega
theorem dn_trn (x : Nat) : dn (trn x 3) = trn (dn x) 3 := by unfold dn trn; omega
theorem sh_trn (x : Nat) : sh (trn x 3) = sh x := by unfold sh trn; omega
theorem up_div (h e : Nat) : up h e / 4 = 2 * (h / 4) + e % 2 := by unfold up; omega
theorem dn_sh {x y : Nat} (h1 : dn x = dn y) (h2 : sh x = sh y) : x = y := by rw [← up_dn x, ← up_dn y, h1, h2]

/-- What lies between slot 0 and h. -/
def pk (k : Nat → Nat) (h : Nat) : Nat := (if 1 ≤ h % 4 then k (4 * (h / 4) + 1) else 0) + (if 2 ≤ h % 4 then k (4 * (h / 4) + 2) else 0) + (if 3 ≤ h % 4 then k (4 * (h / 4) + 3) else 0)
theorem pk_trn {k : Nat → Nat} {h : Nat} (hE : (k (4 * (h / 4)) + k (4 * (h / 4) + 1) + k (4 * (h / 4) + 2) + k (4 * (h / 4) + 3)) % 2 = 0) : (pk k (trn h 3) + pk k h + k h) % 2 = 0 := by
  obtain ⟨c, s, hs, rfl⟩ : ∃ c s, s < 4 ∧ h = 4 * c + s := ⟨h / 4, h % 4, by omega, by omega⟩
  rw [show (4 * c + s) / 4 = c by omega] at hE
  have hs' : s = 0 ∨ s = 1 ∨ s = 2 ∨ s = 3 := by omega
  rcases hs' with rfl | rfl | rfl | rfl
  · rw [show trn (4 * c + 0) 3 = 4 * c + 3 by unfold trn; omega]
    simp only [pk, show (4 * c + 3) % 4 = 3 by omega, show (4 * c + 3) / 4 = c by omega, show (4 * c + 0) % 4 = 0 by omega]
    simp only [Nat.add_zero, Nat.le_refl, if_true, show (1 : Nat) ≤ 3 by omega, show (2 : Nat) ≤ 3 by omega, show ¬ (1 : Nat) ≤ 0 by omega, show ¬ (2 : Nat) ≤ 0 by omega, show ¬ (3 : Nat) ≤ 0 by omega, if_false]
    omega
  · rw [show trn (4 * c + 1) 3 = 4 * c by unfold trn; omega]
    simp only [pk, show (4 * c + 1) % 4 = 1 by omega, show (4 * c + 1) / 4 = c by omega, show (4 * c) % 4 = 0 by omega]
    simp only [Nat.le_refl, if_true, show ¬ (2 : Nat) ≤ 1 by omega, show ¬ (3 : Nat) ≤ 1 by omega, show ¬ (1 : Nat) ≤ 0 by omega, show ¬ (2 : Nat) ≤ 0 by omega, show ¬ (3 : Nat) ≤ 0 by omega, if_false]
    omega
  · rw [show trn (4 * c + 2) 3 = 4 * c + 1 by unfold trn; omega]
    simp only [pk, show (4 * c + 1) % 4 = 1 by omega, show (4 * c + 1) / 4 = c by omega, show (4 * c + 2) % 4 = 2 by omega, show (4 * c + 2) / 4 = c by omega]
    simp only [Nat.le_refl, if_true, show (1 : Nat) ≤ 2 by omega, show ¬ (2 : Nat) ≤ 1 by omega, show ¬ (3 : Nat) ≤ 1 by omega, show ¬ (3 : Nat) ≤ 2 by omega, if_false]
    omega
  · rw [show trn (4 * c + 3) 3 = 4 * c + 2 by unfold trn; omega]
    simp only [pk, show (4 * c + 3) % 4 = 3 by omega, show (4 * c + 3) / 4 = c by omega, show (4 * c + 2) % 4 = 2 by omega, show (4 * c + 2) / 4 = c by omega]
    simp only [Nat.le_refl, if_true, show (1 : Nat) ≤ 2 by omega, show (1 : Nat) ≤ 3 by omega, show (2 : Nat) ≤ 3 by omega, show ¬ (3 : Nat) ≤ 2 by omega, if_false]
    omega

/-- The mates of the cover. -/
def cq (m k : Nat → Nat) (h : Nat) : Nat := pk k h + pk k (m h) + k h
def cm (m k : Nat → Nat) (x : Nat) : Nat := up (m (dn x)) (sh x + cq m k (dn x))
theorem dn_cm (m k : Nat → Nat) (x : Nat) : dn (cm m k x) = m (dn x) := dn_up _ _
theorem sh_cm (m k : Nat → Nat) (x : Nat) : sh (cm m k x) = (sh x + cq m k (dn x)) % 2 := sh_up _ _

structure EvenSet (m k : Nat → Nat) (n : Nat) : Prop where
  inv : Invol m (4 * n)
  fix : ∀ h, h < 4 * n → m h ≠ h
  sym : ∀ h, h < 4 * n → k (m h) = k h
  even : ∀ c, c < n → (k (4 * c) + k (4 * c + 1) + k (4 * c + 2) + k (4 * c + 3)) % 2 = 0
theorem EvenSet.cq_m {m k : Nat → Nat} {n h : Nat} (s : EvenSet m k n) (hh : h < 4 * n) : cq m k (m h) = cq m k h := by
  unfold cq; rw [s.inv.inv h hh, s.sym h hh]; omega
theorem EvenSet.invol {m k : Nat → Nat} {n : Nat} (s : EvenSet m k n) : Invol (cm m k) (4 * (2 * n)) :=
  ⟨fun x hx => up_lt (s.inv.lt _ (dn_lt hx)), fun x hx => by
    have hd := dn_lt hx
    refine dn_sh ?_ ?_
    · rw [dn_cm, dn_cm, s.inv.inv _ hd]
    · rw [sh_cm, sh_cm, dn_cm, s.cq_m hd]
      have : sh x < 2 := by unfold sh; omega
      omega⟩
theorem EvenSet.cfix {m k : Nat → Nat} {n : Nat} (s : EvenSet m k n) (x : Nat) (hx : x < 4 * (2 * n)) : cm m k x ≠ x := fun e => by
  have := dn_cm m k x
  rw [e] at this
  exact s.fix _ (dn_lt hx) this.symm

def ts (k : Nat → Nat) (x : Nat) : Nat := (sh x + pk k (dn x)) % 2
def cph (m k : Nat → Nat) (x : Nat) : Nat := trn (cm m k x) 3
theorem dn_cph (m k : Nat → Nat) (x : Nat) : dn (cph m k x) = trn (m (dn x)) 3 := by unfold cph; rw [dn_trn, dn_cm]
theorem EvenSet.ts_cph {m k : Nat → Nat} {n : Nat} (s : EvenSet m k n) {x : Nat} (hx : x < 4 * (2 * n)) : ts k (cph m k x) = ts k x := by
  have hd := dn_lt hx
  have hm := s.inv.lt _ hd
  have h1 := pk_trn (s.even (m (dn x) / 4) (by omega))
  have h2 := s.sym _ hd
  unfold ts
  rw [dn_cph]
  unfold cph
  rw [sh_trn, sh_cm]
  unfold cq
  omega
theorem EvenSet.cperm {m k : Nat → Nat} {n : Nat} (s : EvenSet m k n) : Perm (cph m k) (4 * (2 * n)) := s.invol.perm 3
theorem EvenSet.it {m k : Nat → Nat} {n : Nat} (s : EvenSet m k n) {x : Nat} (hx : x < 4 * (2 * n)) (j : Nat) : dn (it (cph m k) j x) = it (fun y => trn (m y) 3) j (dn x) ∧ ts k (it (cph m k) j x) = ts k x := by
  induction j with
  | zero => exact ⟨rfl, rfl⟩
  | succ j ih =>
    have hl := s.cperm.it_lt hx j
    constructor
    · show dn (cph m k _) = trn (m (Go.Proofs.Ytebliaclleplgaa.it _ j (dn x))) 3
      rw [dn_cph, ih.1]
    · show ts k (cph m k _) = _
      rw [s.ts_cph hl, ih.2]

/-- The cover has at least twice as many faces. -/
theorem EvenSet.faces {m k : Nat → Nat} {n F F' : Nat} (s : EvenSet m k n) (hF : Cls (RO' (fun x => trn (m x) 3) (4 * n)) (4 * n) F) (hF' : Cls (RO' (cph m k) (4 * (2 * n))) (4 * (2 * n)) F') : 2 * F ≤ F' := by
  have pf : Perm (fun x => trn (m x) 3) (4 * n) := s.inv.perm 3
  have hl : ∀ e, ∃ a, Cnt (fun x => (∀ g, g < dn x → ¬ RO' (fun y => trn (m y) 3) (4 * n) g (dn x)) ∧ sh x = e) (4 * (2 * n)) a := fun e => Cnt.ex _ _
  have hle : ∀ e a, e < 2 → Cnt (fun x => (∀ g, g < dn x → ¬ RO' (fun y => trn (m y) 3) (4 * n) g (dn x)) ∧ sh x = e) (4 * (2 * n)) a → F ≤ a := fun e a he ha => by
    refine Cnt.inj hF ha (fun h => up h e) (fun x hx q => ⟨up_lt hx, ?_, ?_⟩) (fun x y _ _ _ _ q => ?_)
    · rw [dn_up]; exact q
    · rw [sh_up]; omega
    · have := congrArg dn q
      rwa [dn_up, dn_up] at this
  obtain ⟨a0, h0⟩ := hl 0
  obtain ⟨a1, h1⟩ := hl 1
  have l0 := hle 0 a0 (by omega) h0
  have l1 := hle 1 a1 (by omega) h1
  have hor := Cnt.or h0 h1 (fun x _ q r => by have := q.2; have := r.2; omega)
  have key : a0 + a1 ≤ F' := by
    refine Cnt.rel hor hF' (fun x y => RO' (cph m k) (4 * (2 * n)) y x) (fun x hx _ => ?_) (fun x y z hx hy px py q r => ?_)
    · obtain ⟨y, hy, hmin⟩ := least_of (fun z => RO' (cph m k) (4 * (2 * n)) z x) x ⟨hx, .refl _ _⟩
      exact ⟨y, hy.1, fun g hg o => hmin g hg ⟨o.1, o.2.trans hy.2⟩, hy⟩
    · have o : Orb (cph m k) x y := (s.cperm.orb_symm q.1 q.2).trans r.2
      obtain ⟨j, hj⟩ := o
      obtain ⟨e1, e2⟩ := s.it hx j
      rw [hj] at e1 e2
      have px' : ∀ g, g < dn x → ¬ RO' (fun y => trn (m y) 3) (4 * n) g (dn x) := by rcases px with h | h <;> exact h.1
      have py' : ∀ g, g < dn y → ¬ RO' (fun y => trn (m y) 3) (4 * n) g (dn y) := by rcases py with h | h <;> exact h.1
      have hdx := dn_lt hx
      have hdy := dn_lt hy
      have o1 : Orb (fun y => trn (m y) 3) (dn x) (dn y) := ⟨j, e1.symm⟩
      have hd : dn x = dn y := by
        rcases Nat.lt_trichotomy (dn x) (dn y) with hlt | he | hgt
        · exact absurd ⟨hdx, o1⟩ (py' _ hlt)
        · exact he
        · exact absurd ⟨hdy, pf.orb_symm hdx o1⟩ (px' _ hgt)
      refine dn_sh hd ?_
      unfold ts at e2
      rw [hd] at e2
      have : sh x < 2 := by unfold sh; omega
      have : sh y < 2 := by unfold sh; omega
      omega
  omega

theorem conn_lift {m k : Nat → Nat} {n : Nat} (s : EvenSet m k n) {a b : Nat} (h : Conn m (4 * n) a b) (e : Nat) : ∃ e', e' < 2 ∧ Conn (cm m k) (4 * (2 * n)) (2 * a + e % 2) (2 * b + e') := by
  induction h with
  | refl => exact ⟨e % 2, by omega, .refl _⟩
  | step z hz _ ih =>
    obtain ⟨e', he, hc⟩ := ih
    have e1 : up z e' / 4 = 2 * (z / 4) + e' := by rw [up_div]; omega
    have e2 : cm m k (up z e') / 4 = 2 * (m z / 4) + (e' + cq m k z) % 2 := by unfold cm; rw [dn_up, sh_up, up_div]; omega
    rw [← e1] at hc
    have := Conn.step (m := cm m k) (up z e') (up_lt hz) hc
    rw [e2] at this
    exact ⟨_, by omega, this⟩
  | back z hz _ ih =>
    obtain ⟨e', he, hc⟩ := ih
    have hm := s.inv.lt z hz
    have e1 : up (m z) e' / 4 = 2 * (m z / 4) + e' := by rw [up_div]; omega
    have e2 : cm m k (up (m z) e') / 4 = 2 * (z / 4) + (e' + cq m k (m z)) % 2 := by unfold cm; rw [dn_up, sh_up, up_div, s.inv.inv z hz]; omega
    rw [← e1] at hc
    have := Conn.step (m := cm m k) (up (m z) e') (up_lt hm) hc
    rw [e2] at this
    exact ⟨_, by omega, this⟩
/-- The two sheets change places. -/
theorem conn_deck {m k : Nat → Nat} {n : Nat} {a b : Nat} (h : Conn (cm m k) (4 * (2 * n)) a b) : Conn (cm m k) (4 * (2 * n)) (2 * (a / 2) + (a + 1) % 2) (2 * (b / 2) + (b + 1) % 2) := by
  have tdiv : ∀ x, up (dn x) (sh x + 1) / 4 = 2 * (x / 4 / 2) + (x / 4 + 1) % 2 := fun x => by rw [up_div]; unfold dn sh; omega
  have tcm : ∀ x, cm m k (up (dn x) (sh x + 1)) = up (dn (cm m k x)) (sh (cm m k x) + 1) := fun x => by
    refine dn_sh ?_ ?_
    · rw [dn_cm, dn_up, dn_up, dn_cm]
    · rw [sh_cm, sh_up, dn_up, sh_up, sh_cm]; omega
  induction h with
  | refl => exact .refl _
  | step x hx _ ih =>
    rw [← tdiv] at ih
    have := Conn.step (m := cm m k) (up (dn x) (sh x + 1)) (up_lt (dn_lt hx)) ih
    rw [tcm, tdiv] at this
    exact this
  | back x hx _ ih =>
    rw [← tdiv, ← tcm] at ih
    have := Conn.back (m := cm m k) (up (dn x) (sh x + 1)) (up_lt (dn_lt hx)) ih
    rw [tdiv] at this
    exact this

/-- The parts of the cover are at least twice as many. -/
theorem EvenSet.parts {m k : Nat → Nat} {n F c c' : Nat} (s : EvenSet m k n) (hF : Cls (RO' (fun x => trn (m x) 3) (4 * n)) (4 * n) F) (hsph : F = n + 2 * c)
    (hc : Cls (fun x y => x < 4 * (2 * n) ∧ y < 4 * (2 * n) ∧ Conn (cm m k) (4 * (2 * n)) (x / 4) (y / 4)) (4 * (2 * n)) c') : 2 * c ≤ c' := by
  have i := s.invol
  have hfix := s.cfix
  obtain ⟨C, G, d, t, g⟩ := grown_all (fun _ => false) i hfix (4 * (2 * n))
  have hphi : ∀ x, x < 4 * (2 * n) → phi (cm m k) (4 * (2 * n)) (fun _ => false) (4 * (2 * n)) x = cph m k x := fun x hx => by
    unfold phi cph Go.Proofs.Ytebliaclleplgaa.mk
    rw [if_pos ⟨by omega, rfl⟩, mmx_lt hx]
  have hit := fun x (hx : x < 4 * (2 * n)) j => it_congr g.perm hphi hx j
  have hG : Cls (RO' (cph m k) (4 * (2 * n))) (4 * (2 * n)) G := cls_congr g.faces fun x y => by
    constructor
    · rintro ⟨hx, j, q⟩; exact ⟨hx, j, by rw [← hit x hx]; exact q⟩
    · rintro ⟨hx, j, q⟩; exact ⟨hx, j, by rw [hit x hx]; exact q⟩
  have h1 := s.faces hF hG
  have h2 := g.euler
  have e2 : 4 * (2 * n) = 2 * t := Cnt.pairs (4 * (2 * n)) (mmx (cm m k) (4 * (2 * n))) (4 * (2 * n)) (fun x => x < 4 * (2 * n)) t (Cnt.all _ _ fun x hx => hx) (g.edges.congr fun x hx => ⟨fun q => ⟨hx, q.1⟩, fun q => ⟨q.2, rfl⟩⟩)
    (fun x hx _ => ⟨mmx_N i hx, mmx_N i hx, mmx_mmx i x, by rw [mmx_lt hx]; exact hfix x hx⟩)
  have hsub : ∀ x y, C x y → x < 4 * (2 * n) ∧ y < 4 * (2 * n) ∧ Conn (cm m k) (4 * (2 * n)) (x / 4) (y / 4) :=
    g.gen _ ⟨fun x y q => ⟨q.1, q.2.1⟩, fun x hx => ⟨hx, hx, .refl _⟩, fun x y q => ⟨q.2.1, q.1, q.2.2.symm⟩, fun x y z q r => ⟨q.1, r.2.1, q.2.2.trans r.2.2⟩⟩
      (fun x y hx hy e => ⟨hx, hy, by rw [e]; exact .refl _⟩) (fun x hx => ⟨hx, mmx_N i hx, by rw [mmx_lt hx]; exact .step x hx (.refl _)⟩)
  have key : ∀ {a b : Nat}, Conn (cm m k) (4 * (2 * n)) a b → a < 2 * n → b < 2 * n ∧ C (4 * a) (4 * b) := by
    intro a b hc ha
    induction hc with
    | refl => exact ⟨ha, g.eqv.refl _ (by omega)⟩
    | step z hz _ ih =>
      have hm := i.lt z hz
      have he := g.edge z hz (by omega) rfl
      rw [mmx_lt hz] at he
      exact ⟨by omega, g.eqv.trans _ _ _ ih.2 (g.eqv.trans _ _ _ (g.cross _ z (by omega) hz (by omega)) (g.eqv.trans _ _ _ he (g.cross _ _ hm (by omega) (by omega))))⟩
    | back z hz _ ih =>
      have hm := i.lt z hz
      have he := g.edge z hz (by omega) rfl
      rw [mmx_lt hz] at he
      exact ⟨by omega, g.eqv.trans _ _ _ ih.2 (g.eqv.trans _ _ _ (g.cross _ (cm m k z) (by omega) hm (by omega)) (g.eqv.trans _ _ _ (g.eqv.symm _ _ he) (g.cross _ _ hz (by omega) (by omega))))⟩
  have e3 : d = c' := Cnt.uniq g.parts (cls_congr hc fun x y => ⟨fun q => by
    have := (key q.2.2 (by have := q.1; omega)).2
    exact g.eqv.trans _ _ _ (g.cross x _ q.1 (by have := q.1; omega) (by omega)) (g.eqv.trans _ _ _ this (g.cross _ y (by have := q.2.1; omega) q.2.1 (by omega))), hsub x y⟩)
  omega

/-- No way leads from one sheet of a crossing to the other one. -/
theorem EvenSet.apart {m k F : Nat → Nat} {n : Nat} (s : EvenSet m k n) (hlab : IsLab m (4 * n) n F) (hle : ∀ c, F c ≤ c) (hid : ∀ c, F (F c) = F c) (hs : sphB F (fun x => trn (m x) 3) (4 * n) n = true)
    (c : Nat) (hcn : c < n) : ¬ Conn (cm m k) (4 * (2 * n)) (2 * c) (2 * c + 1) := by
  intro hbad
  have hr : F c < n := by have := hle c; omega
  obtain ⟨r, hrc⟩ : ∃ r, F c = r := ⟨_, rfl⟩
  have hrr : F r = r := by rw [← hrc, hid]
  have hcr : Conn m (4 * n) c r := by rw [← hrc]; exact (hlab.1 c hcn).2
  rw [hrc] at hr
  have hR : Conn (cm m k) (4 * (2 * n)) (2 * r) (2 * r + 1) := by
    obtain ⟨e', he, h0⟩ := conn_lift s hcr 0
    rw [show 2 * c + 0 % 2 = 2 * c by omega] at h0
    have h1 := conn_deck h0
    rw [show 2 * (2 * c / 2) + (2 * c + 1) % 2 = 2 * c + 1 by omega] at h1
    have h2 := (h0.symm.trans hbad).trans h1
    rcases (show e' = 0 ∨ e' = 1 by omega) with rfl | rfl
    · rwa [show 2 * ((2 * r + 0) / 2) + (2 * r + 0 + 1) % 2 = 2 * r + 1 by omega] at h2
    · rw [show 2 * ((2 * r + 1) / 2) + (2 * r + 1 + 1) % 2 = 2 * r by omega] at h2
      exact h2.symm
  obtain ⟨c', hc'⟩ := Cnt.ex (fun h => ∀ g, g < h → ¬ (g < 4 * (2 * n) ∧ h < 4 * (2 * n) ∧ Conn (cm m k) (4 * (2 * n)) (g / 4) (h / 4))) (4 * (2 * n))
  have h2 := s.parts (cls_orb (s.inv.perm 3)) (euler_all hs hle hid) hc'
  -- at most one part less than twice the roots
  obtain ⟨b, hb⟩ := Cnt.ex (fun y => (y % 4 = 0 ∧ F (y / 8) = y / 8) ∧ y ≠ 8 * r + 4) (4 * (2 * n))
  obtain ⟨b0, hb0⟩ := Cnt.ex (fun y => y % 4 = 0 ∧ F (y / 8) = y / 8) (4 * (2 * n))
  have e1 := hb0.drop hb (h0 := 8 * r + 4) (by omega) ⟨by omega, by rw [show (8 * r + 4) / 8 = r by omega]; exact hrr⟩ (by simp) (fun x _ hne => ⟨fun q => ⟨q, hne⟩, fun q => q.1⟩)
  have hroots : Cnt (fun l => (fun l => F l == l) l = true) n (rootsN F n) := Cnt.countP _ n
  have hhalf : ∀ e a, Cnt (fun y => (y % 4 = 0 ∧ F (y / 8) = y / 8) ∧ sh y = e) (4 * (2 * n)) a → a ≤ rootsN F n := fun e a ha => by
    refine Cnt.inj ha hroots (fun y => y / 8) (fun y hy q => ⟨by show y / 8 < n; omega, by have := q.1.2; simpa using this⟩) (fun x y _ _ px py q => ?_)
    have a1 := px.1.1
    have a2 := py.1.1
    have a3 := px.2
    have a4 := py.2
    unfold sh at a3 a4
    omega
  obtain ⟨a0, h0⟩ := Cnt.ex (fun y => (y % 4 = 0 ∧ F (y / 8) = y / 8) ∧ sh y = 0) (4 * (2 * n))
  obtain ⟨a1, h1⟩ := Cnt.ex (fun y => (y % 4 = 0 ∧ F (y / 8) = y / 8) ∧ sh y = 1) (4 * (2 * n))
  have e2 : b0 = a0 + a1 := Cnt.uniq hb0 ((Cnt.or h0 h1 (fun x _ q r => by have := q.2; have := r.2; omega)).congr fun x _ => ⟨fun q => q.elim (·.1) (·.1), fun q => by
    rcases (show sh x = 0 ∨ sh x = 1 by unfold sh; omega) with e | e
    · exact .inl ⟨q, e⟩
    · exact .inr ⟨q, e⟩⟩)
  have l0 := hhalf 0 a0 h0
  have l1 := hhalf 1 a1 h1
  have e3 : c' ≤ b := by
    refine Cnt.rel hc' hb (fun x y => Conn (cm m k) (4 * (2 * n)) (x / 4) (y / 4)) (fun x hx _ => ?_) (fun x y z hx hy px py q r => ?_)
    · have hxn : x / 8 < n := by omega
      obtain ⟨hle', hcx⟩ := hlab.1 (x / 8) hxn
      obtain ⟨e', he, hl⟩ := conn_lift s hcx (x / 4)
      rw [show 2 * (x / 8) + x / 4 % 2 = x / 4 by omega] at hl
      by_cases hx1 : F (x / 8) = r ∧ e' = 1
      · refine ⟨8 * r, by omega, ⟨⟨by omega, by rw [show 8 * r / 8 = r by omega]; exact hrr⟩, by omega⟩, ?_⟩
        rw [hx1.1, hx1.2] at hl
        rw [show 8 * r / 4 = 2 * r by omega]
        exact hl.trans hR.symm
      · refine ⟨8 * F (x / 8) + 4 * e', by omega, ⟨⟨by omega, by rw [show (8 * F (x / 8) + 4 * e') / 8 = F (x / 8) by omega]; exact hid _⟩, by omega⟩, ?_⟩
        rw [show (8 * F (x / 8) + 4 * e') / 4 = 2 * F (x / 8) + e' by omega]
        exact hl
    · have hxy := q.trans r.symm
      rcases Nat.lt_trichotomy x y with hlt | he | hgt
      · exact absurd ⟨hx, hy, hxy⟩ (py _ hlt)
      · exact he
      · exact absurd ⟨hy, hx, hxy.symm⟩ (px _ hgt)
  omega

/-- The colours. -/
theorem EvenSet.colour {m k F : Nat → Nat} {n : Nat} (s : EvenSet m k n) (hlab : IsLab m (4 * n) n F) (hle : ∀ c, F c ≤ c) (hid : ∀ c, F (F c) = F c) (hs : sphB F (fun x => trn (m x) 3) (4 * n) n = true) :
    ∃ χ : Nat → Nat, ∀ h, h < 4 * n → (χ (h / 4) + χ (m h / 4) + pk k h + pk k (m h) + k h) % 2 = 0 := by
  classical
  have hnot := s.apart hlab hle hid hs
  obtain ⟨χ, hχ⟩ : ∃ χ : Nat → Nat, ∀ c, χ c = if Conn (cm m k) (4 * (2 * n)) (2 * F c) (2 * c) then 0 else 1 := ⟨fun c => if Conn (cm m k) (4 * (2 * n)) (2 * F c) (2 * c) then 0 else 1, fun _ => rfl⟩
  have hlt : ∀ c, χ c < 2 := fun c => by rw [hχ]; split <;> omega
  have hin : ∀ c, c < n → Conn (cm m k) (4 * (2 * n)) (2 * F c) (2 * c + χ c) := fun c hc => by
    rw [hχ]
    split
    · rename_i q; exact q
    · rename_i q
      obtain ⟨e', he, hl⟩ := conn_lift s (hlab.1 c hc).2.symm 0
      rw [show 2 * F c + 0 % 2 = 2 * F c by omega] at hl
      rcases (show e' = 0 ∨ e' = 1 by omega) with rfl | rfl
      · exact absurd hl q
      · exact hl
  refine ⟨χ, fun h hh => ?_⟩
  have hm := s.inv.lt h hh
  have h1 := hin (h / 4) (by omega)
  have h2 := hin (m h / 4) (by omega)
  have hF : F (m h / 4) = F (h / 4) := (hlab.2 h hh).symm
  rw [hF] at h2
  have e1 : up h (χ (h / 4)) / 4 = 2 * (h / 4) + χ (h / 4) := by rw [up_div]; have := hlt (h / 4); omega
  have e2 : cm m k (up h (χ (h / 4))) / 4 = 2 * (m h / 4) + (χ (h / 4) + cq m k h) % 2 := by unfold cm; rw [dn_up, sh_up, up_div]; omega
  rw [← e1] at h1
  have h3 := Conn.step (m := cm m k) (up h (χ (h / 4))) (up_lt hh) h1
  rw [e2] at h3
  have h4 := h2.symm.trans h3
  have h5 := hnot (m h / 4) (by omega)
  have l1 := hlt (m h / 4)
  have : χ (m h / 4) = (χ (h / 4) + cq m k h) % 2 := by
    rcases (show χ (m h / 4) = 0 ∨ χ (m h / 4) = 1 by omega) with q | q <;> rcases (show (χ (h / 4) + cq m k h) % 2 = 0 ∨ (χ (h / 4) + cq m k h) % 2 = 1 by omega) with r | r
    · omega
    · rw [q, r] at h4; exact absurd h4 h5
    · rw [q, r] at h4; exact absurd h4.symm h5
    · omega
  unfold cq at this
  omega

end Go.Proofs.Ytebliaclleplgaa

/- Plain mathematics: Dowker codes; the code of a strand that comes to each crossing once at an even and once at an odd place. -/
namespace Go.Proofs.Ytebliaclleplgaa

/-- The absolute value as the program reckons it. -/
def szI (x : Int) : Int := if x = -9223372036854775808 then x else if x < 0 then -x else x
def okAt (code : List Int) (i : Nat) : Bool :=
  decide (2 ≤ szI (code.getD i 0)) && decide (szI (code.getD i 0) ≤ 2 * code.length) && decide (szI (code.getD i 0) % 2 = 0) && (List.range i).all (fun j => decide (szI (code.getD j 0) ≠ szI (code.getD i 0)))
/-- Is the code valid? -/
def dvB (code : List Int) : Bool := decide (1 ≤ code.length) && decide (code.length ≤ 64) && (List.range code.length).all (okAt code)
theorem okAt_iff (code : List Int) (i : Nat) : okAt code i = true ↔ 2 ≤ szI (code.getD i 0) ∧ szI (code.getD i 0) ≤ 2 * code.length ∧ szI (code.getD i 0) % 2 = 0 ∧ ∀ j, j < i → szI (code.getD j 0) ≠ szI (code.getD i 0) := by
  unfold okAt
  simp only [Bool.and_eq_true, decide_eq_true_eq, List.all_eq_true, List.mem_range]
  constructor
  · rintro ⟨⟨⟨a, b⟩, c⟩, d⟩; exact ⟨a, b, c, d⟩
  · rintro ⟨a, b, c, d⟩; exact ⟨⟨⟨a, b⟩, c⟩, d⟩
theorem dvB_iff (code : List Int) : dvB code = true ↔ 1 ≤ code.length ∧ code.length ≤ 64 ∧ ∀ i, i < code.length → okAt code i = true := by
  unfold dvB
  simp only [Bool.and_eq_true, decide_eq_true_eq, List.all_eq_true, List.mem_range]
  constructor
  · rintro ⟨⟨a, b⟩, c⟩; exact ⟨a, b, c⟩
  · rintro ⟨a, b, c⟩; exact ⟨⟨a, b⟩, c⟩

/-- What a valid code is: i ↦ dhalf i is a permutation; the i-th number is 2 * dhalf i + 2 or its negative. -/
def dhalf (code : List Int) (i : Nat) : Nat := ((szI (code.getD i 0) - 2) / 2).toNat
theorem dhalf_eq {code : List Int} (h : dvB code = true) {i : Nat} (hi : i < code.length) : szI (code.getD i 0) = 2 * (dhalf code i : Int) + 2 ∧ dhalf code i < code.length := by
  obtain ⟨h1, h2, h3⟩ := (dvB_iff code).1 h
  obtain ⟨a, b, c, _⟩ := (okAt_iff code i).1 (h3 i hi)
  unfold dhalf
  omega
theorem dhalf_perm {code : List Int} (h : dvB code = true) : Perm (dhalf code) code.length :=
  ⟨fun i hi => (dhalf_eq h hi).2, fun i j hi hj e => by
    obtain ⟨h1, h2, h3⟩ := (dvB_iff code).1 h
    have ei := (dhalf_eq h hi).1
    have ej := (dhalf_eq h hj).1
    rw [e] at ei
    rcases Nat.lt_trichotomy i j with k | k | k
    · exact absurd (ei.trans ej.symm) (((okAt_iff code j).1 (h3 j hj)).2.2.2 i k)
    · exact k
    · exact absurd (ej.trans ei.symm) (((okAt_iff code i).1 (h3 i hi)).2.2.2 j k)⟩

/-- The crossing at place j of a strand. -/
def cr (st : List Int) (j : Nat) : Nat := (st.getD j 0).toNat / 4
def vlO (st : List Int) (j : Nat) : Int := if (st.getD (2 * j + 1) 0).toNat % 2 = 1 then -(2 * (j : Int) + 2) else 2 * (j : Int) + 2
/-- The numbers of the crossings behind k odd places. -/
def evK (st : List Int) : Nat → Nat → Int
  | 0 => fun _ => 0
  | k + 1 => fun c => if c = cr st (2 * k + 1) then vlO st k else evK st k c
/-- The code of a strand. -/
def cdF (st : List Int) (n : Nat) : List Int := (List.range n).map fun i => evK st n (cr st (2 * i))
theorem cdF_length (st : List Int) (n : Nat) : (cdF st n).length = n := by simp [cdF]
theorem cdF_get {st : List Int} {n i : Nat} (hi : i < n) : (cdF st n).getD i 0 = evK st n (cr st (2 * i)) := by simp [cdF, List.getD, hi]

structure KnotSt (st : List Int) (n : Nat) : Prop where
  len : st.length = 2 * n
  rg : ∀ j, j < 2 * n → 0 ≤ st.getD j 0 ∧ cr st j < n
  ev : ∀ i j, i < n → j < n → cr st (2 * i) = cr st (2 * j) → i = j
  od : ∀ i j, i < n → j < n → cr st (2 * i + 1) = cr st (2 * j + 1) → i = j
theorem KnotSt.evK_in {st : List Int} {n : Nat} (h : KnotSt st n) {k j : Nat} (hj : j < k) (hk : k ≤ n) : evK st k (cr st (2 * j + 1)) = vlO st j := by
  induction k with
  | zero => omega
  | succ k ih =>
    show (if _ then _ else _) = _
    by_cases e : j = k
    · rw [e, if_pos rfl]
    · rw [if_neg (fun q => e (h.od j k (by omega) (by omega) q))]
      exact ih (by omega) (by omega)
theorem KnotSt.odP {st : List Int} {n : Nat} (h : KnotSt st n) : Perm (fun j => cr st (2 * j + 1)) n :=
  ⟨fun j hj => (h.rg _ (by omega)).2, fun i j hi hj e => h.od i j hi hj e⟩
theorem KnotSt.evP {st : List Int} {n : Nat} (h : KnotSt st n) : Perm (fun j => cr st (2 * j)) n :=
  ⟨fun j hj => (h.rg _ (by omega)).2, fun i j hi hj e => h.ev i j hi hj e⟩
theorem Perm.hit {t : Nat → Nat} {N : Nat} (q : Perm t N) {x : Nat} (hx : x < N) : ∃ y, y < N ∧ t y = x := by
  obtain ⟨i, hi, e⟩ := q.returns hx
  exact ⟨it t i x, q.it_lt hx i, e⟩
/-- The place of the odd passage of the crossing at an even place. -/
theorem KnotSt.mate {st : List Int} {n i : Nat} (h : KnotSt st n) (hi : i < n) : ∃ j, j < n ∧ cr st (2 * j + 1) = cr st (2 * i) ∧ (cdF st n).getD i 0 = vlO st j := by
  obtain ⟨j, hj, e⟩ := h.odP.hit (h.rg (2 * i) (by omega)).2
  refine ⟨j, hj, e, ?_⟩
  rw [cdF_get hi, ← e]
  exact h.evK_in hj (Nat.le_refl _)
theorem szI_vlO (st : List Int) (j : Nat) (hj : j < 1000) : szI (vlO st j) = 2 * (j : Int) + 2 := by
  unfold szI vlO; split <;> rw [if_neg (by omega)] <;> split <;> omega
/-- The code of a strand is valid. -/
theorem KnotSt.valid {st : List Int} {n : Nat} (h : KnotSt st n) (h1 : 1 ≤ n) (h2 : n ≤ 64) : dvB (cdF st n) = true := by
  refine (dvB_iff _).2 ⟨by rw [cdF_length]; exact h1, by rw [cdF_length]; exact h2, fun i hi => ?_⟩
  rw [cdF_length] at hi
  obtain ⟨j, hj, e1, e2⟩ := h.mate hi
  refine (okAt_iff _ _).2 ?_
  rw [e2, szI_vlO st j (by omega), cdF_length]
  refine ⟨by omega, by omega, by omega, fun i' hi' => ?_⟩
  obtain ⟨j', hj', e1', e2'⟩ := h.mate (i := i') (by omega)
  rw [e2', szI_vlO st j' (by omega)]
  intro q
  have : j' = j := by omega
  rw [this, e1] at e1'
  have := h.ev i i' hi (by omega) e1'
  omega

end Go.Proofs.Ytebliaclleplgaa

/- Plain mathematics: a diagram of one strand: the strand comes to each crossing once at an even and once at an odd place. -/
namespace Go.Proofs.Ytebliaclleplgaa
open Go.RowKit

theorem pk_ones (h : Nat) : pk (fun _ => 1) h = h % 4 := by
  show (if 1 ≤ h % 4 then 1 else 0) + (if 2 ≤ h % 4 then 1 else 0) + (if 3 ≤ h % 4 then 1 else 0) = h % 4
  have : h % 4 < 4 := Nat.mod_lt _ (by decide)
  split <;> split <;> split <;> omega
theorem out_slots {s : List Int} {x y : Nat} (ox : outB s x = true) (oy : outB s y = true) (e : x / 4 = y / 4) (hne : x ≠ y) : (x % 4 + y % 4) % 2 = 1 := by
  unfold outB at ox oy
  rw [← e] at oy
  generalize s.getD (x / 4) 0 = g at ox oy
  have hx : x % 4 = 0 ∨ x % 4 = 1 ∨ x % 4 = 2 ∨ x % 4 = 3 := by omega
  have hy : y % 4 = 0 ∨ y % 4 = 1 ∨ y % 4 = 2 ∨ y % 4 = 3 := by omega
  rcases hx with a | a | a | a <;> rcases hy with b | b | b | b <;> rw [a] at ox <;> rw [b] at oy <;> simp at ox oy <;> omega
/-- Along a strand of a valid diagram the places of the two passages of a crossing differ by an odd number. -/
theorem strand_parity {s m : List Int} {lp : Int} (hv : validB s m lp = true) {r a b : Nat} (hr : r < m.length) (ho : outB s r = true)
    (ha : a < per (fs (matesOf m)) m.length r) (hb : b < per (fs (matesOf m)) m.length r) (hab : a ≠ b) (e : it (fs (matesOf m)) a r / 4 = it (fs (matesOf m)) b r / 4) : (a + b) % 2 = 1 := by
  obtain ⟨n, h1, h2, h3, h4, h5⟩ := bk_data hv
  have F := bk_facts hv
  have hev : EvenSet (matesOf m) (fun _ => 1) n := ⟨h3, h4, fun _ _ => rfl, fun _ _ => rfl⟩
  obtain ⟨χ, hχ⟩ := hev.colour (ufLab_isLab (matesOf m) (4 * n) n) (fun c => root_le _ _) (fun c => root_root _ _) h5
  have hlt : ∀ i, it (fs (matesOf m)) i r < 4 * n := fun i => by rw [← h2]; exact F.p.it_lt hr i
  have hstep : ∀ i, (χ (it (fs (matesOf m)) i r / 4) + it (fs (matesOf m)) i r % 4) % 2 = (χ (r / 4) + r % 4 + i) % 2 := by
    intro i
    induction i with
    | zero => rfl
    | succ i ih =>
      have hx := hχ _ (hlt i)
      rw [pk_ones, pk_ones] at hx
      have e1 : it (fs (matesOf m)) (i + 1) r = trn (matesOf m (it (fs (matesOf m)) i r)) 2 := rfl
      rw [e1, trn_div]
      have e2 : trn (matesOf m (it (fs (matesOf m)) i r)) 2 % 4 = (matesOf m (it (fs (matesOf m)) i r) % 4 + 2) % 4 := by unfold trn; omega
      rw [e2]
      omega
  have hout : ∀ i, outB s (it (fs (matesOf m)) i r) = true := fun i => F.c.it F.p hr ho i
  have hne : it (fs (matesOf m)) a r ≠ it (fs (matesOf m)) b r := by
    rcases Nat.lt_or_ge a b with h | h
    · exact F.p.it_ne hr h hb
    · exact fun q => F.p.it_ne hr (by omega : b < a) ha q.symm
  have hs := out_slots (hout a) (hout b) e hne
  have ta := hstep a
  have tb := hstep b
  rw [e] at ta
  omega
theorem knot_one {s m : List Int} {lp : Int} (hv : validB s m lp = true) (h1 : 1 ≤ s.length) (hc : compM s m lp ≤ 1) : lp = 0 ∧ ∃ st, strandsM s m lp = [st] ∧ KnotSt st s.length := by
  have F := bk_facts hv
  have hlm := F.lm
  obtain ⟨_, _, l3, _⟩ := limB_out F.lim
  have e1 : strandsM s m lp = (reprs (fs (matesOf m)) m.length (outB s)).map (fun h => itl (fs (matesOf m)) h (per (fs (matesOf m)) m.length h)) := by unfold strandsM; rw [if_pos hv, cycL_reprs]
  have o2 : outB s 2 = true := by unfold outB; rfl
  obtain ⟨r0, hr0, _⟩ := reprs_ex F.p (by omega : 2 < m.length) o2
  have hlen : (strandsM s m lp).length = (reprs (fs (matesOf m)) m.length (outB s)).length := by rw [e1, List.length_map]
  rw [compM_add hv] at hc
  have hpos : 0 < (reprs (fs (matesOf m)) m.length (outB s)).length := List.length_pos_of_mem hr0
  refine ⟨by omega, ?_⟩
  have hsum := sum_per F.p F.c
  rw [hlm, bk_count F.sg rfl] at hsum
  match hq : reprs (fs (matesOf m)) m.length (outB s) with
  | [] => rw [hq] at hpos; simp at hpos
  | _ :: _ :: _ => rw [hq] at hlen; simp at hlen; omega
  | [r] =>
    rw [hlm] at hq
    rw [hq] at hsum
    have hper : per (fs (matesOf m)) m.length r = 2 * s.length := by rw [hlm]; simpa [lenSum] using hsum
    have hr : r ∈ reprs (fs (matesOf m)) m.length (outB s) := by rw [hlm, hq]; simp
    obtain ⟨hrl, hrs⟩ := reprs_mem.1 hr
    have ho := ((F.p.sel_iff _ hrl).1 hrs).1
    refine ⟨itl (fs (matesOf m)) r (per (fs (matesOf m)) m.length r), by rw [e1, hlm, hq]; rfl, ?_⟩
    rw [hper]
    have hget : ∀ j, j < 2 * s.length → (itl (fs (matesOf m)) r (2 * s.length)).getD j 0 = (it (fs (matesOf m)) j r : Int) := fun j hj => itl_getD _ _ _ _ hj
    have hcr : ∀ j, j < 2 * s.length → cr (itl (fs (matesOf m)) r (2 * s.length)) j = it (fs (matesOf m)) j r / 4 := fun j hj => by unfold cr; rw [hget j hj]; rfl
    refine ⟨itl_length _ _ _, fun j hj => ?_, fun i j hi hj q => ?_, fun i j hi hj q => ?_⟩
    · rw [hget j hj, hcr j hj]
      have := F.p.it_lt hrl j
      omega
    · rw [hcr _ (by omega), hcr _ (by omega)] at q
      by_cases e : i = j
      · exact e
      · have := strand_parity hv hrl ho (a := 2 * i) (b := 2 * j) (by omega) (by omega) (by omega) q
        omega
    · rw [hcr _ (by omega), hcr _ (by omega)] at q
      by_cases e : i = j
      · exact e
      · have := strand_parity hv hrl ho (a := 2 * i + 1) (b := 2 * j + 1) (by omega) (by omega) (by omega) q
        omega

end Go.Proofs.Ytebliaclleplgaa

/- Walks: the small functions of Dowker codes. -/
namespace Go.Proofs.Ytebliaclleplgaa
open Go.RowKit

set_option maxHeartbeats 400000 in
theorem even_any (x : Int) (w : World) (hlo : -9223372036854775808 ≤ x) (hhi : x ≤ 9223372036854775807) :
    Calls Try.prog 26 #[.int .i64 x] w fun e w' => e = .returned (.int .i64 (szI x)) ∧ w = w' := by
  by_cases h0 : x = -9223372036854775808
  · subst h0
    have hw : wrap64 9223372036854775808 = -9223372036854775808 := by decide +kernel
    have e : szI (-9223372036854775808) = -9223372036854775808 := rfl
    rw [e]; clear e
    go_enter Try.func26, Try.ntmps26
    go_wp2
    go_ret
    exact ⟨rfl, rfl⟩
  · by_cases h1 : x < 0
    · have e : szI x = -x := by unfold szI; rw [if_neg h0, if_pos h1]
      rw [e]; clear e
      have hw : IntKind.i64.wrap (-x) = -x := IntWalk.i64_in _ (by omega)
      have h2 : ¬ -x ≤ x := by omega
      have hm : max x (-x) = -x := by omega
      go_enter Try.func26, Try.ntmps26
      go_wp2
      go_ret
      exact ⟨ret_int (by omega), rfl⟩
    · have e : szI x = x := by unfold szI; rw [if_neg h0, if_neg h1]
      rw [e]; clear e
      have hw : IntKind.i64.wrap (-x) = -x := IntWalk.i64_in _ (by omega)
      have hm : max x (-x) = x := by omega
      go_enter Try.func26, Try.ntmps26
      go_wp2
      go_ret
      exact ⟨ret_int (by omega), rfl⟩

set_option maxHeartbeats 400000 in
theorem over_any (h : Nat) (w : World) (hh : h ≤ 1000000) :
    Calls Try.prog 36 #[.int .i64 h] w fun e w' => e = .returned (.bool ((h : Int) % 2 == 1)) ∧ w = w' := by
  go_enter Try.func36, Try.ntmps36
  go_wp2
  go_ret
  exact ⟨rfl, rfl⟩

/-- The slot by which the over strand leaves. -/
def soI (s : Int) : Int := if s = 1 then 1 else 3
set_option maxHeartbeats 400000 in
theorem slot_any (s : Int) (w : World) :
    Calls Try.prog 60 #[.int .i64 s] w fun e w' => e = .returned (.int .i64 (soI s)) ∧ w = w' := by
  by_cases h : s = 1
  · subst h
    go_enter Try.func60, Try.ntmps60
    go_wp2
    go_ret
    exact ⟨rfl, rfl⟩
  · have e : soI s = 3 := by unfold soI; rw [if_neg h]
    rw [e]; clear e
    have h' : (s == 1) = false := by simpa using h
    go_enter Try.func60, Try.ntmps60
    go_wp2
    go_ret
    exact ⟨rfl, rfl⟩

end Go.Proofs.Ytebliaclleplgaa

/- Plain mathematics: a code is valid exactly if each even number is the absolute value of one number. -/
namespace Go.Proofs.Ytebliaclleplgaa

def inL (code : List Int) : Prop := ∀ j, -9223372036854775808 ≤ code.getD j 0 ∧ code.getD j 0 ≤ 9223372036854775807
def cntW (code : List Int) (want : Int) (k : Nat) : Nat := (List.range k).countP (fun j => code.getD j 0 == want || code.getD j 0 == -want)
theorem cntW_succ (code : List Int) (want : Int) (k : Nat) : cntW code want (k + 1) = cntW code want k + if (code.getD k 0 == want || code.getD k 0 == -want) = true then 1 else 0 := by
  unfold cntW; rw [List.range_succ, List.countP_append]; simp [List.countP_cons]
theorem cntW_le (code : List Int) (want : Int) (k : Nat) : cntW code want k ≤ k := by
  unfold cntW; exact Nat.le_trans List.countP_le_length (by simp)
theorem szI_iff {x w : Int} (hx : -9223372036854775808 ≤ x ∧ x ≤ 9223372036854775807) (hw : 2 ≤ w ∧ w ≤ 1000) : (x == w || x == -w) = true ↔ szI x = w := by
  simp only [Bool.or_eq_true, beq_iff_eq]
  unfold szI
  split
  · omega
  · split <;> omega
theorem Cnt.uniq1 {p : Nat → Prop} {n x y : Nat} (h : Cnt p n 1) (hx : x < n) (hy : y < n) (px : p x) (py : p y) : x = y := by
  by_cases e : x = y
  · exact e
  · obtain ⟨j, hj⟩ := Cnt.ex (fun z => p z ∧ z ≠ x) n
    have h1 := h.drop hj hx px (by simp) (fun z _ hne => ⟨fun w => ⟨w, hne⟩, fun w => w.1⟩)
    have h2 := Cnt.le (Cnt.one hy) hj (fun z _ hz => by rw [hz]; exact ⟨py, fun q => e q.symm⟩)
    omega
theorem dv_cnt {code : List Int} {n : Nat} (hl : code.length = n) (hI : inL code) (h1 : 1 ≤ n) (h64 : n ≤ 64) : dvB code = true ↔ ∀ t : Nat, t < n → cntW code (2 * (t : Int) + 2) n = 1 := by
  constructor
  · intro h t ht
    have hp := dhalf_perm h
    obtain ⟨i0, hi0, e0⟩ := hp.hit (by rw [hl]; exact ht : t < code.length)
    have hc := Cnt.countP (fun j => code.getD j 0 == (2 * (t : Int) + 2) || code.getD j 0 == -(2 * (t : Int) + 2)) n
    have h2 : Cnt (fun j => (code.getD j 0 == (2 * (t : Int) + 2) || code.getD j 0 == -(2 * (t : Int) + 2)) = true) n 1 := (Cnt.one (N := n) (c := i0) (by omega)).congr fun x hx => by
      rw [szI_iff (hI x) (by omega)]
      constructor
      · intro e; rw [e, (dhalf_eq h hi0).1, e0]
      · intro e
        have := (dhalf_eq h (i := x) (by omega)).1
        rw [e] at this
        exact hp.inj x i0 (by omega) hi0 (by omega)
    exact hc.uniq h2
  · intro h
    have hc : ∀ t : Nat, t < n → Cnt (fun j => szI (code.getD j 0) = 2 * (t : Int) + 2) n 1 := fun t ht => by
      have := Cnt.countP (fun j => code.getD j 0 == (2 * (t : Int) + 2) || code.getD j 0 == -(2 * (t : Int) + 2)) n
      have e := h t ht
      unfold cntW at e
      rw [e] at this
      exact this.congr fun x hx => szI_iff (hI x) (by omega)
    have hex : ∀ t : Nat, t < n → ∃ i, i < n ∧ szI (code.getD i 0) = 2 * (t : Int) + 2 := fun t ht => (hc t ht).pos (by omega)
    obtain ⟨g, hg⟩ : ∃ g : Nat → Nat, ∀ t, t < n → g t < n ∧ szI (code.getD (g t) 0) = 2 * (t : Int) + 2 := by
      classical
      exact ⟨fun t => if w : t < n then Classical.choose (hex t w) else 0, fun t ht => by
        simp only [dif_pos ht]; exact Classical.choose_spec (hex t ht)⟩
    have hp : Perm g n := ⟨fun t ht => (hg t ht).1, fun a b ha hb e => by
      have h2 := (hg a ha).2
      rw [e, (hg b hb).2] at h2
      omega⟩
    refine (dvB_iff code).2 ⟨by omega, by omega, fun i hi => (okAt_iff code i).2 ?_⟩
    obtain ⟨t, ht, e⟩ := hp.hit (by omega : i < n)
    have hs := (hg t ht).2
    rw [e] at hs
    refine ⟨by omega, by omega, by omega, fun j hj q => ?_⟩
    have := (hc t ht).uniq1 (x := i) (y := j) (by omega) (by omega) hs (by omega)
    omega

end Go.Proofs.Ytebliaclleplgaa

/- Plain mathematics: the half-edges by which the passages of a code leave, and the mates. -/
namespace Go.Proofs.Ytebliaclleplgaa

def soN (s : Int) : Nat := if s = 1 then 1 else 3
/-- The places of the over and of the under passage of a crossing. -/
def ovN (code : List Int) (i : Nat) : Nat := if code.getD i 0 < 0 then 2 * dhalf code i + 1 else 2 * i
def unN (code : List Int) (i : Nat) : Nat := if code.getD i 0 < 0 then 2 * i else 2 * dhalf code i + 1
/-- The half-edges by which the passages leave, behind k crossings. -/
def exN (code s : List Int) : Nat → Nat → Nat
  | 0 => fun _ => 0
  | k + 1 => upd (upd (exN code s k) (ovN code k) (4 * k + soN (s.getD k 0))) (unN code k) (4 * k + 2)
/-- The mates behind k passages. -/
def jnN (E : Nat → Nat) (L : Nat) : Nat → (Nat → Nat) → Nat → Nat
  | 0, M => M
  | k + 1, M => upd (upd (jnN E L k M) (E k) (trn (E ((k + 1) % L)) 2)) (trn (E ((k + 1) % L)) 2) (E k)

theorem soN_cases (s : Int) : soN s = 1 ∨ soN s = 3 := by unfold soN; split <;> simp
theorem exN_lt (code s : List Int) (k x : Nat) : exN code s k x < 4 * k ∨ exN code s k x = 0 := by
  induction k with
  | zero => exact .inr rfl
  | succ k ih =>
    show upd _ _ _ x < _ ∨ upd _ _ _ x = 0
    unfold upd
    have := soN_cases (s.getD k 0)
    split
    · omega
    · split <;> omega
/-- Behind all crossings each passage of a crossing leaves it. -/
theorem ov_lt {code : List Int} (h : dvB code = true) {i : Nat} (hi : i < code.length) : ovN code i < 2 * code.length ∧ unN code i < 2 * code.length ∧ ovN code i ≠ unN code i := by
  have := (dhalf_eq h hi).2
  unfold ovN unN
  split <;> omega
theorem ov_apart {code : List Int} (h : dvB code = true) {i j : Nat} (hi : i < code.length) (hj : j < code.length) (e : i ≠ j) : ovN code i ≠ ovN code j ∧ ovN code i ≠ unN code j ∧ unN code i ≠ unN code j := by
  have h1 : dhalf code i ≠ dhalf code j := fun q => e ((dhalf_perm h).inj i j hi hj q)
  unfold ovN unN
  split <;> split <;> omega
theorem exN_at {code : List Int} (s : List Int) (h : dvB code = true) {k i : Nat} (hi : i < k) (hk : k ≤ code.length) :
    exN code s k (ovN code i) = 4 * i + soN (s.getD i 0) ∧ exN code s k (unN code i) = 4 * i + 2 := by
  induction k with
  | zero => omega
  | succ k ih =>
    show upd _ _ _ _ = _ ∧ upd _ _ _ _ = _
    by_cases e : i = k
    · subst e
      have := (ov_lt h (i := i) (by omega)).2.2
      rw [upd_other _ _ _ _ this, upd_same, upd_same]
      exact ⟨rfl, rfl⟩
    · obtain ⟨a1, a2, a3⟩ := ov_apart h (i := i) (j := k) (by omega) (by omega) e
      obtain ⟨b1, b2, b3⟩ := ov_apart h (i := k) (j := i) (by omega) (by omega) (fun q => e q.symm)
      rw [upd_other _ _ _ _ a2, upd_other _ _ _ _ a1, upd_other _ _ _ _ a3, upd_other _ _ _ _ (fun q => b2 q.symm)]
      exact ih (by omega) (by omega)

theorem pred_mod {q L : Nat} (hq : q < L) : ∃ k, k < L ∧ (k + 1) % L = q := by
  by_cases h : q = 0
  · exact ⟨L - 1, by omega, by rw [show L - 1 + 1 = L by omega, Nat.mod_self]; omega⟩
  · exact ⟨q - 1, by omega, by rw [show q - 1 + 1 = q by omega]; exact Nat.mod_eq_of_lt hq⟩
theorem jn_indep {E : Nat → Nat} {L x : Nat} {M M' : Nat → Nat} (K : Nat) (h : ∃ k, k < K ∧ (E k = x ∨ trn (E ((k + 1) % L)) 2 = x)) : jnN E L K M x = jnN E L K M' x := by
  induction K with
  | zero => obtain ⟨k, hk, _⟩ := h; omega
  | succ K ih =>
    show upd (upd _ _ _) _ _ x = upd (upd _ _ _) _ _ x
    by_cases h1 : x = trn (E ((K + 1) % L)) 2
    · subst h1; rw [upd_same, upd_same]
    · rw [upd_other _ _ _ _ h1, upd_other _ _ _ _ h1]
      by_cases h2 : x = E K
      · subst h2; rw [upd_same, upd_same]
      · rw [upd_other _ _ _ _ h2, upd_other _ _ _ _ h2]
        refine ih ?_
        obtain ⟨k, hk, hx⟩ := h
        refine ⟨k, ?_, hx⟩
        by_cases e : k = K
        · subst e; rcases hx with q | q
          · exact absurd q.symm h2
          · exact absurd q.symm h1
        · omega
/-- Each half-edge is met. -/
theorem jn_cover {code : List Int} (s : List Int) (h : dvB code = true) {n x : Nat} (hn : code.length = n) (hx : x < 4 * n) :
    ∃ k, k < 2 * n ∧ (exN code s n k = x ∨ trn (exN code s n ((k + 1) % (2 * n))) 2 = x) := by
  obtain ⟨h1, h2⟩ := exN_at s h (k := n) (i := x / 4) (by omega) (by omega)
  obtain ⟨a1, a2, _⟩ := ov_lt h (i := x / 4) (by omega)
  rw [hn] at a1 a2
  have hz := soN_cases (s.getD (x / 4) 0)
  have hcs : x = 4 * (x / 4) + 2 ∨ x = 4 * (x / 4) + soN (s.getD (x / 4) 0) ∨ x = trn (4 * (x / 4) + 2) 2 ∨ x = trn (4 * (x / 4) + soN (s.getD (x / 4) 0)) 2 := by
    unfold trn
    rcases hz with e | e <;> rw [e] <;> omega
  rcases hcs with e | e | e | e
  · exact ⟨_, a2, .inl (h2.trans e.symm)⟩
  · exact ⟨_, a1, .inl (h1.trans e.symm)⟩
  · obtain ⟨k, hk, q⟩ := pred_mod a2
    exact ⟨k, hk, .inr (by rw [q, h2]; exact e.symm)⟩
  · obtain ⟨k, hk, q⟩ := pred_mod a1
    exact ⟨k, hk, .inr (by rw [q, h1]; exact e.symm)⟩
def lstN (n : Nat) (M : Nat → Nat) : List Int := (List.range n).map fun x => (M x : Int)
def lstI (n : Nat) (S : Nat → Int) : List Int := (List.range n).map S
theorem lstN_length (n : Nat) (M : Nat → Nat) : (lstN n M).length = n := by simp [lstN]
theorem lstI_length (n : Nat) (S : Nat → Int) : (lstI n S).length = n := by simp [lstI]
theorem lstN_get {n x : Nat} {M : Nat → Nat} (hx : x < n) : (lstN n M).getD x 0 = (M x : Int) := by simp [lstN, List.getD, hx]
theorem lstI_get {n x : Nat} {S : Nat → Int} (hx : x < n) : (lstI n S).getD x 0 = S x := by simp [lstI, List.getD, hx]
theorem lstN_congr {n : Nat} {M M' : Nat → Nat} (h : ∀ x, x < n → M x = M' x) : lstN n M = lstN n M' := by
  unfold lstN; exact List.map_congr_left fun x hx => by rw [h x (by simpa using hx)]
theorem lstI_congr {n : Nat} {S S' : Nat → Int} (h : ∀ x, x < n → S x = S' x) : lstI n S = lstI n S' := by
  unfold lstI; exact List.map_congr_left fun x hx => h x (by simpa using hx)
theorem lstI_succ (n : Nat) (S : Nat → Int) : lstI (n + 1) S = lstI n S ++ [S n] := by simp [lstI, List.range_succ]
/-- The mates of the diagram of a code with signs. -/
def mkM (code s : List Int) : List Int := lstN (4 * code.length) (jnN (exN code s code.length) (2 * code.length) (2 * code.length) fun _ => 0)
theorem mkM_eq {code : List Int} (s : List Int) (h : dvB code = true) {n : Nat} (hn : code.length = n) (M : Nat → Nat) : lstN (4 * n) (jnN (exN code s n) (2 * n) (2 * n) M) = mkM code s := by
  unfold mkM; rw [hn]
  exact lstN_congr fun x hx => jn_indep _ (jn_cover s h hn hx)

end Go.Proofs.Ytebliaclleplgaa

/- Walk: the half-edges by which the passages of a code leave. -/
namespace Go.Proofs.Ytebliaclleplgaa
open Go.RowKit

theorem slot_nat (s : Int) (w : World) : Calls Try.prog 60 #[.int .i64 s] w fun e w' => e = .returned (.int .i64 (soN s : Nat)) ∧ w = w' := by
  have e : ((soN s : Nat) : Int) = soI s := by unfold soN soI; split <;> rfl
  rw [e]; exact slot_any s w

set_option maxHeartbeats 3200000 in
set_option maxRecDepth 100000 in
theorem exits_any (A C : Option Addr) (n cs cc : Nat) (code s : List Int) (w : World) (hC : RI w C n code) (hA : RI w A n s) (h64 : n ≤ 64) (hI : inL code) (hv : dvB code = true) :
    Calls Try.prog 54 #[.slice C n cc, .slice A n cs] w fun e w' => e = .returned (.slice (some ⟨w.heap.size, 0, none⟩) (2 * n) (2 * n)) ∧ Arr w' w.heap.size 3 (2 * n) (iv (exN code s n)) ∧ Below w.heap.size w w' := by
  have hl := hC.1
  have hpos : 0 < n := by have := (dvB_iff code).1 hv; omega
  obtain ⟨bC, oC, rfl, hbC, hcC⟩ := hC.2 hpos
  obtain ⟨bA, oA, rfl, hbA, hcA⟩ := hA.2 hpos
  have hd := fun i (hi : i < n) => dhalf_eq hv (i := i) (by omega)
  rw [hl] at hd
  have HD := Lib.hid hd
  have HI := Lib.hid hI
  have HCC := Lib.hid hcC
  have HCA := Lib.hid hcA
  clear hd hI hcC hcA hC hA hv hl
  have hn1 : (n : Int) ≤ 64 := by omega
  have hn0 : (0 : Int) ≤ (n : Int) := by omega
  have hmk := fun W => make_one (P := Try.prog) Try.underlying22 Try.infoInt rfl (2 * n) (by omega) (by omega) W
  have hb0 := below_alloc w (.cells (cellsN (2 * n) fun _ => .int .i64 0) 3)
  have hA0 : Arr (w.alloc (.cells (cellsN (2 * n) fun _ => .int .i64 0) 3)) w.heap.size 3 (2 * n) (iv (exN code s 0)) := Arr.new w _ _ _
  obtain ⟨L, hL⟩ : ∃ L, 2 * n = L := ⟨_, rfl⟩
  rw [hL] at hmk hb0 hA0 ⊢
  have hLi : 2 * (n : Int) = (L : Int) := by omega
  have HL := Lib.hid hL
  clear hL
  have hwr : IntKind.i64.wrap (2 * (n : Int)) = (L : Int) := by rw [IntWalk.i64_in _ (by omega), hLi]
  clear hLi
  go_enter Try.func54, Try.ntmps54
  go_wp2
  generalize w.alloc (.cells (cellsN L fun _ => .int .i64 0) 3) = wA at hb0 hA0
  go_loopw [6, 7, 8, 9, 16] (fun _ _ _ _ i wr => ∃ k : Nat, k ≤ n ∧ i = .int .i64 k ∧ Below w.heap.size w wr ∧ Arr wr w.heap.size 3 L (iv (exN code s k))) (fun _ _ _ _ i _ => n - (intOf i).toNat)
  case atStart => exact ⟨0, by omega, rfl, hb0, hA0⟩
  case round =>
    obtain ⟨k, hk, rfl, hbr, hA⟩ := hrel
    by_cases hlt : k < n
    · obtain ⟨hsz, hdl⟩ := HD.out k hlt
      have hIk := HI.out k
      have hcC : wr.cell? ⟨bC, oC + k, none⟩ = some (.int .i64 (code.getD k 0)) := (hbr.cell (p := ⟨bC, oC + k, none⟩) hbC).trans (HCC.out k hlt)
      have hcA : wr.cell? ⟨bA, oA + k, none⟩ = some (.int .i64 (s.getD k 0)) := (hbr.cell (p := ⟨bA, oA + k, none⟩) hbA).trans (HCA.out k hlt)
      have CE := even_any (code.getD k 0) wr hIk.1 hIk.2
      have hkL : 2 * k < L := by have := HL.out; omega
      have hqL : 2 * dhalf code k + 1 < L := by have := HL.out; omega
      have hstep : exN code s (k + 1) = upd (upd (exN code s k) (ovN code k) (4 * k + soN (s.getD k 0))) (unN code k) (4 * k + 2) := rfl
      unfold ovN unN at hstep
      obtain ⟨x, hx⟩ : ∃ x, code.getD k 0 = x := ⟨_, rfl⟩
      obtain ⟨q, hq⟩ : ∃ q, 2 * dhalf code k + 1 = q := ⟨_, rfl⟩
      obtain ⟨y, hy⟩ : ∃ y, s.getD k 0 = y := ⟨_, rfl⟩
      have hs2 : szI x = (q : Int) + 1 := by rw [← hx, hsz]; omega
      rw [hx] at hcC CE hstep
      rw [hy] at hcA hstep
      rw [hq] at hqL hstep
      rw [hs2] at CE
      have HCE := Lib.hid CE
      have CS := fun W => Lib.hid (slot_nat y W)
      obtain ⟨z, hz⟩ : ∃ z, soN y = z := ⟨_, rfl⟩
      have hz3 : z = 1 ∨ z = 3 := by rw [← hz]; exact soN_cases y
      have hz1 : (z : Int) ≤ 3 := by omega
      have hz0 : (0 : Int) ≤ (z : Int) := Int.natCast_nonneg _
      rw [hz] at CS hstep
      have HST := Lib.hid hstep
      clear CE hsz hdl hx hq hy hs2 hz hstep hz3 hA0 hb0 hIk
      have hk0 : (0 : Int) ≤ (k : Int) := Int.natCast_nonneg _
      have hk1 : (k : Int) < (n : Int) := by omega
      have hq0 : (0 : Int) ≤ (q : Int) := Int.natCast_nonneg _
      have hq1 : (q : Int) < (L : Int) := by omega
      have hL128 : (L : Int) ≤ 128 := by have := HL.out; omega
      have hkL1 : 2 * (k : Int) < (L : Int) := by omega
      have ht : (2 * (k : Int)).toNat = 2 * k := by omega
      have hv1 : Hid (4 * (k : Int) + (z : Int) = ((4 * k + z : Nat) : Int)) := by show _ = _; omega
      have hv2 : Hid (4 * (k : Int) + 2 = ((4 * k + 2 : Nat) : Int)) := by show _ = _; omega
      by_cases hneg : x < 0
      · have hA2 : Arr ((wr.setCell ⟨w.heap.size, q, none⟩ (.int .i64 (4 * (k : Int) + (z : Int)))).setCell ⟨w.heap.size, 2 * k, none⟩ (.int .i64 (4 * (k : Int) + 2))) w.heap.size 3 L (iv (exN code s (k + 1))) := by
          rw [HST.out, if_pos hneg, if_pos hneg, hv1.out, hv2.out]
          exact (hA.seti _ _).seti _ _
        have f1 := hA.frozen q
        have c1 := hA.cell q hqL
        have f2 : (wr.setCell ⟨w.heap.size, q, none⟩ (.int .i64 (4 * (k : Int) + (z : Int)))).frozen? ⟨w.heap.size, 2 * k, none⟩ = false := by rw [hv1.out]; exact (hA.seti q (4 * k + z)).frozen (2 * k)
        have c2 : (wr.setCell ⟨w.heap.size, q, none⟩ (.int .i64 (4 * (k : Int) + (z : Int)))).cell? ⟨w.heap.size, 2 * k, none⟩ = some (.int .i64 (upd (exN code s k) q (4 * k + z) (2 * k) : Nat)) := by rw [hv1.out]; exact (hA.seti q (4 * k + z)).cell (2 * k) hkL
        have HA2 := Lib.hid hA2
        clear hA2 hA hv1 hv2
        go_wp2_with (first
          | (go_at_call 26; ((with_reducible refine HCE.out.mono ?_); rintro e w1 ⟨rfl, rfl⟩))
          | (go_at_call 60; ((with_reducible refine (CS _).out.mono ?_); rintro e w1 ⟨rfl, rfl⟩)))
        go_roundw
        case rel => exact ⟨k + 1, by omega, by go_num, below_set (below_set hbr (Nat.le_refl _) _) (Nat.le_refl _) _, HA2.out⟩
        case measure => simp [intOf]; omega
      · have hA2 : Arr ((wr.setCell ⟨w.heap.size, 2 * k, none⟩ (.int .i64 (4 * (k : Int) + (z : Int)))).setCell ⟨w.heap.size, q, none⟩ (.int .i64 (4 * (k : Int) + 2))) w.heap.size 3 L (iv (exN code s (k + 1))) := by
          rw [HST.out, if_neg hneg, if_neg hneg, hv1.out, hv2.out]
          exact (hA.seti _ _).seti _ _
        have f1 := hA.frozen (2 * k)
        have c1 := hA.cell (2 * k) hkL
        have f2 : (wr.setCell ⟨w.heap.size, 2 * k, none⟩ (.int .i64 (4 * (k : Int) + (z : Int)))).frozen? ⟨w.heap.size, q, none⟩ = false := by rw [hv1.out]; exact (hA.seti (2 * k) (4 * k + z)).frozen q
        have c2 : (wr.setCell ⟨w.heap.size, 2 * k, none⟩ (.int .i64 (4 * (k : Int) + (z : Int)))).cell? ⟨w.heap.size, q, none⟩ = some (.int .i64 (upd (exN code s k) (2 * k) (4 * k + z) q : Nat)) := by rw [hv1.out]; exact (hA.seti (2 * k) (4 * k + z)).cell q hqL
        have HA2 := Lib.hid hA2
        clear hA2 hA hv1 hv2
        go_wp2_with (first
          | (go_at_call 26; ((with_reducible refine HCE.out.mono ?_); rintro e w1 ⟨rfl, rfl⟩))
          | (go_at_call 60; ((with_reducible refine (CS _).out.mono ?_); rintro e w1 ⟨rfl, rfl⟩)))
        go_roundw
        case rel => exact ⟨k + 1, by omega, by go_num, below_set (below_set hbr (Nat.le_refl _) _) (Nat.le_refl _) _, HA2.out⟩
        case measure => simp [intOf]; omega
    · obtain rfl : k = n := by omega
      clear hlt hk
      go_wp2
      go_ret
      exact ⟨rfl, hA, hbr⟩

end Go.Proofs.Ytebliaclleplgaa

/- The zero value of the array of 129 bools. (A seat of at most 80 functions.) -/
namespace Go.Proofs.Ytebliaclleplgaa
open Go.RowKit

def fal129 : Array Value := cellsN 129 (bv fun _ => false)
theorem fal129_def : fal129 = cellsN 129 (bv fun _ => false) := rfl
theorem fal129_run : ∀ w : World, (zeroValue 48).run Try.prog w = .ok (.agg fal129) w := fun _ => by kernel_rfl
theorem fal129_size : fal129.size = 129 := by rw [fal129_def, cellsN_size]
theorem fal129_ne : ¬ fal129 = #[] := fun e => by have := fal129_size; rw [e] at this; cases this
theorem fal129_eq : fal129 = fal129 := rfl

end Go.Proofs.Ytebliaclleplgaa
