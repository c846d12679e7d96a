import Derived.Test.YtdamfoobnbjojaaM02
import Derived.Test.YtdamfoobnbjojaaM03
import Derived.ProofKit
/- Walk: Valid. -/
namespace Go.Proofs.Ytdamfoobnbjojaa
open Go.RowKit

def matesOf (mate : List Int) : Nat → Nat := fun h => (mt mate h).toNat
theorem matesOf_mates {signs mate : List Int} {nm : Nat} (h : pairB signs mate = true) (hl : mate.length = nm) : Mates mate nm (matesOf mate) := fun j hj => by
  obtain ⟨m, h1, h2, _⟩ := pOK_out ((pairB_iff _ _).1 h j (by omega)) hl
  have e : matesOf mate j = m := by unfold matesOf; rw [h1]; simp
  rw [e]; exact ⟨h1, h2⟩
theorem matesOf_invol {signs mate : List Int} {nm : Nat} (h : pairB signs mate = true) (hl : mate.length = nm) : Invol (matesOf mate) nm :=
  ⟨fun j hj => (matesOf_mates h hl j hj).2, fun j hj => by
    obtain ⟨m, h1, h2, h3, _⟩ := pOK_out ((pairB_iff _ _).1 h j (by omega)) hl
    have e : matesOf mate j = m := by unfold matesOf; rw [h1]; simp
    have e2 : matesOf mate m = j := by unfold matesOf; rw [h3]; simp
    rw [e, e2]⟩

/-- The mates and their labels. -/
def sphM (mate : List Int) (n : Nat) : Bool := sphB (ufLab (matesOf mate) mate.length) (ff (matesOf mate)) mate.length n
def validB (signs mate : List Int) (lp : Int) : Bool := limB signs.length mate.length lp && sgnsB signs && pairB signs mate && sphM mate signs.length
theorem limB_out {ns nm : Nat} {lp : Int} (h : limB ns nm lp = true) : ns ≤ 64 ∧ nm = 4 * ns ∧ 0 ≤ lp ∧ lp ≤ 64 := by
  unfold limB at h; simp only [Bool.and_eq_true, decide_eq_true_eq] at h; omega

set_option maxHeartbeats 1600000 in
theorem valid_any (A B : Option Addr) (ns cs nm cm : Nat) (lp : Int) (signs mate : List Int) (w : World) (hs : RI w A ns signs) (hm : RI w B nm mate) (hns : ns ≤ 100000000000000) (hnm : nm ≤ 100000000000000)
    (hrange : ∀ j, j < nm → -9223372036854775808 ≤ mt mate j ∧ mt mate j ≤ 9223372036854775807) :
    Calls Try.prog 29 #[dval A ns cs B nm cm lp] w fun e w' => e = .returned (.bool (validB signs mate lp)) ∧ Below w.heap.size w w' := by
  have hd := DB.new w A ns cs B nm cm lp
  obtain ⟨d0, d1, d2, dlt⟩ := hd
  have hb0 := below_alloc w (dbox A ns cs B nm cm lp)
  have hs1 := hs.alloc (dbox A ns cs B nm cm lp)
  have hm1 := hm.alloc (dbox A ns cs B nm cm lp)
  have hls := hs.1
  have hlm := hm.1
  have HC1 := Lib.hid (limits_any A B ns cs nm cm lp (w.alloc (dbox A ns cs B nm cm lp)) (by omega) (by omega))
  have hv : validB signs mate lp = (limB ns nm lp && sgnsB signs && pairB signs mate && sphM mate ns) := by unfold validB; rw [hls, hlm]
  rw [hv]
  clear hv
  cases h1 : limB ns nm lp with
  | false =>
    simp only [Bool.false_and]
    rw [h1] at HC1
    clear hrange hls hlm h1
    go_enter Try.func29, Try.ntmps29
    go_wp2_with (go_at_call 62; ((with_reducible refine HC1.out.mono ?_); rintro e w1 ⟨rfl, hb1⟩))
    go_ret
    exact ⟨rfl, below_step hb0 hb1⟩
  | true =>
    obtain ⟨hns64, hnm4, hlp0, hlp1⟩ := limB_out h1
    rw [h1] at HC1
    have HC2 : ∀ w1 : World, Below (w.alloc (dbox A ns cs B nm cm lp)).heap.size (w.alloc (dbox A ns cs B nm cm lp)) w1 → Hid (Calls Try.prog 63 #[.slice A ns cs] w1 fun e w' => e = .returned (.bool (sgnsB signs)) ∧ w1 = w') :=
      fun w1 hb => signs_any A ns cs signs w1 (hs1.keep hb) (by omega)
    simp only [Bool.true_and]
    cases h2 : sgnsB signs with
    | false =>
      simp only [Bool.false_and]
      rw [h2] at HC2
      clear hrange hls hlm h1 hnm4
      go_enter Try.func29, Try.ntmps29
      go_wp2_with (first
        | (go_at_call 62; ((with_reducible refine HC1.out.mono ?_); rintro e w1 ⟨rfl, hb1⟩; have hc0 := (hb1.cell (p := ⟨w.heap.size, 0, none⟩) dlt).trans d0; have hc1 := (hb1.cell (p := ⟨w.heap.size, 1, none⟩) dlt).trans d1; have hc2 := (hb1.cell (p := ⟨w.heap.size, 2, none⟩) dlt).trans d2))
        | (go_at_call 63; ((with_reducible refine (HC2 _ hb1).out.mono ?_); rintro e w2 ⟨rfl, rfl⟩)))
      go_ret
      exact ⟨rfl, below_step hb0 hb1⟩
    | true =>
      rw [h2] at HC2
      have HC3 : ∀ w1 : World, Below (w.alloc (dbox A ns cs B nm cm lp)).heap.size (w.alloc (dbox A ns cs B nm cm lp)) w1 → Hid (Calls Try.prog 64 #[dval A ns cs B nm cm lp] w1 fun e w' => e = .returned (.bool (pairB signs mate)) ∧ Below w1.heap.size w1 w') :=
        fun w1 hb => paired_any A B ns cs nm cm lp signs mate w1 (hs1.keep hb) (hm1.keep hb) hnm4 hns64 hrange
      simp only [Bool.true_and]
      cases h3 : pairB signs mate with
      | false =>
        simp only [Bool.false_and]
        rw [h3] at HC3
        clear hrange hls hlm h1 hnm4
        go_enter Try.func29, Try.ntmps29
        go_wp2_with (first
          | (go_at_call 62; ((with_reducible refine HC1.out.mono ?_); rintro e w1 ⟨rfl, hb1⟩; have hc0 := (hb1.cell (p := ⟨w.heap.size, 0, none⟩) dlt).trans d0; have hc1 := (hb1.cell (p := ⟨w.heap.size, 1, none⟩) dlt).trans d1; have hc2 := (hb1.cell (p := ⟨w.heap.size, 2, none⟩) dlt).trans d2))
          | (go_at_call 63; ((with_reducible refine (HC2 _ hb1).out.mono ?_); rintro e w2 ⟨rfl, rfl⟩))
          | (go_at_call 64; ((with_reducible refine (HC3 _ hb1).out.mono ?_); rintro e w3 ⟨rfl, hb3⟩)))
        go_ret
        exact ⟨rfl, below_step hb0 (below_step hb1 hb3)⟩
      | true =>
        have HC4 : ∀ w1 : World, Below (w.alloc (dbox A ns cs B nm cm lp)).heap.size (w.alloc (dbox A ns cs B nm cm lp)) w1 → Hid (Calls Try.prog 65 #[dval A ns cs B nm cm lp] w1 fun e w' => e = .returned (.bool (sphM mate ns)) ∧ Below w1.heap.size w1 w') :=
          fun w1 hb => by
            have := sph_any A B ns cs nm cm lp mate (matesOf mate) w1 (hm1.keep hb) hns64 hnm4 (matesOf_mates h3 hlm) (matesOf_invol h3 hlm)
            rw [← hlm] at this ⊢
            exact this
        simp only [Bool.true_and]
        rw [h3] at HC3
        clear hrange hls hlm h1 hnm4 h2 h3
        go_enter Try.func29, Try.ntmps29
        go_wp2_with (first
          | (go_at_call 62; ((with_reducible refine HC1.out.mono ?_); rintro e w1 ⟨rfl, hb1⟩; have hc0 := (hb1.cell (p := ⟨w.heap.size, 0, none⟩) dlt).trans d0; have hc1 := (hb1.cell (p := ⟨w.heap.size, 1, none⟩) dlt).trans d1; have hc2 := (hb1.cell (p := ⟨w.heap.size, 2, none⟩) dlt).trans d2))
          | (go_at_call 63; ((with_reducible refine (HC2 _ hb1).out.mono ?_); rintro e w2 ⟨rfl, rfl⟩))
          | (go_at_call 64; ((with_reducible refine (HC3 _ hb1).out.mono ?_); rintro e w3 ⟨rfl, hb3⟩; have hb13 := below_step hb1 hb3; have hc0 := (hb13.cell (p := ⟨w.heap.size, 0, none⟩) dlt).trans d0; have hc1 := (hb13.cell (p := ⟨w.heap.size, 1, none⟩) dlt).trans d1; have hc2 := (hb13.cell (p := ⟨w.heap.size, 2, none⟩) dlt).trans d2))
          | (go_at_call 65; ((with_reducible refine (HC4 _ hb13).out.mono ?_); rintro e w4 ⟨rfl, hb4⟩)))
        go_ret
        exact ⟨rfl, below_step hb0 (below_step hb13 hb4)⟩

end Go.Proofs.Ytdamfoobnbjojaa

/- What a diagram in memory is asked to be; its faces, strands, components as lists. -/
namespace Go.Proofs.Ytdamfoobnbjojaa
open Go.RowKit

def facesM (signs mate : List Int) (lp : Int) : List (List Int) := if validB signs mate lp = true then cycL (ff (matesOf mate)) mate.length (fun _ => true) mate.length else []
def strandsM (signs mate : List Int) (lp : Int) : List (List Int) := if validB signs mate lp = true then cycL (fs (matesOf mate)) mate.length (outB signs) mate.length else []
theorem validB_out {signs mate : List Int} {lp : Int} (h : validB signs mate lp = true) : limB signs.length mate.length lp = true ∧ sgnsB signs = true ∧ pairB signs mate = true ∧ sphM mate signs.length = true := by
  unfold validB at h; simp only [Bool.and_eq_true] at h; exact ⟨h.1.1.1, h.1.1.2, h.1.2, h.2⟩

/-- What a diagram's value is asked to be. -/
structure DV (w : World) (A : Option Addr) (ns : Nat) (B : Option Addr) (nm : Nat) (signs mate : List Int) : Prop where
  hs : RI w A ns signs
  hm : RI w B nm mate
  hns : ns ≤ 100000000000000
  hnm : nm ≤ 100000000000000
  hrange : ∀ j, j < nm → -9223372036854775808 ≤ mt mate j ∧ mt mate j ≤ 9223372036854775807
theorem DV.keep {w w' : World} {A B : Option Addr} {ns nm : Nat} {signs mate : List Int} (h : DV w A ns B nm signs mate) (hb : Below w.heap.size w w') : DV w' A ns B nm signs mate :=
  ⟨h.hs.keep hb, h.hm.keep hb, h.hns, h.hnm, h.hrange⟩
theorem DV.valid {w : World} {A B : Option Addr} {ns nm : Nat} {signs mate : List Int} (h : DV w A ns B nm signs mate) (cs cm : Nat) (lp : Int) (r : Bool) (hr : validB signs mate lp = r) :
    Calls Try.prog 29 #[dval A ns cs B nm cm lp] w fun e w' => e = .returned (.bool r) ∧ Below w.heap.size w w' := by
  subst hr; exact valid_any A B ns cs nm cm lp signs mate w h.hs h.hm h.hns h.hnm h.hrange

/-- The strand leaves each crossing by an out port when it enters by one that is none. -/
theorem out_closed {signs mate : List Int} {nm ns : Nat} (hs : sgnsB signs = true) (hp : pairB signs mate = true) (hl : mate.length = nm) (hls : signs.length = ns) (hn : nm = 4 * ns) (h : Nat) (hh : h < nm) (ho : outB signs h = true) : outB signs (fs (matesOf mate) h) = true := by
  obtain ⟨m, h1, h2, h3, h4⟩ := pOK_out ((pairB_iff _ _).1 hp h (by omega)) hl
  have e : matesOf mate h = m := by unfold matesOf; rw [h1]; simp
  have hm : outB signs m = false := by
    cases q : outB signs m with
    | false => rfl
    | true => rw [ho, q] at h4; exact absurd rfl h4
  have hg := (sgnsB_iff _).1 hs (m / 4) (by omega)
  unfold fs
  rw [e]
  have hd := trn_div m 2
  have hr : trn m 2 % 4 = (m % 4 + 2) % 4 := by unfold trn; omega
  unfold outB at hm ⊢
  rw [hd, hr]
  generalize signs.getD (m / 4) 0 = s at hm hg ⊢
  unfold sgB at hg
  have hr4 : m % 4 = 0 ∨ m % 4 = 1 ∨ m % 4 = 2 ∨ m % 4 = 3 := by omega
  rcases hr4 with e | e | e | e <;> rw [e] at hm ⊢ <;> simp at hm hg ⊢ <;> omega

def compM (signs mate : List Int) (lp : Int) : Int := if validB signs mate lp = true then ((strandsM signs mate lp).length : Int) + lp else 0
theorem compM_add {signs mate : List Int} {lp : Int} (h : validB signs mate lp = true) : compM signs mate lp = ((strandsM signs mate lp).length : Int) + lp := by unfold compM; rw [if_pos h]
theorem strandsM_le {signs mate : List Int} {lp : Int} : (strandsM signs mate lp).length ≤ mate.length := by
  unfold strandsM; split
  · exact cycL_length _ _ _ _
  · simp

def faceM (signs mate : List Int) (lp x : Int) : List Int := if validB signs mate lp = true ∧ 0 ≤ x ∧ x < mate.length then itl (ff (matesOf mate)) x.toNat (per (ff (matesOf mate)) mate.length x.toNat) else []

/-- The least crossing of each component. -/
def labM (mate : List Int) : Nat → Nat := ufLab (matesOf mate) mate.length
def graphM (signs mate : List Int) (lp : Int) : List (List Int) := if validB signs mate lp = true then graphL (labM mate) signs.length else []
theorem labM_le (mate : List Int) (b : Nat) : labM mate b ≤ b := root_le _ _
theorem labM_idem (mate : List Int) (b : Nat) : labM mate (labM mate b) = labM mate b := root_root _ _

end Go.Proofs.Ytdamfoobnbjojaa

/- Plain facts of a valid diagram. -/
namespace Go.Proofs.Ytdamfoobnbjojaa
open Go.RowKit

theorem bk_data {signs mate : List Int} {lp : Int} (hv : validB signs mate lp = true) : ∃ n, signs.length = n ∧ mate.length = 4 * n ∧ Invol (matesOf mate) (4 * n) ∧ (∀ x, x < 4 * n → matesOf mate x ≠ x) ∧
    sphB (ufLab (matesOf mate) (4 * n)) (fun x => trn (matesOf mate x) 3) (4 * n) n = true := by
  obtain ⟨v1, v2, v3, v4⟩ := validB_out hv
  obtain ⟨l1, l2, l3, l4⟩ := limB_out v1
  have hi := matesOf_invol v3 l2
  refine ⟨signs.length, rfl, l2, hi, fun x hx e => ?_, ?_⟩
  · obtain ⟨m, h1, h2, h3, h4⟩ := pOK_out ((pairB_iff _ _).1 v3 x (by omega)) l2
    have e2 : matesOf mate x = m := by unfold matesOf; rw [h1]; simp
    rw [e2] at e
    rw [e] at h4
    exact h4 rfl
  · unfold sphM at v4
    rw [l2] at v4
    exact v4
theorem bk_count {s : List Int} {n : Nat} (h : sgnsB s = true) (hl : s.length = n) : (List.range (4 * n)).countP (outB s) = 2 * n := by
  refine count_two _ n fun c hc => ?_
  have hg := (sgnsB_iff _).1 h c (by omega)
  have e0 : outB s (4 * c) = false := by unfold outB; rw [show 4 * c % 4 = 0 by omega]; simp
  have e1 : outB s (4 * c + 1) = (s.getD c 0 == 1) := by unfold outB; rw [show (4 * c + 1) % 4 = 1 by omega, show (4 * c + 1) / 4 = c by omega]; simp
  have e2 : outB s (4 * c + 2) = true := by unfold outB; rw [show (4 * c + 2) % 4 = 2 by omega]; simp
  have e3 : outB s (4 * c + 3) = (s.getD c 0 == -1) := by unfold outB; rw [show (4 * c + 3) % 4 = 3 by omega, show (4 * c + 3) / 4 = c by omega]; simp
  have hr : List.range 4 = [0, 1, 2, 3] := rfl
  rw [hr]
  simp only [List.countP_cons, List.countP_nil, Nat.add_zero, e0, e1, e2, e3]
  unfold sgB at hg
  simp only [Bool.or_eq_true, beq_iff_eq] at hg
  rcases hg with e | e <;> rw [e] <;> rfl

theorem trn_two (h : Nat) : trn (trn h 2) 2 = h := by unfold trn; omega
structure BkF (s m : List Int) (lp : Int) : Prop where
  lm : m.length = 4 * s.length
  le : s.length ≤ 64
  p : Perm (fs (matesOf m)) m.length
  c : ClosedN (fs (matesOf m)) m.length (outB s)
  i : Invol (matesOf m) m.length
  sg : sgnsB s = true
  pr : pairB s m = true
  lim : limB s.length m.length lp = true
theorem bk_facts {s m : List Int} {lp : Int} (hv : validB s m lp = true) : BkF s m lp := by
  obtain ⟨v1, v2, v3, v4⟩ := validB_out hv
  obtain ⟨l1, l2, l3, l4⟩ := limB_out v1
  have hi : Invol (matesOf m) m.length := matesOf_invol v3 rfl
  refine ⟨l2, l1, ?_, fun h hh ho => out_closed v2 v3 rfl rfl l2 h hh ho, hi, v2, v3, v1⟩
  have := hi
  rw [l2] at this ⊢
  exact this.perm 2

end Go.Proofs.Ytdamfoobnbjojaa

/- Plain mathematics: turning crossings about, and reflecting all of them, keeps the faces' number in each component. -/
namespace Go.Proofs.Ytdamfoobnbjojaa

/-- T changes the slots of each crossing, and takes the mates m to m'. -/
structure Slots (m m' T : Nat → Nat) (n : Nat) : Prop where
  i : Invol m (4 * n)
  i' : Invol m' (4 * n)
  q : Perm T (4 * n)
  div : ∀ x, T x / 4 = x / 4
  mate : ∀ x, x < 4 * n → m' (T x) = T (m x)
theorem Perm.hits {t : Nat → Nat} {N : Nat} (q : Perm t N) {x : Nat} (hx : x < N) : ∃ y, y < N ∧ t y = x := by
  obtain ⟨i, hi, e⟩ := q.returns hx
  exact ⟨it t i x, q.it_lt hx i, e⟩
theorem Slots.lab {m m' T : Nat → Nat} {n : Nat} (s : Slots m m' T n) : IsLab m' (4 * n) n (ufLab m (4 * n)) := by
  obtain ⟨h1, h2⟩ := ufLab_isLab m (4 * n) n
  refine ⟨fun c hc => ⟨(h1 c hc).1, ?_⟩, fun h hh => ?_⟩
  · exact conn_conj (T := T) (t := id) (fun x hx => ⟨s.q.lt x hx, s.mate x hx, s.div x⟩) s.i.lt (h1 c hc).2
  · obtain ⟨x, hx, rfl⟩ := s.q.hits hh
    rw [s.mate x hx, s.div, s.div]
    exact h2 x hx
theorem closed_of {m F : Nat → Nat} {n : Nat} (h : ∀ x, x < 4 * n → F (x / 4) = F (m x / 4)) (k l : Nat) : ClosedN (fun x => trn (m x) k) (4 * n) (fun h => F (h / 4) == l) := fun x hx e => by
  simp only [trn_div, ← h x hx]
  exact e
theorem orb_back {f g : Nat → Nat} {N : Nat} (q : Perm g N) (hfg : ∀ x, x < N → f (g x) = x) {a b : Nat} (ha : a < N) (o : Orb g a b) : Orb f b a := by
  have key : ∀ i x, x < N → it f i (it g i x) = x := by
    intro i
    induction i with
    | zero => intro x _; rfl
    | succ i ih =>
      intro x hx
      have e1 : it f (i + 1) (it g (i + 1) x) = it f i (f (g (it g i x))) := it_add f i 1 _
      rw [e1, hfg _ (q.it_lt hx i)]
      exact ih x hx
  obtain ⟨i, e⟩ := o
  exact ⟨i, by rw [← e]; exact key i a ha⟩
/-- A permutation and its inverse have the same cycles. -/
theorem fst_inv {f g : Nat → Nat} {N : Nat} (p : Perm f N) (q : Perm g N) (hfg : ∀ x, x < N → f (g x) = x) {h : Nat} (hh : h < N) : fst g N h = fst f N h := by
  have hgf : ∀ x, x < N → g (f x) = x := fun x hx => p.inj _ _ (q.lt _ (p.lt x hx)) hx (hfg _ (p.lt x hx))
  rw [Bool.eq_iff_iff, p.fst_iff hh, q.fst_iff hh]
  constructor
  · intro a h' hlt o
    exact a h' hlt (q.orb_symm hh (orb_back p hgf (by omega) o))
  · intro a h' hlt o
    exact a h' hlt (p.orb_symm hh (orb_back q hfg (by omega) o))
theorem cntF_inv {f g F : Nat → Nat} {N l : Nat} (p : Perm f N) (q : Perm g N) (hfg : ∀ x, x < N → f (g x) = x) : cntF F g N N l = cntF F f N N l := by
  unfold cntF
  rw [List.countP_eq_length_filter, List.countP_eq_length_filter]
  congr 1
  exact List.filter_congr fun x hx => by rw [fst_inv p q hfg (by simpa using hx)]
theorem trn_31 (x : Nat) : trn (trn x 3) 1 = x ∧ trn (trn x 1) 3 = x := by unfold trn; omega

section
variable {m m' T : Nat → Nat} {n : Nat}
theorem Slots.eqs (s : Slots m m' T n) (h : ∀ l, cntF (ufLab m (4 * n)) (fun x => trn (m' x) 3) (4 * n) (4 * n) l = cntF (ufLab m (4 * n)) (fun x => trn (m x) 3) (4 * n) (4 * n) l) :
    sphB (ufLab m' (4 * n)) (fun x => trn (m' x) 3) (4 * n) n = sphB (ufLab m (4 * n)) (fun x => trn (m x) 3) (4 * n) n := by
  rw [sphB_congr fun c hc => (ufLab_isLab m' (4 * n) n).unique s.lab c hc, Bool.eq_iff_iff, sphB_iff, sphB_iff]
  exact ⟨fun a c hc => by rw [← h]; exact a c hc, fun a c hc => by rw [h]; exact a c hc⟩
/-- Each crossing is turned about by some quarters. -/
theorem Slots.turned (s : Slots m m' T n) (ht : ∀ x, T (trn x 3) = trn (T x) 3) : sphB (ufLab m' (4 * n)) (fun x => trn (m' x) 3) (4 * n) n = sphB (ufLab m (4 * n)) (fun x => trn (m x) 3) (4 * n) n := by
  have hl := (ufLab_isLab m (4 * n) n).2
  refine s.eqs fun l => ?_
  rw [cntF_reprs (s.i'.perm 3) (closed_of s.lab.2 3 l), cntF_reprs (s.i.perm 3) (closed_of hl 3 l)]
  exact (reprs_conj (s.i.perm 3) (s.i'.perm 3) s.q (fun x hx => by show trn (m' (T x)) 3 = T (trn (m x) 3); rw [s.mate x hx, ht]) (fun x _ => by simp only [s.div]) (closed_of hl 3 l) (closed_of s.lab.2 3 l)).symm
/-- Each crossing is reflected. -/
theorem Slots.reflected (s : Slots m m' T n) (ht : ∀ x, T (trn x 1) = trn (T x) 3) : sphB (ufLab m' (4 * n)) (fun x => trn (m' x) 3) (4 * n) n = sphB (ufLab m (4 * n)) (fun x => trn (m x) 3) (4 * n) n := by
  have hl := (ufLab_isLab m (4 * n) n).2
  have hl1 : ∀ x, x < 4 * n → ufLab m (4 * n) (x / 4) = ufLab m (4 * n) (m (trn x 1) / 4) := fun x hx => by
    have := hl (trn x 1) (trn_lt hx)
    rwa [trn_div] at this
  have qi : Perm (fun x => m (trn x 1)) (4 * n) := ⟨fun x hx => s.i.lt _ (trn_lt hx), fun x y hx hy e => by
    have e2 : m (m (trn x 1)) = m (m (trn y 1)) := congrArg m e
    rw [s.i.inv _ (trn_lt hx), s.i.inv _ (trn_lt hy)] at e2
    exact trn_inj e2⟩
  have qm : Perm m (4 * n) := ⟨fun x hx => s.i.lt x hx, fun x y hx hy e => by rw [← s.i.inv x hx, ← s.i.inv y hy, e]⟩
  refine s.eqs fun l => ?_
  have ci : ClosedN (fun x => m (trn x 1)) (4 * n) (fun h => ufLab m (4 * n) (h / 4) == l) := fun x hx e => by
    simp only [← hl1 x hx]; exact e
  have e1 : cntF (ufLab m (4 * n)) (fun x => m (trn x 1)) (4 * n) (4 * n) l = cntF (ufLab m (4 * n)) (fun x => trn (m x) 3) (4 * n) (4 * n) l :=
    cntF_inv (s.i.perm 3) qi (fun x hx => by show trn (m (m (trn x 1))) 3 = x; rw [s.i.inv _ (trn_lt hx), (trn_31 x).2])
  rw [← e1, cntF_reprs (s.i'.perm 3) (closed_of s.lab.2 3 l), cntF_reprs qi ci]
  have e2 := reprs_conj (f := fun x => m (trn x 1)) (g := fun x => trn (m x) 1) qi (s.i.perm 1) qm (fun x hx => by show trn (m (m x)) 1 = m (m (trn x 1)); rw [s.i.inv x hx, s.i.inv _ (trn_lt hx)])
    (p := fun h => ufLab m (4 * n) (h / 4) == l) (p' := fun h => ufLab m (4 * n) (h / 4) == l) (fun x hx => by simp only [← hl x hx]) ci (closed_of hl 1 l)
  have e3 := reprs_conj (f := fun x => trn (m x) 1) (g := fun x => trn (m' x) 3) (s.i.perm 1) (s.i'.perm 3) s.q (fun x hx => by show trn (m' (T x)) 3 = T (trn (m x) 1); rw [s.mate x hx, ht])
    (p := fun h => ufLab m (4 * n) (h / 4) == l) (p' := fun h => ufLab m (4 * n) (h / 4) == l) (fun x _ => by simp only [s.div]) (closed_of hl 1 l) (closed_of s.lab.2 3 l)
  rw [e2, e3]
end

end Go.Proofs.Ytdamfoobnbjojaa

/- Plain mathematics: operations that give each half-edge a place at its own crossing, and flip some signs. -/
namespace Go.Proofs.Ytdamfoobnbjojaa
open Go.RowKit

theorem ext_getD {a b : List Int} {n : Nat} (ha : a.length = n) (hb : b.length = n) (h : ∀ i, i < n → a.getD i 0 = b.getD i 0) : a = b := by
  refine List.ext_getElem (by omega) fun i h1 h2 => ?_
  have := h i (by omega)
  simpa [List.getD, h1, h2] using this
theorem set_getD (l : List Int) (i j : Nat) (z : Int) (hi : i < l.length) : (l.set i z).getD j 0 = if j = i then z else l.getD j 0 := by
  by_cases e : j = i
  · subst e; simp [List.getD, hi]
  · rw [if_neg e]; simp [List.getD, show ¬ i = j from fun q => e q.symm]

/-- Each crossing is turned about by so many quarters. -/
def rot (a : Nat → Nat) (x : Nat) : Nat := trn x (a (x / 4))
/-- Each crossing is reflected. -/
def rfl4 (x : Nat) : Nat := 4 * (x / 4) + (4 - x % 4) % 4
theorem rot_div (a : Nat → Nat) (x : Nat) : rot a x / 4 = x / 4 := trn_div _ _
theorem rot_perm (a : Nat → Nat) (n : Nat) : Perm (rot a) (4 * n) := ⟨fun x hx => by unfold rot; exact trn_lt hx, fun x y _ _ e => by
  have hd : x / 4 = y / 4 := by rw [← rot_div a x, ← rot_div a y, e]
  unfold rot at e; rw [hd] at e; exact trn_inj e⟩
theorem rot_trn (a : Nat → Nat) (x s : Nat) : rot a (trn x s) = trn (rot a x) s := by
  unfold rot; rw [trn_div]
  generalize a (x / 4) = t
  unfold trn; omega
theorem rfl4_div (x : Nat) : rfl4 x / 4 = x / 4 := by unfold rfl4; omega
theorem rfl4_perm (n : Nat) : Perm rfl4 (4 * n) := ⟨fun x hx => by unfold rfl4; omega, fun x y _ _ e => by unfold rfl4 at e; omega⟩
theorem rfl4_trn (x : Nat) : rfl4 (trn x 1) = trn (rfl4 x) 3 := by unfold rfl4 trn; omega

/-- s', m' are s, m with the half-edges at their places T, and the signs of P flipped. -/
structure Moved (T : Nat → Nat) (P : Nat → Bool) (n : Nat) (s m s' m' : List Int) : Prop where
  ls : s'.length = n
  lm : m'.length = 4 * n
  sg : ∀ c, c < n → s'.getD c 0 = if P c = true then -(s.getD c 0) else s.getD c 0
  mate : ∀ x, x < 4 * n → mt m' (T x) = (T (matesOf m x) : Nat)
/-- A place for each half-edge, at its own crossing. -/
structure Place (T : Nat → Nat) (n : Nat) : Prop where
  q : Perm T (4 * n)
  div : ∀ x, T x / 4 = x / 4
theorem rot_place (a : Nat → Nat) (n : Nat) : Place (rot a) n := ⟨rot_perm a n, rot_div a⟩
theorem rfl4_place (n : Nat) : Place rfl4 n := ⟨rfl4_perm n, rfl4_div⟩

section
variable {T T' : Nat → Nat} {P P' : Nat → Bool} {n : Nat} {s m s1 m1 s2 m2 : List Int}
theorem Moved.uniq (h : Moved T P n s m s1 m1) (k : Moved T' P' n s m s2 m2) (q : Place T n) (hm : ∀ x, x < 4 * n → matesOf m x < 4 * n)
    (eT : ∀ x, x < 4 * n → T x = T' x) (eP : ∀ c, c < n → P c = P' c) : s1 = s2 ∧ m1 = m2 := by
  refine ⟨ext_getD h.ls k.ls fun i hi => by rw [h.sg i hi, k.sg i hi, eP i hi], ext_getD h.lm k.lm fun i hi => ?_⟩
  obtain ⟨x, hx, rfl⟩ := q.q.hits hi
  have h1 := h.mate x hx
  have h2 := k.mate x hx
  rw [← eT x hx, ← eT _ (hm x hx)] at h2
  exact h1.trans h2.symm
theorem Moved.at (h : Moved T P n s m s1 m1) {x : Nat} (hx : x < 4 * n) : matesOf m1 (T x) = T (matesOf m x) := by
  unfold matesOf; rw [h.mate x hx]; rfl
theorem Moved.comp (h : Moved T P n s m s1 m1) (k : Moved T' P' n s1 m1 s2 m2) (q : Place T n) : Moved (fun x => T' (T x)) (fun c => xor (P c) (P' c)) n s m s2 m2 := by
  refine ⟨k.ls, k.lm, fun c hc => ?_, fun x hx => ?_⟩
  · rw [k.sg c hc, h.sg c hc]
    cases P c <;> cases P' c <;> simp
  · rw [k.mate _ (q.q.lt x hx), h.at hx]
theorem Moved.self (hs : s.length = n) (hl : m.length = 4 * n) (hp : pairB s m = true) : Moved (fun x => x) (fun _ => false) n s m s m := by
  refine ⟨hs, hl, fun c _ => by simp, fun x hx => ?_⟩
  obtain ⟨y, h1, _⟩ := pOK_out ((pairB_iff _ _).1 hp x (by omega)) hl
  unfold matesOf
  rw [h1]; rfl
theorem mates_lt (hl : m.length = 4 * n) (hp : pairB s m = true) (x : Nat) (hx : x < 4 * n) : matesOf m x < 4 * n := (matesOf_invol hp hl).lt x hx
/-- Where the operation keeps which half-edges go out, or turns that about along whole strands, its result is valid. -/
theorem Moved.valid {lp : Int} {E : Nat → Bool} (h : Moved T P n s m s1 m1) (hv : validB s m lp = true) (hn : s.length = n) (q : Place T n)
    (hT : (∀ x, T (trn x 3) = trn (T x) 3) ∨ (∀ x, T (trn x 1) = trn (T x) 3)) (ho : ∀ x, x < 4 * n → outB s1 (T x) = xor (outB s x) (E x)) (hE : ∀ x, x < 4 * n → E (matesOf m x) = E x) : validB s1 m1 lp = true := by
  obtain ⟨v1, v2, v3, v4⟩ := validB_out hv
  have hl : m.length = 4 * n := by unfold limB at v1; simp only [Bool.and_eq_true, decide_eq_true_eq] at v1; omega
  have im := matesOf_invol v3 hl
  have hp1 : pairB s1 m1 = true := (pairB_iff _ _).2 fun y hy => by
    rw [h.lm] at hy
    obtain ⟨x, hx, rfl⟩ := q.q.hits hy
    have hx2 := im.lt x hx
    have h1 := h.mate x hx
    have h2 := h.mate _ hx2
    rw [im.inv x hx] at h2
    have h3 := q.q.lt _ hx2
    obtain ⟨y, g1, g2, g3, g4⟩ := pOK_out ((pairB_iff _ _).1 v3 x (by omega)) hl
    have gy : matesOf m x = y := by unfold matesOf; rw [g1]; rfl
    have o1 := ho x hx
    have o2 := ho _ hx2
    rw [hE x hx, gy] at o2
    rw [gy] at h1 h2 h3
    unfold pOK
    rw [h1, h.lm, Int.toNat_natCast, h2, o1, o2]
    cases hA : outB s x <;> cases hB : outB s y <;> cases E x <;> simp [hA, hB] at g4 ⊢ <;> omega
  have i1 := matesOf_invol hp1 h.lm
  have hsl : Slots (matesOf m) (matesOf m1) T n := ⟨im, i1, q.q, q.div, fun x hx => h.at hx⟩
  have hsg : sgnsB s1 = true := (sgnsB_iff _).2 fun j hj => by
    rw [h.ls] at hj
    have := (sgnsB_iff _).1 v2 j (by omega)
    rw [h.sg j hj]
    unfold sgB at this ⊢
    simp only [Bool.or_eq_true, beq_iff_eq] at this ⊢
    split <;> omega
  unfold validB
  have e1 : limB s1.length m1.length lp = true := by rw [h.ls, h.lm, ← hn]; rw [hl, ← hn] at v1; exact v1
  have e2 : sphM m1 s1.length = true := by
    unfold sphM at v4 ⊢
    rw [h.ls, h.lm]
    rw [hn, hl] at v4
    rcases hT with t | t
    · exact (hsl.turned t).trans v4
    · exact (hsl.reflected t).trans v4
  rw [e1, hsg, hp1, e2]; rfl
end

/-- Signs while they are flipped, the first k of them done. -/
def fpK (P : Nat → Bool) (s : List Int) : Nat → List Int
  | 0 => s
  | k + 1 => if P k = true then (fpK P s k).set k (-(s.getD k 0)) else fpK P s k
theorem fpK_length (P : Nat → Bool) (s : List Int) (k : Nat) : (fpK P s k).length = s.length := by
  induction k with
  | zero => rfl
  | succ k ih => unfold fpK; split <;> simp [ih]
theorem fpK_get (P : Nat → Bool) (s : List Int) (k c : Nat) (hc : c < s.length) : (fpK P s k).getD c 0 = if c < k ∧ P c = true then -(s.getD c 0) else s.getD c 0 := by
  induction k with
  | zero => simp [fpK]
  | succ k ih =>
    unfold fpK
    by_cases hP : P k = true
    · rw [if_pos hP]
      by_cases e : c = k
      · subst e
        rw [set_getD _ _ _ _ (by rw [fpK_length]; exact hc), if_pos rfl, if_pos ⟨by omega, hP⟩]
      · by_cases hk : k < s.length
        · rw [set_getD _ _ _ _ (by rw [fpK_length]; exact hk), if_neg e, ih]
          have : c < k + 1 ↔ c < k := by omega
          simp [this]
        · rw [List.set_eq_of_length_le (by rw [fpK_length]; omega), ih]
          have : c < k + 1 ↔ c < k := by omega
          simp [this]
    · rw [if_neg hP, ih]
      by_cases e : c = k
      · subst e; simp [hP]
      · have : c < k + 1 ↔ c < k := by omega
        simp [this]
/-- Mates while they are moved, the first k of them done. -/
def mvK (T : Nat → Nat) (m : List Int) : Nat → List Int
  | 0 => m
  | k + 1 => (mvK T m k).set (T k) (T (matesOf m k) : Nat)
theorem mvK_length (T : Nat → Nat) (m : List Int) (k : Nat) : (mvK T m k).length = m.length := by
  induction k with
  | zero => rfl
  | succ k ih => unfold mvK; simp [ih]
theorem mvK_get {T : Nat → Nat} {m : List Int} {n : Nat} (hl : m.length = 4 * n) (q : Place T n) {k x : Nat} (hk : k ≤ 4 * n) (hx : x < k) : mt (mvK T m k) (T x) = (T (matesOf m x) : Nat) := by
  induction k with
  | zero => omega
  | succ k ih =>
    unfold mt mvK
    rw [set_getD _ _ _ _ (by rw [mvK_length, hl]; exact q.q.lt k (by omega))]
    by_cases e : x = k
    · subst e; rw [if_pos rfl]
    · rw [if_neg (fun e2 => e (q.q.inj x k (by omega) (by omega) e2))]
      exact ih (by omega) (by omega)
theorem moved_of (T : Nat → Nat) (P : Nat → Bool) {n : Nat} {s m : List Int} (hs : s.length = n) (hl : m.length = 4 * n) (q : Place T n) : Moved T P n s m (fpK P s n) (mvK T m (4 * n)) :=
  ⟨by rw [fpK_length, hs], by rw [mvK_length, hl], fun c hc => by rw [fpK_get _ _ _ _ (by omega)]; simp [hc], fun _ hx => mvK_get hl q (Nat.le_refl _) hx⟩

/-- The quarters by which a crossing is turned when it is switched. -/
def swQ (s : List Int) (c : Nat) : Nat := if s.getD c 0 = 1 then 1 else 3
/-- The place of a half-edge under Mirror, Reflect, Reverse, and Switch of the crossing k. -/
def opT (kd k : Nat) (s : List Int) : Nat → Nat :=
  if kd = 0 then rot (swQ s) else if kd = 1 then rfl4 else if kd = 2 then rot (fun _ => 2) else rot (fun c => if c = k then swQ s c else 0)
def opP (kd k : Nat) (c : Nat) : Bool := if kd = 0 then true else if kd = 1 then true else if kd = 2 then false else decide (c = k)
theorem op_place (kd k : Nat) (s : List Int) (n : Nat) : Place (opT kd k s) n := by
  unfold opT; split
  · exact rot_place _ _
  · split
    · exact rfl4_place _
    · split
      · exact rot_place _ _
      · exact rot_place _ _
theorem op_turns (kd k : Nat) (s : List Int) : (∀ x, opT kd k s (trn x 3) = trn (opT kd k s x) 3) ∨ (∀ x, opT kd k s (trn x 1) = trn (opT kd k s x) 3) := by
  unfold opT; split
  · exact .inl fun x => rot_trn _ _ _
  · split
    · exact .inr rfl4_trn
    · split
      · exact .inl fun x => rot_trn _ _ _
      · exact .inl fun x => rot_trn _ _ _
/-- One slot of one crossing, as a function of its sign. -/
def opQ (kd : Nat) (here : Bool) (sg : Int) (r : Nat) : Nat :=
  if kd = 0 then (r + if sg = 1 then 1 else 3) % 4 else if kd = 1 then (4 - r) % 4 else if kd = 2 then (r + 2) % 4 else if here = true then (r + if sg = 1 then 1 else 3) % 4 else r % 4
theorem opT_eq (kd k : Nat) (s : List Int) (x : Nat) : opT kd k s x = 4 * (x / 4) + opQ kd (decide (x / 4 = k)) (s.getD (x / 4) 0) (x % 4) := by
  unfold opT opQ
  split
  · unfold rot swQ trn; split <;> omega
  · split
    · unfold rfl4; rfl
    · split
      · show trn x 2 = _; unfold trn; omega
      · unfold rot swQ trn
        by_cases e : x / 4 = k
        · simp only [e, if_true, decide_true]; split <;> omega
        · simp only [e, if_false, decide_false]; simp; omega
def opG (kd : Nat) (here : Bool) : Bool := if kd = 0 then true else if kd = 1 then true else if kd = 2 then false else here
theorem opP_eq (kd k c : Nat) : opP kd k c = opG kd (decide (c = k)) := rfl
theorem opT_div (kd k : Nat) (s : List Int) (x : Nat) : opT kd k s x / 4 = x / 4 := (op_place kd k s 0).div x
theorem opQ_lt (kd : Nat) (here : Bool) (sg : Int) (r : Nat) : opQ kd here sg r < 4 := by
  unfold opQ; repeat' split
  all_goals omega
theorem opT_mod (kd k : Nat) (s : List Int) (x : Nat) : opT kd k s x % 4 = opQ kd (decide (x / 4 = k)) (s.getD (x / 4) 0) (x % 4) := by
  have := opQ_lt kd (decide (x / 4 = k)) (s.getD (x / 4) 0) (x % 4)
  rw [opT_eq]; omega
theorem sg_or {s : List Int} (h : sgnsB s = true) {c : Nat} (hc : c < s.length) : s.getD c 0 = 1 ∨ s.getD c 0 = -1 := by
  have := (sgnsB_iff _).1 h c hc
  unfold sgB at this
  simpa using this
theorem opQ_comm (a b : Nat) (ha : a < 4) (hb : b < 4) (x y : Bool) (sg : Int) (hsg : sg = 1 ∨ sg = -1) (r : Nat) (hr : r < 4) :
    opQ b y (if opG a x = true then -sg else sg) (opQ a x sg r) = opQ a x (if opG b y = true then -sg else sg) (opQ b y sg r) := by
  have ha' : a = 0 ∨ a = 1 ∨ a = 2 ∨ a = 3 := by omega
  have hb' : b = 0 ∨ b = 1 ∨ b = 2 ∨ b = 3 := by omega
  have hr' : r = 0 ∨ r = 1 ∨ r = 2 ∨ r = 3 := by omega
  rcases ha' with rfl | rfl | rfl | rfl <;> rcases hb' with rfl | rfl | rfl | rfl <;> cases x <;> cases y <;> rcases hsg with rfl | rfl <;> rcases hr' with rfl | rfl | rfl | rfl <;> rfl
theorem opQ_undo (a : Nat) (ha : a < 4) (x : Bool) (sg : Int) (hsg : sg = 1 ∨ sg = -1) (r : Nat) (hr : r < 4) : opQ a x (if opG a x = true then -sg else sg) (opQ a x sg r) = r := by
  have ha' : a = 0 ∨ a = 1 ∨ a = 2 ∨ a = 3 := by omega
  have hr' : r = 0 ∨ r = 1 ∨ r = 2 ∨ r = 3 := by omega
  rcases ha' with rfl | rfl | rfl | rfl <;> cases x <;> rcases hsg with rfl | rfl <;> rcases hr' with rfl | rfl | rfl | rfl <;> rfl
def outQ (sg : Int) (r : Nat) : Bool := if r = 1 then sg == 1 else if r = 2 then true else if r = 3 then sg == -1 else false
theorem outB_eq (s : List Int) (h : Nat) : outB s h = outQ (s.getD (h / 4) 0) (h % 4) := rfl
theorem opQ_out (a : Nat) (ha : a < 4) (x : Bool) (sg : Int) (hsg : sg = 1 ∨ sg = -1) (r : Nat) (hr : r < 4) : outQ (if opG a x = true then -sg else sg) (opQ a x sg r) = xor (outQ sg r) (decide (a = 2)) := by
  have ha' : a = 0 ∨ a = 1 ∨ a = 2 ∨ a = 3 := by omega
  have hr' : r = 0 ∨ r = 1 ∨ r = 2 ∨ r = 3 := by omega
  rcases ha' with rfl | rfl | rfl | rfl <;> cases x <;> rcases hsg with rfl | rfl <;> rcases hr' with rfl | rfl | rfl | rfl <;> rfl

section
variable {n : Nat} {s m s1 m1 s2 m2 s3 m3 s4 m4 : List Int} {lp : Int}
theorem op_valid {a k : Nat} (ha : a < 4) (h : Moved (opT a k s) (opP a k) n s m s1 m1) (hv : validB s m lp = true) (hn : s.length = n) : validB s1 m1 lp = true := by
  refine h.valid (E := fun _ => decide (a = 2)) hv hn (op_place _ _ _ _) (op_turns _ _ _) (fun x hx => ?_) (fun _ _ => rfl)
  rw [outB_eq, outB_eq, opT_div, opT_mod, h.sg _ (by omega), opP_eq]
  exact opQ_out a ha _ _ (sg_or (validB_out hv).2.1 (by omega)) _ (by omega)
theorem op_undo {a k : Nat} (ha : a < 4) (h : Moved (opT a k s) (opP a k) n s m s1 m1) (g : Moved (opT a k s1) (opP a k) n s1 m1 s2 m2) (hv : validB s m lp = true) (hn : s.length = n) (hl : m.length = 4 * n) : s2 = s ∧ m2 = m := by
  have hp := (validB_out hv).2.2.1
  refine (h.comp g (op_place _ _ _ _)).uniq (Moved.self hn hl hp) ⟨⟨fun x hx => (op_place a k s1 n).q.lt _ ((op_place a k s n).q.lt x hx), fun x y hx hy e => (op_place a k s n).q.inj x y hx hy ((op_place a k s1 n).q.inj _ _ ((op_place a k s n).q.lt x hx) ((op_place a k s n).q.lt y hy) e)⟩, fun x => by rw [opT_div, opT_div]⟩ (mates_lt hl hp) (fun x hx => ?_) (fun c _ => by cases opP a k c <;> rfl)
  rw [opT_eq a k s1, opT_div, opT_mod, h.sg _ (by omega), opP_eq, opQ_undo a ha _ _ (sg_or (validB_out hv).2.1 (by omega)) _ (by omega)]
  omega
theorem op_comm {a k b l : Nat} (ha : a < 4) (hb : b < 4) (h : Moved (opT a k s) (opP a k) n s m s1 m1) (g : Moved (opT b l s1) (opP b l) n s1 m1 s2 m2) (h' : Moved (opT b l s) (opP b l) n s m s3 m3) (g' : Moved (opT a k s3) (opP a k) n s3 m3 s4 m4)
    (hv : validB s m lp = true) (hn : s.length = n) (hl : m.length = 4 * n) : s2 = s4 ∧ m2 = m4 := by
  have hp := (validB_out hv).2.2.1
  refine (h.comp g (op_place _ _ _ _)).uniq (h'.comp g' (op_place _ _ _ _)) ⟨⟨fun x hx => (op_place b l s1 n).q.lt _ ((op_place a k s n).q.lt x hx), fun x y hx hy e => (op_place a k s n).q.inj x y hx hy ((op_place b l s1 n).q.inj _ _ ((op_place a k s n).q.lt x hx) ((op_place a k s n).q.lt y hy) e)⟩, fun x => by rw [opT_div, opT_div]⟩ (mates_lt hl hp) (fun x hx => ?_) (fun c _ => by cases opP a k c <;> cases opP b l c <;> rfl)
  rw [opT_eq b l s1, opT_eq a k s3, opT_div, opT_div, opT_mod, opT_mod, h.sg _ (by omega), h'.sg _ (by omega), opP_eq, opP_eq, opQ_comm a b ha hb _ _ _ (sg_or (validB_out hv).2.1 (by omega)) _ (by omega)]
/-- One more crossing is switched. -/
theorem switch_step {a : Nat → Nat} {P : Nat → Bool} {k : Nat} (h : Moved (rot a) P n s m s1 m1) (g : Moved (opT 3 k s1) (opP 3 k) n s1 m1 s2 m2) : Moved (rot fun c => if c = k then a c + swQ s1 c else a c) (fun c => xor (P c) (decide (c = k))) n s m s2 m2 := by
  have e : (fun x => opT 3 k s1 (rot a x)) = rot fun c => if c = k then a c + swQ s1 c else a c := by
    funext x
    rw [show opT 3 k s1 = rot (fun c => if c = k then swQ s1 c else 0) by simp [opT]]
    unfold rot
    rw [trn_div]
    by_cases e : x / 4 = k
    · simp only [e, if_true]; unfold trn; omega
    · simp only [e, if_false]; unfold trn; omega
  rw [← e]
  exact h.comp g (rot_place _ _)
end

end Go.Proofs.Ytdamfoobnbjojaa

/- Walks: Ints, Lists (the reference's comparisons), Great. -/
namespace Go.Proofs.Ytdamfoobnbjojaa
open Go.RowKit

theorem below_drewN {B : Nat} {a w : World} (h : Below B a w) (n : Nat) : Below B a (w.drewN n) := ⟨h.os, h.tape, h.output, h.size, h.block⟩

theorem eq_of_getD {xs ys : List Int} (h1 : xs.length = ys.length) (h2 : ∀ j, j < xs.length → xs.getD j 0 = ys.getD j 0) : xs = ys := by
  apply List.ext_getElem h1
  intro i a b
  have := h2 i a
  simpa [List.getD, a, b] using this
theorem eq_of_getDL {xs ys : List (List Int)} (h1 : xs.length = ys.length) (h2 : ∀ j, j < xs.length → xs.getD j [] = ys.getD j []) : xs = ys := by
  apply List.ext_getElem h1
  intro i a b
  have := h2 i a
  simpa [List.getD, a, b] using this

set_option maxHeartbeats 800000 in
theorem ints_r (r : Bool) (A B : Option Addr) (n c m d : Nat) (xs ys : List Int) (w : World) (hx : RI w A n xs) (hy : RI w B m ys) (hn : n ≤ 1000000000000000) (hm : m ≤ 1000000000000000) (hr : r = decide (xs = ys)) :
    Calls Try.prog 49 #[.slice A n c, .slice B m d] w fun e w' => e = .returned (.bool r) ∧ Below w.heap.size w w' := by
  have hlx := hx.1
  have hly := hy.1
  by_cases hnm : n = m
  · subst hnm
    have HLX := Lib.hid hlx
    have HLY := Lib.hid hly
    have HR := Lib.hid hr
    have HE : Hid (∀ j, j < 0 → xs.getD j 0 = ys.getD j 0) := fun j hj => absurd hj (by omega)
    clear hlx hly hr
    go_enter Try.func49, Try.ntmps49
    go_wp2
    go_loopw [5] (fun i wr => ∃ k : Nat, k ≤ n ∧ i = .int .i64 k ∧ Below w.heap.size w wr ∧ Hid (∀ j, j < k → xs.getD j 0 = ys.getD j 0)) (fun i _ => n - (intOf i).toNat)
    case atStart => exact ⟨0, by omega, rfl, Below.refl _ _, HE⟩
    case round =>
      obtain ⟨k, hk, rfl, hbr, hall⟩ := hrel
      by_cases hlt : k < n
      · obtain ⟨b, off, rfl, hb, hc⟩ := (hx.keep hbr).2 (by omega)
        obtain ⟨b', off', rfl, hb', hc'⟩ := (hy.keep hbr).2 (by omega)
        have h1 := hc k hlt
        have h2 := hc' k hlt
        have hk0 : (0 : Int) ≤ (k : Int) := Int.natCast_nonneg _
        have hk1 : (k : Int) < (n : Int) := by omega
        by_cases he : xs.getD k 0 = ys.getD k 0
        · have hall' : Hid (∀ j, j < k + 1 → xs.getD j 0 = ys.getD j 0) := fun j hj => by
            by_cases e : j = k
            · subst e; exact he
            · exact hall.out j (by omega)
          rw [← he] at h2
          clear hx hy hc hc' he
          generalize xs.getD k 0 = x at *
          go_wp2
          go_quiet (fail)
          go_wp2
          go_roundw
          case rel => exact ⟨k + 1, by omega, by go_num, below_drewN hbr _, hall'⟩
          case measure => simp [intOf]; omega
        · have hne : (xs.getD k 0 != ys.getD k 0) = true := by simp only [bne_iff_ne, ne_eq]; exact he
          have hrf : r = false := by
            rw [HR.out, decide_eq_false_iff_not]
            intro e; exact he (by rw [e])
          subst hrf
          clear hx hy hc hc' he HR
          generalize xs.getD k 0 = x at *
          generalize ys.getD k 0 = y at *
          go_wp2
          go_quiet (fail)
          go_wp2
          go_ret
          exact ⟨rfl, below_drewN hbr _⟩
      · obtain rfl : k = n := by omega
        have hrt : r = true := by
          rw [HR.out, decide_eq_true_eq]
          exact eq_of_getD (by rw [HLX.out, HLY.out]) (fun j hj => hall.out j (by rw [← HLX.out]; exact hj))
        subst hrt
        clear hx hy HR
        go_wp2
        go_ret
        exact ⟨rfl, hbr⟩
  · have hrf : r = false := by
      rw [hr, decide_eq_false_iff_not]
      intro e; rw [e] at hlx; omega
    subst hrf
    have hne : ((n : Int) != (m : Int)) = true := by simp only [bne_iff_ne, ne_eq]; omega
    clear hx hy hlx hly hr hnm
    go_enter Try.func49, Try.ntmps49
    go_wp2
    go_ret
    exact ⟨rfl, Below.refl _ _⟩

/-- The slice value 'slice A n _' reads as the list xss of lists of ints. -/
def RO (w : World) (A : Option Addr) (n : Nat) (xss : List (List Int)) : Prop :=
  xss.length = n ∧ (0 < n → ∃ b off, A = some ⟨b, off, none⟩ ∧ b < w.heap.size ∧ ∀ j, j < n → ∃ A' n' c', w.cell? ⟨b, off + j, none⟩ = some (.slice A' n' c') ∧ RI w A' n' (xss.getD j []))
theorem RO.keep {w w' : World} {A : Option Addr} {n : Nat} {xss : List (List Int)} (h : RO w A n xss) (hb : Below w.heap.size w w') : RO w' A n xss :=
  ⟨h.1, fun hn => by
    obtain ⟨b, off, e, hlt, hc⟩ := h.2 hn
    refine ⟨b, off, e, Nat.lt_of_lt_of_le hlt hb.size, fun j hj => ?_⟩
    obtain ⟨A', n', c', h1, h2⟩ := hc j hj
    exact ⟨A', n', c', (hb.cell (p := ⟨b, off + j, none⟩) hlt).trans h1, h2.keep hb⟩⟩
theorem OO.ro {w : World} {B : Nat} {v : Value} {xss : List (List Int)} (h : OO w B v xss) : ∃ A c, v = .slice A xss.length c ∧ RO w A xss.length xss := by
  obtain ⟨vs, h1, h2, h3⟩ := h
  rcases h1.2 with ⟨h4, h5⟩ | ⟨g, cap, cur, h4, _, hg, _⟩
  · refine ⟨none, 0, by rw [h4, ← h2, h5], rfl, fun hn => by omega⟩
  · refine ⟨_, cap, by rw [h4, h2], rfl, fun hn => ⟨g, 0, rfl, ?_, fun j hj => ?_⟩⟩
    · rcases Nat.lt_or_ge g w.heap.size with hlt | hge
      · exact hlt
      · rw [Array.getElem?_eq_none hge] at hg; cases hg
    · have hj' : j < vs.length := by omega
      have h6 : w.cell? ⟨g, j, none⟩ = vs[j]? := by
        have h7 : w.ownsRow B 22 1 (.slice (some ⟨g, 0, none⟩) vs.length cap) vs.length vs := by rw [← h4]; exact h1
        exact World.ownsRow.cellAt h7 j (by omega)
      have h8 := h3 j hj
      have h9 : vs.getD j undef = vs[j] := by simp [List.getD, hj']
      rw [h9] at h8
      have hsl : ∃ A' n' c', vs[j] = .slice A' n' c' := by
        rcases h8.form with ⟨e, _⟩ | ⟨g', cap', e, _⟩
        · exact ⟨_, _, _, e⟩
        · exact ⟨_, _, _, e⟩
      obtain ⟨A', n', c', e⟩ := hsl
      rw [e] at h8
      exact ⟨A', n', c', by rw [Nat.zero_add, h6, List.getElem?_eq_getElem hj', e], h8.ri⟩

theorem RO.at_ {w : World} {A : Option Addr} {n : Nat} {xss : List (List Int)} (h : RO w A n xss) (hn : 0 < n) : ∃ b off, A = some ⟨b, off, none⟩ ∧ b < w.heap.size := by
  obtain ⟨b, off, e, hb, _⟩ := h.2 hn; exact ⟨b, off, e, hb⟩
theorem RO.el {w : World} {b off n : Nat} {xss : List (List Int)} (h : RO w (some ⟨b, off, none⟩) n xss) (j : Nat) (hj : j < n) : ∃ A' n' c', w.cell? ⟨b, off + j, none⟩ = some (.slice A' n' c') ∧ RI w A' n' (xss.getD j []) := by
  obtain ⟨b', off', e, hb, hc⟩ := h.2 (by omega)
  injection e with e; injection e with e1 e2; subst e1; subst e2
  exact hc j hj

end Go.Proofs.Ytdamfoobnbjojaa

/- Walks: slices.Clone, slices.Equal, Clone, Equal; the reference's Copy and Equal. -/
namespace Go.Proofs.Ytdamfoobnbjojaa
open Go.ChangeShapes Go.WideShapes Go.ChangeAt Go.RowKit

set_option maxRecDepth 100000 in
/-- append of a slice that reads as a list to a slice of the call's own. -/
theorem wpList_append_ints {ops : Array Oper} {rest : List Oper} {o : Oper} {a : Act} {w : World} {Q : Exit → Act → World → Prop} (hgd : o.guard = none) (s x : Operand)
    (ho : o.op = .call { callee := .builtin .append, args := #[s, x], argTypes := #[22, 22] }) (B : Nat) (v : Value) (xs : List Int) (hs : a.eval s = v) (hown : OI w B v xs)
    (ad : Addr) (n c : Nat) (ys : List Int) (hx : a.eval x = .slice (some ad) n c) (hr : RI w (some ad) n ys) (hlen : xs.length + n ≤ 1000000000) (hbase : B ≤ w.heap.size)
    (h : ∀ v' w', OI w' B v' (xs ++ ys) → w.grownBy w' v.ownBlock → (v' = .slice none 0 0 → v = .slice none 0 0) → wpList Try.prog ops Q rest (a.put o.dst v') w') : wpList Try.prog ops Q (o :: rest) a w := by
  obtain ⟨i0, hi, hz0, hz1, hz2⟩ := info_parts Try.infoInt
  have hl := hr.1
  refine wpList_append_own w hgd s x 22 ho B 3 i0 (.int .i64 0) 1 8 Try.underlying22 hi hz0 hz1 hz2 rfl (by decide) v xs.length (ints xs) hs hown ad n c (ints ys) hx (by simp [ints, hl]) ?_ ?_ (by unfold maxLen; omega) (by omega) hbase ?_
  · intro j u hj
    have hjn : j < ys.length := by
      have := (List.getElem?_eq_some_iff.1 hj).1
      simpa [ints] using this
    obtain ⟨b, off, e, _, hc⟩ := hr.2 (by omega)
    obtain rfl := Option.some.inj e
    rw [add_plain, hc j (by omega)]
    simp [ints, hjn] at hj
    rw [← hj]
    simp [List.getD, hjn]
  · intro u hu
    simp [ints] at hu
    obtain ⟨z, _, rfl⟩ := hu
    rfl
  · intro v' w' h1 h2 h3
    refine h v' w' ?_ h2 (fun e => (h3.1 e).1)
    unfold OI
    simpa [ints, hl] using h1

def ClPost (w : World) (n : Nat) (xs : List Int) (e : Ending) (w' : World) : Prop := ∃ A c, e = .returned (.slice A n c) ∧ OI w' w.heap.size (.slice A n c) xs ∧ Below w.heap.size w w'
theorem OI.empty (w : World) (B : Nat) (hB : B ≤ w.heap.size) : OI (w.alloc (.cells #[] 3)) B (.slice (some ⟨w.heap.size, 0, none⟩) 0 0) [] :=
  World.ownsRow_lit w #[] 0 hB (by simp [maxLen]) rfl

set_option maxHeartbeats 800000 in
theorem sclone_any (A : Option Addr) (n c : Nat) (xs : List Int) (w : World) (hr : RI w A n xs) (hn : n ≤ 1000000) :
    Calls Try.prog 78 #[.slice A n c] w (ClPost w n xs) := by
  cases A with
  | none =>
    obtain rfl : n = 0 := by
      rcases Nat.eq_zero_or_pos n with h0 | h0
      · exact h0
      · obtain ⟨b, off, e, _⟩ := hr.2 h0
        cases e
    have hx : xs = [] := List.length_eq_zero_iff.1 hr.1
    subst hx
    clear hr
    have hnl := fun (W : World) => Lib.run_eql_slice_nil (P := Try.prog) W 22 3 none 0 c 0 0 Try.underlying22
    go_enter Try.func78, Try.ntmps78
    go_wp2
    go_ret
    exact ⟨_, _, rfl, OI.nil _ _, Below.refl _ _⟩
  | some ad =>
    have h0 := OI.empty w w.heap.size (Nat.le_refl _)
    have hb0 := below_alloc w (.cells #[] 3)
    have hr1 := hr.alloc (.cells #[] 3)
    have hl := hr.1
    have HL := Lib.hid hl
    have hnl := fun (W : World) => Lib.run_eql_slice_nil (P := Try.prog) W 22 3 (some ad) n c 0 0 Try.underlying22
    clear hr hl
    go_enter Try.func78, Try.ntmps78
    go_wp2_with (at_builtin
                 refine wpList_append_ints rfl (.tmp 5) (.tmp 6) rfl w.heap.size (.slice (some ⟨w.heap.size, 0, none⟩) 0 0) [] rfl h0 ad n c xs rfl hr1 (by simp; omega) hb0.size ?_
                 intro v2 w2 hown2 hg2 hnn)
    have hb2 : Below w.heap.size w w2 := hb0.grown hg2 hb0.size (fun k hk => by simp [Value.ownBlock] at hk; omega)
    have hform : ∃ A' c', v2 = .slice A' n c' := by
      rcases hown2.form with ⟨e, he⟩ | ⟨g, cap, e, _⟩
      · have := hnn e; cases this
      · exact ⟨some ⟨g, 0, none⟩, cap, by rw [e]; simp [HL.out]⟩
    obtain ⟨A', c', rfl⟩ := hform
    go_ret
    exact ⟨A', c', rfl, by simpa using hown2, hb2⟩

set_option maxHeartbeats 800000 in
theorem sequal_r (r : Bool) (A B : Option Addr) (n c m d : Nat) (xs ys : List Int) (w : World) (hx : RI w A n xs) (hy : RI w B m ys) (hn : n ≤ 1000000000000000) (hm : m ≤ 1000000000000000) (hr : r = decide (xs = ys)) :
    Calls Try.prog 37 #[.slice A n c, .slice B m d] w fun e w' => e = .returned (.bool r) ∧ Below w.heap.size w w' := by
  have hlx := hx.1
  have hly := hy.1
  by_cases hnm : n = m
  · subst hnm
    have HLX := Lib.hid hlx
    have HLY := Lib.hid hly
    have HR := Lib.hid hr
    have HE : Hid (∀ j, j < 0 → xs.getD j 0 = ys.getD j 0) := fun j hj => absurd hj (by omega)
    clear hlx hly hr
    go_enter Try.func37, Try.ntmps37
    go_wp2
    go_loopw [5, 13] (fun _ i wr => ∃ k : Nat, k ≤ n ∧ i = .int .i64 k ∧ Below w.heap.size w wr ∧ Hid (∀ j, j < k → xs.getD j 0 = ys.getD j 0)) (fun _ i _ => n - (intOf i).toNat)
    case atStart => exact ⟨0, by omega, rfl, Below.refl _ _, HE⟩
    case round =>
      obtain ⟨k, hk, rfl, hbr, hall⟩ := hrel
      by_cases hlt : k < n
      · obtain ⟨b, off, rfl, hb, hc⟩ := (hx.keep hbr).2 (by omega)
        obtain ⟨b', off', rfl, hb', hc'⟩ := (hy.keep hbr).2 (by omega)
        have h1 := hc k hlt
        have h2 := hc' k hlt
        have hk0 : (0 : Int) ≤ (k : Int) := Int.natCast_nonneg _
        have hk1 : (k : Int) < (n : Int) := by omega
        by_cases he : xs.getD k 0 = ys.getD k 0
        · have hall' : Hid (∀ j, j < k + 1 → xs.getD j 0 = ys.getD j 0) := fun j hj => by
            by_cases e : j = k
            · subst e; exact he
            · exact hall.out j (by omega)
          rw [← he] at h2
          clear hx hy hc hc' he
          generalize xs.getD k 0 = x at *
          go_wp2
          go_quiet (fail)
          go_wp2
          go_roundw
          case rel => exact ⟨k + 1, by omega, by go_num, below_drewN hbr _, hall'⟩
          case measure => simp [intOf]; omega
        · have hne : (xs.getD k 0 != ys.getD k 0) = true := by simp only [bne_iff_ne, ne_eq]; exact he
          have hrf : r = false := by
            rw [HR.out, decide_eq_false_iff_not]
            intro e; exact he (by rw [e])
          subst hrf
          clear hx hy hc hc' he HR
          generalize xs.getD k 0 = x at *
          generalize ys.getD k 0 = y at *
          go_wp2
          go_quiet (fail)
          go_wp2
          go_ret
          exact ⟨rfl, below_drewN hbr _⟩
      · obtain rfl : k = n := by omega
        have hrt : r = true := by
          rw [HR.out, decide_eq_true_eq]
          exact eq_of_getD (by rw [HLX.out, HLY.out]) (fun j hj => hall.out j (by rw [← HLX.out]; exact hj))
        subst hrt
        clear hx hy HR
        go_wp2
        go_ret
        exact ⟨rfl, hbr⟩
  · have hrf : r = false := by
      rw [hr, decide_eq_false_iff_not]
      intro e; rw [e] at hlx; omega
    subst hrf
    have hne : ((n : Int) != (m : Int)) = true := by simp only [bne_iff_ne, ne_eq]; omega
    clear hx hy hlx hly hr hnm
    go_enter Try.func37, Try.ntmps37
    go_wp2
    go_ret
    exact ⟨rfl, Below.refl _ _⟩

/-- What Clone returns: a diagram whose slices are new. -/
def ClonePost (w : World) (ns nm : Nat) (lp : Int) (signs mate : List Int) (e : Ending) (w' : World) : Prop :=
  ∃ A cs B cm, e = .returned (dval A ns cs B nm cm lp) ∧ OI w' w.heap.size (.slice A ns cs) signs ∧ OI w' w.heap.size (.slice B nm cm) mate ∧
    ((Value.slice A ns cs).ownBlock = none ∨ (Value.slice A ns cs).ownBlock ≠ (Value.slice B nm cm).ownBlock) ∧ Below w.heap.size w w'

theorem OI.block_ne {w w' : World} {B : Nat} {A A' : Option Addr} {n c n' c' : Nat} {xs ys : List Int} (h : OI w B (.slice A n c) xs) (k : OI w' w.heap.size (.slice A' n' c') ys) :
    (Value.slice A n c).ownBlock = none ∨ (Value.slice A n c).ownBlock ≠ (Value.slice A' n' c').ownBlock := by
  cases hg : (Value.slice A n c).ownBlock with
  | none => exact .inl rfl
  | some g =>
    refine .inr fun e => ?_
    have h1 := (World.ownsRow.lt h g hg).2
    have h2 := (World.ownsRow.lt k g e.symm).1
    omega

abbrev set3 (W : World) (g : Nat) (a b c : Value) : World := ((W.setCell ⟨g, 0, none⟩ a).setCell ⟨g, 1, none⟩ b).setCell ⟨g, 2, none⟩ c
theorem set3_far (W : World) (g : Nat) (a b c : Value) {h : Nat} (hne : g ≠ h) (i : Nat) : (set3 W g a b c).cell? ⟨h, i, none⟩ = W.cell? ⟨h, i, none⟩ := by
  unfold set3
  rw [World.cell?_setCell_other _ _ _ _ (by simp), World.cell?_setCell_other _ _ _ _ (by simp), World.cell?_setCell_other _ _ _ _ (by simp)]
theorem set3_cells (W : World) (g : Nat) (a b c : Value) {u0 u1 u2 : Value} (q0 : W.cell? ⟨g, 0, none⟩ = some u0) (q1 : W.cell? ⟨g, 1, none⟩ = some u1) (q2 : W.cell? ⟨g, 2, none⟩ = some u2) :
    (set3 W g a b c).cell? ⟨g, 0, none⟩ = some a ∧ (set3 W g a b c).cell? ⟨g, 1, none⟩ = some b ∧ (set3 W g a b c).cell? ⟨g, 2, none⟩ = some c := by
  unfold set3
  refine ⟨?_, ?_, ?_⟩
  · rw [World.cell?_setCell_other _ _ _ _ (by simp), World.cell?_setCell_other _ _ _ _ (by simp), World.cell?_setCell_same _ _ _ q0]
  · have h1 : (W.setCell ⟨g, 0, none⟩ a).cell? ⟨g, 1, none⟩ = some u1 := by rw [World.cell?_setCell_other _ _ _ _ (by simp)]; exact q1
    rw [World.cell?_setCell_other _ _ _ _ (by simp), World.cell?_setCell_same _ _ _ h1]
  · have h2 : ((W.setCell ⟨g, 0, none⟩ a).setCell ⟨g, 1, none⟩ b).cell? ⟨g, 2, none⟩ = some u2 := by rw [World.cell?_setCell_other _ _ _ _ (by simp), World.cell?_setCell_other _ _ _ _ (by simp)]; exact q2
    rw [World.cell?_setCell_same _ _ _ h2]
theorem set3_below {B : Nat} {a W : World} (h : Below B a W) {g : Nat} (hg : B ≤ g) (x y z : Value) : Below B a (set3 W g x y z) := below_set (below_set (below_set h hg _) hg _) hg _
theorem OI.set3 {W : World} {B : Nat} {v : Value} {xs : List Int} (h : OI W B v xs) {g : Nat} (hg : v.ownBlock ≠ some g) (x y z : Value) : OI (set3 W g x y z) B v xs := ((h.far (p := ⟨g, 0, none⟩) hg _).far (p := ⟨g, 1, none⟩) hg _).far (p := ⟨g, 2, none⟩) hg _

set_option maxHeartbeats 3200000 in
theorem clone_any (A B : Option Addr) (ns cs nm cm : Nat) (lp : Int) (signs mate : List Int) (w : World) (hs : RI w A ns signs) (hm : RI w B nm mate) (hns : ns ≤ 1000) (hnm : nm ≤ 1000) :
    Calls Try.prog 53 #[dval A ns cs B nm cm lp] w (ClonePost w ns nm lp signs mate) := by
  have hd := (DB.new w A ns cs B nm cm lp).keep (below_alloc _ (.cells #[.slice none 0 0, .slice none 0 0, .int .i64 0] 24))
  have hb0 := below_step (below_alloc w (dbox A ns cs B nm cm lp)) (below_alloc _ (.cells #[.slice none 0 0, .slice none 0 0, .int .i64 0] 24))
  have hr := DB.new (w.alloc (dbox A ns cs B nm cm lp)) none 0 0 none 0 0 0
  have hrf : ∀ i, ((w.alloc (dbox A ns cs B nm cm lp)).alloc (.cells #[.slice none 0 0, .slice none 0 0, .int .i64 0] 24)).frozen? ⟨w.heap.size + 1, i, none⟩ = false := fun i => World.frozen?_alloc_at _ _ _ _ (by simp)
  have hsz : ((w.alloc (dbox A ns cs B nm cm lp)).alloc (.cells #[.slice none 0 0, .slice none 0 0, .int .i64 0] 24)).heap.size = w.heap.size + 2 := by simp
  have hsz1 : (w.alloc (dbox A ns cs B nm cm lp)).heap.size = w.heap.size + 1 := by simp
  rw [hsz1] at hr
  go_enter Try.func53, Try.ntmps53
  go_wp2
  generalize (w.alloc (dbox A ns cs B nm cm lp)).alloc (.cells #[.slice none 0 0, .slice none 0 0, .int .i64 0] 24) = wA at hd hb0 hr hrf hsz ⊢
  obtain ⟨g1, hg1⟩ : ∃ g1, w.heap.size + 1 = g1 := ⟨_, rfl⟩
  rw [hg1] at hr hrf ⊢
  have hlt1 : w.heap.size < g1 := by omega
  have hltA : g1 < wA.heap.size := by omega
  clear hg1 hsz hsz1
  obtain ⟨d0, d1, d2, dlt⟩ := hd
  obtain ⟨r0, r1, r2, rlt⟩ := hr
  have hs1 := hs.keep hb0
  have hm1 := hm.keep hb0
  have HRF := Lib.hid hrf
  have CA : ∀ W : World, Below wA.heap.size wA W → Hid (Calls Try.prog 78 #[.slice A ns cs] W (ClPost W ns signs)) := fun W hb => sclone_any A ns cs signs W (hs1.keep hb) (by omega)
  have CB : ∀ W : World, Below wA.heap.size wA W → Hid (Calls Try.prog 78 #[.slice B nm cm] W (ClPost W nm mate)) := fun W hb => sclone_any B nm cm mate W (hm1.keep hb) (by omega)
  have hbD : Below wA.heap.size wA wA.drew := (Below.refl _ _).drew
  clear hs hm hs1 hm1 hrf
  go_region_held3 (fun w' => w'.cell? ⟨w.heap.size, 0, none⟩ = some (.slice A ns cs) ∧ w'.cell? ⟨w.heap.size, 1, none⟩ = some (.slice B nm cm) ∧ w'.cell? ⟨w.heap.size, 2, none⟩ = some (.int .i64 lp))
    (first
      | go_keep
      | exact ⟨(set3_far w3 g1 _ _ _ (Nat.ne_of_gt hlt1) 0).trans ((hbC.cell (p := ⟨w.heap.size, 0, none⟩) dlt).trans d0), (set3_far w3 g1 _ _ _ (Nat.ne_of_gt hlt1) 1).trans ((hbC.cell (p := ⟨w.heap.size, 1, none⟩) dlt).trans d1), (set3_far w3 g1 _ _ _ (Nat.ne_of_gt hlt1) 2).trans ((hbC.cell (p := ⟨w.heap.size, 2, none⟩) dlt).trans d2)⟩
      | exact ⟨(hbC.cell (p := ⟨w.heap.size, 0, none⟩) dlt).trans d0, (hbC.cell (p := ⟨w.heap.size, 1, none⟩) dlt).trans d1, (hbC.cell (p := ⟨w.heap.size, 2, none⟩) dlt).trans d2⟩
      | exact ⟨(hbB.cell (p := ⟨w.heap.size, 0, none⟩) dlt).trans d0, (hbB.cell (p := ⟨w.heap.size, 1, none⟩) dlt).trans d1, (hbB.cell (p := ⟨w.heap.size, 2, none⟩) dlt).trans d2⟩)
    (first
      | (go_at_call 78; ((with_reducible refine (CA _ hbD).out.mono ?_); rintro e w2 ⟨A1, c1, rfl, ho1, hb1⟩; have hbB := below_step hbD hb1))
      | (go_at_call 78; ((with_reducible refine (CB _ hbB).out.mono ?_); rintro e w3 ⟨B1, m1, rfl, ho2, hb2⟩; have hbC := below_step hbB hb2; have q0 := (hbC.cell (p := ⟨g1, 0, none⟩) rlt).trans r0; have q1 := (hbC.cell (p := ⟨g1, 1, none⟩) rlt).trans r1; have q2 := (hbC.cell (p := ⟨g1, 2, none⟩) rlt).trans r2; have f0 := (hbC.frozen (p := ⟨g1, 0, none⟩) rlt).trans (HRF.out 0); have f1 := (hbC.frozen (p := ⟨g1, 1, none⟩) rlt).trans (HRF.out 1); have f2 := (hbC.frozen (p := ⟨g1, 2, none⟩) rlt).trans (HRF.out 2))))
  obtain ⟨k0, k1, k2⟩ := set3_cells w3 g1 (.slice A1 ns c1) (.slice B1 nm m1) (.int .i64 lp) q0 q1 q2
  have n1 : (Value.slice A1 ns c1).ownBlock ≠ some g1 := fun e => by have := (World.ownsRow.lt ho1 g1 e).1; have := hbD.size; omega
  have n2 : (Value.slice B1 nm m1).ownBlock ≠ some g1 := fun e => by have := (World.ownsRow.lt ho2 g1 e).1; have := hbB.size; omega
  have o1 := ((ho1.keep hb2).set3 n1 (.slice A1 ns c1) (.slice B1 nm m1) (.int .i64 lp)).mono (B' := w.heap.size) (Nat.le_trans hb0.size hbD.size)
  have o2 := (ho2.set3 n2 (.slice A1 ns c1) (.slice B1 nm m1) (.int .i64 lp)).mono (B' := w.heap.size) (Nat.le_trans hb0.size hbB.size)
  have hne := ho1.block_ne ho2
  have hbF := set3_below (hb0.trans (hbC.mono hb0.size)) (Nat.le_of_lt hlt1) (.slice A1 ns c1) (.slice B1 nm m1) (.int .i64 lp)
  have HF := Lib.hid (show ClonePost w ns nm lp signs mate (.returned (dval A1 ns c1 B1 nm m1 lp)) (set3 w3 g1 (.slice A1 ns c1) (.slice B1 nm m1) (.int .i64 lp)) from ⟨A1, c1, B1, m1, rfl, o1, o2, hne, hbF⟩)
  clear o1 o2 hne hbF n1 n2 ho1 ho2
  go_wp2
  exact bodyPost_ret (v := dval A1 ns c1 B1 nm m1 lp) (by simp [results, Try.results53, go_sem, k0, k1, k2]) rfl HF.out

end Go.Proofs.Ytdamfoobnbjojaa
