import Derived.Test.YtdacjnmfmhkpiaaGreatDoorD04
import Derived.ProofKit
import Derived.Lib.SmallJoins
import Derived.Maps.OwnSet
import Derived.DeepKeys4
/- What a diagram in memory is asked to be; its faces, strands, components as lists. -/
namespace Go.Proofs.YtdacjnmfmhkpiaaGreatDoor
open Go.RowKit

def facesM (signs mate : List Int) (lp : Int) : List (List Int) := if validB signs mate lp = true then cycL (ff (matesOf mate)) mate.length (fun _ => true) mate.length else []
def strandsM (signs mate : List Int) (lp : Int) : List (List Int) := if validB signs mate lp = true then cycL (fs (matesOf mate)) mate.length (outB signs) mate.length else []
theorem validB_out {signs mate : List Int} {lp : Int} (h : validB signs mate lp = true) : limB signs.length mate.length lp = true ∧ sgnsB signs = true ∧ pairB signs mate = true ∧ sphM mate signs.length = true := by
  unfold validB at h; simp only [Bool.and_eq_true] at h; exact ⟨h.1.1.1, h.1.1.2, h.1.2, h.2⟩

/-- What a diagram's value is asked to be. -/
structure DV (w : World) (A : Option Addr) (ns : Nat) (B : Option Addr) (nm : Nat) (signs mate : List Int) : Prop where
  hs : RI w A ns signs
  hm : RI w B nm mate
  hns : ns ≤ 100000000000000
  hnm : nm ≤ 100000000000000
  hrange : ∀ j, j < nm → -9223372036854775808 ≤ mt mate j ∧ mt mate j ≤ 9223372036854775807
theorem DV.keep {w w' : World} {A B : Option Addr} {ns nm : Nat} {signs mate : List Int} (h : DV w A ns B nm signs mate) (hb : Below w.heap.size w w') : DV w' A ns B nm signs mate :=
  ⟨h.hs.keep hb, h.hm.keep hb, h.hns, h.hnm, h.hrange⟩
theorem DV.valid {w : World} {A B : Option Addr} {ns nm : Nat} {signs mate : List Int} (h : DV w A ns B nm signs mate) (cs cm : Nat) (lp : Int) (r : Bool) (hr : validB signs mate lp = r) :
    Calls Tryz.prog 18 #[dval A ns cs B nm cm lp] w fun e w' => e = .returned (.bool r) ∧ Below w.heap.size w w' := by
  subst hr; exact valid_any A B ns cs nm cm lp signs mate w h.hs h.hm h.hns h.hnm h.hrange

/-- The strand leaves each crossing by an out port when it enters by one that is none. -/
theorem out_closed {signs mate : List Int} {nm ns : Nat} (hs : sgnsB signs = true) (hp : pairB signs mate = true) (hl : mate.length = nm) (hls : signs.length = ns) (hn : nm = 4 * ns) (h : Nat) (hh : h < nm) (ho : outB signs h = true) : outB signs (fs (matesOf mate) h) = true := by
  obtain ⟨m, h1, h2, h3, h4⟩ := pOK_out ((pairB_iff _ _).1 hp h (by omega)) hl
  have e : matesOf mate h = m := by unfold matesOf; rw [h1]; simp
  have hm : outB signs m = false := by
    cases q : outB signs m with
    | false => rfl
    | true => rw [ho, q] at h4; exact absurd rfl h4
  have hg := (sgnsB_iff _).1 hs (m / 4) (by omega)
  unfold fs
  rw [e]
  have hd := trn_div m 2
  have hr : trn m 2 % 4 = (m % 4 + 2) % 4 := by unfold trn; omega
  unfold outB at hm ⊢
  rw [hd, hr]
  generalize signs.getD (m / 4) 0 = s at hm hg ⊢
  unfold sgB at hg
  have hr4 : m % 4 = 0 ∨ m % 4 = 1 ∨ m % 4 = 2 ∨ m % 4 = 3 := by omega
  rcases hr4 with e | e | e | e <;> rw [e] at hm ⊢ <;> simp at hm hg ⊢ <;> omega

def compM (signs mate : List Int) (lp : Int) : Int := if validB signs mate lp = true then ((strandsM signs mate lp).length : Int) + lp else 0
theorem compM_add {signs mate : List Int} {lp : Int} (h : validB signs mate lp = true) : compM signs mate lp = ((strandsM signs mate lp).length : Int) + lp := by unfold compM; rw [if_pos h]
theorem strandsM_le {signs mate : List Int} {lp : Int} : (strandsM signs mate lp).length ≤ mate.length := by
  unfold strandsM; split
  · exact cycL_length _ _ _ _
  · simp

def faceM (signs mate : List Int) (lp x : Int) : List Int := if validB signs mate lp = true ∧ 0 ≤ x ∧ x < mate.length then itl (ff (matesOf mate)) x.toNat (per (ff (matesOf mate)) mate.length x.toNat) else []

/-- The least crossing of each component. -/
def labM (mate : List Int) : Nat → Nat := ufLab (matesOf mate) mate.length
def graphM (signs mate : List Int) (lp : Int) : List (List Int) := if validB signs mate lp = true then graphL (labM mate) signs.length else []
theorem labM_le (mate : List Int) (b : Nat) : labM mate b ≤ b := root_le _ _
theorem labM_idem (mate : List Int) (b : Nat) : labM mate (labM mate b) = labM mate b := root_root _ _

end Go.Proofs.YtdacjnmfmhkpiaaGreatDoor

/- Walks: Ints, Lists (the reference's comparisons), Great. -/
namespace Go.Proofs.YtdacjnmfmhkpiaaGreatDoor
open Go.RowKit

theorem below_drewN {B : Nat} {a w : World} (h : Below B a w) (n : Nat) : Below B a (w.drewN n) := ⟨h.os, h.tape, h.output, h.size, h.block⟩

theorem eq_of_getD {xs ys : List Int} (h1 : xs.length = ys.length) (h2 : ∀ j, j < xs.length → xs.getD j 0 = ys.getD j 0) : xs = ys := by
  apply List.ext_getElem h1
  intro i a b
  have := h2 i a
  simpa [List.getD, a, b] using this
theorem eq_of_getDL {xs ys : List (List Int)} (h1 : xs.length = ys.length) (h2 : ∀ j, j < xs.length → xs.getD j [] = ys.getD j []) : xs = ys := by
  apply List.ext_getElem h1
  intro i a b
  have := h2 i a
  simpa [List.getD, a, b] using this

set_option maxHeartbeats 800000 in
theorem ints_r (r : Bool) (A B : Option Addr) (n c m d : Nat) (xs ys : List Int) (w : World) (hx : RI w A n xs) (hy : RI w B m ys) (hn : n ≤ 1000000000000000) (hm : m ≤ 1000000000000000) (hr : r = decide (xs = ys)) :
    Calls Tryz.prog 40 #[.slice A n c, .slice B m d] w fun e w' => e = .returned (.bool r) ∧ Below w.heap.size w w' := by
  have hlx := hx.1
  have hly := hy.1
  by_cases hnm : n = m
  · subst hnm
    have HLX := Lib.hid hlx
    have HLY := Lib.hid hly
    have HR := Lib.hid hr
    have HE : Hid (∀ j, j < 0 → xs.getD j 0 = ys.getD j 0) := fun j hj => absurd hj (by omega)
    clear hlx hly hr
    go_enter Tryz.func40, Tryz.ntmps40
    go_wp2
    go_loopw [5] (fun i wr => ∃ k : Nat, k ≤ n ∧ i = .int .i64 k ∧ Below w.heap.size w wr ∧ Hid (∀ j, j < k → xs.getD j 0 = ys.getD j 0)) (fun i _ => n - (intOf i).toNat)
    case atStart => exact ⟨0, by omega, rfl, Below.refl _ _, HE⟩
    case round =>
      obtain ⟨k, hk, rfl, hbr, hall⟩ := hrel
      by_cases hlt : k < n
      · obtain ⟨b, off, rfl, hb, hc⟩ := (hx.keep hbr).2 (by omega)
        obtain ⟨b', off', rfl, hb', hc'⟩ := (hy.keep hbr).2 (by omega)
        have h1 := hc k hlt
        have h2 := hc' k hlt
        have hk0 : (0 : Int) ≤ (k : Int) := Int.natCast_nonneg _
        have hk1 : (k : Int) < (n : Int) := by omega
        by_cases he : xs.getD k 0 = ys.getD k 0
        · have hall' : Hid (∀ j, j < k + 1 → xs.getD j 0 = ys.getD j 0) := fun j hj => by
            by_cases e : j = k
            · subst e; exact he
            · exact hall.out j (by omega)
          rw [← he] at h2
          clear hx hy hc hc' he
          generalize xs.getD k 0 = x at *
          go_wp2
          go_quiet (fail)
          go_wp2
          go_roundw
          case rel => exact ⟨k + 1, by omega, by go_num, below_drewN hbr _, hall'⟩
          case measure => simp [intOf]; omega
        · have hne : (xs.getD k 0 != ys.getD k 0) = true := by simp only [bne_iff_ne, ne_eq]; exact he
          have hrf : r = false := by
            rw [HR.out, decide_eq_false_iff_not]
            intro e; exact he (by rw [e])
          subst hrf
          clear hx hy hc hc' he HR
          generalize xs.getD k 0 = x at *
          generalize ys.getD k 0 = y at *
          go_wp2
          go_quiet (fail)
          go_wp2
          go_ret
          exact ⟨rfl, below_drewN hbr _⟩
      · obtain rfl : k = n := by omega
        have hrt : r = true := by
          rw [HR.out, decide_eq_true_eq]
          exact eq_of_getD (by rw [HLX.out, HLY.out]) (fun j hj => hall.out j (by rw [← HLX.out]; exact hj))
        subst hrt
        clear hx hy HR
        go_wp2
        go_ret
        exact ⟨rfl, hbr⟩
  · have hrf : r = false := by
      rw [hr, decide_eq_false_iff_not]
      intro e; rw [e] at hlx; omega
    subst hrf
    have hne : ((n : Int) != (m : Int)) = true := by simp only [bne_iff_ne, ne_eq]; omega
    clear hx hy hlx hly hr hnm
    go_enter Tryz.func40, Tryz.ntmps40
    go_wp2
    go_ret
    exact ⟨rfl, Below.refl _ _⟩

/-- The slice value 'slice A n _' reads as the list xss of lists of ints. -/
def RO (w : World) (A : Option Addr) (n : Nat) (xss : List (List Int)) : Prop :=
  xss.length = n ∧ (0 < n → ∃ b off, A = some ⟨b, off, none⟩ ∧ b < w.heap.size ∧ ∀ j, j < n → ∃ A' n' c', w.cell? ⟨b, off + j, none⟩ = some (.slice A' n' c') ∧ RI w A' n' (xss.getD j []))
theorem RO.keep {w w' : World} {A : Option Addr} {n : Nat} {xss : List (List Int)} (h : RO w A n xss) (hb : Below w.heap.size w w') : RO w' A n xss :=
  ⟨h.1, fun hn => by
    obtain ⟨b, off, e, hlt, hc⟩ := h.2 hn
    refine ⟨b, off, e, Nat.lt_of_lt_of_le hlt hb.size, fun j hj => ?_⟩
    obtain ⟨A', n', c', h1, h2⟩ := hc j hj
    exact ⟨A', n', c', (hb.cell (p := ⟨b, off + j, none⟩) hlt).trans h1, h2.keep hb⟩⟩
theorem OO.ro {w : World} {B : Nat} {v : Value} {xss : List (List Int)} (h : OO w B v xss) : ∃ A c, v = .slice A xss.length c ∧ RO w A xss.length xss := by
  obtain ⟨vs, h1, h2, h3⟩ := h
  rcases h1.2 with ⟨h4, h5⟩ | ⟨g, cap, cur, h4, _, hg, _⟩
  · refine ⟨none, 0, by rw [h4, ← h2, h5], rfl, fun hn => by omega⟩
  · refine ⟨_, cap, by rw [h4, h2], rfl, fun hn => ⟨g, 0, rfl, ?_, fun j hj => ?_⟩⟩
    · rcases Nat.lt_or_ge g w.heap.size with hlt | hge
      · exact hlt
      · rw [Array.getElem?_eq_none hge] at hg; cases hg
    · have hj' : j < vs.length := by omega
      have h6 : w.cell? ⟨g, j, none⟩ = vs[j]? := by
        have h7 : w.ownsRow B 22 1 (.slice (some ⟨g, 0, none⟩) vs.length cap) vs.length vs := by rw [← h4]; exact h1
        exact World.ownsRow.cellAt h7 j (by omega)
      have h8 := h3 j hj
      have h9 : vs.getD j undef = vs[j] := by simp [List.getD, hj']
      rw [h9] at h8
      have hsl : ∃ A' n' c', vs[j] = .slice A' n' c' := by
        rcases h8.form with ⟨e, _⟩ | ⟨g', cap', e, _⟩
        · exact ⟨_, _, _, e⟩
        · exact ⟨_, _, _, e⟩
      obtain ⟨A', n', c', e⟩ := hsl
      rw [e] at h8
      exact ⟨A', n', c', by rw [Nat.zero_add, h6, List.getElem?_eq_getElem hj', e], h8.ri⟩

theorem RO.at_ {w : World} {A : Option Addr} {n : Nat} {xss : List (List Int)} (h : RO w A n xss) (hn : 0 < n) : ∃ b off, A = some ⟨b, off, none⟩ ∧ b < w.heap.size := by
  obtain ⟨b, off, e, hb, _⟩ := h.2 hn; exact ⟨b, off, e, hb⟩
theorem RO.el {w : World} {b off n : Nat} {xss : List (List Int)} (h : RO w (some ⟨b, off, none⟩) n xss) (j : Nat) (hj : j < n) : ∃ A' n' c', w.cell? ⟨b, off + j, none⟩ = some (.slice A' n' c') ∧ RI w A' n' (xss.getD j []) := by
  obtain ⟨b', off', e, hb, hc⟩ := h.2 (by omega)
  injection e with e; injection e with e1 e2; subst e1; subst e2
  exact hc j hj

end Go.Proofs.YtdacjnmfmhkpiaaGreatDoor

/- Words for memory: slices of visits; slices of such slices. -/
namespace Go.Proofs.YtdacjnmfmhkpiaaGreatDoor
open Go.RowKit

theorem DB.newT (w : World) (A : Option Addr) (ns cs : Nat) (B : Option Addr) (nm cm : Nat) (lp : Int) (t : TypeId) : DB (w.alloc (.cells #[.slice A ns cs, .slice B nm cm, .int .i64 lp] t)) w.heap.size A ns cs B nm cm lp := by
  refine ⟨?_, ?_, ?_, by simp⟩ <;> (rw [World.cell?_alloc_at _ _ _ _ rfl]; rfl)
abbrev Vis := Int × Bool
abbrev v0 : Vis := (0, false)
/-- The cells of a list of visits. -/
def vv (vs : List Vis) : Nat → Value := fun j => if j % 2 = 0 then .int .i64 (vs.getD (j / 2) v0).1 else .bool (vs.getD (j / 2) v0).2
theorem vv_even (vs : List Vis) (i : Nat) : vv vs (i * 2) = .int .i64 (vs.getD i v0).1 := by
  unfold vv; rw [if_pos (by omega), show i * 2 / 2 = i by omega]
theorem vv_odd (vs : List Vis) (i : Nat) : vv vs (i * 2 + 1) = .bool (vs.getD i v0).2 := by
  unfold vv; rw [if_neg (by omega), show (i * 2 + 1) / 2 = i by omega]

/-- The slice value 'slice A n _' reads as the list vs of visits. -/
def RV (w : World) (A : Option Addr) (n : Nat) (vs : List Vis) : Prop :=
  vs.length = n ∧ (0 < n → ∃ b off, A = some ⟨b, off, none⟩ ∧ b < w.heap.size ∧ ∀ j, j < n → w.cell? ⟨b, off + j * 2, none⟩ = some (.int .i64 (vs.getD j v0).1) ∧ w.cell? ⟨b, off + j * 2 + 1, none⟩ = some (.bool (vs.getD j v0).2))
theorem RV.keep {w w' : World} {A : Option Addr} {n : Nat} {vs : List Vis} (h : RV w A n vs) (hb : Below w.heap.size w w') : RV w' A n vs :=
  ⟨h.1, fun hn => by
    obtain ⟨b, off, e, hlt, hc⟩ := h.2 hn
    exact ⟨b, off, e, Nat.lt_of_lt_of_le hlt hb.size, fun j hj => ⟨(hb.cell (p := ⟨b, off + j * 2, none⟩) hlt).trans (hc j hj).1, (hb.cell (p := ⟨b, off + j * 2 + 1, none⟩) hlt).trans (hc j hj).2⟩⟩⟩
theorem RV.nil (w : World) (A : Option Addr) : RV w A 0 [] := ⟨rfl, fun h => absurd h (by omega)⟩

/-- The slice value 'slice A n _' reads as the list vss of lists of visits. -/
def RVV (w : World) (A : Option Addr) (n : Nat) (vss : List (List Vis)) : Prop :=
  vss.length = n ∧ (0 < n → ∃ b off, A = some ⟨b, off, none⟩ ∧ b < w.heap.size ∧ ∀ j, j < n → ∃ A' n' c', w.cell? ⟨b, off + j, none⟩ = some (.slice A' n' c') ∧ RV w A' n' (vss.getD j []))
theorem RVV.keep {w w' : World} {A : Option Addr} {n : Nat} {vss : List (List Vis)} (h : RVV w A n vss) (hb : Below w.heap.size w w') : RVV w' A n vss :=
  ⟨h.1, fun hn => by
    obtain ⟨b, off, e, hlt, hc⟩ := h.2 hn
    refine ⟨b, off, e, Nat.lt_of_lt_of_le hlt hb.size, fun j hj => ?_⟩
    obtain ⟨A', n', c', h1, h2⟩ := hc j hj
    exact ⟨A', n', c', (hb.cell (p := ⟨b, off + j, none⟩) hlt).trans h1, h2.keep hb⟩⟩
theorem RVV.nil (w : World) (A : Option Addr) : RVV w A 0 [] := ⟨rfl, fun h => absurd h (by omega)⟩

/-- Block g is an array of the visits vs. -/
def VA (w : World) (g : Nat) (t : TypeId) (vs : List Vis) : Prop := Arr w g t (2 * vs.length) (vv vs)
theorem VA.rv {w : World} {g : Nat} {t : TypeId} {vs : List Vis} (h : VA w g t vs) : RV w (some ⟨g, 0, none⟩) vs.length vs :=
  ⟨rfl, fun _ => ⟨g, 0, rfl, h.lt, fun j hj => ⟨by rw [Nat.zero_add, h.cell (j * 2) (by omega), vv_even], by rw [Nat.zero_add, h.cell (j * 2 + 1) (by omega), vv_odd]⟩⟩⟩

/-- v is a slice of the call's own, in blocks from B on, of slices of visits of their own; they read as vss. -/
def VO (w : World) (B : Nat) (tr te : TypeId) (v : Value) (vss : List (List Vis)) : Prop :=
  ∃ vals : List Value, ownRow w B tr v vals ∧ vals.length = vss.length ∧ ∀ i, i < vss.length → ∃ g cap, B ≤ g ∧ vals.getD i undef = .slice (some ⟨g, 0, none⟩) (vss.getD i []).length cap ∧ VA w g te (vss.getD i [])
theorem VO.nil (w : World) (B : Nat) (tr te : TypeId) : VO w B tr te (.slice none 0 0) [] := ⟨[], World.ownsRow_nil w B _ _, rfl, fun i hi => absurd hi (by simp)⟩
theorem VO.keep {w w' : World} {B : Nat} {tr te : TypeId} {v : Value} {vss : List (List Vis)} (h : VO w B tr te v vss) (hb : Below w.heap.size w w') : VO w' B tr te v vss := by
  obtain ⟨vals, h1, h2, h3⟩ := h
  refine ⟨vals, h1.keep hb, h2, fun i hi => ?_⟩
  obtain ⟨g, cap, h0, h4, h5⟩ := h3 i hi
  exact ⟨g, cap, h0, h4, h5.keep hb⟩
theorem VO.form {w : World} {B : Nat} {tr te : TypeId} {v : Value} {vss : List (List Vis)} (h : VO w B tr te v vss) : ∃ A c, v = .slice A vss.length c := by
  obtain ⟨vals, h1, h2, _⟩ := h
  rcases h1.2 with ⟨h3, h4⟩ | ⟨g, cap, cur, h3, _⟩
  · exact ⟨none, 0, by rw [h3, ← h2, h4]⟩
  · exact ⟨_, cap, by rw [h3, h2]⟩
theorem VO.rvv {w : World} {B : Nat} {tr te : TypeId} {A : Option Addr} {n c : Nat} {vss : List (List Vis)} (h : VO w B tr te (.slice A n c) vss) : RVV w A n vss := by
  obtain ⟨vals, h1, h2, h3⟩ := h
  rcases h1.2 with ⟨h4, h5⟩ | ⟨g, cap, cur, h4, _, hg, _⟩
  · injection h4 with e1 e2 e3
    subst e1; subst e2
    exact ⟨by omega, fun hn => by omega⟩
  · injection h4 with e1 e2 e3
    subst e1; subst e2; subst e3
    refine ⟨h2.symm, fun hn => ⟨g, 0, rfl, ?_, fun j hj => ?_⟩⟩
    · rcases Nat.lt_or_ge g w.heap.size with hlt | hge
      · exact hlt
      · rw [Array.getElem?_eq_none hge] at hg; cases hg
    · have hj' : j < vals.length := by omega
      have h6 : w.cell? ⟨g, j, none⟩ = vals[j]? := by
        have h7 : w.ownsRow B tr 1 (.slice (some ⟨g, 0, none⟩) vals.length _) vals.length vals := h1
        exact World.ownsRow.cellAt h7 j (by omega)
      obtain ⟨g', cap', _, h8, h9⟩ := h3 j (by omega)
      have h10 : vals.getD j undef = vals[j] := by simp [List.getD, hj']
      rw [h10] at h8
      exact ⟨_, _, cap', by rw [Nat.zero_add, h6, List.getElem?_eq_getElem hj', h8], h9.rv⟩
theorem VA.grown {w w' : World} {g : Nat} {t : TypeId} {vs : List Vis} (h : VA w g t vs) {row : Option Nat} (hg : w.grownBy w' row) (hne : some g ≠ row) : VA w' g t vs := (hg.block g h.lt hne).trans h
theorem VA.ne_row {w : World} {g B : Nat} {t tr : TypeId} {vs : List Vis} {v : Value} {vals : List Value} (h : VA w g t vs) (k : ownRow w B tr v vals) (he : t ≠ tr) : some g ≠ v.ownBlock := fun e => by
  obtain ⟨c2, h2⟩ := k.type e.symm
  unfold VA Arr at h
  rw [h] at h2; injection h2 with h2; injection h2 with _ h3 _; exact he h3
theorem VO.grown {w w' : World} {B : Nat} {tr te : TypeId} {v : Value} {vss : List (List Vis)} (h : VO w B tr te v vss) {row : Option Nat} (hg : w.grownBy w' row) (hr : v.ownBlock = none ∨ v.ownBlock ≠ row) (he : ∀ g cur, row = some g → w.heap[g]? ≠ some (.cells cur te (0, 0))) : VO w' B tr te v vss := by
  obtain ⟨vals, h1, h2, h3⟩ := h
  refine ⟨vals, World.ownsRow.kept h1 hg hr, h2, fun i hi => ?_⟩
  obtain ⟨g, cap, h0, h4, h5⟩ := h3 i hi
  exact ⟨g, cap, h0, h4, h5.grown hg fun e => he g _ e.symm h5⟩

theorem made_two (a b : Value) (n : Nat) : madeCells #[a, b] n = cellsN n (fun j => if j % 2 = 0 then a else b) := by
  apply Array.ext
  · simp [madeCells, cellsN]
  · intro i h1 h2
    have hi : i < n := by simpa [cellsN] using h2
    have e : (cellsN n (fun j => if j % 2 = 0 then a else b))[i] = if i % 2 = 0 then a else b := by simp [cellsN]
    rw [e]
    have hm : i % 2 = 0 ∨ i % 2 = 1 := by omega
    rcases hm with h | h <;> simp [madeCells, h]
/-- n visits that are zero. -/
def zvs (n : Nat) : List Vis := List.replicate n v0
theorem zvs_length (n : Nat) : (zvs n).length = n := by simp [zvs]
theorem make_vis {P : Program} {t e : TypeId} (ht : P.underlying t = some (.slice e)) (hi : (P.info? e).map (fun i => (i.zero, i.size, i.bytes)) = some (some (.agg #[.int .i64 0, .bool false]), 2, 16))
    (n : Nat) (hb : n ≤ 1000000) (w : World) :
    (Instr.makeSlice t (.int .i64 (n : Int)) (.int .i64 (n : Int))).run P w = .ok (.slice (some ⟨w.heap.size, 0, none⟩) n n) (w.alloc (.cells (cellsN (2 * n) (vv (zvs n))) e)) := by
  obtain ⟨i0, hi0, hz0, hz1, hz2⟩ := info_parts hi
  have hb' : (i0.bytes : Int) * (n : Int) ≤ 281474976710656 := by rw [hz2]; omega
  have := run_make (P := P) w t e i0 _ ht hi0 hz0 .i64 .i64 n n (by omega) (Int.le_refl _) hb' (by omega)
  simp only [Int.toNat_natCast, hz1] at this
  rw [this]
  have e1 : (Value.agg #[.int .i64 0, .bool false]).cells = #[.int .i64 0, .bool false] := rfl
  rw [e1, made_two]
  have e2 : cellsN (n * 2) (fun j => if j % 2 = 0 then Value.int .i64 0 else Value.bool false) = cellsN (2 * n) (vv (zvs n)) := by
    rw [Nat.mul_comm]
    refine cellsN_congr fun i hi => ?_
    have hz : (zvs n).getD (i / 2) v0 = v0 := by
      unfold zvs
      rw [List.getD_eq_getElem?_getD, List.getElem?_replicate]
      split <;> rfl
    unfold vv
    rw [hz]
  rw [e2]

end Go.Proofs.YtdacjnmfmhkpiaaGreatDoor

/- Opening a diagram that comes in, and shutting a law's call. -/
namespace Go.Proofs.YtdacjnmfmhkpiaaGreatDoor
open Go.ChangeShapes Go.WideShapes Go.ChangeAt Go.RowKit Go.Joins

theorem Tryz.own : ownKnob Tryz.prog.godebug = none := by kernel_rfl
theorem Tryz.laidOut : laidOutB Tryz.prog = true := by kernel_rfl
theorem Tryz.cellsI : Tryz.prog.cellsOf 3 = 1 := by kernel_rfl
theorem Tryz.cellsD : Tryz.prog.cellsOf 24 = 3 := by kernel_rfl

def inI (x : Int) : Prop := -9223372036854775808 ≤ x ∧ x ≤ 9223372036854775807
theorem inI_of_wf {x : Int} (h : (Lit.int .i64 x).wf = true) : inI x := by
  have h1 : IntKind.i64.min = -9223372036854775808 := rfl
  have h2 : IntKind.i64.max = 9223372036854775807 := rfl
  simp only [Lit.wf, Bool.and_eq_true, decide_eq_true_eq] at h
  unfold inI; omega

section
variable {H : Type} {enc : TypeId × Value → H} {W : World}

set_option maxRecDepth 100000 in
/-- A slice of ints that comes in reads as a list. -/
theorem open_ri {fuel : Nat} {v : Value} {x : DataW H × List MemPlace} (h : DataW.trod enc Tryz.prog W 0 (fun _ => true) true fuel 22 [v] = some x) :
    ∃ A n c xs, v = .slice A n c ∧ RI W A n xs ∧ n ≤ 9223372036854775807 ∧ ∀ y ∈ xs, inI y := by
  rcases open_ints Tryz.underlying22 Tryz.underlying3 Tryz.cellsI h with ⟨hcs, _⟩ | ⟨a, len, cap, zs, hcs, _, hl, hm, hz, _, hcell, hwf⟩
  · injection hcs with hcs _
    exact ⟨none, 0, 0, [], hcs, RI.nil _ _, by omega, fun y hy => by cases hy⟩
  · injection hcs with hcs _
    simp only [if_true] at hz
    refine ⟨some a, len, cap, zs.take len, hcs, ⟨by rw [List.length_take]; omega, fun hn => ?_⟩, by unfold maxLen at hm; omega, fun y hy => inI_of_wf (hwf y (List.mem_of_mem_take hy))⟩
    have h0 := hcell 0 (by omega)
    obtain ⟨b, off, spot⟩ := a
    have hspot : spot = none := by simpa [Addr.add] using World.cell?_spot h0
    subst hspot
    refine ⟨b, off, rfl, ?_, fun j hj => ?_⟩
    · have := World.block_lt_of_cell? W _ h0
      simpa [Addr.add] using this
    · have := hcell j (by omega)
      rw [add_plain] at this
      rw [this]
      simp [List.getD, hj]

set_option maxRecDepth 100000 in
/-- A diagram that comes in. -/
theorem open_diag {base : Nat} {v : Value} {d : DataW H} {p : List MemPlace} (hv : Value.okWide Tryz.prog W .any base 24 v) (h : DataW.Trod enc Tryz.prog W 0 (fun _ => true) true 24 v d p) :
    ∃ A ns cs B nm cm lp signs mate, v = dval A ns cs B nm cm lp ∧ RI W A ns signs ∧ RI W B nm mate ∧ ns ≤ 9223372036854775807 ∧ nm ≤ 9223372036854775807 ∧ (∀ y ∈ signs, inI y) ∧ (∀ y ∈ mate, inI y) ∧ inI lp := by
  obtain ⟨c0, c1, c2, y0, y1, y2, m, rfl, _, _, hy0, hy1, hy2⟩ := open_agg3 Tryz.underlying24 (by kernel_rfl) Tryz.cellsD hv h
  obtain ⟨A, ns, cs, signs, rfl, r1, l1, q1⟩ := open_ri hy0
  obtain ⟨B, nm, cm, mate, rfl, r2, l2, q2⟩ := open_ri hy1
  obtain ⟨x, e0, _, wx⟩ := DataW.trod_int Tryz.underlying3 hy2
  simp at e0
  subst e0
  exact ⟨A, ns, cs, B, nm, cm, x, signs, mate, rfl, r1, r2, l1, l2, q1, q2, inI_of_wf wx⟩

set_option maxRecDepth 100000 in
theorem trodAll_keep {W' : World} (hb : Below W.heap.size W W') : ∀ {ts : List TypeId} {vs : List Value} {ds : List (DataW H)} {ps : List MemPlace}, (∀ t ∈ ts, Tryz.prog.readableRec t = true ∧ t < Tryz.prog.types.size) →
    (∀ x ∈ ps, x.block < W.heap.size) → DataW.TrodAll enc Tryz.prog W 0 (fun _ => true) true ts vs ds ps → DataW.TrodAll enc Tryz.prog W' 0 (fun b => decide (b < W.heap.size)) true ts vs ds ps
  | [], [], [], _, _, _, h => h
  | t :: ts, v :: vs, d :: ds, ps, hr, hlt, h => by
    obtain ⟨p, q, h1, h2, rfl⟩ := h
    obtain ⟨r1, r2⟩ := hr t (by simp)
    exact ⟨p, q, Below.trod Tryz.laidOut r1 r2 h1 hb (fun x hx => hlt x (by simp [hx])), trodAll_keep hb (fun t ht => hr t (by simp [ht])) (fun x hx => hlt x (by simp [hx])) h2, rfl⟩
  | [], _ :: _, _, _, _, _, h => h.elim
  | [], [], _ :: _, _, _, _, h => h.elim
  | _ :: _, [], _, _, _, _, h => h.elim
  | _ :: _, _ :: _, [], _, _, _, h => h.elim

set_option maxRecDepth 100000 in
/-- A law that answers true and leaves all below as it was meets its specification. -/
theorem law_post {f : Func} {s : ChangeSpec} {args : Array Value} {ds gs : List (DataW H)} {before : List MemPlace} {W' : World}
    (hres : f.resultTypes = #[4]) (hvars : s.vars = []) (hpar : ∀ t ∈ f.params.toList, Tryz.prog.readableRec t = true ∧ t < Tryz.prog.types.size)
    (hspec : (s.fn H (ds ++ gs)).results = [.lit (.bool true)] ∧ (s.fn H (ds ++ gs)).args = ds ∧ (s.fn H (ds ++ gs)).vars = [])
    (hW : DataW.Whole enc Tryz.prog f.params.toList s.vars false W args.toList ds gs before) (hb : Below W.heap.size W W') :
    s.post enc Tryz.prog f false true false false W args (.bool true) W' := by
  have hlt := fun x hx => hW.lt x hx
  obtain ⟨p, q, hA, hV, e, _⟩ := id hW
  rw [hvars] at hV
  obtain ⟨rfl, rfl⟩ := trodVars_none hV
  rw [List.append_nil] at e
  subst e
  refine ⟨ds, [], before, [], before, [], hW, ?_, ?_, ?_, hb.frame _, fun h => by cases h⟩
  · rw [hspec.1, hres]
    exact trodAll_mk1 (shut_bool Tryz.underlying4 true)
  · rw [hspec.2.1]
    exact trodAll_keep hb hpar hlt hA
  · rw [hvars, hspec.2.2]
    rfl
end

end Go.Proofs.YtdacjnmfmhkpiaaGreatDoor

/- Words for memory: the map of the visits that have been seen. -/
namespace Go.Proofs.YtdacjnmfmhkpiaaGreatDoor
open Go.RowKit Go.Maps

theorem Tryz.cellsVis : Tryz.prog.cellsOf 51 = 2 := by kernel_rfl
theorem Tryz.cellsInt : Tryz.prog.cellsOf 3 = 1 := by kernel_rfl
theorem Tryz.cellsBool : Tryz.prog.cellsOf 4 = 1 := by kernel_rfl
theorem Tryz.keyVis : Tryz.prog.keyType 51 = true := by kernel_rfl
theorem Tryz.wideVis : (match Tryz.prog.underlying 51 with | some (.array _ _) | some (.struct _) => true | _ => false) = true := by kernel_rfl
theorem Tryz.rowVis : 51 < Tryz.prog.types.size := of_decide_eq_true (by kernel_rfl)
set_option maxRecDepth 100000 in
theorem lawVis : Keyed Tryz.prog 51 := Keyed.of_law (deep_law_laid Tryz.laidOut (m := 2) (by omega) Tryz.rowVis (by kernel_rfl) Tryz.wideVis)
/-- What a visit reads as, as a key. -/
def kvl (v : Vis) : Lit := .string (keyBytes [.int .i64 v.1, .bool v.2])
abbrev visV (v : Vis) : Value := .agg #[.int .i64 v.1, .bool v.2]
theorem keyOf_vis (v : Vis) (hw : (Lit.int .i64 v.1).wf = true) : keyOf Tryz.prog 51 (visV v) = some (kvl v) := by
  have hf : (visV v).formed Tryz.prog 51 = true := by simp [Value.formed, Tryz.underlying51, Tryz.cellsVis]
  obtain ⟨d, hd⟩ : ∃ d, Tryz.prog.types.size = d + 1 := Nat.exists_eq_succ_of_ne_zero (by have := Tryz.rowVis; omega)
  unfold keyOf
  rw [Tryz.underlying51]
  simp only [Tryz.keyVis, hf, Bool.and_self, if_true, hd]
  have e : Tryz.prog.keyLits (d + 1 + 1) 51 (visV v).cells.toList = some [.int .i64 v.1, .bool v.2] := by
    simp [Program.keyLits, Tryz.underlying51, Tryz.underlying3, Tryz.underlying4, Tryz.cellsVis, Tryz.cellsInt, Tryz.cellsBool, hw, Value.cells]
  rw [e]
  rfl
theorem kvl_inj {u v : Vis} (hu : (Lit.int .i64 u.1).wf = true) (hv : (Lit.int .i64 v.1).wf = true) (h : kvl u = kvl v) : u = v := by
  have h1 := keyOf_vis u hu
  rw [h] at h1
  have h2 : visV u = visV v := lawVis.inj h1 (keyOf_vis v hv)
  obtain ⟨a, b⟩ := u
  obtain ⟨c, d⟩ := v
  clear h1 h hu hv
  simpa [visV] using h2

/-- The map reads as the set S. -/
def DSeen (D : DataW Unit) (S : List Vis) : Prop := (∀ v : Vis, (Lit.int .i64 v.1).wf = true → D.atKey (kvl v) (.lit (.bool false)) = .lit (.bool (decide (v ∈ S)))) ∧ (∀ v : Vis, (Lit.int .i64 v.1).wf = true → has D (kvl v) = decide (v ∈ S)) ∧ Maps.size D = S.length
theorem DSeen.empty : DSeen (.map []) [] := ⟨fun v _ => by simp [DataW.atKey], fun v _ => by simp [has], rfl⟩
theorem DSeen.put {D : DataW Unit} {S : List Vis} (h : DSeen D S) (hT : Tidy D) {v : Vis} (hw : (Lit.int .i64 v.1).wf = true) (hn : v ∉ S) : DSeen (D.put (kvl v) (.lit (.bool true))) (S ++ [v]) := by
  have hk : WideAt.IsKeyLit (kvl v) := trivial
  refine ⟨fun u hu => ?_, fun u hu => ?_, ?_⟩
  · by_cases e : u = v
    · subst e
      rw [atKey_put_same hT.isMap hk]
      simp
    · rw [atKey_put_other (fun e' => e (kvl_inj hu hw e')), h.1 u hu]
      simp [e]
  · by_cases e : u = v
    · subst e
      rw [has_put_same hT.isMap hk]
      simp
    · rw [has_put_other (fun e' => e (kvl_inj hu hw e')), h.2.1 u hu]
      simp [e]
  · rw [size_put hT, h.2.1 v hw, h.2.2]
    simp [hn]

set_option maxRecDepth 100000 in
theorem look_bool {w : World} {b n : Nat} {D : DataW Unit} {t : TypeId} (h : w.ownsMap Tryz.prog 51 (plainElem Tryz.prog 4) b n D) (ht : Tryz.prog.underlying t = some (.map 51 4)) {S : List Vis} (hS : DSeen D S) {v : Vis} (hw : (Lit.int .i64 v.1).wf = true) :
    (Instr.lookup t (.map (some b)) (visV v) false).run Tryz.prog w = .ok (.bool (decide (v ∈ S))) w := by
  have hz : (zeroValue 4).run Tryz.prog w = .ok (.bool false) w := by kernel_rfl
  obtain ⟨u, ps, hrun, hR⟩ := h.lookup lawVis ht hz (plainElem_bool Tryz.underlying4 false) (keyOf_vis v hw)
  rw [hS.1 v hw] at hR
  have : u = .bool (decide (v ∈ S)) := by
    unfold plainElem at hR
    rw [Tryz.underlying4] at hR
    cases u <;> simp at hR
    rw [hR.1]
  rw [this] at hrun
  exact hrun

end Go.Proofs.YtdacjnmfmhkpiaaGreatDoor

/- Words for memory: a store into one row leaves the others as they were. -/
namespace Go.Proofs.YtdacjnmfmhkpiaaGreatDoor
open Go.RowKit

theorem OI.set_ {w : World} {B g n cap : Nat} {xs : List Int} (h : OI w B (.slice (some ⟨g, 0, none⟩) n cap) xs) (hl : xs.length = n) (j : Nat) (z : Int) :
    OI (w.setCell ⟨g, j, none⟩ (.int .i64 z)) B (.slice (some ⟨g, 0, none⟩) n cap) (xs.set j z) ∧ w.grownBy (w.setCell ⟨g, j, none⟩ (.int .i64 z)) (some g) := by
  subst hl
  have := World.ownsRow.stored h j (.int .i64 z)
  refine ⟨?_, this.2⟩
  unfold OI
  simpa [ints, List.map_set] using this.1

theorem OI.apart_lt {w : World} {B : Nat} {v : Value} {xs : List Int} (h : OI w B v xs) (row : Option Nat) (hr : ∀ g, row = some g → g < B) : v.ownBlock = none ∨ v.ownBlock ≠ row := by
  cases hv : v.ownBlock with
  | none => exact .inl rfl
  | some g =>
    refine .inr fun e => ?_
    have h1 := (World.ownsRow.lt h g hv).1
    have h2 := hr g e.symm
    omega

theorem ownRow.apart_lt {w : World} {B : Nat} {e : TypeId} {v : Value} {vs : List Value} (h : ownRow w B e v vs) (row : Option Nat) (hr : ∀ g, row = some g → g < B) : v.ownBlock = none ∨ v.ownBlock ≠ row := by
  cases hv : v.ownBlock with
  | none => exact .inl rfl
  | some g =>
    refine .inr fun e => ?_
    have h1 := (World.ownsRow.lt h g hv).1
    have h2 := hr g e.symm
    omega
theorem OO.grown_lt {w w' : World} {B : Nat} {v : Value} {xss : List (List Int)} (h : OO w B v xss) {row : Option Nat} (hg : w.grownBy w' row) (hr : ∀ g, row = some g → g < B) : OO w' B v xss := by
  obtain ⟨vs, h1, h2, h3⟩ := h
  exact ⟨vs, World.ownsRow.kept h1 hg (h1.apart_lt row hr), h2, fun i hi => (h3 i hi).grown hg ((h3 i hi).apart_lt row hr)⟩
theorem grown_set {w wr : World} {g : Nat} (h : w.grownBy wr (some g)) (j : Nat) (u : Value) : w.grownBy (wr.setCell ⟨g, j, none⟩ u) (some g) :=
  h.trans ⟨rfl, rfl, rfl, by simp [World.setCell], fun k _ hne => Below.heap_setCell wr ⟨g, j, none⟩ u k (by rintro rfl; exact hne rfl)⟩
theorem grown_below {W w w' : World} {B : Nat} (hb : Below B W w) {g : Nat} (hg : w.grownBy w' (some g)) (hB : B ≤ w.heap.size) (hgB : B ≤ g) : Below B W w' := hb.grown hg hB (fun k e => by injection e with e; omega)
/-- A row of a slice of slices of the call's own. -/
theorem OO.el {w : World} {B n c : Nat} {A : Option Addr} {xss : List (List Int)} (h : OO w B (.slice A n c) xss) (k : Nat) (hk : k < xss.length) :
    n = xss.length ∧ ∃ gA A' n' c', A = some ⟨gA, 0, none⟩ ∧ B ≤ gA ∧ gA < w.heap.size ∧ w.cell? ⟨gA, k, none⟩ = some (.slice A' n' c') ∧ OI w B (.slice A' n' c') (xss.getD k []) := by
  obtain ⟨vs, h1, h2, h3⟩ := h
  have hk' : k < vs.length := by omega
  have h8 := h3 k hk
  have h9 : vs.getD k undef = vs[k] := by simp [List.getD, hk']
  rw [h9] at h8
  have hsl : ∃ A' n' c', vs[k] = .slice A' n' c' := by
    rcases h8.form with ⟨e, _⟩ | ⟨g', cap', e, _⟩
    · exact ⟨_, _, _, e⟩
    · exact ⟨_, _, _, e⟩
  obtain ⟨A', n', c', e⟩ := hsl
  rcases h1.2 with ⟨h4, h5⟩ | ⟨g, cap, cur, h4, hB, hg, _⟩
  · omega
  · injection h4 with e1 e2 e3
    have hlt : g < w.heap.size := by
      rcases Nat.lt_or_ge g w.heap.size with hlt | hge
      · exact hlt
      · rw [Array.getElem?_eq_none hge] at hg; cases hg
    subst e1; subst e2; subst e3
    have h6 : w.cell? ⟨g, k, none⟩ = vs[k]? := World.ownsRow.cellAt h1 k (by omega)
    rw [e] at h8
    exact ⟨h2, g, A', n', c', rfl, hB, hlt, by rw [h6, List.getElem?_eq_getElem hk', e], h8⟩

end Go.Proofs.YtdacjnmfmhkpiaaGreatDoor
