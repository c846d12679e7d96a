/- What a diagram in memory is asked to be; its faces, strands, components as lists. -/
import Derived.Test.YtcllnoigppkjiaaCycles
import Derived.Test.YtcllnoigppkjiaaValid
import Derived.Test.YtcllnoigppkjiaaGraphPlain
namespace Go.Proofs.Ytcllnoigppkjiaa
open Go.RowKit

def facesM (signs mate : List Int) (lp : Int) : List (List Int) := if validB signs mate lp = true then cycL (ff (matesOf mate)) mate.length (fun _ => true) mate.length else []
def strandsM (signs mate : List Int) (lp : Int) : List (List Int) := if validB signs mate lp = true then cycL (fs (matesOf mate)) mate.length (outB signs) mate.length else []
theorem validB_out {signs mate : List Int} {lp : Int} (h : validB signs mate lp = true) : limB signs.length mate.length lp = true ∧ sgnsB signs = true ∧ pairB signs mate = true ∧ sphM mate signs.length = true := by
  unfold validB at h; simp only [Bool.and_eq_true] at h; exact ⟨h.1.1.1, h.1.1.2, h.1.2, h.2⟩

/-- What a diagram's value is asked to be. -/
structure DV (w : World) (A : Option Addr) (ns : Nat) (B : Option Addr) (nm : Nat) (signs mate : List Int) : Prop where
  hs : RI w A ns signs
  hm : RI w B nm mate
  hns : ns ≤ 100000000000000
  hnm : nm ≤ 100000000000000
  hrange : ∀ j, j < nm → -9223372036854775808 ≤ mt mate j ∧ mt mate j ≤ 9223372036854775807
theorem DV.keep {w w' : World} {A B : Option Addr} {ns nm : Nat} {signs mate : List Int} (h : DV w A ns B nm signs mate) (hb : Below w.heap.size w w') : DV w' A ns B nm signs mate :=
  ⟨h.hs.keep hb, h.hm.keep hb, h.hns, h.hnm, h.hrange⟩
theorem DV.valid {w : World} {A B : Option Addr} {ns nm : Nat} {signs mate : List Int} (h : DV w A ns B nm signs mate) (cs cm : Nat) (lp : Int) (r : Bool) (hr : validB signs mate lp = r) :
    Calls Try.prog 16 #[dval A ns cs B nm cm lp] w fun e w' => e = .returned (.bool r) ∧ Below w.heap.size w w' := by
  subst hr; exact valid_any A B ns cs nm cm lp signs mate w h.hs h.hm h.hns h.hnm h.hrange

/-- The strand leaves each crossing by an out port when it enters by one that is none. -/
theorem out_closed {signs mate : List Int} {nm ns : Nat} (hs : sgnsB signs = true) (hp : pairB signs mate = true) (hl : mate.length = nm) (hls : signs.length = ns) (hn : nm = 4 * ns) (h : Nat) (hh : h < nm) (ho : outB signs h = true) : outB signs (fs (matesOf mate) h) = true := by
  obtain ⟨m, h1, h2, h3, h4⟩ := pOK_out ((pairB_iff _ _).1 hp h (by omega)) hl
  have e : matesOf mate h = m := by unfold matesOf; rw [h1]; simp
  have hm : outB signs m = false := by
    cases q : outB signs m with
    | false => rfl
    | true => rw [ho, q] at h4; exact absurd rfl h4
  have hg := (sgnsB_iff _).1 hs (m / 4) (by omega)
  unfold fs
  rw [e]
  have hd := trn_div m 2
  have hr : trn m 2 % 4 = (m % 4 + 2) % 4 := by unfold trn; omega
  unfold outB at hm ⊢
  rw [hd, hr]
  generalize signs.getD (m / 4) 0 = s at hm hg ⊢
  unfold sgB at hg
  have hr4 : m % 4 = 0 ∨ m % 4 = 1 ∨ m % 4 = 2 ∨ m % 4 = 3 := by omega
  rcases hr4 with e | e | e | e <;> rw [e] at hm ⊢ <;> simp at hm hg ⊢ <;> omega

def compM (signs mate : List Int) (lp : Int) : Int := if validB signs mate lp = true then ((strandsM signs mate lp).length : Int) + lp else 0
theorem compM_add {signs mate : List Int} {lp : Int} (h : validB signs mate lp = true) : compM signs mate lp = ((strandsM signs mate lp).length : Int) + lp := by unfold compM; rw [if_pos h]
theorem strandsM_le {signs mate : List Int} {lp : Int} : (strandsM signs mate lp).length ≤ mate.length := by
  unfold strandsM; split
  · exact cycL_length _ _ _ _
  · simp

def faceM (signs mate : List Int) (lp x : Int) : List Int := if validB signs mate lp = true ∧ 0 ≤ x ∧ x < mate.length then itl (ff (matesOf mate)) x.toNat (per (ff (matesOf mate)) mate.length x.toNat) else []

/-- The least crossing of each component. -/
def labM (mate : List Int) : Nat → Nat := ufLab (matesOf mate) mate.length
def graphM (signs mate : List Int) (lp : Int) : List (List Int) := if validB signs mate lp = true then graphL (labM mate) signs.length else []
theorem labM_le (mate : List Int) (b : Nat) : labM mate b ≤ b := root_le _ _
theorem labM_idem (mate : List Int) (b : Nat) : labM mate (labM mate b) = labM mate b := root_root _ _

end Go.Proofs.Ytcllnoigppkjiaa
