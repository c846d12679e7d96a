import Derived.Test.YtkfjledhnakfoaaA21
import Derived.Deep.CutRange
/- Walk: factorsOf. -/
namespace Go.Proofs.Ytkfjledhnakfoaa
open Go.RowKit

/-- What two boxes hold. -/
def TwoB (wX : World) (B0 : Nat) (wq : World) (p1 p2 : Pl) (v7 v8 : Value) : Prop :=
  ∃ g7 g8 A1 c1 B1 d1 A2 c2 B2 d2, v7 = .pointer (some ⟨g7, 0, none⟩) ∧ v8 = .pointer (some ⟨g8, 0, none⟩) ∧ DB wX g7 A1 p1.1.length c1 B1 p1.2.1.length d1 p1.2.2 ∧ DB wX g8 A2 p2.1.length c2 B2 p2.2.1.length d2 p2.2.2 ∧
    OI wX 0 (.slice A1 p1.1.length c1) p1.1 ∧ OI wX 0 (.slice B1 p1.2.1.length d1) p1.2.1 ∧ OI wX 0 (.slice A2 p2.1.length c2) p2.1 ∧ OI wX 0 (.slice B2 p2.2.1.length d2) p2.2.1 ∧ Below B0 wq wX

theorem twoB_mk {w3 X wq : World} {B0 WS g7 g8 n1 c1 k1 e1 n2 c2 k2 e2 : Nat} {A1 B1 A2 B2 : Option Addr} {s1 m1 s2 m2 : List Int} (hq : Below B0 wq X) (hX : Below w3.heap.size w3 X) (h7 : BxZ X g7) (h8 : BxZ X g8) (hne : g7 ≠ g8) (hB7 : B0 ≤ g7) (hB8 : B0 ≤ g8)
    (o1 : OI w3 WS (.slice A1 n1 c1) s1) (o2 : OI w3 WS (.slice B1 k1 e1) m1) (o3 : OI w3 WS (.slice A2 n2 c2) s2) (o4 : OI w3 WS (.slice B2 k2 e2) m2) (hout : ∀ g, WS ≤ g → g < w3.heap.size → g ≠ g7 ∧ g ≠ g8) (l1 : s1.length = n1) (l2 : m1.length = k1) (l3 : s2.length = n2) (l4 : m2.length = k2) :
    ((X.cell? ⟨g7, 0, none⟩ = some (.slice none 0 0) ∧ X.cell? ⟨g7, 1, none⟩ = some (.slice none 0 0) ∧ X.cell? ⟨g7, 2, none⟩ = some (.int .i64 0)) ∧ (X.frozen? ⟨g7, 0, none⟩ = false ∧ X.frozen? ⟨g7, 1, none⟩ = false ∧ X.frozen? ⟨g7, 2, none⟩ = false)) ∧
    (((set3 X g7 (.slice A1 n1 c1) (.slice B1 k1 e1) (.int .i64 0)).cell? ⟨g8, 0, none⟩ = some (.slice none 0 0) ∧ (set3 X g7 (.slice A1 n1 c1) (.slice B1 k1 e1) (.int .i64 0)).cell? ⟨g8, 1, none⟩ = some (.slice none 0 0) ∧ (set3 X g7 (.slice A1 n1 c1) (.slice B1 k1 e1) (.int .i64 0)).cell? ⟨g8, 2, none⟩ = some (.int .i64 0)) ∧
      ((set3 X g7 (.slice A1 n1 c1) (.slice B1 k1 e1) (.int .i64 0)).frozen? ⟨g8, 0, none⟩ = false ∧ (set3 X g7 (.slice A1 n1 c1) (.slice B1 k1 e1) (.int .i64 0)).frozen? ⟨g8, 1, none⟩ = false ∧ (set3 X g7 (.slice A1 n1 c1) (.slice B1 k1 e1) (.int .i64 0)).frozen? ⟨g8, 2, none⟩ = false)) ∧
    TwoB (set3 (set3 X g7 (.slice A1 n1 c1) (.slice B1 k1 e1) (.int .i64 0)) g8 (.slice A2 n2 c2) (.slice B2 k2 e2) (.int .i64 0)) B0 wq (s1, m1, 0) (s2, m2, 0) (.pointer (some ⟨g7, 0, none⟩)) (.pointer (some ⟨g8, 0, none⟩)) := by
  obtain ⟨⟨a0, a1, a2, a3⟩, af⟩ := h7
  obtain ⟨⟨b0, b1, b2, b3⟩, bf⟩ := h8
  have fz : ∀ i, (set3 X g7 (.slice A1 n1 c1) (.slice B1 k1 e1) (.int .i64 0)).frozen? ⟨g8, i, none⟩ = false := fun i => (World.frozen?_setCell _ _ _ _).trans ((World.frozen?_setCell _ _ _ _).trans ((World.frozen?_setCell _ _ _ _).trans (bf i)))
  have p0 := (set3_far X g7 (.slice A1 n1 c1) (.slice B1 k1 e1) (.int .i64 0) hne 0).trans b0
  have p1 := (set3_far X g7 (.slice A1 n1 c1) (.slice B1 k1 e1) (.int .i64 0) hne 1).trans b1
  have p2 := (set3_far X g7 (.slice A1 n1 c1) (.slice B1 k1 e1) (.int .i64 0) hne 2).trans b2
  refine ⟨⟨⟨a0, a1, a2⟩, af 0, af 1, af 2⟩, ⟨⟨p0, p1, p2⟩, fz 0, fz 1, fz 2⟩, ?_⟩
  obtain ⟨y0, y1, y2⟩ := set3_cells X g7 (.slice A1 n1 c1) (.slice B1 k1 e1) (.int .i64 0) a0 a1 a2
  obtain ⟨j0, j1, j2⟩ := set3_cells (set3 X g7 (.slice A1 n1 c1) (.slice B1 k1 e1) (.int .i64 0)) g8 (.slice A2 n2 c2) (.slice B2 k2 e2) (.int .i64 0) p0 p1 p2
  have key : ∀ {v : Value} {xs : List Int}, OI w3 WS v xs → OI (set3 (set3 X g7 (.slice A1 n1 c1) (.slice B1 k1 e1) (.int .i64 0)) g8 (.slice A2 n2 c2) (.slice B2 k2 e2) (.int .i64 0)) 0 v xs := fun {v xs} h => by
    have hn : ∀ q, v.ownBlock = some q → q ≠ g7 ∧ q ≠ g8 := fun q e => by have := World.ownsRow.lt h q e; exact hout q this.1 this.2
    exact (((h.keep hX).set3 (g := g7) (fun e => (hn _ e).1 rfl) _ _ _).set3 (g := g8) (fun e => (hn _ e).2 rfl) _ _ _).mono (Nat.zero_le _)
  subst l1; subst l2; subst l3; subst l4
  refine ⟨g7, g8, A1, c1, B1, e1, A2, c2, B2, e2, rfl, rfl, ⟨?_, ?_, ?_, by simp [World.setCell]; exact a3⟩, ⟨j0, j1, j2, by simp [World.setCell]; exact b3⟩, key o1, key o2, key o3, key o4, set3_below (set3_below hq hB7 _ _ _) hB8 _ _ _⟩
  · exact (set3_far _ g8 _ _ _ (fun e => hne e.symm) 0).trans y0
  · exact (set3_far _ g8 _ _ _ (fun e => hne e.symm) 1).trans y1
  · exact (set3_far _ g8 _ _ _ (fun e => hne e.symm) 2).trans y2
theorem twoB_of {w3 Wf wq : World} {B0 WS g7 g8 n1 c1 k1 e1 n2 c2 k2 e2 : Nat} {A1 B1 A2 B2 : Option Addr} {s1 m1 s2 m2 : List Int} (D7 : DB Wf g7 A1 n1 c1 B1 k1 e1 0) (D8 : DB Wf g8 A2 n2 c2 B2 k2 e2 0) (hq : Below B0 wq Wf) (key : ∀ (v : Value) (xs : List Int), OI w3 WS v xs → OI Wf 0 v xs)
    (o1 : OI w3 WS (.slice A1 n1 c1) s1) (o2 : OI w3 WS (.slice B1 k1 e1) m1) (o3 : OI w3 WS (.slice A2 n2 c2) s2) (o4 : OI w3 WS (.slice B2 k2 e2) m2) (l1 : s1.length = n1) (l2 : m1.length = k1) (l3 : s2.length = n2) (l4 : m2.length = k2) :
    TwoB Wf B0 wq (s1, m1, 0) (s2, m2, 0) (.pointer (some ⟨g7, 0, none⟩)) (.pointer (some ⟨g8, 0, none⟩)) := by
  subst l1; subst l2; subst l3; subst l4
  exact ⟨g7, g8, A1, c1, B1, e1, A2, c2, B2, e2, rfl, rfl, D7, D8, key _ _ o1, key _ _ o2, key _ _ o3, key _ _ o4, hq⟩
theorem DB.newS (w : World) (o : Obj) (A : Option Addr) (ns cs : Nat) (B : Option Addr) (nm cm : Nat) (lp : Int) : DB ((w.alloc o).alloc (dbox A ns cs B nm cm lp)) (w.heap.size + 1) A ns cs B nm cm lp := by
  have := DB.new (w.alloc o) A ns cs B nm cm lp
  rwa [show (w.alloc o).heap.size = w.heap.size + 1 by simp] at this
theorem twoB_cd {w3 wq : World} {B0 WS g7 n1 c1 k1 e1 n2 c2 k2 e2 : Nat} {A1 B1 A2 B2 : Option Addr} {s1 m1 s2 m2 : List Int} (hq : Below B0 wq w3) (hb : BxZ w3 g7) (hB : B0 ≤ g7) (hlt : g7 < WS) (o1 : OI w3 WS (.slice A1 n1 c1) s1) (o2 : OI w3 WS (.slice B1 k1 e1) m1) (o3 : OI w3 WS (.slice A2 n2 c2) s2) (o4 : OI w3 WS (.slice B2 k2 e2) m2) (l1 : s1.length = n1) (l2 : m1.length = k1) (l3 : s2.length = n2) (l4 : m2.length = k2) :
    TwoB ((set3 w3 g7 (.slice A1 n1 c1) (.slice B1 k1 e1) (.int .i64 0)).alloc (dbox A2 n2 c2 B2 k2 e2 0)) B0 wq (s1, m1, 0) (s2, m2, 0) (.pointer (some ⟨g7, 0, none⟩)) (.pointer (some ⟨w3.heap.size, 0, none⟩)) ∧
    TwoB ((set3 w3 g7 (.slice A2 n2 c2) (.slice B2 k2 e2) (.int .i64 0)).alloc (dbox A1 n1 c1 B1 k1 e1 0)) B0 wq (s1, m1, 0) (s2, m2, 0) (.pointer (some ⟨w3.heap.size, 0, none⟩)) (.pointer (some ⟨g7, 0, none⟩)) := by
  have hsz : ∀ a b c : Value, (set3 w3 g7 a b c).heap.size = w3.heap.size := fun a b c => by simp [World.setCell]
  have key : ∀ (a b c : Value) (o : Obj) (v : Value) (xs : List Int), OI w3 WS v xs → OI ((set3 w3 g7 a b c).alloc o) 0 v xs := fun a b c o v xs h =>
    ((h.set3 (g := g7) (fun e => by have := (World.ownsRow.lt h _ e).1; omega) a b c).alloc o).mono (Nat.zero_le _)
  have hd : ∀ A n c B k e, DB (set3 w3 g7 (.slice A n c) (.slice B k e) (.int .i64 0)) g7 A n c B k e 0 := fun A n c B k e => by
    obtain ⟨y0, y1, y2⟩ := set3_cells w3 g7 (.slice A n c) (.slice B k e) (.int .i64 0) hb.1.1 hb.1.2.1 hb.1.2.2.1
    exact ⟨y0, y1, y2, by rw [hsz]; exact hb.1.2.2.2⟩
  have hn : ∀ (a b c : Value) A n c' B k e, DB ((set3 w3 g7 a b c).alloc (dbox A n c' B k e 0)) w3.heap.size A n c' B k e 0 := fun a b c A n c' B k e => by
    have := DB.new (set3 w3 g7 a b c) A n c' B k e 0
    rwa [hsz] at this
  have hbl : ∀ (a b c : Value) (o : Obj), Below B0 wq ((set3 w3 g7 a b c).alloc o) := fun a b c o => (set3_below hq hB a b c).alloc (by rw [hsz]; exact Nat.le_of_lt (Nat.lt_of_le_of_lt hB hb.1.2.2.2)) o
  exact ⟨twoB_of ((hd _ _ _ _ _ _).keep (below_alloc _ _)) (hn _ _ _ _ _ _ _ _ _) (hbl _ _ _ _) (key _ _ _ _) o1 o2 o3 o4 l1 l2 l3 l4, twoB_of (hn _ _ _ _ _ _ _ _ _) ((hd _ _ _ _ _ _).keep (below_alloc _ _)) (hbl _ _ _ _) (key _ _ _ _) o1 o2 o3 o4 l1 l2 l3 l4⟩
theorem bxz_new2 (w : World) (o : Obj) : BxZ ((w.alloc o).alloc (.cells #[.slice none 0 0, .slice none 0 0, .int .i64 0] 24)) (w.heap.size + 1) := by
  have := bxz_new (w.alloc o)
  rwa [show (w.alloc o).heap.size = w.heap.size + 1 by simp] at this

theorem bx6 {w : World} {g : Nat} (h : BxZ w g) : (w.cell? ⟨g, 0, none⟩ = some (.slice none 0 0) ∧ w.cell? ⟨g, 1, none⟩ = some (.slice none 0 0) ∧ w.cell? ⟨g, 2, none⟩ = some (.int .i64 0) ∧ w.frozen? ⟨g, 0, none⟩ = false ∧ w.frozen? ⟨g, 1, none⟩ = false ∧ w.frozen? ⟨g, 2, none⟩ = false) := ⟨h.1.1, h.1.2.1, h.1.2.2.1, h.2 0, h.2 1, h.2 2⟩
theorem bx_w1 {w2 w3 : World} (hb3 : Below (w2.alloc (.cells #[.slice none 0 0, .slice none 0 0, .int .i64 0] 24)).drew.heap.size (w2.alloc (.cells #[.slice none 0 0, .slice none 0 0, .int .i64 0] 24)).drew w3) : BxZ w3 w2.heap.size := BxZ.kp (show BxZ (w2.alloc (.cells #[.slice none 0 0, .slice none 0 0, .int .i64 0] 24)).drew w2.heap.size from bxz_new w2) hb3
theorem bx_w2a {w2 w3 : World} (hb3 : Below ((w2.alloc (.cells #[.slice none 0 0, .slice none 0 0, .int .i64 0] 24)).alloc (.cells #[.slice none 0 0, .slice none 0 0, .int .i64 0] 24)).drew.heap.size ((w2.alloc (.cells #[.slice none 0 0, .slice none 0 0, .int .i64 0] 24)).alloc (.cells #[.slice none 0 0, .slice none 0 0, .int .i64 0] 24)).drew w3) : BxZ w3 w2.heap.size := BxZ.kp (show BxZ ((w2.alloc (.cells #[.slice none 0 0, .slice none 0 0, .int .i64 0] 24)).alloc (.cells #[.slice none 0 0, .slice none 0 0, .int .i64 0] 24)).drew w2.heap.size from (bxz_new w2).kp (below_alloc _ _).drew) hb3
theorem bx_w2b {w2 w3 : World} (hb3 : Below ((w2.alloc (.cells #[.slice none 0 0, .slice none 0 0, .int .i64 0] 24)).alloc (.cells #[.slice none 0 0, .slice none 0 0, .int .i64 0] 24)).drew.heap.size ((w2.alloc (.cells #[.slice none 0 0, .slice none 0 0, .int .i64 0] 24)).alloc (.cells #[.slice none 0 0, .slice none 0 0, .int .i64 0] 24)).drew w3) : BxZ w3 (w2.heap.size + 1) := BxZ.kp (show BxZ ((w2.alloc (.cells #[.slice none 0 0, .slice none 0 0, .int .i64 0] 24)).alloc (.cells #[.slice none 0 0, .slice none 0 0, .int .i64 0] 24)).drew (w2.heap.size + 1) from bxz_new2 w2 _) hb3
theorem bxz_set {w : World} {g h : Nat} (hb : BxZ w h) (hne : g ≠ h) (a b c : Value) : BxZ (set3 w g a b c) h :=
  ⟨⟨(set3_far w g a b c hne 0).trans hb.1.1, (set3_far w g a b c hne 1).trans hb.1.2.1, (set3_far w g a b c hne 2).trans hb.1.2.2.1, by simp [World.setCell]; exact hb.1.2.2.2⟩, fun i => (World.frozen?_setCell _ _ _ _).trans ((World.frozen?_setCell _ _ _ _).trans ((World.frozen?_setCell _ _ _ _).trans (hb.2 i)))⟩
theorem sz_w1 (w2 : World) : (w2.alloc (.cells #[.slice none 0 0, .slice none 0 0, .int .i64 0] 24)).drew.heap.size = w2.heap.size + 1 := by simp
theorem sz_w2 (w2 : World) : ((w2.alloc (.cells #[.slice none 0 0, .slice none 0 0, .int .i64 0] 24)).alloc (.cells #[.slice none 0 0, .slice none 0 0, .int .i64 0] 24)).drew.heap.size = w2.heap.size + 2 := by simp
theorem kw1 {w2 w3 : World} (hb3 : Below (w2.alloc (.cells #[.slice none 0 0, .slice none 0 0, .int .i64 0] 24)).drew.heap.size (w2.alloc (.cells #[.slice none 0 0, .slice none 0 0, .int .i64 0] 24)).drew w3) : (w3.cell? ⟨w2.heap.size, 0, none⟩ = some (.slice none 0 0) ∧ w3.cell? ⟨w2.heap.size, 1, none⟩ = some (.slice none 0 0) ∧ w3.cell? ⟨w2.heap.size, 2, none⟩ = some (.int .i64 0) ∧ w3.frozen? ⟨w2.heap.size, 0, none⟩ = false ∧ w3.frozen? ⟨w2.heap.size, 1, none⟩ = false ∧ w3.frozen? ⟨w2.heap.size, 2, none⟩ = false) ∧ w2.heap.size < w3.heap.size :=
  ⟨bx6 (bx_w1 hb3), (bx_w1 hb3).1.2.2.2⟩
theorem kw2 {w2 w3 : World} (hb3 : Below ((w2.alloc (.cells #[.slice none 0 0, .slice none 0 0, .int .i64 0] 24)).alloc (.cells #[.slice none 0 0, .slice none 0 0, .int .i64 0] 24)).drew.heap.size ((w2.alloc (.cells #[.slice none 0 0, .slice none 0 0, .int .i64 0] 24)).alloc (.cells #[.slice none 0 0, .slice none 0 0, .int .i64 0] 24)).drew w3) : (w3.cell? ⟨w2.heap.size, 0, none⟩ = some (.slice none 0 0) ∧ w3.cell? ⟨w2.heap.size, 1, none⟩ = some (.slice none 0 0) ∧ w3.cell? ⟨w2.heap.size, 2, none⟩ = some (.int .i64 0) ∧ w3.frozen? ⟨w2.heap.size, 0, none⟩ = false ∧ w3.frozen? ⟨w2.heap.size, 1, none⟩ = false ∧ w3.frozen? ⟨w2.heap.size, 2, none⟩ = false) ∧ (w3.cell? ⟨w2.heap.size + 1, 0, none⟩ = some (.slice none 0 0) ∧ w3.cell? ⟨w2.heap.size + 1, 1, none⟩ = some (.slice none 0 0) ∧ w3.cell? ⟨w2.heap.size + 1, 2, none⟩ = some (.int .i64 0) ∧ w3.frozen? ⟨w2.heap.size + 1, 0, none⟩ = false ∧ w3.frozen? ⟨w2.heap.size + 1, 1, none⟩ = false ∧ w3.frozen? ⟨w2.heap.size + 1, 2, none⟩ = false) ∧ (∀ a b c : Value, ((set3 w3 w2.heap.size a b c).cell? ⟨w2.heap.size + 1, 0, none⟩ = some (.slice none 0 0) ∧ (set3 w3 w2.heap.size a b c).cell? ⟨w2.heap.size + 1, 1, none⟩ = some (.slice none 0 0) ∧ (set3 w3 w2.heap.size a b c).cell? ⟨w2.heap.size + 1, 2, none⟩ = some (.int .i64 0) ∧ (set3 w3 w2.heap.size a b c).frozen? ⟨w2.heap.size + 1, 0, none⟩ = false ∧ (set3 w3 w2.heap.size a b c).frozen? ⟨w2.heap.size + 1, 1, none⟩ = false ∧ (set3 w3 w2.heap.size a b c).frozen? ⟨w2.heap.size + 1, 2, none⟩ = false)) ∧ (∀ a b c : Value, ((set3 w3 (w2.heap.size + 1) a b c).cell? ⟨w2.heap.size, 0, none⟩ = some (.slice none 0 0) ∧ (set3 w3 (w2.heap.size + 1) a b c).cell? ⟨w2.heap.size, 1, none⟩ = some (.slice none 0 0) ∧ (set3 w3 (w2.heap.size + 1) a b c).cell? ⟨w2.heap.size, 2, none⟩ = some (.int .i64 0) ∧ (set3 w3 (w2.heap.size + 1) a b c).frozen? ⟨w2.heap.size, 0, none⟩ = false ∧ (set3 w3 (w2.heap.size + 1) a b c).frozen? ⟨w2.heap.size, 1, none⟩ = false ∧ (set3 w3 (w2.heap.size + 1) a b c).frozen? ⟨w2.heap.size, 2, none⟩ = false)) :=
  ⟨bx6 (bx_w2a hb3), bx6 (bx_w2b hb3), fun a b c => bx6 (bxz_set (bx_w2b hb3) (by omega) a b c), fun a b c => bx6 (bxz_set (bx_w2a hb3) (by omega) a b c)⟩
theorem two_a {w2 w3 : World} {A1 B1 A2 B2 : Option Addr} {n1 c1 k1 e1 n2 c2 k2 e2 : Nat} {s1 m1 s2 m2 : List Int} (hb3 : Below ((w2.alloc (.cells #[.slice none 0 0, .slice none 0 0, .int .i64 0] 24)).alloc (.cells #[.slice none 0 0, .slice none 0 0, .int .i64 0] 24)).drew.heap.size ((w2.alloc (.cells #[.slice none 0 0, .slice none 0 0, .int .i64 0] 24)).alloc (.cells #[.slice none 0 0, .slice none 0 0, .int .i64 0] 24)).drew w3) (o1 : OI w3 ((w2.alloc (.cells #[.slice none 0 0, .slice none 0 0, .int .i64 0] 24)).alloc (.cells #[.slice none 0 0, .slice none 0 0, .int .i64 0] 24)).drew.heap.size (.slice A1 n1 c1) s1) (o2 : OI w3 ((w2.alloc (.cells #[.slice none 0 0, .slice none 0 0, .int .i64 0] 24)).alloc (.cells #[.slice none 0 0, .slice none 0 0, .int .i64 0] 24)).drew.heap.size (.slice B1 k1 e1) m1) (o3 : OI w3 ((w2.alloc (.cells #[.slice none 0 0, .slice none 0 0, .int .i64 0] 24)).alloc (.cells #[.slice none 0 0, .slice none 0 0, .int .i64 0] 24)).drew.heap.size (.slice A2 n2 c2) s2) (o4 : OI w3 ((w2.alloc (.cells #[.slice none 0 0, .slice none 0 0, .int .i64 0] 24)).alloc (.cells #[.slice none 0 0, .slice none 0 0, .int .i64 0] 24)).drew.heap.size (.slice B2 k2 e2) m2) (l1 : s1.length = n1) (l2 : m1.length = k1) (l3 : s2.length = n2) (l4 : m2.length = k2) : TwoB (set3 (set3 w3 w2.heap.size (.slice A1 n1 c1) (.slice B1 k1 e1) (.int .i64 0)) (w2.heap.size + 1) (.slice A2 n2 c2) (.slice B2 k2 e2) (.int .i64 0)) w2.heap.size w2 (s1, m1, 0) (s2, m2, 0) (.pointer (some ⟨w2.heap.size, 0, none⟩)) (.pointer (some ⟨w2.heap.size + 1, 0, none⟩)) :=
  (twoB_mk (below_step ((below_step (below_alloc w2 _) (below_alloc _ _)).drew) hb3) (Below.refl _ _) (bx_w2a hb3) (bx_w2b hb3) (by omega) (Nat.le_refl _) (by omega) o1 o2 o3 o4 (fun g h1 h2 => by have := sz_w2 w2; omega) l1 l2 l3 l4).2.2
theorem two_b {w2 w3 : World} {A1 B1 A2 B2 : Option Addr} {n1 c1 k1 e1 n2 c2 k2 e2 : Nat} {s1 m1 s2 m2 : List Int} (hb3 : Below ((w2.alloc (.cells #[.slice none 0 0, .slice none 0 0, .int .i64 0] 24)).alloc (.cells #[.slice none 0 0, .slice none 0 0, .int .i64 0] 24)).drew.heap.size ((w2.alloc (.cells #[.slice none 0 0, .slice none 0 0, .int .i64 0] 24)).alloc (.cells #[.slice none 0 0, .slice none 0 0, .int .i64 0] 24)).drew w3) (o1 : OI w3 ((w2.alloc (.cells #[.slice none 0 0, .slice none 0 0, .int .i64 0] 24)).alloc (.cells #[.slice none 0 0, .slice none 0 0, .int .i64 0] 24)).drew.heap.size (.slice A1 n1 c1) s1) (o2 : OI w3 ((w2.alloc (.cells #[.slice none 0 0, .slice none 0 0, .int .i64 0] 24)).alloc (.cells #[.slice none 0 0, .slice none 0 0, .int .i64 0] 24)).drew.heap.size (.slice B1 k1 e1) m1) (o3 : OI w3 ((w2.alloc (.cells #[.slice none 0 0, .slice none 0 0, .int .i64 0] 24)).alloc (.cells #[.slice none 0 0, .slice none 0 0, .int .i64 0] 24)).drew.heap.size (.slice A2 n2 c2) s2) (o4 : OI w3 ((w2.alloc (.cells #[.slice none 0 0, .slice none 0 0, .int .i64 0] 24)).alloc (.cells #[.slice none 0 0, .slice none 0 0, .int .i64 0] 24)).drew.heap.size (.slice B2 k2 e2) m2) (l1 : s1.length = n1) (l2 : m1.length = k1) (l3 : s2.length = n2) (l4 : m2.length = k2) : TwoB (set3 (set3 w3 (w2.heap.size + 1) (.slice A1 n1 c1) (.slice B1 k1 e1) (.int .i64 0)) w2.heap.size (.slice A2 n2 c2) (.slice B2 k2 e2) (.int .i64 0)) w2.heap.size w2 (s1, m1, 0) (s2, m2, 0) (.pointer (some ⟨w2.heap.size + 1, 0, none⟩)) (.pointer (some ⟨w2.heap.size, 0, none⟩)) :=
  (twoB_mk (below_step ((below_step (below_alloc w2 _) (below_alloc _ _)).drew) hb3) (Below.refl _ _) (bx_w2b hb3) (bx_w2a hb3) (by omega) (by omega) (Nat.le_refl _) o1 o2 o3 o4 (fun g h1 h2 => by have := sz_w2 w2; omega) l1 l2 l3 l4).2.2
theorem two_c {w2 w3 : World} {A1 B1 A2 B2 : Option Addr} {n1 c1 k1 e1 n2 c2 k2 e2 : Nat} {s1 m1 s2 m2 : List Int} (hb3 : Below (w2.alloc (.cells #[.slice none 0 0, .slice none 0 0, .int .i64 0] 24)).drew.heap.size (w2.alloc (.cells #[.slice none 0 0, .slice none 0 0, .int .i64 0] 24)).drew w3) (o1 : OI w3 (w2.alloc (.cells #[.slice none 0 0, .slice none 0 0, .int .i64 0] 24)).drew.heap.size (.slice A1 n1 c1) s1) (o2 : OI w3 (w2.alloc (.cells #[.slice none 0 0, .slice none 0 0, .int .i64 0] 24)).drew.heap.size (.slice B1 k1 e1) m1) (o3 : OI w3 (w2.alloc (.cells #[.slice none 0 0, .slice none 0 0, .int .i64 0] 24)).drew.heap.size (.slice A2 n2 c2) s2) (o4 : OI w3 (w2.alloc (.cells #[.slice none 0 0, .slice none 0 0, .int .i64 0] 24)).drew.heap.size (.slice B2 k2 e2) m2) (l1 : s1.length = n1) (l2 : m1.length = k1) (l3 : s2.length = n2) (l4 : m2.length = k2) : TwoB ((set3 w3 w2.heap.size (.slice A1 n1 c1) (.slice B1 k1 e1) (.int .i64 0)).alloc (.cells #[.slice A2 n2 c2, .slice B2 k2 e2, .int .i64 0] 24)) w2.heap.size w2 (s1, m1, 0) (s2, m2, 0) (.pointer (some ⟨w2.heap.size, 0, none⟩)) (.pointer (some ⟨w3.heap.size, 0, none⟩)) :=
  (twoB_cd (below_step (below_alloc w2 _).drew hb3) (bx_w1 hb3) (Nat.le_refl _) (by have := sz_w1 w2; omega) o1 o2 o3 o4 l1 l2 l3 l4).1
theorem two_d {w2 w3 : World} {A1 B1 A2 B2 : Option Addr} {n1 c1 k1 e1 n2 c2 k2 e2 : Nat} {s1 m1 s2 m2 : List Int} (hb3 : Below (w2.alloc (.cells #[.slice none 0 0, .slice none 0 0, .int .i64 0] 24)).drew.heap.size (w2.alloc (.cells #[.slice none 0 0, .slice none 0 0, .int .i64 0] 24)).drew w3) (o1 : OI w3 (w2.alloc (.cells #[.slice none 0 0, .slice none 0 0, .int .i64 0] 24)).drew.heap.size (.slice A1 n1 c1) s1) (o2 : OI w3 (w2.alloc (.cells #[.slice none 0 0, .slice none 0 0, .int .i64 0] 24)).drew.heap.size (.slice B1 k1 e1) m1) (o3 : OI w3 (w2.alloc (.cells #[.slice none 0 0, .slice none 0 0, .int .i64 0] 24)).drew.heap.size (.slice A2 n2 c2) s2) (o4 : OI w3 (w2.alloc (.cells #[.slice none 0 0, .slice none 0 0, .int .i64 0] 24)).drew.heap.size (.slice B2 k2 e2) m2) (l1 : s1.length = n1) (l2 : m1.length = k1) (l3 : s2.length = n2) (l4 : m2.length = k2) : TwoB ((set3 w3 w2.heap.size (.slice A2 n2 c2) (.slice B2 k2 e2) (.int .i64 0)).alloc (.cells #[.slice A1 n1 c1, .slice B1 k1 e1, .int .i64 0] 24)) w2.heap.size w2 (s1, m1, 0) (s2, m2, 0) (.pointer (some ⟨w3.heap.size, 0, none⟩)) (.pointer (some ⟨w2.heap.size, 0, none⟩)) :=
  (twoB_cd (below_step (below_alloc w2 _).drew hb3) (bx_w1 hb3) (Nat.le_refl _) (by have := sz_w1 w2; omega) o1 o2 o3 o4 l1 l2 l3 l4).2
theorem two_e {w2 w3 : World} {A1 B1 A2 B2 : Option Addr} {n1 c1 k1 e1 n2 c2 k2 e2 : Nat} {s1 m1 s2 m2 : List Int} (hb3 : Below w2.drew.heap.size w2.drew w3) (o1 : OI w3 w2.drew.heap.size (.slice A1 n1 c1) s1) (o2 : OI w3 w2.drew.heap.size (.slice B1 k1 e1) m1) (o3 : OI w3 w2.drew.heap.size (.slice A2 n2 c2) s2) (o4 : OI w3 w2.drew.heap.size (.slice B2 k2 e2) m2) (l1 : s1.length = n1) (l2 : m1.length = k1) (l3 : s2.length = n2) (l4 : m2.length = k2) : TwoB ((w3.alloc (.cells #[.slice A1 n1 c1, .slice B1 k1 e1, .int .i64 0] 24)).alloc (.cells #[.slice A2 n2 c2, .slice B2 k2 e2, .int .i64 0] 24)) w2.heap.size w2 (s1, m1, 0) (s2, m2, 0) (.pointer (some ⟨w3.heap.size, 0, none⟩)) (.pointer (some ⟨w3.heap.size + 1, 0, none⟩)) :=
  twoB_of ((DB.new w3 A1 n1 c1 B1 k1 e1 0).keep (below_alloc _ _)) (DB.newS w3 _ A2 n2 c2 B2 k2 e2 0) (below_step (below_step (Below.refl w2.heap.size w2).drew hb3) (below_step (below_alloc w3 _) (below_alloc _ _))) (fun v xs h => (h.keep (below_step (below_alloc w3 _) (below_alloc _ _))).mono (Nat.zero_le _)) o1 o2 o3 o4 l1 l2 l3 l4
theorem two_f {w2 w3 : World} {A1 B1 A2 B2 : Option Addr} {n1 c1 k1 e1 n2 c2 k2 e2 : Nat} {s1 m1 s2 m2 : List Int} (hb3 : Below w2.drew.heap.size w2.drew w3) (o1 : OI w3 w2.drew.heap.size (.slice A1 n1 c1) s1) (o2 : OI w3 w2.drew.heap.size (.slice B1 k1 e1) m1) (o3 : OI w3 w2.drew.heap.size (.slice A2 n2 c2) s2) (o4 : OI w3 w2.drew.heap.size (.slice B2 k2 e2) m2) (l1 : s1.length = n1) (l2 : m1.length = k1) (l3 : s2.length = n2) (l4 : m2.length = k2) : TwoB ((w3.alloc (.cells #[.slice A2 n2 c2, .slice B2 k2 e2, .int .i64 0] 24)).alloc (.cells #[.slice A1 n1 c1, .slice B1 k1 e1, .int .i64 0] 24)) w2.heap.size w2 (s1, m1, 0) (s2, m2, 0) (.pointer (some ⟨w3.heap.size + 1, 0, none⟩)) (.pointer (some ⟨w3.heap.size, 0, none⟩)) :=
  twoB_of (DB.newS w3 _ A1 n1 c1 B1 k1 e1 0) ((DB.new w3 A2 n2 c2 B2 k2 e2 0).keep (below_alloc _ _)) (below_step (below_step (Below.refl w2.heap.size w2).drew hb3) (below_step (below_alloc w3 _) (below_alloc _ _))) (fun v xs h => (h.keep (below_step (below_alloc w3 _) (below_alloc _ _))).mono (Nat.zero_le _)) o1 o2 o3 o4 l1 l2 l3 l4


/-- The five cells that the region reads. -/
def LAt (W : World) (gb gP : Nat) (a b c p q : Value) : Prop := (W.cell? ⟨gb, 0, none⟩ = some a ∧ W.cell? ⟨gb, 1, none⟩ = some b ∧ W.cell? ⟨gb, 2, none⟩ = some c ∧ W.cell? ⟨gP, 0, none⟩ = some p ∧ W.cell? ⟨gP, 1, none⟩ = some q) ∧ gb < W.heap.size ∧ gP < W.heap.size
theorem LAt.keep {W W' : World} {gb gP : Nat} {a b c p q : Value} (h : LAt W gb gP a b c p q) (hb : Below W.heap.size W W') : LAt W' gb gP a b c p q :=
  ⟨⟨(hb.cell (p := ⟨gb, 0, none⟩) h.2.1).trans h.1.1, (hb.cell (p := ⟨gb, 1, none⟩) h.2.1).trans h.1.2.1, (hb.cell (p := ⟨gb, 2, none⟩) h.2.1).trans h.1.2.2.1, (hb.cell (p := ⟨gP, 0, none⟩) h.2.2).trans h.1.2.2.2.1, (hb.cell (p := ⟨gP, 1, none⟩) h.2.2).trans h.1.2.2.2.2⟩, Nat.lt_of_lt_of_le h.2.1 hb.size, Nat.lt_of_lt_of_le h.2.2 hb.size⟩
theorem LAt.al {W : World} {gb gP : Nat} {a b c p q : Value} (h : LAt W gb gP a b c p q) (o : Obj) : LAt (W.alloc o) gb gP a b c p q := h.keep (below_alloc W o)
theorem LAt.set {W : World} {gb gP g : Nat} {a b c p q : Value} (h : LAt W gb gP a b c p q) (h1 : g ≠ gb) (h2 : g ≠ gP) (x y z : Value) : LAt (set3 W g x y z) gb gP a b c p q :=
  ⟨⟨(set3_far W g x y z h1 0).trans h.1.1, (set3_far W g x y z h1 1).trans h.1.2.1, (set3_far W g x y z h1 2).trans h.1.2.2.1, (set3_far W g x y z h2 0).trans h.1.2.2.2.1, (set3_far W g x y z h2 1).trans h.1.2.2.2.2⟩, by simp [World.setCell]; exact h.2.1, by simp [World.setCell]; exact h.2.2⟩
theorem LAt.st {W : World} {gb gP : Nat} {a b c p q : Value} (h : LAt W gb gP a b c p q) : W.cell? ⟨gb, 0, none⟩ = some a ∧ W.cell? ⟨gb, 1, none⟩ = some b ∧ W.cell? ⟨gb, 2, none⟩ = some c ∧ W.cell? ⟨gP, 0, none⟩ = some p ∧ W.cell? ⟨gP, 1, none⟩ = some q := h.1

set_option maxHeartbeats 12800000 in
set_option maxRecDepth 100000 in
theorem factorsOf_any (f : Nat) : 0 < f → ∀ (V : Option Addr) (L c : Nat) (ds : List Dg) (ls : List (List Pl)) (w : World), ODs w 0 (.slice V L c) ds → ds.length = L → L ≤ 1000 → (ls.map List.length).sum ≤ 100000 → (∀ d ∈ ds, d.m.length ≤ d.cm ∧ d.cm ≤ 9223372036854775807) → ds.map (fun d => facF f d.pl) = ls.map some →
    Calls Try.prog 86 #[.slice V L c] w (SpPost w ls.flatten) := by
  induction f with
  | zero =>
    intro h0; omega
  | succ f ih =>
    intro _ V L c ds ls w hV hL hLn hlen hcap hF
    have hLi : (L : Int) ≤ 1000 := by omega
    have HV := Lib.hid hV
    have HL := Lib.hid hL
    have HF := Lib.hid hF
    have HCAP := Lib.hid hcap
    have hll : ls.length = L := by have := congrArg List.length hF; rw [List.length_map, List.length_map] at this; omega
    have HLL := Lib.hid hll
    have HIH := Lib.hid ih
    have hsum : ∀ k, ((ls.take k).map List.length).sum ≤ 100000 := fun k => by
      have e : ((ls.take k).map List.length).sum + ((ls.drop k).map List.length).sum = (ls.map List.length).sum := by rw [← List.sum_append, ← List.map_append, List.take_append_drop]
      omega
    have HSUM := Lib.hid hsum
    clear hV hL hF hcap hll ih hlen hsum
    go_enter Try.func86, Try.ntmps86
    go_wp2
    go_loopw [3, 5, 6, 7, 8, 9, 12] (fun v _ _ _ _ _ i wr => ∃ (k : Nat) (es : List Dg), k ≤ L ∧ i = .int .i64 k ∧ Below w.heap.size w wr ∧ ODs wr w.heap.size v es ∧ es.map Dg.pl = (ls.take k).flatten) (fun _ _ _ _ _ _ i _ => L - (intOf i).toNat)
    case atStart => exact ⟨0, [], by omega, rfl, Below.refl _ _, ODs.nil _ _, rfl⟩
    case round =>
      obtain ⟨k, es, hk, rfl, hbr, hO, hP⟩ := hrel
      have hk0 : (0 : Int) ≤ (k : Int) := Int.natCast_nonneg _
      have hel : es.length ≤ 100000 := by
        have h1 := congrArg List.length hP
        rw [List.length_map, List.length_flatten] at h1
        have := HSUM.out k; omega
      by_cases hkn : k < L
      · have hk1 : (k : Int) < (L : Int) := by omega
        have hkd : k < ds.length := by rw [HL.out]; exact hkn
        have hkl : k < ls.length := by rw [HLL.out]; exact hkn
        have oV := HV.out.keep hbr
        obtain ⟨g, cap, hsl⟩ : ∃ g cap, Value.slice V L c = .slice (some ⟨g, 0, none⟩) L cap := by
          rcases oV.form with ⟨_, e⟩ | ⟨g, cap, e, _⟩
          · rw [e] at hkd; simp at hkd
          · exact ⟨g, cap, by rw [e, HL.out]⟩
        injection hsl with e1 e2 e3
        subst e1; subst e3
        clear e2
        obtain ⟨c0, c1, c2⟩ := oV.cell k hkd
        have hok := oV.2 ds[k] (List.getElem_mem hkd)
        obtain ⟨hc1, hc2⟩ := HCAP.out ds[k] (List.getElem_mem hkd)
        have hfk : facF (f + 1) ds[k].pl = some ls[k] := by
          have h1 : (ds.map fun d => facF (f + 1) d.pl)[k]? = (ls.map some)[k]? := by rw [HF.out]
          simpa [hkd, hkl] using h1
        have htk : (ls.take (k + 1)).flatten = (ls.take k).flatten ++ ls[k] := by rw [List.take_succ_eq_append_getElem hkl, List.flatten_append]; simp
        obtain ⟨d, hd⟩ : ∃ d, ds[k] = d := ⟨_, rfl⟩
        obtain ⟨lk, hlk⟩ : ∃ lk, ls[k] = lk := ⟨_, rfl⟩
        rw [hd] at c0 c1 c2 hok hc1 hc2 hfk
        rw [hlk] at hfk htk
        obtain ⟨A, cs, B, cm, lp, s, m⟩ := d
        simp only at c0 c1 c2 hc1 hc2
        obtain ⟨hv, hcase⟩ := facF_cases hfk
        obtain ⟨ns, hns⟩ : ∃ ns, s.length = ns := ⟨_, rfl⟩
        obtain ⟨nm, hnm⟩ : ∃ nm, m.length = nm := ⟨_, rfl⟩
        have hok1 : OI wr 0 (.slice A ns cs) s := by rw [← hns]; exact hok.1
        have hok2 : OI wr 0 (.slice B nm cm) m := by rw [← hnm]; exact hok.2
        rw [hns] at c0
        rw [hnm] at c1 hc1
        have hdv := dv_of hok1.ri hok2.ri hv
        have hbx := below_alloc wr (.cells #[.slice A ns cs, .slice B nm cm, .int .i64 lp] 24)
        have hdb := DB.new wr A ns cs B nm cm lp
        have HDV := Lib.hid hdv
        have HOK := Lib.hid (And.intro hok1 hok2)
        have HTK := Lib.hid htk
        have HO := Lib.hid hO
        have HP := Lib.hid hP
        have HBR := Lib.hid hbr
        have HVV := Lib.hid hv
        have HNS := Lib.hid (And.intro hns hnm)
        have CC := Lib.hid (cuts_any A B ns cs nm cm lp s m _ (hdv.keep hbx))
        unfold dbox at hdb
        clear oV hok hok1 hok2 hdv htk hO hP hbr hv hfk hd hlk hns hnm
        obtain ⟨ps, hps⟩ : ∃ ps, cutsM s m lp = ps := ⟨_, rfl⟩
        rw [hps] at CC hcase
        go_upto_region 5 with fail
        generalize wr.alloc (.cells #[.slice A ns cs, .slice B nm cm, .int .i64 lp] 24) = w1 at hbx hdb CC ⊢
        obtain ⟨gb, hgb⟩ : ∃ gb, wr.heap.size = gb := ⟨_, rfl⟩
        rw [hgb] at hdb ⊢
        obtain ⟨d0, d1, d2, dlt⟩ := hdb
        have HGB := Lib.hid hgb
        clear hgb
        go_upto_region 6 with ((go_at_call 23; ((with_reducible refine CC.out.mono ?_); rintro e w2 ⟨v, rfl, oP, hb2⟩)))
        have x0 := (hb2.cell (p := ⟨gb, 0, none⟩) dlt).trans d0
        have x1 := (hb2.cell (p := ⟨gb, 1, none⟩) dlt).trans d1
        have x2 := (hb2.cell (p := ⟨gb, 2, none⟩) dlt).trans d2
        have hdl2 := Nat.lt_of_lt_of_le dlt hb2.size
        have hbr2 := below_step hbx hb2
        rcases hcase with ⟨rfl, rfl⟩ | ⟨x, y, r, l1, l2, rfl, hve, hf1, hf2, hl12, rfl⟩
        · obtain ⟨PA, Pc, rfl⟩ : ∃ PA Pc, v = .slice PA 0 Pc := by
            rcases oP.form with ⟨e, _⟩ | ⟨g', cap', e, _⟩
            · exact ⟨_, _, e⟩
            · exact ⟨_, _, e⟩
          have hel2 : es.length + 1 ≤ 1000000 := by omega
          clear oP hps
          go_wp2_with (
            (at_builtin
             refine wpList_append_dgs rfl (.tmp 21) (.tmp 23) rfl w.heap.size _ es rfl ((HO.out.keep hbr2).keep (below_alloc _ _)) w2.heap.size 1 1 [⟨A, cs, B, cm, lp, s, m⟩] rfl rfl ?c1 ?c2 hel2 ?c3 ?_
             case c1 =>
               intro j u hj
               rw [World.cell?_alloc_at _ _ _ _ rfl]
               obtain ⟨e1, e2⟩ := HNS.out
               simp only [dgs, Dg.cells, List.flatMap_cons, List.flatMap_nil, List.append_nil, e1, e2] at hj
               rw [← hj]
               simp
             case c2 =>
               intro d hd
               simp only [List.mem_singleton] at hd
               subst hd
               obtain ⟨e1, e2⟩ := HNS.out
               obtain ⟨o1, o2⟩ := HOK.out
               refine ⟨?_, ?_⟩
               · show OI _ 0 (.slice A s.length cs) s
                 rw [e1]; exact (o1.keep hbr2).alloc _
               · show OI _ 0 (.slice B m.length cm) m
                 rw [e2]; exact (o2.keep hbr2).alloc _
             case c3 => have h1 := HBR.out.size; have h2 := hbr2.size; simp; omega
             intro v2 w4 hO2 hg2))
          have hb4 : Below w.heap.size w w4 := (below_step (below_step HBR.out hbr2) (below_alloc w2 _)).grown hg2 (by have h1 := HBR.out.size; have h2 := hbr2.size; simp; omega) (fun q hq => (World.ownsRow.lt HO.out.1 q hq).1)
          go_roundw
          case rel => exact ⟨k + 1, _, by omega, by go_num, hb4, hO2, by rw [HTK.out, List.map_append, HP.out]; rfl⟩
          case measure => simp [intOf]; omega
        · have hmem : (x, y) ∈ cutsM s m lp := by rw [hps]; exact List.mem_cons_self
          obtain ⟨_, hx, hy, hox, hoy, hxy, _⟩ := cuts_mem hmem
          obtain ⟨gP, Pc, rfl⟩ : ∃ gP Pc, v = .slice (some ⟨gP, 0, none⟩) (r.length + 1) Pc := by
            rcases oP.form with ⟨_, e⟩ | ⟨g', cap', e, _⟩
            · cases e
            · exact ⟨_, _, e⟩
          obtain ⟨z0, z1⟩ := oP.cell 0 (by simp)
          simp only [Nat.zero_mul, Nat.zero_add] at z0 z1
          have z0 : w2.cell? ⟨gP, 0, none⟩ = some (.int .i64 (x : Int)) := z0
          have z1 : w2.cell? ⟨gP, 1, none⟩ = some (.int .i64 (y : Int)) := z1
          have hgP : gP < w2.heap.size := World.block_lt_of_cell? w2 _ z0
          have CF : Hid (∀ W, Below w2.heap.size w2 W → Calls Try.prog 37 #[dval A ns cs B nm cm lp, .int .i64 (x : Nat), .int .i64 (y : Nat)] W
              (FcPost W (cutP s m ns x y x).1.length (cutP s m ns x y y).1.length (cutP s m ns x y x).1 (cutP s m ns x y x).2.1 (cutP s m ns x y y).1 (cutP s m ns x y y).2.1)) := Lib.hid fun W hW => by
            have h := factor_yes A B ns cs nm cm x y lp s m W (HDV.out.keep (hbr2.trans (hW.mono hbr2.size))) HVV.out (by rw [← HNS.out.2]; exact hx) (by rw [← HNS.out.2]; exact hy) hox hoy (by rw [Nat.min_eq_left (by omega), Nat.max_eq_right (by omega)]; exact hmem) hve
            unfold cutP
            simp only [ptS_len]
            exact h
          obtain ⟨p1, hp1⟩ : ∃ p1, cutP s m ns x y x = p1 := ⟨_, rfl⟩
          obtain ⟨p2, hp2⟩ : ∃ p2, cutP s m ns x y y = p2 := ⟨_, rfl⟩
          have hl1 : p1.2.1.length = 4 * p1.1.length ∧ p1.2.2 = 0 := by rw [← hp1]; unfold cutP; simp [ptS_len, ptM_len]
          have hl2 : p2.2.1.length = 4 * p2.1.length ∧ p2.2.2 = 0 := by rw [← hp2]; unfold cutP; simp [ptS_len, ptM_len]
          rw [hp1, hp2] at CF
          have HP12 := Lib.hid (And.intro hl1 hl2)
          have hf1' : facF f p1 = some l1 := by rw [← hp1, ← HNS.out.1]; exact hf1
          have hf2' : facF f p2 = some l2 := by rw [← hp2, ← HNS.out.1]; exact hf2
          have HFF := Lib.hid (And.intro hf1' hf2')
          obtain ⟨s1', m1', lq1⟩ := p1
          obtain ⟨s2', m2', lq2⟩ := p2
          simp only at hl1 hl2 CF
          have HBR2 := Lib.hid hbr2
          have hbD : Below w2.heap.size w2 w2.drew := (Below.refl _ _).drew
          clear hf1 hf2 hf1' hf2' hp1 hp2 hl1 hl2 hmem hx hy hox hoy oP hps hve hbx hb2 d0 d1 d2 hbr2
          go_upto_region 8 with fail
          go_cut [7, 8, 9] from 25 to 38 (fun v7 v8 v9 wX => v9 = .int .i64 0 ∧ TwoB wX w2.heap.size w2 (s1', m1', 0) (s2', m2', 0) v7 v8)
          case first =>
            have hbD0 := hbD
            have hbD1 : Below w2.heap.size w2 (w2.alloc (.cells #[.slice none 0 0, .slice none 0 0, .int .i64 0] 24)).drew := (below_alloc w2 _).drew
            have hbD2 : Below w2.heap.size w2 ((w2.alloc (.cells #[.slice none 0 0, .slice none 0 0, .int .i64 0] 24)).alloc (.cells #[.slice none 0 0, .slice none 0 0, .int .i64 0] 24)).drew := (below_step (below_alloc w2 _) (below_alloc _ _)).drew
            have HQ1 : Hid (m1'.length = 4 * s1'.length) := Lib.hid HP12.out.1.1
            have HQ2 : Hid (m2'.length = 4 * s2'.length) := Lib.hid HP12.out.2.1
            have CF0 := Lib.hid (CF.out _ hbD0)
            have CF1 := Lib.hid (CF.out _ hbD1)
            have CF2 := Lib.hid (CF.out _ hbD2)
            have LA : Hid (LAt w2 gb gP (.slice A ns cs) (.slice B nm cm) (.int .i64 lp) (.int .i64 (x : Int)) (.int .i64 (y : Int))) := Lib.hid ⟨⟨x0, x1, x2, z0, z1⟩, hdl2, hgP⟩
            have L0 : Hid (w2.drew.cell? ⟨gb, 0, none⟩ = some (.slice A ns cs) ∧ w2.drew.cell? ⟨gb, 1, none⟩ = some (.slice B nm cm) ∧ w2.drew.cell? ⟨gb, 2, none⟩ = some (.int .i64 lp) ∧ w2.drew.cell? ⟨gP, 0, none⟩ = some (.int .i64 (x : Int)) ∧ w2.drew.cell? ⟨gP, 1, none⟩ = some (.int .i64 (y : Int))) := Lib.hid (LA.out.keep hbD0).st
            have L1 : Hid ((w2.alloc (.cells #[.slice none 0 0, .slice none 0 0, .int .i64 0] 24)).drew.cell? ⟨gb, 0, none⟩ = some (.slice A ns cs) ∧ (w2.alloc (.cells #[.slice none 0 0, .slice none 0 0, .int .i64 0] 24)).drew.cell? ⟨gb, 1, none⟩ = some (.slice B nm cm) ∧ (w2.alloc (.cells #[.slice none 0 0, .slice none 0 0, .int .i64 0] 24)).drew.cell? ⟨gb, 2, none⟩ = some (.int .i64 lp) ∧ (w2.alloc (.cells #[.slice none 0 0, .slice none 0 0, .int .i64 0] 24)).drew.cell? ⟨gP, 0, none⟩ = some (.int .i64 (x : Int)) ∧ (w2.alloc (.cells #[.slice none 0 0, .slice none 0 0, .int .i64 0] 24)).drew.cell? ⟨gP, 1, none⟩ = some (.int .i64 (y : Int))) := Lib.hid (LA.out.keep hbD1).st
            have L2 : Hid (((w2.alloc (.cells #[.slice none 0 0, .slice none 0 0, .int .i64 0] 24)).alloc (.cells #[.slice none 0 0, .slice none 0 0, .int .i64 0] 24)).drew.cell? ⟨gb, 0, none⟩ = some (.slice A ns cs) ∧ ((w2.alloc (.cells #[.slice none 0 0, .slice none 0 0, .int .i64 0] 24)).alloc (.cells #[.slice none 0 0, .slice none 0 0, .int .i64 0] 24)).drew.cell? ⟨gb, 1, none⟩ = some (.slice B nm cm) ∧ ((w2.alloc (.cells #[.slice none 0 0, .slice none 0 0, .int .i64 0] 24)).alloc (.cells #[.slice none 0 0, .slice none 0 0, .int .i64 0] 24)).drew.cell? ⟨gb, 2, none⟩ = some (.int .i64 lp) ∧ ((w2.alloc (.cells #[.slice none 0 0, .slice none 0 0, .int .i64 0] 24)).alloc (.cells #[.slice none 0 0, .slice none 0 0, .int .i64 0] 24)).drew.cell? ⟨gP, 0, none⟩ = some (.int .i64 (x : Int)) ∧ ((w2.alloc (.cells #[.slice none 0 0, .slice none 0 0, .int .i64 0] 24)).alloc (.cells #[.slice none 0 0, .slice none 0 0, .int .i64 0] 24)).drew.cell? ⟨gP, 1, none⟩ = some (.int .i64 (y : Int))) := Lib.hid (LA.out.keep hbD2).st
            have na : w2.heap.size ≠ gb := by omega
            have nb : w2.heap.size ≠ gP := by omega
            have nc : w2.heap.size + 1 ≠ gb := by omega
            have nd : w2.heap.size + 1 ≠ gP := by omega
            clear CF hbD c0 c1 c2 hc1 hc2 hel hk hk0 hk1 hkd hkl hLi
            go_region_held3 (fun w' => w'.cell? ⟨gb, 0, none⟩ = some (.slice A ns cs) ∧ w'.cell? ⟨gb, 1, none⟩ = some (.slice B nm cm) ∧ w'.cell? ⟨gb, 2, none⟩ = some (.int .i64 lp) ∧ w'.cell? ⟨gP, 0, none⟩ = some (.int .i64 (x : Int)) ∧ w'.cell? ⟨gP, 1, none⟩ = some (.int .i64 (y : Int)))
              (first
                | with_reducible exact L2.out
                | with_reducible exact L1.out
                | with_reducible exact L0.out
                | with_reducible exact LA.out.st
                | with_reducible exact (LAt.al LA.out _).st
                | with_reducible exact (LAt.al (LAt.al LA.out _) _).st
                | with_reducible exact hL3.st
                | with_reducible exact (LAt.al hL3 _).st
                | with_reducible exact (LAt.al (LAt.al hL3 _) _).st
                | with_reducible exact (LAt.set hL3 (by assumption) (by assumption) _ _ _).st
                | with_reducible exact (LAt.al (LAt.set hL3 (by assumption) (by assumption) _ _ _) _).st
                | with_reducible exact (LAt.set (LAt.set hL3 (by assumption) (by assumption) _ _ _) (by assumption) (by assumption) _ _ _).st
                | fail "S")
              (first
              | (go_at_call 37; ((with_reducible refine CF0.out.mono ?_); rintro e w3 ⟨A1, c1, B1, e1, A2, c2, B2, e2, rfl, oS1, oM1, oS2, oM2, hb3⟩; have hL3 := LA.out.keep (below_step hbD0 hb3)))
              | (go_at_call 37; ((with_reducible refine CF1.out.mono ?_); rintro e w3 ⟨A1, c1, B1, e1, A2, c2, B2, e2, rfl, oS1, oM1, oS2, oM2, hb3⟩; have hL3 := LA.out.keep (below_step hbD1 hb3); obtain ⟨⟨ka0, ka1, ka2, ka3, ka4, ka5⟩, klt⟩ := kw1 hb3))
              | (go_at_call 37; ((with_reducible refine CF2.out.mono ?_); rintro e w3 ⟨A1, c1, B1, e1, A2, c2, B2, e2, rfl, oS1, oM1, oS2, oM2, hb3⟩; have hL3 := LA.out.keep (below_step hbD2 hb3); obtain ⟨⟨ka0, ka1, ka2, ka3, ka4, ka5⟩, ⟨kb0, kb1, kb2, kb3, kb4, kb5⟩, kc, kd⟩ := kw2 hb3)))
            all_goals go_wp2_with fail
            all_goals go_meet
            all_goals exact ⟨rfl, by first | with_reducible exact two_a hb3 oS1 oM1 oS2 oM2 rfl HQ1.out rfl HQ2.out | with_reducible exact two_b hb3 oS1 oM1 oS2 oM2 rfl HQ1.out rfl HQ2.out | with_reducible exact two_c hb3 oS1 oM1 oS2 oM2 rfl HQ1.out rfl HQ2.out | with_reducible exact two_d hb3 oS1 oM1 oS2 oM2 rfl HQ1.out rfl HQ2.out | with_reducible exact two_e hb3 oS1 oM1 oS2 oM2 rfl HQ1.out rfl HQ2.out | with_reducible exact two_f hb3 oS1 oM1 oS2 oM2 rfl HQ1.out rfl HQ2.out⟩
          case rest =>
            obtain ⟨rfl, g7, g8, A1, c1, B1, e1, A2, c2, B2, e2, rfl, rfl, D7, D8, o1, o2, o3, o4, hbX⟩ := hcut
            obtain ⟨y0, y1, y2, ylt⟩ := D7
            obtain ⟨u0, u1, u2, ult⟩ := D8
            have hz1 : lq1 = 0 := HP12.out.1.2
            have hz2 : lq2 = 0 := HP12.out.2.2
            have hO5 := HO.out.keep (below_step HBR2.out hbX)
            obtain ⟨n1, hn1⟩ : ∃ n1, s1'.length = n1 := ⟨_, rfl⟩
            obtain ⟨k1, hk1e⟩ : ∃ k1, m1'.length = k1 := ⟨_, rfl⟩
            obtain ⟨n2, hn2⟩ : ∃ n2, s2'.length = n2 := ⟨_, rfl⟩
            obtain ⟨k2, hk2e⟩ : ∃ k2, m2'.length = k2 := ⟨_, rfl⟩
            have hin : ODs (wc.alloc (.cells #[.slice A1 n1 c1, .slice B1 k1 e1, .int .i64 0, .slice A2 n2 c2, .slice B2 k2 e2, .int .i64 0] 24)) wc.heap.size (.slice (some ⟨wc.heap.size, 0, none⟩) 2 2) [⟨A1, c1, B1, e1, 0, s1', m1'⟩, ⟨A2, c2, B2, e2, 0, s2', m2'⟩] := by
              refine ODs.lit wc [⟨A1, c1, B1, e1, 0, s1', m1'⟩, ⟨A2, c2, B2, e2, 0, s2', m2'⟩] ?_ (by simp) (by simp) _ ?_
              · intro d hd
                simp only [List.mem_cons, List.not_mem_nil, or_false] at hd
                rcases hd with rfl | rfl
                · exact ⟨o1, o2⟩
                · exact ⟨o3, o4⟩
              · simp [dgs, Dg.cells, hn1, hk1e, hn2, hk2e]
            have CR := Lib.hid (HIH.out (by rcases Nat.eq_zero_or_pos f with h0 | h0; (· have := HFF.out.1; rw [h0] at this; cases this); exact h0) (some ⟨wc.heap.size, 0, none⟩) 2 2 [⟨A1, c1, B1, e1, 0, s1', m1'⟩, ⟨A2, c2, B2, e2, 0, s2', m2'⟩] [l1, l2] _ (hin.mono (Nat.zero_le _)) rfl (by omega) (by simp; omega)
              (fun d hd => by
                simp only [List.mem_cons, List.not_mem_nil, or_false] at hd
                rcases hd with rfl | rfl
                · exact o2.cap
                · exact o4.cap)
              (by
                have h1 := HFF.out.1
                have h2 := HFF.out.2
                rw [hz1] at h1
                rw [hz2] at h2
                simp [h1, h2]))
            have hll2 : es.length + (l1.length + l2.length) ≤ 1000000 := by omega
            have HBX := Lib.hid hbX
            have HO5 := Lib.hid hO5
            simp only [hn1, hk1e] at y0 y1
            simp only [hn2, hk2e] at u0 u1
            have HZ := Lib.hid (And.intro hz1 hz2)
            have HLE := Lib.hid hll2
            clear hin o1 o2 o3 o4 hbX hO5 hz1 hz2 hn1 hk1e hn2 hk2e hll2 x0 x1 x2 z0 z1
            go_upto_region 9 with fail
            obtain ⟨hsumW, hszW⟩ : w.heap.size ≤ wr.heap.size ∧ wr.heap.size ≤ wc.heap.size := ⟨HBR.out.size, Nat.le_trans HBR2.out.size HBX.out.size⟩
            go_wp2_with (first
              | (go_at_call 86; ((with_reducible refine CR.out.mono ?_); rintro e w5 ⟨v5, ds5, rfl, hO6, hP6, hb6'⟩; have hb6 := below_step (below_alloc wc _) hb6'; have hw56 := hb6.size; have hll5 : es.length + ds5.length ≤ 1000000 := (by have h4 := congrArg List.length hP6; rw [List.length_map] at h4; simp at h4; have := HLE.out; omega); have HP6 := Lib.hid hP6; have HO6 := Lib.hid hO6; clear hP6 hO6))
              | (at_builtin
                 refine wpList_append_ods rfl (.tmp 39) (.tmp 43) rfl w.heap.size _ _ _ es ds5 rfl (HO5.out.keep hb6) rfl HO6.out hll5 (by omega) ?_
                 intro v7 w7 hO7 hg7))
            have hb7 : Below w.heap.size w w7 := (below_step (below_step (below_step HBR.out HBR2.out) HBX.out) hb6).grown hg7 (by omega) (fun q hq => (World.ownsRow.lt HO.out.1 q hq).1)
            go_roundw
            case rel => exact ⟨k + 1, _, by omega, by go_num, hb7, hO7, by rw [HTK.out, List.map_append, HP.out, HP6.out]; simp⟩
            case measure => simp [intOf]; omega
      · obtain rfl : L = k := by omega
        have hO2 := Lib.hid hO
        have hP2 := Lib.hid hP
        have hbf := hbr
        clear hO hP hbr
        go_wp2
        go_ret
        exact ⟨_, es, rfl, hO2.out, by rw [hP2.out, List.take_of_length_le (by rw [HLL.out]; exact Nat.le_refl _)], hbf⟩

end Go.Proofs.Ytkfjledhnakfoaa
