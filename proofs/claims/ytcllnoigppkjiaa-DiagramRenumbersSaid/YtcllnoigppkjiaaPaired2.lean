/- Walk: matesPaired. -/
import Derived.Test.YtcllnoigppkjiaaPaired
namespace Go.Proofs.Ytcllnoigppkjiaa
open Go.RowKit

/-- Is the mate of h well paired? -/
def pOK (signs mate : List Int) (h : Nat) : Bool :=
  decide (0 ≤ mt mate h) && decide (mt mate h < mate.length) && decide (mt mate (mt mate h).toNat = h) && (outB signs h != outB signs (mt mate h).toNat)
def pairB (signs mate : List Int) : Bool := (List.range mate.length).all (pOK signs mate)
theorem pairB_iff (signs mate : List Int) : pairB signs mate = true ↔ ∀ j, j < mate.length → pOK signs mate j = true := by
  unfold pairB; simp [List.all_eq_true]

abbrev dbox (A : Option Addr) (ns cs : Nat) (B : Option Addr) (nm cm : Nat) (lp : Int) : Obj := .cells #[.slice A ns cs, .slice B nm cm, .int .i64 lp] 24

/-- The box of a diagram lies at block g. -/
def DB (w : World) (g : Nat) (A : Option Addr) (ns cs : Nat) (B : Option Addr) (nm cm : Nat) (lp : Int) : Prop :=
  w.cell? ⟨g, 0, none⟩ = some (.slice A ns cs) ∧ w.cell? ⟨g, 1, none⟩ = some (.slice B nm cm) ∧ w.cell? ⟨g, 2, none⟩ = some (.int .i64 lp) ∧ g < w.heap.size
theorem DB.new (w : World) (A : Option Addr) (ns cs : Nat) (B : Option Addr) (nm cm : Nat) (lp : Int) : DB (w.alloc (dbox A ns cs B nm cm lp)) w.heap.size A ns cs B nm cm lp := by
  refine ⟨?_, ?_, ?_, by simp⟩ <;> (rw [World.cell?_alloc_at _ _ _ _ rfl]; rfl)
theorem DB.keep {w w' : World} {g : Nat} {A : Option Addr} {ns cs : Nat} {B : Option Addr} {nm cm : Nat} {lp : Int} (h : DB w g A ns cs B nm cm lp) (hb : Below w.heap.size w w') : DB w' g A ns cs B nm cm lp :=
  ⟨(hb.cell (p := ⟨g, 0, none⟩) h.2.2.2).trans h.1, (hb.cell (p := ⟨g, 1, none⟩) h.2.2.2).trans h.2.1, (hb.cell (p := ⟨g, 2, none⟩) h.2.2.2).trans h.2.2.1, Nat.lt_of_lt_of_le h.2.2.2 hb.size⟩

theorem pOK_out {signs mate : List Int} {k nm : Nat} (h : pOK signs mate k = true) (hl : mate.length = nm) : ∃ m : Nat, mt mate k = m ∧ m < nm ∧ mt mate m = k ∧ outB signs k ≠ outB signs m := by
  unfold pOK at h
  simp only [Bool.and_eq_true, decide_eq_true_eq, bne_iff_ne] at h
  obtain ⟨⟨⟨h0, h1⟩, h2⟩, h3⟩ := h
  refine ⟨(mt mate k).toNat, by omega, by omega, h2, h3⟩
theorem pOK_bad {signs mate : List Int} {k nm : Nat} (h : pOK signs mate k = false) (hl : mate.length = nm) :
    mt mate k < 0 ∨ (nm : Int) ≤ mt mate k ∨ ∃ m : Nat, mt mate k = m ∧ m < nm ∧ (mt mate m ≠ k ∨ (mt mate m = k ∧ outB signs m = outB signs k)) := by
  by_cases h0 : mt mate k < 0
  · exact .inl h0
  · by_cases h1 : (nm : Int) ≤ mt mate k
    · exact .inr (.inl h1)
    · refine .inr (.inr ⟨(mt mate k).toNat, by omega, by omega, ?_⟩)
      by_cases h2 : mt mate (mt mate k).toNat = k
      · refine .inr ⟨h2, ?_⟩
        cases h3 : outB signs k <;> cases h4 : outB signs (mt mate k).toNat <;> first | rfl | skip
        all_goals
          exfalso
          have : pOK signs mate k = true := by
            unfold pOK
            simp only [Bool.and_eq_true, decide_eq_true_eq, bne_iff_ne]
            exact ⟨⟨⟨by omega, by omega⟩, h2⟩, by rw [h3, h4]; simp⟩
          rw [this] at h; cases h
      · exact .inl h2
def Calls_out (signs : List Int) (k : Nat) (p : Bool) : Prop := outB signs k = p
theorem Calls_out.out {signs : List Int} {k : Nat} {p : Bool} (h : Calls_out signs k p) : outB signs k = p := h

theorem below_drew_left {w w' : World} (h : Below w.drew.heap.size w.drew w') : Below w.heap.size w w' :=
  ((Below.refl w.heap.size w).drew).trans h

set_option maxHeartbeats 1600000 in
theorem paired_upto (h0 : Nat) (A B : Option Addr) (ns cs nm cm : Nat) (lp : Int) (signs mate : List Int) (w : World) (hs : RI w A ns signs) (hm : RI w B nm mate) (hnm : nm = 4 * ns) (hns : ns ≤ 64)
    (hh0 : h0 ≤ nm) (hg : ∀ j, j < h0 → pOK signs mate j = true) (hbad : h0 < nm → pOK signs mate h0 = false) (hrange : ∀ j, j < nm → -9223372036854775808 ≤ mt mate j ∧ mt mate j ≤ 9223372036854775807)
    (r : Bool) (hr : r = decide (h0 = nm)) :
    Calls Try.prog 46 #[dval A ns cs B nm cm lp] w fun e w' => e = .returned (.bool r) ∧ Below w.heap.size w w' := by
  have hd := DB.new w A ns cs B nm cm lp
  have hs1 := hs.alloc (dbox A ns cs B nm cm lp)
  have hm1 := hm.alloc (dbox A ns cs B nm cm lp)
  have hb0 := below_alloc w (dbox A ns cs B nm cm lp)
  have hml := hm.1
  have HML := Lib.hid hml
  clear hml hs hm
  have HNM := Lib.hid hnm
  clear hnm
  have HR := Lib.hid hr
  clear hr
  go_enter Try.func46, Try.ntmps46
  go_wp2
  generalize hwA : w.alloc (dbox A ns cs B nm cm lp) = wA at hd hs1 hm1 hb0 ⊢
  clear hwA
  go_loopw [3, 4, 8] (fun _ _ i wr => ∃ k : Nat, k ≤ h0 ∧ i = .int .i64 k ∧ Below wA.heap.size wA wr) (fun _ _ i _ => nm - (intOf i).toNat)
  case atStart => exact ⟨0, by omega, rfl, Below.refl _ _⟩
  case round =>
    obtain ⟨k, hk, rfl, hbr⟩ := hrel
    have hdr := hd.keep hbr
    have hsr := hs1.keep hbr
    have hmr := hm1.keep hbr
    obtain ⟨d0, d1, d2, dlt⟩ := hdr
    by_cases hlt0 : k < h0
    · have hlt : k < nm := by omega
      clear hbad hrange
      obtain ⟨b, off, rfl, hbb, hc⟩ := hmr.2 (by omega)
      have hck := hc k hlt
      obtain ⟨m, hmk, hmlt, hmm, hne⟩ := pOK_out (hg k hlt0) HML.out
      have hcm := hc m hmlt
      have hmk' : mate.getD k 0 = (m : Int) := hmk
      have hmm' : mate.getD m 0 = (k : Int) := hmm
      rw [hmk'] at hck
      rw [hmm'] at hcm
      have hk4 : k / 4 < ns := by have := HNM.out; omega
      have hm4 : m / 4 < ns := by have := HNM.out; omega
      have H1 : Calls_out signs k (outB signs k) := rfl
      generalize outB signs k = p at hne H1
      have hne' : outB signs m = !p := by cases p <;> cases h : outB signs m <;> simp_all
      have H2 := Lib.hid hne'
      clear hne hne' hg hc hmk hmm hmk' hmm' hmr
      have hk0 : (0 : Int) ≤ (k : Int) := Int.natCast_nonneg _
      have hm0 : (0 : Int) ≤ (m : Int) := Int.natCast_nonneg _
      have hm0' : decide ((m : Int) < 0) = false := by simp only [decide_eq_false_iff_not]; omega
      have hm1'' : decide (nm ≤ m) = false := by simp only [decide_eq_false_iff_not]; omega
      have hk1 : (k : Int) < (nm : Int) := by omega
      have hm1' : (m : Int) < (nm : Int) := by omega
      go_wp2
      go_region_held3 (fun w' => w'.cell? ⟨w.heap.size, 0, none⟩ = some (.slice A ns cs) ∧ w'.cell? ⟨w.heap.size, 1, none⟩ = some (.slice (some ⟨b, off, none⟩) nm cm) ∧ w'.cell? ⟨w.heap.size, 2, none⟩ = some (.int .i64 lp))
        (first
          | go_keep
          | exact ⟨(hbB.cell (p := ⟨w.heap.size, 0, none⟩) dlt).trans d0, (hbB.cell (p := ⟨w.heap.size, 1, none⟩) dlt).trans d1, (hbB.cell (p := ⟨w.heap.size, 2, none⟩) dlt).trans d2⟩
          | exact ⟨(hbA.cell (p := ⟨w.heap.size, 0, none⟩) dlt).trans d0, (hbA.cell (p := ⟨w.heap.size, 1, none⟩) dlt).trans d1, (hbA.cell (p := ⟨w.heap.size, 2, none⟩) dlt).trans d2⟩)
        (first
          | (go_at_call_of 50 (Value.int .i64 k); refine (outgoing_any _ _ _ _ _ _ _ signs k _ hsr.drew hk4 (by omega)).mono ?_; rw [H1.out]; rintro e w1 ⟨rfl, hbA⟩)
          | (go_at_call_of 50 (Value.int .i64 m); refine (outgoing_any _ _ _ _ _ _ _ signs m _ (hsr.drew.keep hbA) hm4 (by omega)).mono ?_; rw [H2.out]; rintro e w2 ⟨rfl, hbA2⟩; have hbB := below_step hbA hbA2))
      go_wp2
      go_roundw
      case rel => exact ⟨k + 1, by omega, by go_num, hbr.trans ((below_drew_left hbB).mono hbr.size)⟩
      case measure => simp [intOf]; omega
    · obtain rfl : k = h0 := by omega
      clear hg
      by_cases hlt : k < nm
      · have hb := hbad hlt
        have hr0 := hrange k hlt
        clear hbad
        obtain ⟨b, off, rfl, hbb, hc⟩ := hmr.2 (by omega)
        have hck : wr.cell? ⟨b, off + k, none⟩ = some (.int .i64 (mt mate k)) := hc k hlt
        obtain rfl : r = false := by rw [HR.out]; simp only [decide_eq_false_iff_not]; omega
        clear HR
        have hk0 : (0 : Int) ≤ (k : Int) := Int.natCast_nonneg _
        have hk1 : (k : Int) < (nm : Int) := by omega
        have hcase := pOK_bad hb HML.out
        clear hb
        rcases hcase with hneg | hbig | ⟨m, hmk, hmlt, hrest⟩
        · have hx1 : decide (mt mate k < 0) = true := by simp only [decide_eq_true_eq]; omega
          clear hc hrange
          generalize mt mate k = x at hck hneg hx1 hr0
          obtain ⟨hr1, hr2⟩ := hr0
          go_wp2
          go_ret
          exact ⟨rfl, hb0.trans (hbr.mono hb0.size)⟩
        · have hx1 : decide (mt mate k < 0) = false := by simp only [decide_eq_false_iff_not]; omega
          have hx2 : decide ((nm : Int) ≤ mt mate k) = true := by simp only [decide_eq_true_eq]; omega
          clear hc hrange
          generalize mt mate k = x at hck hbig hx1 hx2 hr0
          obtain ⟨hr1, hr2⟩ := hr0
          go_wp2
          go_ret
          exact ⟨rfl, hb0.trans (hbr.mono hb0.size)⟩
        · have hcm : wr.cell? ⟨b, off + m, none⟩ = some (.int .i64 (mt mate m)) := hc m hmlt
          have hrm : -9223372036854775808 ≤ mt mate m ∧ mt mate m ≤ 9223372036854775807 := by
            exact hrange m hmlt
          rw [hmk] at hck
          clear hc hmk hr0 hrange
          have hm0 : (0 : Int) ≤ (m : Int) := Int.natCast_nonneg _
          have hm0' : decide ((m : Int) < 0) = false := by simp only [decide_eq_false_iff_not]; omega
          have hm1'' : decide (nm ≤ m) = false := by simp only [decide_eq_false_iff_not]; omega
          have hm1' : (m : Int) < (nm : Int) := by omega
          rcases hrest with hne | ⟨heq, hout⟩
          · have hx : (mt mate m != (k : Int)) = true := by simp [hne]
            generalize mt mate m = x at hcm hx hne hrm
            go_wp2
            go_ret
            exact ⟨rfl, hb0.trans (hbr.mono hb0.size)⟩
          · rw [heq] at hcm
            have hk4 : k / 4 < ns := by have := HNM.out; omega
            have hm4 : m / 4 < ns := by have := HNM.out; omega
            have H1 : Calls_out signs k (outB signs k) := rfl
            generalize outB signs k = p at hout H1
            have H2 := Lib.hid hout
            clear hout heq hrm
            go_wp2
            go_region_held3 (fun w' => w'.cell? ⟨w.heap.size, 0, none⟩ = some (.slice A ns cs) ∧ w'.cell? ⟨w.heap.size, 1, none⟩ = some (.slice (some ⟨b, off, none⟩) nm cm) ∧ w'.cell? ⟨w.heap.size, 2, none⟩ = some (.int .i64 lp))
              (first
                | go_keep
                | exact ⟨(hbB.cell (p := ⟨w.heap.size, 0, none⟩) dlt).trans d0, (hbB.cell (p := ⟨w.heap.size, 1, none⟩) dlt).trans d1, (hbB.cell (p := ⟨w.heap.size, 2, none⟩) dlt).trans d2⟩
                | exact ⟨(hbA.cell (p := ⟨w.heap.size, 0, none⟩) dlt).trans d0, (hbA.cell (p := ⟨w.heap.size, 1, none⟩) dlt).trans d1, (hbA.cell (p := ⟨w.heap.size, 2, none⟩) dlt).trans d2⟩)
              (first
                | (go_at_call_of 50 (Value.int .i64 k); refine (outgoing_any _ _ _ _ _ _ _ signs k _ hsr.drew hk4 (by omega)).mono ?_; rw [H1.out]; rintro e w1 ⟨rfl, hbA⟩)
                | (go_at_call_of 50 (Value.int .i64 m); refine (outgoing_any _ _ _ _ _ _ _ signs m _ (hsr.drew.keep hbA) hm4 (by omega)).mono ?_; rw [H2.out]; rintro e w2 ⟨rfl, hbA2⟩; have hbB := below_step hbA hbA2))
            go_wp2
            go_ret
            exact ⟨rfl, hb0.trans ((hbr.trans ((below_drew_left hbB).mono hbr.size)).mono hb0.size)⟩
      · obtain rfl : r = true := by rw [HR.out]; simp only [decide_eq_true_eq]; omega
        clear hbad hrange HR
        go_wp2
        go_ret
        exact ⟨rfl, hb0.trans (hbr.mono hb0.size)⟩

theorem paired_any (A B : Option Addr) (ns cs nm cm : Nat) (lp : Int) (signs mate : List Int) (w : World) (hs : RI w A ns signs) (hm : RI w B nm mate) (hnm : nm = 4 * ns) (hns : ns ≤ 64)
    (hrange : ∀ j, j < nm → -9223372036854775808 ≤ mt mate j ∧ mt mate j ≤ 9223372036854775807) :
    Calls Try.prog 46 #[dval A ns cs B nm cm lp] w fun e w' => e = .returned (.bool (pairB signs mate)) ∧ Below w.heap.size w w' := by
  by_cases hg : ∀ j, j < nm → pOK signs mate j = true
  · have e : pairB signs mate = true := (pairB_iff _ _).2 (by rw [hm.1]; exact hg)
    rw [e]
    exact paired_upto nm A B ns cs nm cm lp signs mate w hs hm hnm hns (Nat.le_refl _) hg (fun h => absurd h (by omega)) hrange true (by simp)
  · have e : pairB signs mate = false := by
      cases h : pairB signs mate with
      | false => rfl
      | true => exact absurd (by rw [← hm.1]; exact (pairB_iff _ _).1 h) hg
    rw [e]
    obtain ⟨j0, h1, h2, h3⟩ := least_bad (pOK signs mate) nm hg
    exact paired_upto j0 A B ns cs nm cm lp signs mate w hs hm hnm hns (by omega) h2 (fun _ => h3) hrange false (by simp; omega)

end Go.Proofs.Ytcllnoigppkjiaa
