/- Plain mathematics: each number bears the index of the row that it lies in. -/
import Derived.Test.YtcllnoigppkjiaaGraphPlain
namespace Go.Proofs.Ytcllnoigppkjiaa

/-- The first j of a row get the colour i. -/
def hueRow (xs : List Int) (i : Nat) : Nat → (Nat → Nat) → Nat → Nat
  | 0, V => V
  | j + 1, V => fun x => if (x : Int) = xs.getD j 0 then i else hueRow xs i j V x
def hue (xss : List (List Int)) : Nat → Nat → Nat
  | 0 => fun _ => 0
  | i + 1 => hueRow (xss.getD i []) i (xss.getD i []).length (hue xss i)
theorem hueRow_in {xs : List Int} {i j q x : Nat} {V : Nat → Nat} (hq : q < j) (e : xs.getD q 0 = x) : hueRow xs i j V x = i := by
  induction j with
  | zero => omega
  | succ j ih =>
    show (if (x : Int) = xs.getD j 0 then i else hueRow xs i j V x) = i
    by_cases h : q = j
    · subst h; rw [e]; simp
    · split
      · rfl
      · exact ih (by omega)
theorem hueRow_out {xs : List Int} {i j x : Nat} {V : Nat → Nat} (hx : ∀ q, q < j → xs.getD q 0 ≠ x) : hueRow xs i j V x = V x := by
  induction j with
  | zero => rfl
  | succ j ih =>
    show (if (x : Int) = xs.getD j 0 then i else hueRow xs i j V x) = V x
    rw [if_neg (fun e => hx j (by omega) e.symm)]
    exact ih fun q hq => hx q (by omega)
theorem getD_mem_int {xs : List Int} {q : Nat} (hq : q < xs.length) : xs.getD q 0 ∈ xs := by
  have e : xs.getD q 0 = xs[q] := by simp [List.getD, hq]
  rw [e]; exact List.getElem_mem hq
theorem hue_done {xss : List (List Int)} {a x : Nat} (hx : (x : Int) ∈ xss.getD a []) (hu : ∀ b, b < xss.length → b ≠ a → (x : Int) ∉ xss.getD b []) {i : Nat} (ha : a < i) (hi : i ≤ xss.length) : hue xss i x = a := by
  induction i with
  | zero => omega
  | succ i ih =>
    show hueRow (xss.getD i []) i _ (hue xss i) x = a
    by_cases e : a = i
    · subst e
      obtain ⟨q, hq, k⟩ := List.getElem_of_mem hx
      exact hueRow_in (q := q) hq (by have e : (xss.getD a []).getD q 0 = (xss.getD a [])[q] := by generalize xss.getD a [] = ys at hq ⊢; simp [List.getD, hq]
                                      rw [e, k])
    · rw [hueRow_out fun q hq k => hu i (by omega) (Ne.symm e) (by rw [← k]; exact getD_mem_int hq)]
      exact ih (by omega) (by omega)

theorem mem_memb {F : Nat → Nat} {n l x : Nat} : (x : Int) ∈ memb F n l ↔ x < n ∧ F x = l := by
  unfold memb
  simp only [List.mem_map, List.mem_filter, List.mem_range, beq_iff_eq]
  constructor
  · rintro ⟨b, ⟨h1, h2⟩, e⟩
    have : b = x := by omega
    subst this; exact ⟨h1, h2⟩
  · rintro ⟨h1, h2⟩
    exact ⟨x, ⟨h1, h2⟩, rfl⟩
theorem mem_memb_nat {F : Nat → Nat} {n l : Nat} {y : Int} (h : y ∈ memb F n l) : ∃ x : Nat, y = x ∧ x < n ∧ F x = l := by
  unfold memb at h
  obtain ⟨b, hb, e⟩ := List.mem_map.1 h
  have hb' := List.mem_filter.1 hb
  exact ⟨b, e.symm, List.mem_range.1 hb'.1, by simpa using hb'.2⟩
theorem roots_nodup (F : Nat → Nat) (n : Nat) : (roots F n).Nodup := List.Pairwise.filter _ List.nodup_range
theorem graphL_get (F : Nat → Nat) (n : Nat) {a : Nat} (ha : a < (graphL F n).length) : ∃ h : a < (roots F n).length, (graphL F n).getD a [] = memb F n (roots F n)[a] := by
  have h : a < (roots F n).length := by rw [← graphL_length]; exact ha
  exact ⟨h, by unfold graphL; simp [List.getD, h]⟩
/-- All painted: numbers of one component bear one colour. -/
theorem hue_same {F : Nat → Nat} {n x y : Nat} (hle : ∀ b, F b ≤ b) (hid : ∀ b, F (F b) = F b) (hx : x < n) (hy : y < n) (e : F x = F y) : hue (graphL F n) (graphL F n).length x = hue (graphL F n) (graphL F n).length y := by
  have hm : F x ∈ roots F n := by
    unfold roots
    rw [List.mem_filter, List.mem_range]
    exact ⟨by have := hle x; omega, by simp [hid]⟩
  obtain ⟨a, ha, ea⟩ := List.getElem_of_mem hm
  have hal : a < (graphL F n).length := by rw [graphL_length]; exact ha
  obtain ⟨h1, h2⟩ := graphL_get F n hal
  have key : ∀ z, z < n → F z = F x → hue (graphL F n) (graphL F n).length z = a := fun z hz ez => by
    refine hue_done (by rw [h2]; exact mem_memb.2 ⟨hz, by rw [ez, ea]⟩) (fun b hb hne hin => ?_) hal (Nat.le_refl _)
    obtain ⟨g1, g2⟩ := graphL_get F n hb
    rw [g2] at hin
    obtain ⟨_, k⟩ := mem_memb.1 hin
    rw [ez, ← ea] at k
    exact hne ((List.getElem_inj (roots_nodup F n)).1 k).symm
  rw [key x hx rfl, key y hy e.symm]

/-- Two of each four are wanted. -/
theorem count_two (p : Nat → Bool) (n : Nat) (h : ∀ c, c < n → (List.range 4).countP (fun s => p (4 * c + s)) = 2) : (List.range (4 * n)).countP p = 2 * n := by
  induction n with
  | zero => rfl
  | succ n ih =>
    have h1 := ih fun c hc => h c (by omega)
    have h2 := h n (by omega)
    rw [show 4 * (n + 1) = 4 * n + 1 + 1 + 1 + 1 by omega, List.range_succ, List.range_succ, List.range_succ, List.range_succ]
    simp only [List.countP_append, List.countP_cons, List.countP_nil]
    simp only [List.range_succ, List.range_zero, List.nil_append, List.countP_append, List.countP_cons, List.countP_nil, Nat.add_zero] at h2
    rw [show 4 * n + 1 + 1 = 4 * n + 2 by omega, show 4 * n + 2 + 1 = 4 * n + 3 by omega]
    omega

end Go.Proofs.Ytcllnoigppkjiaa
