import Derived.Test.YtkfjledhnakfoaaA08
import Derived.Test.YtkfjledhnakfoaaA04
import Derived.Test.YtkfjledhnakfoaaA06
import Derived.Maps.AppendAt
import Derived.Test.YtkfjledhnakfoaaA01
/- Plain mathematics: the part of a diagram that one component makes. -/
namespace Go.Proofs.Ytkfjledhnakfoaa

/-- phi lists, in ascending order, the numbers below n with P. -/
structure Enum (P : Nat → Bool) (n k : Nat) (phi : Nat → Nat) : Prop where
  lt : ∀ i, i < k → phi i < n
  mem : ∀ i, i < k → P (phi i) = true
  mono : ∀ i j, i < j → j < k → phi i < phi j
  onto : ∀ c, c < n → P c = true → ∃ i, i < k ∧ phi i = c
theorem Enum.inj {P : Nat → Bool} {n k : Nat} {phi : Nat → Nat} (E : Enum P n k phi) {i j : Nat} (hi : i < k) (hj : j < k) (e : phi i = phi j) : i = j := by
  rcases Nat.lt_trichotomy i j with h | h | h
  · have := E.mono i j h hj; omega
  · exact h
  · have := E.mono j i h hi; omega
/-- The number of crossing c in the list, when i of them are laid. -/
def numT (phi : Nat → Nat) : Nat → Nat → Nat
  | 0, _ => 0
  | i + 1, c => if c = phi i then i else numT phi i c
theorem numT_at {phi : Nat → Nat} {k : Nat} (hinj : ∀ i j, i < k → j < k → phi i = phi j → i = j) : ∀ m, m ≤ k → ∀ i, i < m → numT phi m (phi i) = i := by
  intro m
  induction m with
  | zero => intro _ i hi; omega
  | succ m ih =>
    intro hm i hi
    show (if phi i = phi m then m else numT phi m (phi i)) = i
    by_cases e : phi i = phi m
    · rw [if_pos e]; exact (hinj i m (by omega) (by omega) e).symm
    · rw [if_neg e]
      have : i ≠ m := fun q => e (by rw [q])
      exact ih (by omega) i (by omega)
theorem numT_lt (phi : Nat → Nat) (m c : Nat) : numT phi m c < max m 1 := by
  induction m with
  | zero => exact Nat.lt_of_lt_of_le (Nat.zero_lt_one) (Nat.le_max_right _ _)
  | succ m ih =>
    show (if c = phi m then m else numT phi m c) < _
    split
    · omega
    · omega
/-- The half-edge of the whole. -/
def upH (phi : Nat → Nat) (h : Nat) : Nat := 4 * phi (h / 4) + h % 4
theorem upH_div (phi : Nat → Nat) (h : Nat) : upH phi h / 4 = phi (h / 4) := by unfold upH; omega
theorem upH_mod (phi : Nat → Nat) (h : Nat) : upH phi h % 4 = h % 4 := by unfold upH; omega
theorem upH_trn (phi : Nat → Nat) (h j : Nat) : upH phi (trn h j) = trn (upH phi h) j := by
  have h1 := trn_div h j
  have h2 : trn h j % 4 = (h % 4 + j) % 4 := by unfold trn; omega
  unfold upH
  rw [h1, h2]
  unfold trn; omega
def partN (phi : Nat → Nat) (k : Nat) (M : Nat → Nat) (h : Nat) : Nat := 4 * numT phi k (M (upH phi h) / 4) + M (upH phi h) % 4

theorem Cnt.trunc {p : Nat → Prop} {N a : Nat} (h : Cnt p N a) {N' : Nat} (hN : N' ≤ N) (hp : ∀ x, N' ≤ x → x < N → ¬ p x) : Cnt p N' a := by
  induction h with
  | zero => obtain rfl : N' = 0 := by omega
            exact .zero
  | @yes n k hq h ih =>
    by_cases e : N' = n + 1
    · subst e; exact .yes hq h
    · exact absurd hq (hp n (by omega) (by omega))
  | @no n k hq h ih =>
    by_cases e : N' = n + 1
    · subst e; exact .no hq h
    · exact ih (by omega) fun x h1 h2 => hp x h1 (by omega)
theorem Cnt.enum {p : Nat → Prop} {phi : Nat → Nat} : ∀ (K N a : Nat), Cnt p N a → (∀ i, i < K → phi i < N) → (∀ i j, i < j → j < K → phi i < phi j) → (∀ x, x < N → p x → ∃ i, i < K ∧ phi i = x) → Cnt (fun i => p (phi i)) K a := by
  intro K
  induction K with
  | zero =>
    intro N a h _ _ ho
    rw [h.uniq (Cnt.none fun x hx hp => by obtain ⟨i, hi, _⟩ := ho x hx hp; omega)]
    exact .zero
  | succ K ih =>
    intro N a h hl hm ho
    have h1 := hl K (by omega)
    have h2 := h.trunc (N' := phi K + 1) (by omega) fun x hx hN hp => by
      obtain ⟨i, hi, e⟩ := ho x hN hp
      by_cases e2 : i = K
      · subst e2; omega
      · have := hm i K (by omega) (by omega); omega
    have rest : ∀ b, Cnt p (phi K) b → Cnt (fun i => p (phi i)) K b := fun b hb =>
      ih (phi K) b hb (fun i hi => hm i K hi (by omega)) (fun i j hij hj => hm i j hij (by omega)) (fun x hx hp => by
        obtain ⟨i, hi, e⟩ := ho x (by omega) hp
        refine ⟨i, ?_, e⟩
        by_cases e2 : i = K
        · subst e2; omega
        · omega)
    cases h2 with
    | yes hq hb => exact .yes hq (rest _ hb)
    | no hq hb => exact .no hq (rest _ hb)

section
variable {P : Nat → Bool} {n k : Nat} {phi M : Nat → Nat}
theorem Enum.upH_lt (E : Enum P n k phi) {h : Nat} (hh : h < 4 * k) : upH phi h < 4 * n ∧ P (upH phi h / 4) = true := by
  have h1 := E.lt (h / 4) (by omega)
  have h2 := E.mem (h / 4) (by omega)
  rw [upH_div]
  exact ⟨by unfold upH; omega, h2⟩
theorem Enum.upH_mono (E : Enum P n k phi) {g h : Nat} (hh : h < 4 * k) : g < h → upH phi g < upH phi h := fun hg => by
  by_cases e : g / 4 = h / 4
  · unfold upH; rw [e]; omega
  · have := E.mono (g / 4) (h / 4) (by omega) (by omega)
    unfold upH; omega
theorem Enum.upH_inj (E : Enum P n k phi) {g h : Nat} (hg : g < 4 * k) (hh : h < 4 * k) (e : upH phi g = upH phi h) : g = h := by
  rcases Nat.lt_trichotomy g h with q | q | q
  · have := E.upH_mono hh q; omega
  · exact q
  · have := E.upH_mono hg q; omega
theorem Enum.upH_onto (E : Enum P n k phi) {x : Nat} (hx : x < 4 * n) (hP : P (x / 4) = true) : ∃ h, h < 4 * k ∧ upH phi h = x := by
  obtain ⟨i, hi, e⟩ := E.onto (x / 4) (by omega) hP
  refine ⟨4 * i + x % 4, by omega, ?_⟩
  unfold upH
  rw [show (4 * i + x % 4) / 4 = i by omega, e]; omega
theorem Enum.mates (E : Enum P n k phi) (i : Invol M (4 * n)) (hc : ∀ h, h < 4 * n → P (h / 4) = true → P (M h / 4) = true) {h : Nat} (hh : h < 4 * k) : partN phi k M h < 4 * k ∧ upH phi (partN phi k M h) = M (upH phi h) := by
  obtain ⟨h1, h2⟩ := E.upH_lt hh
  obtain ⟨g, hg, e⟩ := E.upH_onto (i.lt _ h1) (hc _ h1 h2)
  have e2 : partN phi k M h = g := by
    unfold partN
    rw [← e, upH_div, upH_mod, numT_at (fun a b ha hb => E.inj ha hb) k (Nat.le_refl _) _ (by omega)]; omega
  rw [e2]; exact ⟨hg, e⟩
theorem Enum.invol (E : Enum P n k phi) (i : Invol M (4 * n)) (hc : ∀ h, h < 4 * n → P (h / 4) = true → P (M h / 4) = true) : Invol (partN phi k M) (4 * k) :=
  ⟨fun h hh => (E.mates i hc hh).1, fun h hh => by
    obtain ⟨h1, h2⟩ := E.mates i hc hh
    obtain ⟨h3, h4⟩ := E.mates i hc h1
    exact E.upH_inj h3 hh (by rw [h4, h2, i.inv _ (E.upH_lt hh).1])⟩
theorem Enum.fix (E : Enum P n k phi) (i : Invol M (4 * n)) (hc : ∀ h, h < 4 * n → P (h / 4) = true → P (M h / 4) = true) (hf : ∀ h, h < 4 * n → M h ≠ h) (h : Nat) (hh : h < 4 * k) : partN phi k M h ≠ h := fun e => by
  obtain ⟨_, h2⟩ := E.mates i hc hh
  rw [e] at h2
  exact hf _ (E.upH_lt hh).1 h2.symm
theorem Enum.it (E : Enum P n k phi) (i : Invol M (4 * n)) (hc : ∀ h, h < 4 * n → P (h / 4) = true → P (M h / 4) = true) (j : Nat) {h : Nat} (hh : h < 4 * k) (q : Nat) : it (tf (partN phi k M) j) q h < 4 * k ∧ upH phi (Go.Proofs.Ytkfjledhnakfoaa.it (tf (partN phi k M) j) q h) = Go.Proofs.Ytkfjledhnakfoaa.it (tf M j) q (upH phi h) := by
  induction q with
  | zero => exact ⟨hh, rfl⟩
  | succ q ih =>
    obtain ⟨h1, h2⟩ := ih
    obtain ⟨h3, h4⟩ := E.mates i hc h1
    refine ⟨trn_lt h3, ?_⟩
    show upH phi (trn (partN phi k M _) j) = trn (M _) j
    rw [upH_trn, h4, h2]
theorem Enum.orb (E : Enum P n k phi) (i : Invol M (4 * n)) (hc : ∀ h, h < 4 * n → P (h / 4) = true → P (M h / 4) = true) (j : Nat) {g h : Nat} (hg : g < 4 * k) (hh : h < 4 * k) : Orb (tf (partN phi k M) j) g h ↔ Orb (tf M j) (upH phi g) (upH phi h) := by
  constructor
  · rintro ⟨q, e⟩
    exact ⟨q, by rw [← (E.it i hc j hg q).2, e]⟩
  · rintro ⟨q, e⟩
    obtain ⟨h1, h2⟩ := E.it i hc j hg q
    exact ⟨q, E.upH_inj h1 hh (by rw [h2, e])⟩
theorem Enum.selP (E : Enum P n k phi) (i : Invol M (4 * n)) (hc : ∀ h, h < 4 * n → P (h / 4) = true → P (M h / 4) = true) (j : Nat) (p : Nat → Bool) {a : Nat} (h : Cnt (fun x => P (x / 4) = true ∧ SelP (tf M j) p x) (4 * n) a) :
    Cnt (SelP (tf (partN phi k M) j) fun x => p (upH phi x)) (4 * k) a := by
  have h1 := Cnt.enum (4 * k) _ _ h (fun x hx => (E.upH_lt hx).1) (fun x y hxy hy => E.upH_mono hy hxy) (fun x hx hp => E.upH_onto hx hp.1)
  refine h1.congr fun x hx => ⟨fun ⟨q1, q2, q3⟩ => ⟨q2, fun g hg hp o => ?_⟩, fun ⟨q2, q3⟩ => ⟨(E.upH_lt hx).2, q2, fun g hg hp o => ?_⟩⟩
  · exact q3 _ (E.upH_mono hx hg) hp ((E.orb i hc j (by omega) hx).1 o)
  · have hgn : g < 4 * n := by have := (E.upH_lt hx).1; omega
    have hPg : P (g / 4) = true := by
      have o' := (i.perm j).orb_symm hgn o
      obtain ⟨q, e⟩ := o'
      rw [← e, ← (E.it i hc j hx q).2]
      exact (E.upH_lt (E.it i hc j hx q).1).2
    obtain ⟨y, hy, e⟩ := E.upH_onto hgn hPg
    have hyx : y < x := by
      rcases Nat.lt_trichotomy y x with q | q | q
      · exact q
      · subst q; omega
      · have := E.upH_mono hy q; omega
    exact q3 y hyx (by show p (upH phi y) = true; rw [e]; exact hp) ((E.orb i hc j hy hx).2 (by rw [e]; exact o))
theorem Enum.conn (E : Enum P n k phi) (i : Invol M (4 * n)) (hc : ∀ h, h < 4 * n → P (h / 4) = true → P (M h / 4) = true) {a b : Nat} (ha : a < k) (h : Conn M (4 * n) (phi a) b) : ∃ c, c < k ∧ phi c = b ∧ Conn (partN phi k M) (4 * k) a c := by
  induction h with
  | refl => exact ⟨a, ha, rfl, .refl _⟩
  | step j hj _ ih =>
    obtain ⟨c, hc1, e, hcn⟩ := ih
    have hP : P (j / 4) = true := by rw [← e]; exact E.mem c hc1
    obtain ⟨x, hx, rfl⟩ := E.upH_onto hj hP
    obtain ⟨m1, m2⟩ := E.mates i hc hx
    rw [upH_div] at e
    have hcx := E.inj hc1 (by omega) e
    refine ⟨partN phi k M x / 4, by omega, by rw [← m2, upH_div], ?_⟩
    rw [hcx] at hcn
    exact .step x hx hcn
  | back j hj _ ih =>
    obtain ⟨c, hc1, e, hcn⟩ := ih
    have hP : P (M j / 4) = true := by rw [← e]; exact E.mem c hc1
    have hPj : P (j / 4) = true := by have := hc _ (i.lt j hj) hP; rwa [i.inv j hj] at this
    obtain ⟨x, hx, rfl⟩ := E.upH_onto hj hPj
    obtain ⟨m1, m2⟩ := E.mates i hc hx
    rw [← m2, upH_div] at e
    have hcx := E.inj hc1 (by omega) e
    refine ⟨x / 4, by omega, by rw [upH_div], ?_⟩
    rw [hcx] at hcn
    exact .back x hx hcn
end
/-- A component that lies on a sphere is, by itself, a diagram on a sphere, of one component. -/
theorem part_sph {M F phi : Nat → Nat} {n k l : Nat} (E : Enum (fun c => F c == l) n k phi) (i : Invol M (4 * n)) (hf : ∀ h, h < 4 * n → M h ≠ h) (hlab : IsLab M (4 * n) n F) (hs : sphB F (tf M 3) (4 * n) n = true) (hk : 0 < k) :
    (∀ h, h < 4 * n → (F (h / 4) == l) = true → (F (M h / 4) == l) = true) ∧ IsLab (partN phi k M) (4 * k) k (fun _ => 0) ∧ sphB (ufLab (partN phi k M) (4 * k)) (tf (partN phi k M) 3) (4 * k) k = true := by
  have hc : ∀ h, h < 4 * n → (F (h / 4) == l) = true → (F (M h / 4) == l) = true := fun h hh e => by rw [← hlab.2 h hh]; exact e
  have i' := E.invol i hc
  have hl0 : IsLab (partN phi k M) (4 * k) k (fun _ => 0) := by
    refine ⟨fun c hck => ⟨Nat.zero_le _, ?_⟩, fun _ _ => rfl⟩
    have e1 : F (phi c) = l := by simpa using E.mem c hck
    have e2 : F (phi 0) = l := by simpa using E.mem 0 hk
    have c1 := (hlab.1 (phi c) (E.lt c hck)).2
    have c2 := (hlab.1 (phi 0) (E.lt 0 hk)).2
    rw [e1, ← e2] at c1
    obtain ⟨d, hd, e3, hcn⟩ := E.conn i hc hck (c1.trans c2.symm)
    rw [E.inj hd hk e3] at hcn
    exact hcn
  refine ⟨hc, hl0, ?_⟩
  have hl := ufLab_isLab (partN phi k M) (4 * k) k
  refine sph_of_total i' (E.fix i hc hf) hl (ufl_le _ _) (ufl_idem _ _) ?_
  rw [rootsN_lab hl hl0]
  have hr : rootsN (fun _ => 0) k = 1 := by
    unfold rootsN
    refine (Cnt.countP _ k).uniq ((Cnt.one hk).congr fun x _ => ?_)
    simp only [beq_iff_eq]
    exact ⟨fun e => e.symm, fun e => e.symm⟩
  rw [hr]
  have p := i.perm 3
  have hcnt : Cnt (fun x => (F (x / 4) == l) = true ∧ SelP (tf M 3) (fun _ => true) x) (4 * n) (cntF F (tf M 3) (4 * n) (4 * n) l) := by
    refine (Cnt.countP (fun h => Go.Proofs.Ytkfjledhnakfoaa.fst (tf M 3) (4 * n) h && F (h / 4) == l) (4 * n)).congr fun x hx => ?_
    rw [Bool.and_eq_true, p.fst_iff hx]
    exact ⟨fun ⟨a, b⟩ => ⟨b, rfl, fun h' hl _ => a h' hl⟩, fun ⟨b, _, a⟩ => ⟨fun h' hl => a h' hl rfl, b⟩⟩
  have h1 := (selP_faces (i'.perm 3)).uniq (E.selP i hc 3 (fun _ => true) hcnt)
  have h2 := (sphB_iff _ _ _ _).1 hs (phi 0) (E.lt 0 hk)
  have e0 : F (phi 0) = l := by simpa using E.mem 0 hk
  rw [e0] at h2
  have h3 : cntV F n l = k := by
    unfold cntV
    refine (Cnt.countP (fun c => F c == l) n).uniq ?_
    have hk' := Cnt.ex (fun c => (F c == l) = true) n
    obtain ⟨b, hb⟩ := hk'
    have := Cnt.enum k _ _ hb E.lt E.mono E.onto
    rw [(this.uniq (Cnt.all k _ fun x hx => E.mem x hx))] at hb
    exact hb
  rw [h1, h2, h3]

/-- The crossings of a component, one after the other. -/
def memN (F : Nat → Nat) (c l : Nat) : List Nat := (List.range c).filter fun b => F b == l
theorem memb_memN (F : Nat → Nat) (c l : Nat) : memb F c l = (memN F c l).map fun (b : Nat) => (b : Int) := rfl
theorem memN_enum (F : Nat → Nat) (n l : Nat) : Enum (fun c => F c == l) n (memN F n l).length fun i => (memN F n l).getD i 0 := by
  have hm : ∀ c, c ∈ memN F n l ↔ c < n ∧ (F c == l) = true := fun c => by unfold memN; rw [List.mem_filter, List.mem_range]
  have hg : ∀ i (h : i < (memN F n l).length), (memN F n l).getD i 0 = (memN F n l)[i] := fun i h => by simp [List.getD, h]
  have hsort : (memN F n l).Pairwise (· < ·) := List.Pairwise.filter _ List.pairwise_lt_range
  refine ⟨fun i hi => ?_, fun i hi => ?_, fun i j hij hj => ?_, fun c hc hP => ?_⟩
  · rw [hg i hi]; exact ((hm _).1 (List.getElem_mem hi)).1
  · show (F _ == l) = true
    rw [hg i hi]; exact ((hm _).1 (List.getElem_mem hi)).2
  · rw [hg i (by omega), hg j hj]
    exact List.pairwise_iff_getElem.1 hsort i j (by omega) hj hij
  · obtain ⟨i, hi, e⟩ := List.mem_iff_getElem.1 ((hm c).2 ⟨hc, hP⟩)
    exact ⟨i, hi, by rw [hg i hi, e]⟩

end Go.Proofs.Ytkfjledhnakfoaa

/- Words: a box of the call's own whose two slices grow. -/
namespace Go.Proofs.Ytkfjledhnakfoaa
open Go.RowKit

theorem OI.cap {w : World} {B n c : Nat} {A : Option Addr} {xs : List Int} (h : OI w B (.slice A n c) xs) : n ≤ c ∧ c ≤ 9223372036854775807 := by
  obtain ⟨_, ⟨e, h0⟩ | ⟨g, cap, cur, e, _, _, h6, h7, _⟩⟩ := h
  · injection e with e1 e2 e3; omega
  · injection e with e1 e2 e3; unfold maxLen at h7; omega
/-- append of one int at a step of a region that draws, and where the new slice lies. -/
theorem step_append_int_at {ops : Array Oper} {o : Oper} {a : Act} {w : World} {K : Act → World → Prop} {Q : Exit → Act → World → Prop} {E : Prop} (hgd : o.guard = none) (s x : Operand)
    (ho : o.op = .call { callee := .builtin .append, args := #[s, x], argTypes := #[22, 22] }) (B : Nat) (v : Value) (xs : List Int) (hs : a.eval s = v) (hown : OI w B v xs) (g : Nat) (y : Int) (hx : a.eval x = .slice (some ⟨g, 0, none⟩) 1 1) (hc : w.cell? ⟨g, 0, none⟩ = some (.int .i64 y)) (hlen : xs.length ≤ 1000000) (hbase : B ≤ w.heap.size)
    (h : ∀ A' c' w', OI w' B (.slice A' (xs.length + 1) c') (xs ++ [y]) → w.grownBy w' v.ownBlock → ((Value.slice A' (xs.length + 1) c').ownBlock = v.ownBlock ∨ (Value.slice A' (xs.length + 1) c').ownBlock = some w.heap.size) → K (a.put o.dst (.slice A' (xs.length + 1) c')) w') :
    if Region.wanted o (yielded ops a.tmps) = true then Oper.wp Try.prog o a w K Q else E := by
  have hw : Region.wanted o (yielded ops a.tmps) = true := by simp [Region.wanted, hgd]
  rw [if_pos hw]
  obtain ⟨i0, hi, hz0, hz1, hz2⟩ := info_parts Try.infoInt
  obtain ⟨v', w', hrun, h1, h2, _, h3⟩ := run_append_own_at (P := Try.prog) w B 22 o.type 3 i0 (.int .i64 0) 1 8 Try.underlying22 hi hz0 hz1 hz2 rfl (by decide) v xs.length (ints xs) hown ⟨g, 0, none⟩ 1 1 [.int .i64 y] rfl
    (fun j u' hj => by
      match j, hj with
      | 0, hj => simp at hj; subst hj; simpa [Addr.add] using hc)
    (fun u' hu' => by simp at hu'; subst hu'; rfl) (by unfold maxLen; omega) (by omega) hbase
  have h4 : OI w' B v' (xs ++ [y]) := by unfold OI; simpa [ints] using h1
  obtain ⟨A', c', rfl⟩ := h4.shp (n := xs.length + 1) (by simp)
  unfold Oper.wp execOp
  simp only [ho, resolve, invoke, builtin, Sem.run_bind, Sem.run_pure, Result.andThen_ok, List.map_toArray, List.map_cons, List.map_nil, hs, hx, hrun]
  exact h A' c' w' h4 h2 h3

/-- What holds while the part's slices grow. -/
structure PtI (w2 wr : World) (gp BB : Nat) (v1 v2 : Value) (xs ys : List Int) : Prop where
  below : Below gp w2 wr
  base : BB ≤ wr.heap.size
  b0 : wr.cell? ⟨gp, 0, none⟩ = some v1
  b1 : wr.cell? ⟨gp, 1, none⟩ = some v2
  b2 : wr.cell? ⟨gp, 2, none⟩ = some (.int .i64 0)
  bf : ∀ i, wr.frozen? ⟨gp, i, none⟩ = false
  s : OI wr BB v1 xs
  m : OI wr BB v2 ys
  ne : v1.ownBlock = none ∨ v1.ownBlock ≠ v2.ownBlock
  hgp : gp < BB
theorem PtI.mid {w2 wr W w5 : World} {gp BB : Nat} {v1 v2 v : Value} {xs ys zs : List Int} (h : PtI w2 wr gp BB v1 v2 xs ys) (hb : Below wr.heap.size wr W) (ho : OI wr BB v zs) (hg : W.grownBy w5 v.ownBlock) :
    (∀ i u, wr.cell? ⟨gp, i, none⟩ = some u → w5.cell? ⟨gp, i, none⟩ = some u) ∧ (∀ i, w5.frozen? ⟨gp, i, none⟩ = false) ∧ Below gp w2 w5 := by
  have hl : gp < wr.heap.size := Nat.lt_of_lt_of_le h.hgp h.base
  have hlW : gp < W.heap.size := Nat.lt_of_lt_of_le hl hb.size
  have hne : some gp ≠ v.ownBlock := fun e => by have := (World.ownsRow.lt ho gp e.symm).1; have := h.hgp; omega
  have hblk := hg.block gp hlW hne
  refine ⟨fun i u e => ?_, fun i => ?_, ?_⟩
  · exact (World.cell?_of_block (a := ⟨gp, i, none⟩) hblk).trans ((hb.cell (p := ⟨gp, i, none⟩) hl).trans e)
  · exact (World.frozen?_of_block (a := ⟨gp, i, none⟩) hblk).trans ((hb.frozen (p := ⟨gp, i, none⟩) hl).trans (h.bf i))
  · exact (h.below.trans (hb.mono (by omega))).grown hg (by omega) (fun q e => by have := (World.ownsRow.lt ho q e).1; have := h.hgp; omega)
theorem PtI.stepS {w2 wr W w5 : World} {gp BB n c : Nat} {A : Option Addr} {v1 v2 : Value} {xs ys : List Int} {x : Int} (h : PtI w2 wr gp BB v1 v2 xs ys) (hb : Below wr.heap.size wr W) (hg : W.grownBy w5 v1.ownBlock) (ho : OI w5 BB (.slice A n c) (xs ++ [x])) (hv : (Value.slice A n c).ownBlock = v1.ownBlock ∨ (Value.slice A n c).ownBlock = some W.heap.size) :
    PtI w2 (w5.setCell ⟨gp, 0, none⟩ (.slice A n c)) gp BB (.slice A n c) v2 (xs ++ [x]) ys := by
  obtain ⟨m1, m2, m3⟩ := h.mid hb h.s hg
  have hl := h.hgp
  have hlt := h.base
  have hs := hb.size
  have hs2 := hg.size
  have oM : OI w5 BB v2 ys := by
    refine (h.m.keep hb).grown hg ?_
    rcases h.ne with e | e
    · cases e2 : v2.ownBlock with
      | none => exact .inl rfl
      | some q => exact .inr (by rw [e]; simp)
    · exact .inr fun q => e q.symm
  refine ⟨below_set m3 (Nat.le_refl _) _, by simp [World.setCell]; omega, World.cell?_setCell_same _ _ _ (m1 0 _ h.b0), (World.cell?_setCell_other _ _ _ _ (by simp)).trans (m1 1 _ h.b1), (World.cell?_setCell_other _ _ _ _ (by simp)).trans (m1 2 _ h.b2), fun i => (World.frozen?_setCell _ _ _ _).trans (m2 i), ho.far (p := ⟨gp, 0, none⟩) (fun e => ?_) _, oM.far (p := ⟨gp, 0, none⟩) (fun e => ?_) _, ?_, hl⟩
  · have := (World.ownsRow.lt ho _ e).1; simp at this; omega
  · have := (World.ownsRow.lt oM _ e).1; simp at this; omega
  · rcases hv with e | e
    · rw [e]; exact h.ne
    · rw [e]; exact .inr fun q => by have := (World.ownsRow.lt h.m _ q.symm).2; omega
theorem PtI.stepM {w2 wr W w5 : World} {gp BB n c : Nat} {A : Option Addr} {v1 v2 : Value} {xs ys : List Int} {x : Int} (h : PtI w2 wr gp BB v1 v2 xs ys) (hb : Below wr.heap.size wr W) (hg : W.grownBy w5 v2.ownBlock) (ho : OI w5 BB (.slice A n c) (ys ++ [x])) (hv : (Value.slice A n c).ownBlock = v2.ownBlock ∨ (Value.slice A n c).ownBlock = some W.heap.size) :
    PtI w2 (w5.setCell ⟨gp, 1, none⟩ (.slice A n c)) gp BB v1 (.slice A n c) xs (ys ++ [x]) := by
  obtain ⟨m1, m2, m3⟩ := h.mid hb h.m hg
  have hl := h.hgp
  have hlt := h.base
  have hs := hb.size
  have hs2 := hg.size
  have oS : OI w5 BB v1 xs := (h.s.keep hb).grown hg h.ne
  refine ⟨below_set m3 (Nat.le_refl _) _, by simp [World.setCell]; omega, (World.cell?_setCell_other _ _ _ _ (by simp)).trans (m1 0 _ h.b0), World.cell?_setCell_same _ _ _ (m1 1 _ h.b1), (World.cell?_setCell_other _ _ _ _ (by simp)).trans (m1 2 _ h.b2), fun i => (World.frozen?_setCell _ _ _ _).trans (m2 i), oS.far (p := ⟨gp, 1, none⟩) (fun e => ?_) _, ho.far (p := ⟨gp, 1, none⟩) (fun e => ?_) _, ?_, hl⟩
  · have := (World.ownsRow.lt oS _ e).1; simp at this; omega
  · have := (World.ownsRow.lt ho _ e).1; simp at this; omega
  · rcases hv with e | e
    · rw [e]; exact h.ne
    · rw [e]
      cases e2 : v1.ownBlock with
      | none => exact .inl rfl
      | some q => exact .inr fun k => by injection k with k; have := (World.ownsRow.lt h.s _ e2).2; omega
theorem PtI.drew {w2 wr : World} {gp BB : Nat} {v1 v2 : Value} {xs ys : List Int} (h : PtI w2 wr gp BB v1 v2 xs ys) : PtI w2 wr.drew gp BB v1 v2 xs ys :=
  ⟨h.below.drew, h.base, h.b0, h.b1, h.b2, h.bf, h.s, h.m, h.ne, h.hgp⟩

/-- The part's signs and mates. -/
def ptS (s : List Int) (phi : Nat → Nat) (i : Nat) : List Int := (List.range i).map fun j => s.getD (phi j) 0
def ptM (phi : Nat → Nat) (k : Nat) (M : Nat → Nat) (i : Nat) : List Int := (List.range i).map fun h => (partN phi k M h : Int)
theorem ptS_succ (s : List Int) (phi : Nat → Nat) (i : Nat) : ptS s phi (i + 1) = ptS s phi i ++ [s.getD (phi i) 0] := by unfold ptS; rw [List.range_succ, List.map_append]; rfl
theorem ptM_succ (phi : Nat → Nat) (k : Nat) (M : Nat → Nat) (i : Nat) : ptM phi k M (i + 1) = ptM phi k M i ++ [(partN phi k M i : Int)] := by unfold ptM; rw [List.range_succ, List.map_append]; rfl
theorem ptS_len (s : List Int) (phi : Nat → Nat) (i : Nat) : (ptS s phi i).length = i := by simp [ptS]
theorem ptM_len (phi : Nat → Nat) (k : Nat) (M : Nat → Nat) (i : Nat) : (ptM phi k M i).length = i := by simp [ptM]
def PtPost (w : World) (k : Nat) (s m : List Int) (e : Ending) (w' : World) : Prop :=
  ∃ A cs B cm, e = .returned (dval A k cs B (4 * k) cm 0) ∧ OI w' w.heap.size (.slice A k cs) s ∧ OI w' w.heap.size (.slice B (4 * k) cm) m ∧ Below w.heap.size w w'

end Go.Proofs.Ytkfjledhnakfoaa

/- Walk: beside. -/
namespace Go.Proofs.Ytkfjledhnakfoaa
open Go.RowKit

/-- What holds while the second's mates are raised. -/
structure BsI (w0 wr : World) (BB n c : Nat) (A : Option Addr) (xs : List Int) : Prop where
  below : Below w0.heap.size w0 wr
  m : OI wr BB (.slice A n c) xs
theorem BsI.put {w0 wr : World} {BB n c g : Nat} {xs : List Int} (h : BsI w0 wr BB n c (some ⟨g, 0, none⟩) xs) (hl : xs.length = n) (h0 : w0.heap.size ≤ BB) (hg : BB ≤ g) (j : Nat) (z : Int) :
    BsI w0 (wr.setCell ⟨g, j, none⟩ (.int .i64 z)).drew BB n c (some ⟨g, 0, none⟩) (xs.set j z) :=
  ⟨(below_set h.below (by omega) _).drew, (OI.set_ h.m hl j z).1⟩

set_option maxHeartbeats 6400000 in
set_option maxRecDepth 100000 in
theorem beside_any (A1 B1 A2 B2 : Option Addr) (n1 c1 k1 d1 n2 c2 k2 d2 : Nat) (l1 l2 : Int) (s1 m1 s2 m2 : List Int) (w : World) (hs1 : RI w A1 n1 s1) (hm1 : RI w B1 k1 m1) (hs2 : RI w A2 n2 s2) (hm2 : RI w B2 k2 m2)
    (hn1 : n1 ≤ 64) (hk1 : k1 ≤ 256) (hn2 : n2 ≤ 64) (hk2 : k2 ≤ 256) (hl1 : 0 ≤ l1 ∧ l1 ≤ 64) (hl2 : 0 ≤ l2 ∧ l2 ≤ 64) (hr : ∀ j, j < k2 → 0 ≤ m2.getD j 0 ∧ m2.getD j 0 ≤ 1000) :
    Calls Try.prog 56 #[dval A1 n1 c1 B1 k1 d1 l1, dval A2 n2 c2 B2 k2 d2 l2] w (BsPost w (n1 + n2) (k1 + k2) (l1 + l2) (s1 ++ s2) (bsM m1 m2)) := by
  have hb1 := below_alloc w (dbox A1 n1 c1 B1 k1 d1 l1)
  have hb2 := below_alloc (w.alloc (dbox A1 n1 c1 B1 k1 d1 l1)) (dbox A2 n2 c2 B2 k2 d2 l2)
  have hb3 := below_alloc ((w.alloc (dbox A1 n1 c1 B1 k1 d1 l1)).alloc (dbox A2 n2 c2 B2 k2 d2 l2)) (.cells #[.slice none 0 0, .slice none 0 0, .int .i64 0] 24)
  have hd1 := ((DB.new w A1 n1 c1 B1 k1 d1 l1).keep hb2).keep hb3
  have hd2 := (DB.new (w.alloc (dbox A1 n1 c1 B1 k1 d1 l1)) A2 n2 c2 B2 k2 d2 l2).keep hb3
  have hbx := bxz_new ((w.alloc (dbox A1 n1 c1 B1 k1 d1 l1)).alloc (dbox A2 n2 c2 B2 k2 d2 l2))
  have hb := below_step (below_step hb1 hb2) hb3
  have hsz : (w.alloc (dbox A1 n1 c1 B1 k1 d1 l1)).heap.size = w.heap.size + 1 := by simp
  have hsz2 : ((w.alloc (dbox A1 n1 c1 B1 k1 d1 l1)).alloc (dbox A2 n2 c2 B2 k2 d2 l2)).heap.size = w.heap.size + 2 := by simp
  have hsz3 : (((w.alloc (dbox A1 n1 c1 B1 k1 d1 l1)).alloc (dbox A2 n2 c2 B2 k2 d2 l2)).alloc (.cells #[.slice none 0 0, .slice none 0 0, .int .i64 0] 24)).heap.size = w.heap.size + 3 := by simp
  rw [hsz] at hd2
  rw [hsz2] at hbx
  have HS1 := Lib.hid hs1
  have HM1 := Lib.hid hm1
  have HS2 := Lib.hid hs2
  have HM2 := Lib.hid hm2
  have HR := Lib.hid hr
  clear hb1 hb2 hb3 hsz hsz2 hs1 hm1 hs2 hm2 hr
  unfold dbox at hd1 hd2 hbx hb hsz3
  go_enter Try.func56, Try.ntmps56
  go_upto_region 1 with fail
  generalize ((w.alloc (.cells #[.slice A1 n1 c1, .slice B1 k1 d1, .int .i64 l1] 24)).alloc (.cells #[.slice A2 n2 c2, .slice B2 k2 d2, .int .i64 l2] 24)).alloc (.cells #[.slice none 0 0, .slice none 0 0, .int .i64 0] 24) = w0 at hd1 hd2 hbx hb hsz3 ⊢
  rw [show w.heap.size + 1 + 1 = w.heap.size + 2 by omega]
  obtain ⟨ga, hga⟩ : ∃ ga, w.heap.size = ga := ⟨_, rfl⟩
  obtain ⟨gb, hgb⟩ : ∃ gb, w.heap.size + 1 = gb := ⟨_, rfl⟩
  obtain ⟨gr, hgr⟩ : ∃ gr, w.heap.size + 2 = gr := ⟨_, rfl⟩
  have HG : Hid (ga = w.heap.size ∧ gb = ga + 1 ∧ gr = ga + 2 ∧ w0.heap.size = ga + 3) := Lib.hid ⟨hga.symm, by omega, by omega, by omega⟩
  rw [hga] at hd1
  rw [hgb] at hd2 ⊢
  rw [hgr] at hbx ⊢
  rw [hga]
  have HB := Lib.hid hb
  have HBX := Lib.hid hbx
  have HD1 := Lib.hid hd1
  have HD2 := Lib.hid hd2
  obtain ⟨a0, a1, a2, alt⟩ := hd1
  obtain ⟨b0, b1, b2, blt⟩ := hd2
  have CC := Lib.hid (concat_ri (some ⟨w0.heap.size, 0, none⟩) 2 2 [m1, m2] (w0.alloc (.cells #[.slice B1 k1 d1, .slice B2 k2 d2] 22)) rfl (by omega) (by have h1 := HM1.out.1; have h2 := HM2.out.1; simp; omega) (rows_two (HM1.out.keep hb) (HM2.out.keep hb)))
  clear hga hgb hgr hsz3 hb hbx
  go_upto_region 2 with (go_at_call 67; ((with_reducible refine CC.out.mono ?_); rintro e w1 ⟨v, rfl, oM, hb1⟩))
  have hfl : ([m1, m2] : List (List Int)).flatten = bsK m1 m2 0 := by simp [bsK]
  rw [hfl] at oM
  have hb01 := below_step (below_alloc w0 (.cells #[.slice B1 k1 d1, .slice B2 k2 d2] 22)) hb1
  obtain ⟨BB, hBB⟩ : ∃ BB, (w0.alloc (.cells #[.slice B1 k1 d1, .slice B2 k2 d2] 22)).heap.size = BB := ⟨_, rfl⟩
  rw [hBB] at oM
  have HBB : Hid (BB = w0.heap.size + 1 ∧ BB ≤ w1.heap.size) := Lib.hid ⟨by rw [← hBB]; simp, by rw [← hBB]; exact hb1.size⟩
  have hlM : (bsK m1 m2 0).length = k1 + k2 := by rw [bsK_length, HM1.out.1, HM2.out.1]
  obtain ⟨M, hM⟩ : ∃ M, k1 + k2 = M := ⟨_, rfl⟩
  rw [hM] at hlM ⊢
  obtain ⟨R, cR, rfl⟩ : ∃ R cR, v = .slice R M cR := by
    rcases oM.form with ⟨e, hx⟩ | ⟨g, cap, e, _⟩
    · exact ⟨none, 0, by rw [e]; rw [hx] at hlM; simp at hlM; rw [← hlM]⟩
    · exact ⟨_, _, by rw [e, hlM]⟩
  have HI0 : Hid (BsI w0 w1 BB M cR R (bsK m1 m2 0)) := Lib.hid ⟨hb01, oM⟩
  have HML := Lib.hid hM
  have y1 := (hb01.cell (p := ⟨gb, 1, none⟩) blt).trans b1
  have k10 : (0 : Int) ≤ (k1 : Int) := Int.natCast_nonneg _
  have k1i : (k1 : Int) ≤ 256 := by omega
  have k2i : (k2 : Int) ≤ 256 := by omega
  have HLM1 := Lib.hid HM1.out.1
  have HLM2 := Lib.hid HM2.out.1
  clear oM hfl hb1 hBB hlM hM CC
  go_wp2
  go_loopw [6, 16] (fun _ i wr => ∃ j : Nat, j ≤ k2 ∧ i = .int .i64 j ∧ BsI w0 wr BB M cR R (bsK m1 m2 j)) (fun _ i _ => k2 - (intOf i).toNat)
  case atStart => exact ⟨0, by omega, rfl, HI0.out⟩
  case round =>
    obtain ⟨j, hj, rfl, hI⟩ := hrel
    have hj0 : (0 : Int) ≤ (j : Int) := Int.natCast_nonneg _
    have z1 := (hI.below.cell (p := ⟨ga, 1, none⟩) alt).trans a1
    by_cases hjn : j < k2
    · have hj1 : (j : Int) < (k2 : Int) := by omega
      have hlen : (bsK m1 m2 j).length = M := by rw [bsK_length, HLM1.out, HLM2.out]; exact HML.out
      obtain ⟨g, pc, hsl⟩ := hI.m.form_pos hlen (by have := HML.out; omega)
      injection hsl with e1 e2 e3
      subst e1; subst e3
      clear e2
      have hgl := World.ownsRow.lt hI.m g rfl
      have hcell := hI.m.cell (k1 + j) (by rw [hlen]; have := HML.out; omega)
      have hfz : wr.frozen? ⟨g, k1 + j, none⟩ = false := by have := hI.m; unfold OI at this; rw [hlen] at this; exact World.ownsRow.frozenAt this (k1 + j)
      have hat := bsK_at m1 m2 (j := j) (by rw [HLM2.out]; exact hjn)
      rw [HLM1.out] at hat
      rw [hat] at hcell
      have hrj := HR.out j hjn
      have HE := Lib.hid (bsK_succ m1 m2 (j := j) (by rw [HLM2.out]; exact hjn))
      obtain ⟨z, hz⟩ : ∃ z, m2.getD j 0 = z := ⟨_, rfl⟩
      rw [hz] at hcell hrj HE
      rw [HLM1.out] at HE
      obtain ⟨p, hp⟩ : ∃ p, k1 + j = p := ⟨_, rfl⟩
      have hpi : (k1 : Int) + (j : Int) = (p : Int) := by omega
      rw [hp] at hcell hfz HE
      have hp0 : (0 : Int) ≤ (p : Int) := Int.natCast_nonneg _
      have hp1 : (p : Int) < (M : Int) := by have := HML.out; omega
      have hM1 : (M : Int) ≤ 512 := by have := HML.out; omega
      have hw : IntKind.i64.wrap (z + (k1 : Int)) = z + (k1 : Int) := IntWalk.i64_in _ (by omega)
      have HI := Lib.hid hI
      have HLEN := Lib.hid hlen
      have HGL := Lib.hid hgl.1
      clear hI hat hrj hz hp hlen hgl
      go_wp2
      go_region
      go_wp2
      go_roundw
      case rel => exact ⟨j + 1, by omega, by go_num, by rw [HE.out]; exact HI.out.put HLEN.out (by have := HBB.out; omega) HGL.out p _⟩
      case measure => simp [intOf]; omega
    · obtain rfl : k2 = j := by omega
      obtain ⟨wO, hwO⟩ : ∃ wO : World, wO = wr := ⟨_, rfl⟩
      subst hwO
      have hb0O := hI.below
      have HI := Lib.hid hI
      have hszO := hb0O.size
      obtain ⟨x0, x1, x2, xlt⟩ := HD1.out.keep hb0O
      obtain ⟨u0, u1, u2, ult⟩ := HD2.out.keep hb0O
      have hwl : IntKind.i64.wrap (l1 + l2) = l1 + l2 := IntWalk.i64_in _ (by omega)
      have hbw := below_step HB.out hb0O
      have CC2 := Lib.hid (concat_ri (some ⟨wO.heap.size, 0, none⟩) 2 2 [s1, s2] (wO.alloc (.cells #[.slice A1 n1 c1, .slice A2 n2 c2] 22)).drew rfl (by omega) (by have h1 := HS1.out.1; have h2 := HS2.out.1; simp; omega) (rows_two (HS1.out.keep hbw) (HS2.out.keep hbw)))
      have HBW := Lib.hid hbw
      have HNE : Hid (gr ≠ ga ∧ gr ≠ gb) := Lib.hid (by have := HG.out; omega)
      have HLS : Hid (([s1, s2] : List (List Int)).flatten.length = n1 + n2) := Lib.hid (by have h1 := HS1.out.1; have h2 := HS2.out.1; simp; omega)
      have HSZ := Lib.hid hszO
      have hbA := (below_alloc wO (.cells #[.slice A1 n1 c1, .slice A2 n2 c2] 22)).drew
      clear hI hb0O z1 a0 a1 a2 b0 b1 b2 hbw hszO
      go_wp2
      go_region_held3 (fun w' => w'.cell? ⟨ga, 0, none⟩ = some (.slice A1 n1 c1) ∧ w'.cell? ⟨gb, 0, none⟩ = some (.slice A2 n2 c2) ∧ w'.cell? ⟨ga, 2, none⟩ = some (.int .i64 l1) ∧ w'.cell? ⟨gb, 2, none⟩ = some (.int .i64 l2))
        (first | exact ⟨x0, u0, x2, u2⟩ | exact ⟨v0, v1, v2, v3⟩ | exact ⟨(set3_far w2 gr _ _ _ HNE.out.1 0).trans v0, (set3_far w2 gr _ _ _ HNE.out.2 0).trans v1, (set3_far w2 gr _ _ _ HNE.out.1 2).trans v2, (set3_far w2 gr _ _ _ HNE.out.2 2).trans v3⟩ | go_keep)
        ((go_at_call 67; ((with_reducible refine CC2.out.mono ?_); rintro e w2 ⟨v, rfl, oS, hb2'⟩; have hb2 := below_step hbA hb2'; obtain ⟨A3, c3, rfl⟩ := oS.shp HLS.out; have v0 := (hb2.cell (p := ⟨ga, 0, none⟩) xlt).trans x0; have v1 := (hb2.cell (p := ⟨gb, 0, none⟩) ult).trans u0; have v2 := (hb2.cell (p := ⟨ga, 2, none⟩) xlt).trans x2; have v3 := (hb2.cell (p := ⟨gb, 2, none⟩) ult).trans u2; have hr := HBX.out.kp (below_step HI.out.below hb2); have r0 := hr.1.1; have r1 := hr.1.2.1; have r2 := hr.1.2.2.1; have f0 := hr.2 0; have f1 := hr.2 1; have f2 := hr.2 2)))
      obtain ⟨q0, q1, q2⟩ := set3_cells w2 gr (.slice A3 (n1 + n2) c3) (.slice R M cR) (.int .i64 (l1 + l2)) r0 r1 r2
      have HF : Hid (BsPost w (n1 + n2) (k1 + k2) (l1 + l2) (s1 ++ s2) (bsM m1 m2) (.returned (dval A3 (n1 + n2) c3 R M cR (l1 + l2))) (set3 w2 gr (.slice A3 (n1 + n2) c3) (.slice R M cR) (.int .i64 (l1 + l2)))) := Lib.hid (by
        rw [HML.out]
        have hg := HG.out
        have hw2 := hb2.size
        have hsz0 := HSZ.out
        have hbb := HBB.out
        have oS' := oS
        rw [show ([s1, s2] : List (List Int)).flatten = s1 ++ s2 by simp] at oS'
        have oM2 := HI.out.m.keep hb2
        rw [← HLM2.out, bsK_all] at oM2
        have hAl : (wO.alloc (.cells #[.slice A1 n1 c1, .slice A2 n2 c2] 22)).drew.heap.size = wO.heap.size + 1 := by simp
        refine ⟨A3, c3, R, cR, rfl, (oS'.set3 (fun e => ?_) _ _ _).mono (by omega), (oM2.set3 (fun e => ?_) _ _ _).mono (by omega), fun g e e' => ?_, set3_below (below_step HBW.out hb2) (by omega) _ _ _⟩
        · have := World.ownsRow.lt oS' _ e; omega
        · have := World.ownsRow.lt oM2 _ e; omega
        · have h1 := World.ownsRow.lt oS' _ e'
          have h2 := World.ownsRow.lt HI.out.m _ e
          omega)
      go_wp2
      exact bodyPost_ret (v := dval A3 (n1 + n2) c3 R M cR (l1 + l2)) (by simp [results, Try.results56, go_sem, q0, q1, q2]) rfl HF.out

end Go.Proofs.Ytkfjledhnakfoaa

/- Walks: the reference's Turn and Out. -/
namespace Go.Proofs.Ytkfjledhnakfoaa
open Go.RowKit

set_option maxHeartbeats 400000 in
theorem rturn_any (h k : Int) (w : World) (hlo : -9223372036854775808 ≤ h) (hhi : h ≤ 9223372036854775807) (_klo : -9223372036854775808 ≤ k) (_khi : k ≤ 9223372036854775807) :
    Calls Try.prog 128 #[.int .i64 h, .int .i64 k] w fun e w' => e = .returned (.int .i64 (turnI h k)) ∧ w = w' := by
  obtain ⟨ht1, ht2⟩ := tmod4 k
  by_cases hn : h < 0
  · go_enter Try.func128, Try.ntmps128
    go_wp2
    go_ret
    exact ⟨ret_int (by simp [turnI, hn]), rfl⟩
  · have hn' : 0 ≤ h := by omega
    by_cases hp : 0 ≤ h % 4 + k.tmod 4
    · go_enter Try.func128, Try.ntmps128
      go_wp2
      go_ret
      exact ⟨ret_int (by rw [turnI, if_neg (by omega)]; omega), rfl⟩
    · have ht : (h % 4 + k.tmod 4).tmod 4 = h % 4 + k.tmod 4 := tmod_small _ (by omega) (by omega)
      go_enter Try.func128, Try.ntmps128
      go_wp2
      go_ret
      exact ⟨ret_int (by rw [turnI, if_neg (by omega)]; omega), rfl⟩

set_option maxHeartbeats 800000 in
theorem rout_any (A : Option Addr) (ns cs : Nat) (signs : List Int) (h : Nat) (w : World) (hs : RI w A ns signs) (hh : h / 4 < ns) (hns : ns ≤ 1000000) :
    Calls Try.prog 57 #[.slice A ns cs, .int .i64 h] w fun e w' => e = .returned (.bool (outB signs h)) ∧ w = w' := by
  obtain ⟨b, off, rfl, hb, hc⟩ := hs.2 (by omega)
  have hcell : w.cell? ⟨b, off + h / 4, none⟩ = some (.int .i64 (signs.getD (h / 4) 0)) := hc _ hh
  generalize hx : signs.getD (h / 4) 0 = x at hcell
  clear hs hc
  rcases mod4_cases h with h4 | h4 | h4 | h4
  · have h4' : (h : Int) % 4 = 0 := by omega
    have e : outB signs h = false := by simp [outB, h4]
    rw [e]; clear e h4 hx
    go_enter Try.func57, Try.ntmps57
    go_wp2
    go_ret
    exact ⟨rfl, rfl⟩
  · have h4' : (h : Int) % 4 = 1 := by omega
    have e : outB signs h = (x == 1) := by simp only [outB, h4, hx]; rfl
    rw [e]; clear e h4 hx
    go_enter Try.func57, Try.ntmps57
    go_wp2
    go_ret
    exact ⟨rfl, rfl⟩
  · have h4' : (h : Int) % 4 = 2 := by omega
    have e : outB signs h = true := by simp [outB, h4]
    rw [e]; clear e h4 hx
    go_enter Try.func57, Try.ntmps57
    go_wp2
    go_ret
    exact ⟨rfl, rfl⟩
  · have h4' : (h : Int) % 4 = 3 := by omega
    have e : outB signs h = (x == -1) := by simp only [outB, h4, hx]; rfl
    rw [e]; clear e h4 hx
    go_enter Try.func57, Try.ntmps57
    go_wp2
    go_ret
    exact ⟨rfl, rfl⟩

end Go.Proofs.Ytkfjledhnakfoaa
