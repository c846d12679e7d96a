import Derived.Test.YtkfjledhnakfoaaA03
import Derived.Deep.RegionLaw
import Derived.Test.YtkfjledhnakfoaaA05
import Derived.Deep.RegionHeld3
import Derived.Laws.EntriesVeiled
import Derived.Test.YtkfjledhnakfoaaA02
/- Words: append of one element to a row of the call's own, as a step of a region that draws, and at a plain place. -/
namespace Go.Proofs.Ytkfjledhnakfoaa
open Go.RowKit

theorem ownRow.slice {w : World} {B : Nat} {e : TypeId} {v : Value} {vs : List Value} (h : ownRow w B e v vs) : ∃ A c, v = .slice A vs.length c := by
  rcases h.2 with ⟨h1, h2⟩ | ⟨g, cap, cur, h1, _⟩
  · exact ⟨none, 0, by rw [h1, h2]⟩
  · exact ⟨_, cap, h1⟩
theorem step_append_row {P : Program} {ops : Array Oper} {o : Oper} {a : Act} {w : World} {K : Act → World → Prop} {Q : Exit → Act → World → Prop} {E : Prop} (hgd : o.guard = none) (s x : Operand) (tt tr : TypeId) (z : Value) (bytes : Nat)
    (ho : o.op = .call { callee := .builtin .append, args := #[s, x], argTypes := #[tt, tt] }) (ht : P.underlying tt = some (.slice tr)) (hi : (P.info? tr).map (fun i => (i.zero, i.size, i.bytes)) = some (some z, 1, bytes)) (hz : z.cells.size = 1) (hby : bytes ≤ 24)
    (B : Nat) (v : Value) (vs : List Value) (hs : a.eval s = v) (hown : ownRow w B tr v vs) (g : Nat) (u : Value) (hx : a.eval x = .slice (some ⟨g, 0, none⟩) 1 1) (hc : w.cell? ⟨g, 0, none⟩ = some u) (hu : u.oneCell' = true) (hlen : vs.length ≤ 1000000) (hbase : B ≤ w.heap.size)
    (h : ∀ A' c' w', ownRow w' B tr (.slice A' (vs.length + 1) c') (vs ++ [u]) → w.grownBy w' v.ownBlock → K (a.put o.dst (.slice A' (vs.length + 1) c')) w') :
    if Region.wanted o (yielded ops a.tmps) = true then Oper.wp P o a w K Q else E := by
  have hw : Region.wanted o (yielded ops a.tmps) = true := by simp [Region.wanted, hgd]
  rw [if_pos hw]
  obtain ⟨i0, hi0, hz0, hz1, hz2⟩ := info_parts hi
  have hb24 : (vs.length + 1) * bytes ≤ 140737488355328 := by
    have h1 : (vs.length + 1) * bytes ≤ 1000001 * 24 := Nat.mul_le_mul (by omega) hby
    omega
  obtain ⟨v', w', hrun, h1, h2, h3⟩ := run_append_own (P := P) w B tt o.type tr i0 z 1 bytes ht hi0 hz0 hz1 hz2 hz (by decide) v vs.length vs hown ⟨g, 0, none⟩ 1 1 [u] rfl
    (fun j u' hj => by
      match j, hj with
      | 0, hj => simp at hj; subst hj; simpa [Addr.add] using hc)
    (fun u' hu' => by simp at hu'; subst hu'; exact hu) (by unfold maxLen; omega) hb24 hbase
  have h4 : ownRow w' B tr v' (vs ++ [u]) := by unfold ownRow; simpa using h1
  obtain ⟨A', c', rfl⟩ := h4.slice
  unfold Oper.wp execOp
  simp only [ho, resolve, invoke, builtin, Sem.run_bind, Sem.run_pure, Result.andThen_ok, List.map_toArray, List.map_cons, List.map_nil, hs, hx, hrun]
  have e : (vs ++ [u]).length = vs.length + 1 := by simp
  rw [e] at h4 ⊢
  exact h A' c' w' h4 h2
theorem wpList_append_row1 {P : Program} {ops : Array Oper} {rest : List Oper} {o : Oper} {a : Act} {w : World} {Q : Exit → Act → World → Prop} (hgd : o.guard = none) (s x : Operand) (tt tr : TypeId) (z : Value) (bytes : Nat)
    (ho : o.op = .call { callee := .builtin .append, args := #[s, x], argTypes := #[tt, tt] }) (ht : P.underlying tt = some (.slice tr)) (hi : (P.info? tr).map (fun i => (i.zero, i.size, i.bytes)) = some (some z, 1, bytes)) (hz : z.cells.size = 1) (hby : bytes ≤ 24)
    (B : Nat) (v : Value) (vs : List Value) (hs : a.eval s = v) (hown : ownRow w B tr v vs) (g : Nat) (u : Value) (hx : a.eval x = .slice (some ⟨g, 0, none⟩) 1 1) (hc : w.cell? ⟨g, 0, none⟩ = some u) (hu : u.oneCell' = true) (hlen : vs.length ≤ 1000000) (hbase : B ≤ w.heap.size)
    (h : ∀ A' c' w', ownRow w' B tr (.slice A' (vs.length + 1) c') (vs ++ [u]) → w.grownBy w' v.ownBlock → wpList P ops Q rest (a.put o.dst (.slice A' (vs.length + 1) c')) w') : wpList P ops Q (o :: rest) a w := by
  obtain ⟨i0, hi0, hz0, hz1, hz2⟩ := info_parts hi
  have hb24 : (vs.length + 1) * bytes ≤ 140737488355328 := by
    have h1 : (vs.length + 1) * bytes ≤ 1000001 * 24 := Nat.mul_le_mul (by omega) hby
    omega
  refine wpList_append_own w hgd s x tt ho B tr i0 z 1 bytes ht hi0 hz0 hz1 hz2 hz (by decide) v vs.length vs hs hown ⟨g, 0, none⟩ 1 1 [u] hx rfl
    (fun j u' hj => by
      match j, hj with
      | 0, hj => simp at hj; subst hj; simpa [Addr.add] using hc)
    (fun u' hu' => by simp at hu'; subst hu'; exact hu) (by unfold maxLen; omega) hb24 hbase ?_
  intro v' w' h1 h2 _
  have h4 : ownRow w' B tr v' (vs ++ [u]) := by unfold ownRow; simpa using h1
  obtain ⟨A', c', rfl⟩ := h4.slice
  have e : (vs ++ [u]).length = vs.length + 1 := by simp
  rw [e] at h4 ⊢
  exact h A' c' w' h4 h2

end Go.Proofs.Ytkfjledhnakfoaa

/- Walks: limited, beside. -/
namespace Go.Proofs.Ytkfjledhnakfoaa
open Go.RowKit

/-- An empty box. -/
def BxZ (w : World) (g : Nat) : Prop := DB w g none 0 0 none 0 0 0 ∧ ∀ i, w.frozen? ⟨g, i, none⟩ = false
theorem BxZ.kp {w w' : World} {g : Nat} (h : BxZ w g) (hb : Below w.heap.size w w') : BxZ w' g := ⟨h.1.keep hb, fun i => (hb.frozen (p := ⟨g, i, none⟩) h.1.2.2.2).trans (h.2 i)⟩
theorem bxz_new (w : World) : BxZ (w.alloc (.cells #[.slice none 0 0, .slice none 0 0, .int .i64 0] 24)) w.heap.size :=
  ⟨DB.new w none 0 0 none 0 0 0, fun _i => World.frozen?_alloc_at _ _ _ _ rfl⟩
theorem BxZ.kg {w w' : World} {g : Nat} (h : BxZ w g) {row : Option Nat} (hg : w.grownBy w' row) (hne : row ≠ some g) : BxZ w' g := by
  have hb := hg.block g h.1.2.2.2 (fun e => hne e.symm)
  obtain ⟨⟨h0, h1, h2, h3⟩, hf⟩ := h
  exact ⟨⟨(World.cell?_of_block (a := ⟨g, 0, none⟩) hb).trans h0, (World.cell?_of_block (a := ⟨g, 1, none⟩) hb).trans h1, (World.cell?_of_block (a := ⟨g, 2, none⟩) hb).trans h2, Nat.lt_of_lt_of_le h3 hg.size⟩, fun i => (World.frozen?_of_block (a := ⟨g, i, none⟩) hb).trans (hf i)⟩

theorem OI.shp {w : World} {B n : Nat} {v : Value} {xs : List Int} (h : OI w B v xs) (hl : xs.length = n) : ∃ A c, v = .slice A n c := by
  rcases h.form with ⟨e, hx⟩ | ⟨g, cap, e, _⟩
  · exact ⟨none, 0, by rw [e]; rw [hx] at hl; simp at hl; rw [← hl]⟩
  · exact ⟨_, _, by rw [e, hl]⟩
/-- What limited answers. -/
def LmPost (w : World) (A : Option Addr) (ns cs : Nat) (B : Option Addr) (nm cm : Nat) (lp : Int) (e : Ending) (w' : World) : Prop :=
  (if ns ≤ 64 ∧ lp ≤ 64 then e = .returned (.tuple #[dval A ns cs B nm cm lp, .int .i64 0]) else e = .returned (.tuple #[dval none 0 0 none 0 0 0, .int .i64 5])) ∧ Below w.heap.size w w'
set_option maxHeartbeats 1600000 in
set_option maxRecDepth 100000 in
theorem limited_any (A B : Option Addr) (ns cs nm cm : Nat) (lp : Int) (w : World) (hns : ns ≤ 9223372036854775807) :
    Calls Try.prog 55 #[dval A ns cs B nm cm lp] w (LmPost w A ns cs B nm cm lp) := by
  have hb1 := below_alloc w (dbox A ns cs B nm cm lp)
  have hb2 := below_alloc (w.alloc (dbox A ns cs B nm cm lp)) (.cells #[.slice none 0 0, .slice none 0 0, .int .i64 0] 24)
  have hd := (DB.new w A ns cs B nm cm lp).keep hb2
  have hbx := bxz_new (w.alloc (dbox A ns cs B nm cm lp))
  have hb := below_step hb1 hb2
  have hsz : (w.alloc (dbox A ns cs B nm cm lp)).heap.size = w.heap.size + 1 := by simp
  rw [hsz] at hbx
  have n0 : (0 : Int) ≤ (ns : Int) := Int.natCast_nonneg _
  have n1 : (ns : Int) ≤ 9223372036854775807 := by omega
  unfold dbox at hd hbx hb
  by_cases h1 : ns ≤ 64
  · have h1' : ¬ (64 < ns) := by omega
    have h1i : decide (64 < ns) = false := by simp; omega
    have h1j : (64 : Int) < (ns : Int) ↔ False := by simp; omega
    by_cases h2 : lp ≤ 64
    · have h2' : ¬ (64 < lp) := by omega
      have h2i : decide (64 < lp) = false := by simp; omega
      have HI : Hid (ns ≤ 64 ∧ lp ≤ 64) := Lib.hid ⟨h1, h2⟩
      clear hb1 hb2 hsz
      go_enter Try.func55, Try.ntmps55
      go_upto_region 1 with fail
      generalize (w.alloc (.cells #[.slice A ns cs, .slice B nm cm, .int .i64 lp] 24)).alloc (.cells #[.slice none 0 0, .slice none 0 0, .int .i64 0] 24) = w0 at hd hbx hb ⊢
      obtain ⟨gr, hgr⟩ : ∃ gr, w.heap.size + 1 = gr := ⟨_, rfl⟩
      have hle : w.heap.size ≤ gr := by omega
      rw [hgr] at hbx ⊢
      obtain ⟨d0, d1, d2, dlt⟩ := hd
      obtain ⟨⟨r0, r1, r2, rlt⟩, rf⟩ := hbx
      have f0 := rf 0
      have f1 := rf 1
      have f2 := rf 2
      obtain ⟨k0, k1, k2⟩ := set3_cells w0 gr (.slice A ns cs) (.slice B nm cm) (.int .i64 lp) r0 r1 r2
      have HF : Hid (LmPost w A ns cs B nm cm lp (.returned (.tuple #[dval A ns cs B nm cm lp, .int .i64 0])) (set3 w0 gr (.slice A ns cs) (.slice B nm cm) (.int .i64 lp))) := Lib.hid ⟨by rw [if_pos HI.out], set3_below hb hle _ _ _⟩
      clear hgr rf
      go_wp2
      exact bodyPost_ret (v := .tuple #[dval A ns cs B nm cm lp, .int .i64 0]) (by simp [results, Try.results55, go_sem, k0, k1, k2]) rfl HF.out
    · have h2' : 64 < lp := by omega
      have h2i : decide (64 < lp) = true := by simp; omega
      have HI : Hid (¬ (ns ≤ 64 ∧ lp ≤ 64)) := Lib.hid (fun h => h2 h.2)
      clear hb1 hb2 hsz h2
      go_enter Try.func55, Try.ntmps55
      go_upto_region 1 with fail
      generalize (w.alloc (.cells #[.slice A ns cs, .slice B nm cm, .int .i64 lp] 24)).alloc (.cells #[.slice none 0 0, .slice none 0 0, .int .i64 0] 24) = w0 at hd hbx hb ⊢
      obtain ⟨gr, hgr⟩ : ∃ gr, w.heap.size + 1 = gr := ⟨_, rfl⟩
      have hle : w.heap.size ≤ gr := by omega
      rw [hgr] at hbx ⊢
      obtain ⟨d0, d1, d2, dlt⟩ := hd
      obtain ⟨⟨r0, r1, r2, rlt⟩, rf⟩ := hbx
      have f0 := rf 0
      have f1 := rf 1
      have f2 := rf 2
      obtain ⟨k0, k1, k2⟩ := set3_cells w0 gr (.slice none 0 0) (.slice none 0 0) (.int .i64 0) r0 r1 r2
      have HF : Hid (LmPost w A ns cs B nm cm lp (.returned (.tuple #[dval none 0 0 none 0 0 0, .int .i64 5])) (set3 w0 gr (.slice none 0 0) (.slice none 0 0) (.int .i64 0))) := Lib.hid ⟨by rw [if_neg HI.out], set3_below hb hle _ _ _⟩
      clear hgr rf
      go_wp2
      exact bodyPost_ret (v := .tuple #[dval none 0 0 none 0 0 0, .int .i64 5]) (by simp [results, Try.results55, go_sem, k0, k1, k2]) rfl HF.out
  · have h1' : (64 : Int) < (ns : Int) := by omega
    have h1i : decide (64 < ns) = true := by simp; omega
    have HI : Hid (¬ (ns ≤ 64 ∧ lp ≤ 64)) := Lib.hid (fun h => h1 h.1)
    clear hb1 hb2 hsz h1
    go_enter Try.func55, Try.ntmps55
    go_upto_region 1 with fail
    generalize (w.alloc (.cells #[.slice A ns cs, .slice B nm cm, .int .i64 lp] 24)).alloc (.cells #[.slice none 0 0, .slice none 0 0, .int .i64 0] 24) = w0 at hd hbx hb ⊢
    obtain ⟨gr, hgr⟩ : ∃ gr, w.heap.size + 1 = gr := ⟨_, rfl⟩
    have hle : w.heap.size ≤ gr := by omega
    rw [hgr] at hbx ⊢
    obtain ⟨d0, d1, d2, dlt⟩ := hd
    obtain ⟨⟨r0, r1, r2, rlt⟩, rf⟩ := hbx
    have f0 := rf 0
    have f1 := rf 1
    have f2 := rf 2
    obtain ⟨k0, k1, k2⟩ := set3_cells w0 gr (.slice none 0 0) (.slice none 0 0) (.int .i64 0) r0 r1 r2
    have HF : Hid (LmPost w A ns cs B nm cm lp (.returned (.tuple #[dval none 0 0 none 0 0 0, .int .i64 5])) (set3 w0 gr (.slice none 0 0) (.slice none 0 0) (.int .i64 0))) := Lib.hid ⟨by rw [if_neg HI.out], set3_below hb hle _ _ _⟩
    clear hgr rf
    go_wp2
    exact bodyPost_ret (v := .tuple #[dval none 0 0 none 0 0 0, .int .i64 5]) (by simp [results, Try.results55, go_sem, k0, k1, k2]) rfl HF.out

/-- The mates of two diagrams beside each other, when j of the second's are raised. -/
def bsK (m1 m2 : List Int) (j : Nat) : List Int := m1 ++ ((m2.take j).map (fun z => z + (m1.length : Int)) ++ m2.drop j)
def bsM (m1 m2 : List Int) : List Int := m1 ++ m2.map fun z => z + (m1.length : Int)
theorem bsK_zero (m1 m2 : List Int) : bsK m1 m2 0 = m1 ++ m2 := by simp [bsK]
theorem bsK_all (m1 m2 : List Int) : bsK m1 m2 m2.length = bsM m1 m2 := by simp [bsK, bsM]
theorem bsK_length (m1 m2 : List Int) (j : Nat) : (bsK m1 m2 j).length = m1.length + m2.length := by simp [bsK]; omega
theorem bsK_at (m1 m2 : List Int) {j : Nat} (hj : j < m2.length) : (bsK m1 m2 j).getD (m1.length + j) 0 = m2.getD j 0 := by
  unfold bsK
  have h1 : ((m2.take j).map (fun z => z + (m1.length : Int))).length = j := by simp; omega
  rw [List.getD_eq_getElem?_getD, List.getElem?_append_right (by omega), show m1.length + j - m1.length = j by omega, List.getElem?_append_right (by omega), h1, Nat.sub_self, List.getElem?_drop, Nat.add_zero, ← List.getD_eq_getElem?_getD]
theorem bsK_succ (m1 m2 : List Int) {j : Nat} (hj : j < m2.length) : bsK m1 m2 (j + 1) = (bsK m1 m2 j).set (m1.length + j) (m2.getD j 0 + (m1.length : Int)) := by
  have h1 : ((m2.take j).map (fun z => z + (m1.length : Int))).length = j := by simp; omega
  unfold bsK
  rw [List.set_append_right _ _ (by omega), show m1.length + j - m1.length = j by omega, List.set_append_right _ _ (by omega), h1, Nat.sub_self]
  have h2 : m2.drop j = m2[j] :: m2.drop (j + 1) := List.drop_eq_getElem_cons hj
  rw [h2, List.set_cons_zero, List.take_succ_eq_append_getElem hj, List.map_append, List.append_assoc]
  have h3 : m2.getD j 0 = m2[j] := by simp [List.getD, hj]
  rw [h3]; rfl
def BsPost (w : World) (n k : Nat) (l : Int) (s m : List Int) (e : Ending) (w' : World) : Prop :=
  ∃ A cs B cm, e = .returned (dval A n cs B k cm l) ∧ OI w' w.heap.size (.slice A n cs) s ∧ OI w' w.heap.size (.slice B k cm) m ∧ (∀ g, (Value.slice B k cm).ownBlock = some g → (Value.slice A n cs).ownBlock ≠ some g) ∧ Below w.heap.size w w'

end Go.Proofs.Ytkfjledhnakfoaa

/- Plain mathematics: how a transposition changes the number of cycles; counting. -/
namespace Go.Proofs.Ytkfjledhnakfoaa

/-- The number of x below N with p x is k. -/
inductive Cnt (p : Nat → Prop) : Nat → Nat → Prop
  | zero : Cnt p 0 0
  | yes {n k : Nat} : p n → Cnt p n k → Cnt p (n + 1) (k + 1)
  | no {n k : Nat} : ¬ p n → Cnt p n k → Cnt p (n + 1) k
theorem Cnt.ex (p : Nat → Prop) (n : Nat) : ∃ k, Cnt p n k := by
  induction n with
  | zero => exact ⟨0, .zero⟩
  | succ n ih =>
    obtain ⟨k, hk⟩ := ih
    by_cases h : p n
    · exact ⟨k + 1, .yes h hk⟩
    · exact ⟨k, .no h hk⟩
theorem Cnt.uniq {p : Nat → Prop} {n k j : Nat} (h : Cnt p n k) (g : Cnt p n j) : k = j := by
  induction h generalizing j with
  | zero => cases g; rfl
  | yes hp _ ih =>
    cases g with
    | yes _ g => rw [ih g]
    | no hn _ => exact absurd hp hn
  | no hn _ ih =>
    cases g with
    | yes hp _ => exact absurd hp hn
    | no _ g => exact ih g
theorem Cnt.congr {p q : Nat → Prop} {n k : Nat} (h : Cnt p n k) (e : ∀ x, x < n → (p x ↔ q x)) : Cnt q n k := by
  induction h with
  | zero => exact .zero
  | yes hp _ ih => exact .yes ((e _ (by omega)).1 hp) (ih fun x hx => e x (by omega))
  | no hn _ ih => exact .no (fun hq => hn ((e _ (by omega)).2 hq)) (ih fun x hx => e x (by omega))
/-- One number less. -/
theorem Cnt.drop {p q : Nat → Prop} {n k j h0 : Nat} (h : Cnt p n k) (g : Cnt q n j) (h1 : h0 < n) (h2 : p h0) (h3 : ¬ q h0) (h4 : ∀ x, x < n → x ≠ h0 → (p x ↔ q x)) : k = j + 1 := by
  induction h generalizing j with
  | zero => omega
  | @yes n k hp h ih =>
    by_cases e : n = h0
    · subst e
      cases g with
      | yes hq _ => exact absurd hq h3
      | no _ g => rw [(h.congr fun x hx => h4 x (by omega) (by omega)).uniq g]
    · cases g with
      | yes _ g => rw [ih g (by omega) fun x hx => h4 x (by omega)]
      | no hn _ => exact absurd ((h4 n (by omega) e).1 hp) hn
  | @no n k hn h ih =>
    by_cases e : n = h0
    · subst e; exact absurd h2 hn
    · cases g with
      | yes hq _ => exact absurd ((h4 n (by omega) e).2 hq) hn
      | no _ g => exact ih g (by omega) fun x hx => h4 x (by omega)
theorem Cnt.countP (b : Nat → Bool) (n : Nat) : Cnt (fun x => b x = true) n ((List.range n).countP b) := by
  induction n with
  | zero => exact .zero
  | succ n ih =>
    rw [List.range_succ, List.countP_append]
    cases h : b n with
    | true => simp [h]; exact .yes h ih
    | false => simp [h]; exact .no (by simp [h]) ih
theorem Cnt.none {p : Nat → Prop} {n : Nat} (h : ∀ x, x < n → ¬ p x) : Cnt p n 0 := by
  induction n with
  | zero => exact .zero
  | succ n ih => exact .no (h n (by omega)) (ih fun x hx => h x (by omega))
theorem Cnt.pos {p : Nat → Prop} {n k : Nat} (h : Cnt p n k) (hk : 0 < k) : ∃ x, x < n ∧ p x := by
  by_cases e : ∃ x, x < n ∧ p x
  · exact e
  · have := h.uniq (Cnt.none fun x hx hp => e ⟨x, hx, hp⟩)
    omega
/-- Blocks of four, of which the first may count. -/
theorem Cnt.firsts {q : Nat → Prop} {n k : Nat} (h : Cnt q n k) : Cnt (fun x => x % 4 = 0 ∧ q (x / 4)) (4 * n) k := by
  induction h with
  | zero => exact .zero
  | @yes n k hq _ ih =>
    have e : 4 * (n + 1) = 4 * n + 1 + 1 + 1 + 1 := by omega
    rw [e]
    refine .no (by omega) (.no (by omega) (.no (by omega) (.yes ⟨by omega, ?_⟩ ih)))
    rw [show 4 * n / 4 = n by omega]; exact hq
  | @no n k hq _ ih =>
    have e : 4 * (n + 1) = 4 * n + 1 + 1 + 1 + 1 := by omega
    rw [e]
    refine .no (by omega) (.no (by omega) (.no (by omega) (.no ?_ ih)))
    rintro ⟨_, h⟩
    rw [show 4 * n / 4 = n by omega] at h; exact hq h
/-- Blocks of four, counted whole. -/
theorem Cnt.fours {p : Nat → Prop} (n : Nat) {k : Nat} (h : Cnt p (4 * n) k) (hp : ∀ x y, x < 4 * n → y < 4 * n → x / 4 = y / 4 → p x → p y) : k % 4 = 0 := by
  obtain ⟨j, hj⟩ := Cnt.ex (fun c => p (4 * c)) n
  have : Cnt p (4 * n) (4 * j) := by
    clear h
    induction hj with
    | zero => exact .zero
    | @yes n j hc _ ih =>
      have e : 4 * (n + 1) = 4 * n + 1 + 1 + 1 + 1 := by omega
      rw [e] at hp ⊢
      rw [show 4 * (j + 1) = 4 * j + 1 + 1 + 1 + 1 by omega]
      exact .yes (hp (4 * n) _ (by omega) (by omega) (by omega) hc) (.yes (hp (4 * n) _ (by omega) (by omega) (by omega) hc) (.yes (hp (4 * n) _ (by omega) (by omega) (by omega) hc) (.yes hc (ih fun x y hx hy => hp x y (by omega) (by omega)))))
    | @no n j hc _ ih =>
      have e : 4 * (n + 1) = 4 * n + 1 + 1 + 1 + 1 := by omega
      rw [e] at hp ⊢
      exact .no (fun h => hc (hp _ (4 * n) (by omega) (by omega) (by omega) h)) (.no (fun h => hc (hp _ (4 * n) (by omega) (by omega) (by omega) h)) (.no (fun h => hc (hp _ (4 * n) (by omega) (by omega) (by omega) h)) (.no hc (ih fun x y hx hy => hp x y (by omega) (by omega)))))
  rw [h.uniq this]; omega
/-- A set that an involution without fixed points keeps: twice its lower halves. -/
theorem Cnt.pairs (N : Nat) (m : Nat → Nat) : ∀ k, ∀ (p : Nat → Prop) (t : Nat), Cnt p N k → Cnt (fun x => p x ∧ x < m x) N t → (∀ x, x < N → p x → m x < N ∧ p (m x) ∧ m (m x) = x ∧ m x ≠ x) → k = 2 * t := by
  intro k
  induction k using Nat.strongRecOn with
  | ind k ih =>
    intro p t h g hm
    rcases Nat.eq_zero_or_pos k with h0 | h0
    · subst h0
      rcases Nat.eq_zero_or_pos t with t0 | t0
      · omega
      · obtain ⟨x, hx, hp, _⟩ := g.pos t0
        obtain ⟨j, hj⟩ := Cnt.ex (fun y => p y ∧ y ≠ x) N
        have := h.drop hj hx hp (by simp) (fun y _ hne => ⟨fun q => ⟨q, hne⟩, fun q => q.1⟩)
        omega
    · obtain ⟨x, hx, hp, hlt⟩ : ∃ x, x < N ∧ p x ∧ x < m x := by
        obtain ⟨x, hx, hp⟩ := h.pos h0
        obtain ⟨h1, h2, h3, h4⟩ := hm x hx hp
        by_cases e : x < m x
        · exact ⟨x, hx, hp, e⟩
        · exact ⟨m x, h1, h2, by rw [h3]; omega⟩
      obtain ⟨h1, h2, h3, h4⟩ := hm x hx hp
      obtain ⟨j, hj⟩ := Cnt.ex (fun y => p y ∧ y ≠ x) N
      obtain ⟨i, hi⟩ := Cnt.ex (fun y => (p y ∧ y ≠ x) ∧ y ≠ m x) N
      obtain ⟨s, hs⟩ := Cnt.ex (fun y => ((p y ∧ y ≠ x) ∧ y ≠ m x) ∧ y < m y) N
      have e1 := h.drop hj hx hp (by simp) (fun y _ hne => ⟨fun q => ⟨q, hne⟩, fun q => q.1⟩)
      have e2 := hj.drop hi h1 ⟨h2, h4⟩ (by simp) (fun y _ hne => ⟨fun q => ⟨q, hne⟩, fun q => q.1⟩)
      have e3 := g.drop hs hx ⟨hp, hlt⟩ (by simp) (fun y hy hne => ⟨fun q => ⟨⟨⟨q.1, hne⟩, fun e => by have := q.2; rw [e, h3] at this; omega⟩, q.2⟩, fun q => ⟨q.1.1.1, q.2⟩⟩)
      have e4 := ih i (by omega) _ s hi hs (fun y hy hq => by
        obtain ⟨k1, k2, k3, k4⟩ := hm y hy hq.1.1
        refine ⟨k1, ⟨⟨k2, fun e => hq.2 (by rw [← e, k3])⟩, fun e => hq.1.2 (by rw [← k3, e, h3])⟩, k3, k4⟩)
      omega

structure Eqv (R : Nat → Nat → Prop) (N : Nat) : Prop where
  lt : ∀ x y, R x y → x < N ∧ y < N
  refl : ∀ x, x < N → R x x
  symm : ∀ x y, R x y → R y x
  trans : ∀ x y z, R x y → R y z → R x z
/-- R has k classes below N. -/
def Cls (R : Nat → Nat → Prop) (N k : Nat) : Prop := Cnt (fun h => ∀ g, g < h → ¬ R g h) N k
def Merge (R : Nat → Nat → Prop) (a b x y : Nat) : Prop := R x y ∨ (R x a ∧ R b y) ∨ (R x b ∧ R a y)
theorem Merge.eqv {R : Nat → Nat → Prop} {N a b : Nat} (h : Eqv R N) : Eqv (Merge R a b) N := by
  refine ⟨?_, fun x hx => .inl (h.refl x hx), ?_, ?_⟩
  · rintro x y (k | ⟨k1, k2⟩ | ⟨k1, k2⟩)
    · exact h.lt x y k
    · exact ⟨(h.lt _ _ k1).1, (h.lt _ _ k2).2⟩
    · exact ⟨(h.lt _ _ k1).1, (h.lt _ _ k2).2⟩
  · rintro x y (k | ⟨k1, k2⟩ | ⟨k1, k2⟩)
    · exact .inl (h.symm _ _ k)
    · exact .inr (.inr ⟨h.symm _ _ k2, h.symm _ _ k1⟩)
    · exact .inr (.inl ⟨h.symm _ _ k2, h.symm _ _ k1⟩)
  · rintro x y z (k | ⟨k1, k2⟩ | ⟨k1, k2⟩) (l | ⟨l1, l2⟩ | ⟨l1, l2⟩)
    · exact .inl (h.trans _ _ _ k l)
    · exact .inr (.inl ⟨h.trans _ _ _ k l1, l2⟩)
    · exact .inr (.inr ⟨h.trans _ _ _ k l1, l2⟩)
    · exact .inr (.inl ⟨k1, h.trans _ _ _ k2 l⟩)
    · exact .inr (.inl ⟨k1, l2⟩)
    · exact .inl (h.trans _ _ _ k1 l2)
    · exact .inr (.inr ⟨k1, h.trans _ _ _ k2 l⟩)
    · exact .inl (h.trans _ _ _ k1 l2)
    · exact .inr (.inr ⟨k1, l2⟩)
theorem Merge.comm {R : Nat → Nat → Prop} {a b x y : Nat} : Merge R a b x y ↔ Merge R b a x y := by
  constructor
  · rintro (k | k | k)
    · exact .inl k
    · exact .inr (.inr k)
    · exact .inr (.inl k)
  · rintro (k | k | k)
    · exact .inl k
    · exact .inr (.inr k)
    · exact .inr (.inl k)
theorem Merge.same {R : Nat → Nat → Prop} {N a b x y : Nat} (h : Eqv R N) (k : R a b) : Merge R a b x y ↔ R x y := by
  constructor
  · rintro (l | ⟨l1, l2⟩ | ⟨l1, l2⟩)
    · exact l
    · exact h.trans _ _ _ l1 (h.trans _ _ _ k l2)
    · exact h.trans _ _ _ l1 (h.trans _ _ _ (h.symm _ _ k) l2)
  · exact .inl
theorem least_of (p : Nat → Prop) : ∀ x, p x → ∃ y, p y ∧ ∀ z, z < y → ¬ p z := by
  intro x
  induction x using Nat.strongRecOn with
  | ind x ih =>
    intro hx
    by_cases e : ∃ z, z < x ∧ p z
    · obtain ⟨z, hz, hp⟩ := e; exact ih z hz hp
    · exact ⟨x, hx, fun z hz hp => e ⟨z, hz, hp⟩⟩
theorem cls_merge_lt {R : Nat → Nat → Prop} {N a b k j ra rb : Nat} (h : Eqv R N) (_hab : ¬ R a b) (hk : Cls R N k) (hj : Cls (Merge R a b) N j)
    (ha : R ra a) (_ha' : ∀ z, z < ra → ¬ R z a) (hb : R rb b) (hb' : ∀ z, z < rb → ¬ R z b) (hlt : ra < rb) : k = j + 1 := by
  refine Cnt.drop (h0 := rb) hk hj (h.lt _ _ hb).1 (fun g hg hr => hb' g hg (h.trans _ _ _ hr hb)) (fun q => q ra hlt (.inr (.inl ⟨ha, h.symm _ _ hb⟩))) (fun x hx hne => ⟨fun q g hg hm => ?_, fun q g hg hr => q g hg (.inl hr)⟩)
  rcases hm with hm | ⟨h1, h2⟩ | ⟨h1, h2⟩
  · exact q g hg hm
  · -- x lies in b's class and is least there
    have h3 : R rb x := h.trans _ _ _ hb h2
    rcases Nat.lt_trichotomy rb x with e | e | e
    · exact q rb e h3
    · exact hne e.symm
    · exact hb' x e (h.symm _ _ h2)
  · have h3 : R ra x := h.trans _ _ _ ha h2
    have h4 : ¬ g < rb := fun e => hb' g e h1
    exact q ra (by omega) h3
theorem cls_merge {R : Nat → Nat → Prop} {N a b k j : Nat} (h : Eqv R N) (ha : a < N) (hb : b < N) (hab : ¬ R a b) (hk : Cls R N k) (hj : Cls (Merge R a b) N j) : k = j + 1 := by
  obtain ⟨ra, h1, h2⟩ := least_of (fun z => R z a) a (h.refl a ha)
  obtain ⟨rb, h3, h4⟩ := least_of (fun z => R z b) b (h.refl b hb)
  rcases Nat.lt_trichotomy ra rb with e | e | e
  · exact cls_merge_lt h hab hk hj h1 h2 h3 h4 e
  · subst e; exact absurd (h.trans _ _ _ (h.symm _ _ h1) h3) hab
  · exact cls_merge_lt h (fun q => hab (h.symm _ _ q)) hk (hj.congr fun x _ => ⟨fun q g hg hm => q g hg (Merge.comm.1 hm), fun q g hg hm => q g hg (Merge.comm.1 hm)⟩) h3 h4 h1 h2 e

/-- a and b change places. -/
def sw (a b x : Nat) : Nat := if x = a then b else if x = b then a else x
theorem sw_left (a b : Nat) : sw a b a = b := by simp [sw]
theorem sw_right (a b : Nat) : sw a b b = a := by unfold sw; split <;> simp_all
theorem sw_other {a b x : Nat} (h1 : x ≠ a) (h2 : x ≠ b) : sw a b x = x := by simp [sw, h1, h2]
theorem sw_sw (a b x : Nat) : sw a b (sw a b x) = x := by
  by_cases h1 : x = a
  · subst h1; rw [sw_left, sw_right]
  · by_cases h2 : x = b
    · subst h2; rw [sw_right, sw_left]
    · rw [sw_other h1 h2, sw_other h1 h2]
theorem sw_comm (a b x : Nat) : sw a b x = sw b a x := by
  by_cases h1 : x = a
  · subst h1; rw [sw_left, sw_right]
  · by_cases h2 : x = b
    · subst h2; rw [sw_right, sw_left]
    · rw [sw_other h1 h2, sw_other h2 h1]
theorem sw_lt {a b x N : Nat} (ha : a < N) (hb : b < N) (hx : x < N) : sw a b x < N := by unfold sw; split <;> (try split) <;> omega
def swf (f : Nat → Nat) (a b : Nat) : Nat → Nat := fun x => f (sw a b x)
theorem swf_swf (f : Nat → Nat) (a b : Nat) : swf (swf f a b) a b = f := by funext x; simp [swf, sw_sw]
theorem swf_comm (f : Nat → Nat) (a b : Nat) : swf f a b = swf f b a := by funext x; simp [swf, sw_comm a b]
theorem Perm.swf {f : Nat → Nat} {N a b : Nat} (p : Perm f N) (ha : a < N) (hb : b < N) : Perm (swf f a b) N :=
  ⟨fun h hh => p.lt _ (sw_lt ha hb hh), fun h g hh hg e => by
    have := p.inj _ _ (sw_lt ha hb hh) (sw_lt ha hb hg) e
    rw [← sw_sw a b h, this, sw_sw]⟩
def RO' (f : Nat → Nat) (N x y : Nat) : Prop := x < N ∧ Orb f x y
theorem Perm.eqv {f : Nat → Nat} {N : Nat} (p : Perm f N) : Eqv (RO' f N) N :=
  ⟨fun x y h => ⟨h.1, by obtain ⟨i, e⟩ := h.2; rw [← e]; exact p.it_lt h.1 i⟩, fun x hx => ⟨hx, Orb.refl f x⟩,
   fun x y h => ⟨by obtain ⟨i, e⟩ := h.2; rw [← e]; exact p.it_lt h.1 i, p.orb_symm h.1 h.2⟩, fun x y z h k => ⟨h.1, h.2.trans k.2⟩⟩
theorem it_shift (f : Nat → Nat) (i x : Nat) : it f (i + 1) x = it f i (f x) := it_add f i 1 x
theorem Orb.next (f : Nat → Nat) (x : Nat) : Orb f x (f x) := ⟨1, rfl⟩
/-- From every number of a's cycle the changed map leads to a. -/
theorem Perm.pull {f : Nat → Nat} {N a b : Nat} (p : Perm f N) (_hb : b < N) (hab : ¬ Orb f b a) (i : Nat) : ∀ x, x < N → it f i x = a → Orb (Go.Proofs.Ytkfjledhnakfoaa.swf f a b) x a := by
  induction i with
  | zero => intro x _ e; rw [← e]; exact Orb.refl _ _
  | succ i ih =>
    intro x hx e
    by_cases h1 : x = a
    · rw [h1]; exact Orb.refl _ _
    · have h2 : x ≠ b := fun e' => hab (by rw [← e']; exact ⟨i + 1, e⟩)
      have h3 : Go.Proofs.Ytkfjledhnakfoaa.swf f a b x = f x := by unfold Go.Proofs.Ytkfjledhnakfoaa.swf; rw [sw_other h1 h2]
      rw [it_shift] at e
      have h4 := ih (f x) (p.lt x hx) e
      rw [← h3] at h4
      exact (Orb.next _ x).trans h4
theorem Perm.apart {f : Nat → Nat} {a b x : Nat} (hx : ¬ Orb f x a) (hy : ¬ Orb f x b) (i : Nat) : it (Go.Proofs.Ytkfjledhnakfoaa.swf f a b) i x = it f i x := by
  induction i with
  | zero => rfl
  | succ i ih =>
    show Go.Proofs.Ytkfjledhnakfoaa.swf f a b _ = f _
    rw [ih]
    unfold Go.Proofs.Ytkfjledhnakfoaa.swf
    rw [sw_other (fun e => hx ⟨i, e⟩) (fun e => hy ⟨i, e⟩)]
theorem Perm.merge {f : Nat → Nat} {N a b : Nat} (p : Perm f N) (ha : a < N) (hb : b < N) (hab : ¬ Orb f a b) (x y : Nat) : RO' (Go.Proofs.Ytkfjledhnakfoaa.swf f a b) N x y ↔ Merge (RO' f N) a b x y := by
  have ps := p.swf ha hb
  have hM := Merge.eqv (a := a) (b := b) p.eqv
  have hS := ps.eqv
  have hba : ¬ Orb f b a := fun o => hab (p.orb_symm hb o)
  constructor
  · rintro ⟨hx, i, rfl⟩
    induction i with
    | zero => exact hM.refl x hx
    | succ i ih =>
      refine hM.trans _ _ _ ih ?_
      have hz := ps.it_lt hx i
      show Merge _ a b _ (Go.Proofs.Ytkfjledhnakfoaa.swf f a b _)
      generalize it (Go.Proofs.Ytkfjledhnakfoaa.swf f a b) i x = z at hz
      by_cases h1 : z = a
      · subst h1
        unfold Go.Proofs.Ytkfjledhnakfoaa.swf; rw [sw_left]
        exact .inr (.inl ⟨⟨hz, Orb.refl _ _⟩, ⟨hb, Orb.next _ _⟩⟩)
      · by_cases h2 : z = b
        · subst h2
          unfold Go.Proofs.Ytkfjledhnakfoaa.swf; rw [sw_right]
          exact .inr (.inr ⟨⟨hz, Orb.refl _ _⟩, ⟨ha, Orb.next _ _⟩⟩)
        · unfold Go.Proofs.Ytkfjledhnakfoaa.swf; rw [sw_other h1 h2]
          exact .inl ⟨hz, Orb.next _ _⟩
  · have hA : ∀ z, z < N → Orb f z a → RO' (Go.Proofs.Ytkfjledhnakfoaa.swf f a b) N z a := fun z hz ⟨i, e⟩ => ⟨hz, p.pull hb hba i z hz e⟩
    have hB : ∀ z, z < N → Orb f z b → RO' (Go.Proofs.Ytkfjledhnakfoaa.swf f a b) N z b := fun z hz ⟨i, e⟩ => by
      rw [swf_comm]; exact ⟨hz, p.pull ha hab i z hz e⟩
    have hAB : RO' (Go.Proofs.Ytkfjledhnakfoaa.swf f a b) N a b := by
      have h1 := hB (f b) (p.lt b hb) (p.orb_symm hb (Orb.next f b))
      have h2 : RO' (Go.Proofs.Ytkfjledhnakfoaa.swf f a b) N a (f b) := ⟨ha, 1, by show Go.Proofs.Ytkfjledhnakfoaa.swf f a b a = f b; unfold Go.Proofs.Ytkfjledhnakfoaa.swf; rw [sw_left]⟩
      exact hS.trans _ _ _ h2 h1
    have lt2 : ∀ {u v : Nat}, RO' f N u v → v < N := fun r => (p.eqv.lt _ _ r).2
    rintro (k | ⟨k1, k2⟩ | ⟨k1, k2⟩)
    · by_cases h1 : Orb f x a
      · exact hS.trans _ _ _ (hA x k.1 h1) (hS.symm _ _ (hA y (lt2 k) ((p.orb_symm k.1 k.2).trans h1)))
      · by_cases h2 : Orb f x b
        · exact hS.trans _ _ _ (hB x k.1 h2) (hS.symm _ _ (hB y (lt2 k) ((p.orb_symm k.1 k.2).trans h2)))
        · obtain ⟨hx, i, e⟩ := k
          exact ⟨hx, i, by rw [Perm.apart h1 h2]; exact e⟩
    · exact hS.trans _ _ _ (hA x k1.1 k1.2) (hS.trans _ _ _ hAB (hS.symm _ _ (hB y (lt2 k2) (p.orb_symm k2.1 k2.2))))
    · exact hS.trans _ _ _ (hB x k1.1 k1.2) (hS.trans _ _ _ (hS.symm _ _ hAB) (hS.symm _ _ (hA y (lt2 k2) (p.orb_symm k2.1 k2.2))))
theorem Perm.split {f : Nat → Nat} {N a b : Nat} (p : Perm f N) (ha : a < N) (hne : a ≠ b) (hab : Orb f a b) : ¬ Orb (Go.Proofs.Ytkfjledhnakfoaa.swf f a b) b a := by
  obtain ⟨i, hi, e⟩ := p.orb_lt ha hab
  have hi0 : 0 < i := by
    rcases Nat.eq_zero_or_pos i with h0 | h0
    · subst h0; exact absurd e hne
    · exact h0
  have key : ∀ j, ∃ t, 1 ≤ t ∧ t ≤ i ∧ it (Go.Proofs.Ytkfjledhnakfoaa.swf f a b) j b = it f t a := by
    intro j
    induction j with
    | zero => exact ⟨i, hi0, Nat.le_refl _, e.symm⟩
    | succ j ih =>
      obtain ⟨t, h1, h2, h3⟩ := ih
      have hs : it (Go.Proofs.Ytkfjledhnakfoaa.swf f a b) (j + 1) b = f (sw a b (it f t a)) := by show Go.Proofs.Ytkfjledhnakfoaa.swf f a b _ = _; rw [h3]; rfl
      rw [hs]
      by_cases ht : t = i
      · refine ⟨1, Nat.le_refl _, hi0, ?_⟩
        rw [ht, e, sw_right]; rfl
      · refine ⟨t + 1, by omega, by omega, ?_⟩
        have n1 : it f t a ≠ a := fun q => p.it_ne ha (i := 0) (j := t) (by omega) (by omega) q.symm
        have n2 : it f t a ≠ b := fun q => p.it_ne ha (i := t) (j := i) (by omega) hi (by rw [q, e])
        rw [sw_other n1 n2]; rfl
  rintro ⟨j, hj⟩
  obtain ⟨t, h1, h2, h3⟩ := key j
  rw [hj] at h3
  exact p.it_ne ha (i := 0) (j := t) (by omega) (by omega) h3

end Go.Proofs.Ytkfjledhnakfoaa
