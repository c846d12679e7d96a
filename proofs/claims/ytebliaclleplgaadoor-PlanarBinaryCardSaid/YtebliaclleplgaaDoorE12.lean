import Derived.Test.YtebliaclleplgaaDoorE10
import Derived.Test.YtebliaclleplgaaDoorE11
import Derived.Test.YtebliaclleplgaaDoorE05
import Derived.Test.YtebliaclleplgaaDoorCards
import Derived.Test.YtebliaclleplgaaDoorE08
import Derived.Test.YtebliaclleplgaaDoorE07
import Derived.Lib.LaidU8
import Derived.LaidMore
import Derived.LaidHandle
import Derived.OpenShut
import Derived.Stop.Joined
import Derived.Stop.LaidErr
/- Walk: PlanarBinary. -/
namespace Go.Proofs.YtebliaclleplgaaDoor
open Go.ChangeShapes Go.WideShapes Go.ChangeAt Go.RowKit Go.Joins

theorem dv_ok {w : World} {A B : Option Addr} {ns nm : Nat} {s m : List Int} {lp : Int} (hs : RI w A ns s) (hm : RI w B nm m) (hv : validB s m lp = true) : DV w A ns B nm s m := by
  have F := bk_facts hv
  have h1 := hs.1
  have h2 := hm.1
  have h3 := F.lm
  have h4 := F.le
  refine ⟨hs, hm, by omega, by omega, fun j hj => ?_⟩
  obtain ⟨x, g1, g2, _, _⟩ := pOK_out ((pairB_iff _ _).1 F.pr j (by omega)) rfl
  rw [g1]; omega
theorem rb_take {w : World} {b o n k : Nat} {xs : List Int} (h : RB w (some ⟨b, o, none⟩) n xs) (hk : k ≤ n) : RB w (some ⟨b, o, none⟩) k (xs.take k) := by
  have hl := h.1
  refine ⟨by rw [List.length_take]; omega, fun hn => ?_⟩
  obtain ⟨b', o', e, hb, hc⟩ := h.2 (by omega)
  injection e with e; injection e with e1 e2; subst e1; subst e2
  refine ⟨b, o, rfl, hb, fun j hj => ?_⟩
  rw [hc j (by omega)]
  simp [List.getD, hj]
theorem byteL_take {xs : List Int} (h : byteL xs) (k : Nat) : byteL (xs.take k) := fun i => by
  have := h i
  simp only [List.getD, List.getElem?_take] at *
  split
  · exact this
  · simp
theorem byteL_snoc {xs : List Int} (h : byteL xs) {c : Nat} (hc : c < 256) : byteL (xs ++ [(c : Int)]) := fun i => by
  rcases Nat.lt_trichotomy i xs.length with e | e | e
  · have := h i
    simp only [List.getD, List.getElem?_append_left e] at *
    exact this
  · subst e; simp [List.getD]; omega
  · rw [List.getD_eq_getElem?_getD, List.getElem?_eq_none (by simp; omega)]; simp
theorem byteL_enL {s m : List Int} {lp : Int} (hv : validB s m lp = true) : byteL (enL s (matesOf m) lp m.length) := by
  have F := bk_facts hv
  obtain ⟨l, rfl, hl⟩ := lp_nat hv
  have h64 := F.le
  have hlm := F.lm
  have hall : ∀ z ∈ enL s (matesOf m) (l : Int) m.length, 0 ≤ z ∧ z < 256 := fun z hz => by
    unfold enL at hz
    rcases List.mem_cons.1 hz with e | hz
    · omega
    rcases List.mem_cons.1 hz with e | hz
    · omega
    rcases List.mem_append.1 hz with hz | hz
    · unfold btL at hz
      obtain ⟨i, _, e⟩ := List.mem_map.1 hz
      have := (btK_inv s s.length).2.2 i
      omega
    · unfold mtL at hz
      obtain ⟨h, hh, e⟩ := List.mem_map.1 hz
      have h1 := (List.mem_filter.1 hh).1
      rw [List.mem_range] at h1
      have := F.i.lt h h1
      omega
  intro i
  by_cases hi : i < (enL s (matesOf m) (l : Int) m.length).length
  · rw [List.getD_eq_getElem?_getD, List.getElem?_eq_getElem hi]
    exact hall _ (List.getElem_mem hi)
  · rw [List.getD_eq_getElem?_getD, List.getElem?_eq_none (by omega)]; simp

/-- append of bytes that read as a list to an empty slice of the call's own. -/
theorem wpList_append_bytes {ops : Array Oper} {rest : List Oper} {o : Oper} {a : Act} {w : World} {Q : Exit → Act → World → Prop} (hgd : o.guard = none) (s x : Operand)
    (ho : o.op = .call { callee := .builtin .append, args := #[s, x], argTypes := #[39, 39] }) (B : Nat) (v : Value) (hs : a.eval s = v) (hown : ownRow w B 5 v [])
    (ad : Addr) (n c : Nat) (ys : List Int) (hx : a.eval x = .slice (some ad) n c) (hr : RB w (some ad) n ys) (hn : 0 < n) (hlen : n ≤ 1000000) (hbase : B ≤ w.heap.size)
    (h : ∀ A' c' w', ownRow w' B 5 (.slice A' n c') (bys ys) → w.grownBy w' v.ownBlock → wpList Tryd.prog ops Q rest (a.put o.dst (.slice A' n c')) w') : wpList Tryd.prog ops Q (o :: rest) a w := by
  obtain ⟨i0, hi, hz0, hz1, hz2⟩ := info_parts Tryd.infoByteP
  have hl := hr.1
  obtain ⟨b, off, e, hb, hc⟩ := hr.2 hn
  injection e with e
  subst e
  refine wpList_append_own w hgd s x 39 ho B 5 i0 (.int .u8 0) 1 1 Tryd.underlying39 hi hz0 hz1 hz2 rfl (by decide) v 0 [] hs hown ⟨b, off, none⟩ n c (bys ys) hx (by simp [hl]) ?_ ?_ (by unfold maxLen; omega) (by omega) hbase ?_
  · intro j u hj
    have hjn : j < n := by
      have := (List.getElem?_eq_some_iff.1 hj).1
      simpa [hl] using this
    have ha : (⟨b, off, none⟩ : Addr).add j = ⟨b, off + j, none⟩ := by unfold Addr.add; split <;> simp_all
    rw [ha, hc j hjn, ← hj]
    have hj2 : j < ys.length := by omega
    simp [List.getD, hj2]
  · intro u hu
    obtain ⟨z, _, rfl⟩ := List.mem_map.1 hu
    rfl
  · intro v' w' h1 h2 _
    rw [List.nil_append, Nat.zero_add] at h1
    have hf : ∃ A' c', v' = .slice A' n c' := by
      rcases h1.2 with ⟨_, e⟩ | ⟨g, cap, cur, e, _⟩
      · omega
      · exact ⟨_, _, e⟩
    obtain ⟨A', c', rfl⟩ := hf
    refine h A' c' w' ?_ h2
    unfold ownRow
    rw [show (bys ys).length = n by simp [hl]]
    exact h1
/-- append of one byte. -/
theorem wpList_append_byte {ops : Array Oper} {rest : List Oper} {o : Oper} {a : Act} {w : World} {Q : Exit → Act → World → Prop} (hgd : o.guard = none) (s x : Operand)
    (ho : o.op = .call { callee := .builtin .append, args := #[s, x], argTypes := #[39, 39] }) (B : Nat) (v : Value) (n : Nat) (ys : List Int) (hs : a.eval s = v) (hown : ownRow w B 5 v (bys ys)) (hl : ys.length = n)
    (g : Nat) (y : Int) (hx : a.eval x = .slice (some ⟨g, 0, none⟩) 1 1) (hc : w.cell? ⟨g, 0, none⟩ = some (.int .u8 y)) (hlen : n ≤ 1000000) (hbase : B ≤ w.heap.size)
    (h : ∀ A' c' w', ownRow w' B 5 (.slice A' (n + 1) c') (bys (ys ++ [y])) → w.grownBy w' v.ownBlock → wpList Tryd.prog ops Q rest (a.put o.dst (.slice A' (n + 1) c')) w') : wpList Tryd.prog ops Q (o :: rest) a w := by
  refine wpList_append_row1 hgd s x 39 5 (.int .u8 0) 1 ho Tryd.underlying39 Tryd.infoByteP rfl (by omega) B v (bys ys) hs hown g (.int .u8 y) hx hc rfl (by simp [hl]; omega) hbase ?_
  intro A' c' w' h1 h2
  rw [show (bys ys).length = n by simp [hl]] at h1 ⊢
  have e : bys (ys ++ [y]) = bys ys ++ [.int .u8 y] := by simp
  exact h A' c' w' (by rw [e]; exact h1) h2
abbrev dagg (A : Option Addr) (ns cs : Nat) (B : Option Addr) (nm cm : Nat) (lp : Int) : Value := .agg #[.slice A ns cs, .slice B nm cm, .int .i64 lp]
theorem lit_row (w : World) (o : Obj) : ownRow ((w.alloc o).alloc (.cells #[] 5)) (w.heap.size + 1) 5 (.slice (some ⟨w.heap.size + 1, 0, none⟩) 0 0) [] := by
  have h : ownRow ((w.alloc o).alloc (.cells #[] 5)) (w.alloc o).heap.size 5 (.slice (some ⟨(w.alloc o).heap.size, 0, none⟩) 0 0) [] := World.ownsRow_lit (w.alloc o) #[] 0 (Nat.le_refl _) (by simp [maxLen]) rfl
  rw [show (w.alloc o).heap.size = w.heap.size + 1 by simp] at h
  exact h

set_option maxHeartbeats 12800000 in
set_option maxRecDepth 100000 in
theorem pbinary_00 (A B : Option Addr) (ns cs nm cm : Nat) (lp : Int) (s m : List Int) (R : Option Addr) (N c : Nat) (xs : List Int) (cut : Nat) (w : World) (hs : RI w A ns s) (hm : RI w B nm m) (hmI : ∀ z ∈ m, inI z) (hA : RB w R N xs) (hc : N ≤ c) (hx : byteL xs) (_hcut : cut < 256) (hP : PW w) (hE : (decM xs).E ≠ 0) (hv : validB s m lp = false) :
    Calls Tryd.prog 8 #[dval A ns cs B nm cm lp, .slice R N c, .int .u8 (cut : Nat)] w fun e w' => e = .returned (.bool true) ∧ Below w.heap.size w w' := by
  have hb0 := below_alloc w (dbox A ns cs B nm cm lp)
  have HD := Lib.hid (DB.new w A ns cs B nm cm lp)
  have CA := Lib.hid (pawake_any (w.alloc (dbox A ns cs B nm cm lp)) (PW.keep hP hb0))
  obtain ⟨l1, l2⟩ := decM_len xs
  have CE1 : ∀ W, Below w.heap.size w W → Hid (Calls Tryd.prog 21 #[.slice R N c] W fun e w' => ∃ A ns cs B nm cm, e = .returned (.tuple #[.agg #[.slice A ns cs, .slice B nm cm, .int .i64 (decM xs).lp], .int .i64 (decM xs).E]) ∧ RI w' A ns (decM xs).s ∧ RI w' B nm (decM xs).m ∧ Below W.heap.size W w') := fun W hb => Lib.hid (decode_any R N c xs W (hA.keep hb) hx hc)
  have hE2 : ((decM xs).E == 0) = false := beq_eq_false_iff_ne.2 hE
  have CE : ∀ W, Below w.heap.size w W → Hid (Calls Tryd.prog 19 #[dval A ns cs B nm cm lp] W fun e w' => e = .returned (.tuple #[.slice none 0 0, .int .i64 1]) ∧ Below W.heap.size W w') := fun W hb => encode_no A B ns cs nm cm lp s m W (hs.keep hb) (hm.keep hb) hmI hv
  generalize hdd : decM xs = d at *
  obtain ⟨E, s1, m1, p1⟩ := d
  simp only at CE1 l1 l2 hE hE2
  unfold dval at *
  clear hs hm hmI hA hc hx hP _hcut hdd l1 l2
  go_enter Tryd.func8, Tryd.ntmps8
  go_wp2_with (first
    | (go_at_call 9; ((with_reducible refine CA.out.mono ?_); rintro e w1 ⟨rfl, hb1'⟩; have hb1 := below_step hb0 hb1'; have HD1 := Lib.hid (HD.out.keep hb1')))
    | (go_at_call 21; ((with_reducible refine (CE1 _ hb1).out.mono ?_); rintro e w2 ⟨A2, n2, c2, B2, m2, k2, rfl, hs2, hm2, hb2'⟩; have hbX := below_alloc w2 (dbox A2 n2 c2 B2 m2 k2 p1); have hb2 := below_step (below_step hb1 hb2') hbX; have HD2 := Lib.hid ((HD1.out.keep hb2').keep hbX); have HX2 := Lib.hid (DB.new w2 A2 n2 c2 B2 m2 k2 p1); obtain ⟨d0, d1, d2, dlt⟩ := HD2.out; have hb4 := hb2; have HD4 := Lib.hid HD2.out; clear hs2 hm2))
    | (go_at_call 19; ((with_reducible refine (CE _ hb4).out.mono ?_); rintro e w5 ⟨rfl, hb5'⟩; have hb5 := below_step hb4 hb5')))
  go_ret
  exact ⟨rfl, hb5⟩

set_option maxHeartbeats 12800000 in
set_option maxRecDepth 100000 in
theorem pbinary_10 (A B : Option Addr) (ns cs nm cm : Nat) (lp : Int) (s m : List Int) (R : Option Addr) (N c : Nat) (xs : List Int) (cut : Nat) (w : World) (hs : RI w A ns s) (hm : RI w B nm m) (hmI : ∀ z ∈ m, inI z) (hA : RB w R N xs) (hc : N ≤ c) (hx : byteL xs) (_hcut : cut < 256) (hP : PW w) (hE : (decM xs).E = 0) (hv : validB s m lp = false) :
    Calls Tryd.prog 8 #[dval A ns cs B nm cm lp, .slice R N c, .int .u8 (cut : Nat)] w fun e w' => e = .returned (.bool true) ∧ Below w.heap.size w w' := by
  have hb0 := below_alloc w (dbox A ns cs B nm cm lp)
  have HD := Lib.hid (DB.new w A ns cs B nm cm lp)
  have CA := Lib.hid (pawake_any (w.alloc (dbox A ns cs B nm cm lp)) (PW.keep hP hb0))
  obtain ⟨l1, l2⟩ := decM_len xs
  have CE1 : ∀ W, Below w.heap.size w W → Hid (Calls Tryd.prog 21 #[.slice R N c] W fun e w' => ∃ A ns cs B nm cm, e = .returned (.tuple #[.agg #[.slice A ns cs, .slice B nm cm, .int .i64 (decM xs).lp], .int .i64 (decM xs).E]) ∧ RI w' A ns (decM xs).s ∧ RI w' B nm (decM xs).m ∧ Below W.heap.size W w') := fun W hb => Lib.hid (decode_any R N c xs W (hA.keep hb) hx hc)
  obtain ⟨hgv, hge⟩ := bin_dec hx hE
  have hN2 : 2 ≤ N := by
    have := hA.1
    have h2 := congrArg List.length hge
    unfold enL at h2
    simp only [List.length_cons] at h2
    omega
  have CX1 : ∀ W A2 n2 c2 B2 m2 k2, RI W A2 n2 (decM xs).s → RI W B2 m2 (decM xs).m → Hid (Calls Tryd.prog 19 #[.agg #[.slice A2 n2 c2, .slice B2 m2 k2, .int .i64 (decM xs).lp]] W fun e w' => ∃ A' c', e = .returned (.tuple #[.slice A' N c', .int .i64 0]) ∧ RB w' A' N xs ∧ Below W.heap.size W w') := fun W A2 n2 c2 B2 m2 k2 h1 h2 => Lib.hid (by
    have h3 := encode_yes A2 B2 n2 c2 m2 k2 (decM xs).lp (decM xs).s (decM xs).m W (dv_ok h1 h2 hgv) hgv
    have e1 : m2 = (decM xs).m.length := h2.1.symm
    rw [e1, hge, hA.1] at h3
    subst e1
    exact h3)
  have CX2 : ∀ W A2 n2 c2 B2 m2 k2, RI W A2 n2 (decM xs).s → RI W B2 m2 (decM xs).m → Hid (Calls Tryd.prog 13 #[.agg #[.slice A2 n2 c2, .slice B2 m2 k2, .int .i64 (decM xs).lp]] W fun e w' => e = .returned (.bool true) ∧ Below W.heap.size W w') := fun W A2 n2 c2 B2 m2 k2 h1 h2 => (dv_ok h1 h2 hgv).valid c2 k2 (decM xs).lp true hgv
  have CONV : Hid (∀ (W : World) (A : Option Addr) (c : Nat), RB W A N xs → (convert 39 9 (.slice A N c)).run Tryd.prog W = .ok (.string (strOfNums xs)) W) := Lib.hid fun W A c h => rb_string h (by omega)
  have HRA := Lib.hid hA
  have HBS := Lib.hid hb0
  obtain ⟨str, hstr⟩ : ∃ str, strOfNums xs = str := ⟨_, rfl⟩
  rw [hstr] at CONV
  clear hstr hgv hge
  have CE : ∀ W, Below w.heap.size w W → Hid (Calls Tryd.prog 19 #[dval A ns cs B nm cm lp] W fun e w' => e = .returned (.tuple #[.slice none 0 0, .int .i64 1]) ∧ Below W.heap.size W w') := fun W hb => encode_no A B ns cs nm cm lp s m W (hs.keep hb) (hm.keep hb) hmI hv
  generalize hdd : decM xs = d at *
  obtain ⟨E, s1, m1, p1⟩ := d
  simp only at CE1 l1 l2 hE CX1 CX2
  subst hE
  unfold dval at *
  clear hs hm hmI hA hc hx hP _hcut hdd l1 l2
  go_enter Tryd.func8, Tryd.ntmps8
  go_wp2_with (first
    | (go_at_call 9; ((with_reducible refine CA.out.mono ?_); rintro e w1 ⟨rfl, hb1'⟩; have hb1 := below_step hb0 hb1'; have HD1 := Lib.hid (HD.out.keep hb1')))
    | (go_at_call 21; ((with_reducible refine (CE1 _ hb1).out.mono ?_); rintro e w2 ⟨A2, n2, c2, B2, m2, k2, rfl, hs2, hm2, hb2'⟩; have hbX := below_alloc w2 (dbox A2 n2 c2 B2 m2 k2 p1); have hb2 := below_step (below_step hb1 hb2') hbX; have HD2 := Lib.hid ((HD1.out.keep hb2').keep hbX); have HX2 := Lib.hid (DB.new w2 A2 n2 c2 B2 m2 k2 p1); obtain ⟨x0, x1, x2, xlt⟩ := HX2.out; have HS2 := Lib.hid (hs2.keep hbX); have HM2 := Lib.hid (hm2.keep hbX); clear hs2 hm2))
    | (go_at_call 19; ((with_reducible refine (CX1 _ _ _ _ _ _ _ HS2.out HM2.out).out.mono ?_); rintro e w3 ⟨A3, c3, rfl, hr3, hb3'⟩; have hb3 := below_step hb2 hb3'; have cv1 := CONV.out w3 A3 c3 hr3; have cv2 := CONV.out w3 R c (HRA.out.keep hb3); obtain ⟨y0, y1, y2, ylt⟩ := HX2.out.keep hb3'))
    | (go_at_call 13; ((with_reducible refine (CX2 _ _ _ _ _ _ _ (HS2.out.keep hb3') (HM2.out.keep hb3')).out.mono ?_); rintro e w4 ⟨rfl, hb4'⟩; have hb4 := below_step hb3 hb4'; have HD4 := Lib.hid ((HD2.out.keep hb3').keep hb4'); obtain ⟨d0, d1, d2, dlt⟩ := HD4.out))
    | (go_at_call 19; ((with_reducible refine (CE _ hb4).out.mono ?_); rintro e w5 ⟨rfl, hb5'⟩; have hb5 := below_step hb4 hb5')))
  go_ret
  exact ⟨rfl, hb5⟩

set_option maxHeartbeats 12800000 in
set_option maxRecDepth 100000 in
theorem pbinary_01 (A B : Option Addr) (ns cs nm cm : Nat) (lp : Int) (s m : List Int) (R : Option Addr) (N c : Nat) (xs : List Int) (cut : Nat) (w : World) (hs : RI w A ns s) (hm : RI w B nm m) (_hmI : ∀ z ∈ m, inI z) (hA : RB w R N xs) (hc : N ≤ c) (hx : byteL xs) (hcut : cut < 256) (hP : PW w) (hE : (decM xs).E ≠ 0) (hv : validB s m lp = true) :
    Calls Tryd.prog 8 #[dval A ns cs B nm cm lp, .slice R N c, .int .u8 (cut : Nat)] w fun e w' => e = .returned (.bool true) ∧ Below w.heap.size w w' := by
  have hb0 := below_alloc w (dbox A ns cs B nm cm lp)
  have HD := Lib.hid (DB.new w A ns cs B nm cm lp)
  have CA := Lib.hid (pawake_any (w.alloc (dbox A ns cs B nm cm lp)) (PW.keep hP hb0))
  obtain ⟨l1, l2⟩ := decM_len xs
  have CE1 : ∀ W, Below w.heap.size w W → Hid (Calls Tryd.prog 21 #[.slice R N c] W fun e w' => ∃ A ns cs B nm cm, e = .returned (.tuple #[.agg #[.slice A ns cs, .slice B nm cm, .int .i64 (decM xs).lp], .int .i64 (decM xs).E]) ∧ RI w' A ns (decM xs).s ∧ RI w' B nm (decM xs).m ∧ Below W.heap.size W w') := fun W hb => Lib.hid (decode_any R N c xs W (hA.keep hb) hx hc)
  have hE2 : ((decM xs).E == 0) = false := beq_eq_false_iff_ne.2 hE
  have F := bk_facts hv
  have hlm := F.lm
  have hle := F.le
  have hnsl := hs.1
  have hnml := hm.1
  have hbl := byteL_enL hv
  have hLL := enL_size hv
  have hd0 := bin_enc hv
  have hd1 := fun k hk => bin_short (k := k) hv hk
  have hd2 := bin_long hv (cut : Int)
  rw [hnml] at hbl hLL hd0 hd2
  simp only [hnml] at hd1
  have CE : ∀ W, Below w.heap.size w W → Hid (Calls Tryd.prog 19 #[dval A ns cs B nm cm lp] W fun e w' => ∃ A' c', e = .returned (.tuple #[.slice A' (enL s (matesOf m) lp nm).length c', .int .i64 0]) ∧ RB w' A' (enL s (matesOf m) lp nm).length (enL s (matesOf m) lp nm) ∧ (enL s (matesOf m) lp nm).length ≤ c' ∧ Below W.heap.size W w') := fun W hb => encode_cap A B ns cs nm cm lp s m W (dv_ok (hs.keep hb) (hm.keep hb) hv) hv
  have CQ : ∀ W A2 n2 c2 B2 m2 k2, RI W A2 n2 s → RI W B2 m2 m → Below w.heap.size w W → Hid (Calls Tryd.prog 15 #[.agg #[.slice A2 n2 c2, .slice B2 m2 k2, .int .i64 lp], .agg #[.slice A ns cs, .slice B nm cm, .int .i64 lp]] W fun e w' => e = .returned (.bool true) ∧ Below W.heap.size W w') := fun W A2 n2 c2 B2 m2 k2 h1 h2 hb => Lib.hid (by
    have := equal_any A2 B2 A B n2 c2 m2 k2 ns cs nm cm lp lp s m s m W h1 h2 (hs.keep hb) (hm.keep hb) (by rw [← h1.1]; omega) (by rw [← h2.1]; omega) (by omega) (by omega)
    simpa [eqD] using this)
  obtain ⟨L, hL⟩ : ∃ L, (enL s (matesOf m) lp nm).length = L := ⟨_, rfl⟩
  generalize enL s (matesOf m) lp nm = es at *
  rw [hL] at hLL
  simp only [hL] at CE hd1
  have hL2 : 2 ≤ L := by unfold decEnd at hLL; omega
  have hL9 : L ≤ 1000 := by unfold decEnd at hLL; omega
  have CDb : ∀ W A' c', RB W A' L es → L ≤ c' → Hid (Calls Tryd.prog 21 #[.slice A' L c'] W fun e w' => ∃ A ns cs B nm cm, e = .returned (.tuple #[.agg #[.slice A ns cs, .slice B nm cm, .int .i64 lp], .int .i64 0]) ∧ RI w' A ns s ∧ RI w' B nm m ∧ Below W.heap.size W w') := fun W A' c' h1 h2 => Lib.hid (by
    have h3 := decode_any A' L c' es W h1 hbl h2
    rw [hd0] at h3
    exact h3)
  have CS : ∀ W b o c' k, RB W (some ⟨b, o, none⟩) L es → k < L → k ≤ c' → Hid (Calls Tryd.prog 21 #[.slice (some ⟨b, o, none⟩) k c'] W fun e w' => ∃ A ns cs B nm cm, e = .returned (.tuple #[.agg #[.slice A ns cs, .slice B nm cm, .int .i64 0], .int .i64 4]) ∧ RI w' A ns [] ∧ RI w' B nm [] ∧ Below W.heap.size W w') := fun W b o c' k h1 hk h2 => Lib.hid (by
    have h3 := decode_any (some ⟨b, o, none⟩) k c' (es.take k) W (rb_take h1 (by omega)) (byteL_take hbl k) h2
    rw [hd1 k hk] at h3
    exact h3)
  have CL : ∀ W A' c', RB W A' (L + 1) (es ++ [(cut : Int)]) → L + 1 ≤ c' → Hid (Calls Tryd.prog 21 #[.slice A' (L + 1) c'] W fun e w' => ∃ A ns cs B nm cm, e = .returned (.tuple #[.agg #[.slice A ns cs, .slice B nm cm, .int .i64 0], .int .i64 3]) ∧ RI w' A ns [] ∧ RI w' B nm [] ∧ Below W.heap.size W w') := fun W A' c' h1 h2 => Lib.hid (by
    have h3 := decode_any A' (L + 1) c' (es ++ [(cut : Int)]) W h1 (byteL_snoc hbl hcut) h2
    rw [hd2] at h3
    exact h3)
  obtain ⟨k, hk⟩ : ∃ k, cut % L = k := ⟨_, rfl⟩
  have hkL : k < L := by rw [← hk]; exact Nat.mod_lt _ (by omega)
  have kk1 : (cut : Int) % (L : Int) = (k : Int) := by rw [← hk]; norm_cast
  have kk2 : (cut : Int).tmod (L : Int) = (k : Int) := by rw [Int.tmod_eq_emod_of_nonneg (Int.natCast_nonneg _), kk1]
  have kk3 : (0 : Int) < (L : Int) := by omega
  have kk4 : ¬ (L : Int) = 0 := by omega
  have kk5 : ((L : Int) == 0) = false := beq_eq_false_iff_ne.2 kk4
  have kk6 : IntKind.i64.wrap (cut : Int) = (cut : Int) := IntWalk.i64_in _ (by omega)
  have kk7 : IntKind.i64.wrap (k : Int) = (k : Int) := IntWalk.i64_in _ (by omega)
  have kk8 : ¬ (L : Int) < 2 := by omega
  have kk9 : (k : Int) ≤ (L : Int) := by omega
  have kk0 : (0 : Int) ≤ (k : Int) := Int.natCast_nonneg _
  have HES := Lib.hid hL
  clear hk hd0 hd1 hd2 hbl hLL hlm hle hnsl hnml F hL
  generalize hdd : decM xs = d at *
  obtain ⟨E, s1, m1, p1⟩ := d
  simp only at CE1 l1 l2 hE hE2
  unfold dval at *
  clear hs hm _hmI hA hc hx hP hcut hdd l1 l2
  go_enter Tryd.func8, Tryd.ntmps8
  go_wp2_with (first
    | (go_at_call 9; ((with_reducible refine CA.out.mono ?_); rintro e w1 ⟨rfl, hb1'⟩; have hb1 := below_step hb0 hb1'; have HD1 := Lib.hid (HD.out.keep hb1')))
    | (go_at_call 21; ((with_reducible refine (CE1 _ hb1).out.mono ?_); rintro e w2 ⟨A2, n2, c2, B2, m2, k2, rfl, hs2, hm2, hb2'⟩; have hbX := below_alloc w2 (dbox A2 n2 c2 B2 m2 k2 p1); have hb2 := below_step (below_step hb1 hb2') hbX; have HD2 := Lib.hid ((HD1.out.keep hb2').keep hbX); have HX2 := Lib.hid (DB.new w2 A2 n2 c2 B2 m2 k2 p1); obtain ⟨d0, d1, d2, dlt⟩ := HD2.out; have hb4 := hb2; have HD4 := Lib.hid HD2.out; clear hs2 hm2))
    | (go_at_call 19; ((with_reducible refine (CE _ hb4).out.mono ?_); rintro e w5 ⟨A5, c5, rfl, hr5, hc5, hb5'⟩; have hb5 := below_step hb4 hb5'; have HD5 := Lib.hid (HD4.out.keep hb5'); obtain ⟨b5, o5, rfl, _⟩ := hr5.2 (by omega); have HR5 := Lib.hid hr5; have hkc : (k : Int) ≤ (c5 : Int) := (by omega); clear hr5))
    | (go_at_call 21; ((with_reducible refine (CDb _ _ _ HR5.out hc5).out.mono ?_); rintro e w6 ⟨A6, n6, c6, B6, m6, k6, rfl, hs6, hm6, hb6'⟩; have hbY := below_alloc w6 (dbox A6 n6 c6 B6 m6 k6 lp); have hb6 := below_step (below_step hb5 hb6') hbY; obtain ⟨f0, f1, f2, flt⟩ := (HD5.out.keep hb6').keep hbY; obtain ⟨g0, g1, g2, glt⟩ := DB.new w6 A6 n6 c6 B6 m6 k6 lp; have HR6 := Lib.hid ((HR5.out.keep hb6').keep hbY); have HQ := CQ _ A6 n6 c6 B6 m6 k6 (hs6.keep hbY) (hm6.keep hbY) hb6; clear hs6 hm6))
    | (go_at_call 15; ((with_reducible refine HQ.out.mono ?_); rintro e w7 ⟨rfl, hb7'⟩; have hb7 := below_step hb6 hb7'; have HR7 := Lib.hid (HR6.out.keep hb7')))
    | (go_at_call 21; ((with_reducible refine (CS _ _ _ _ _ HR7.out hkL (by omega)).out.mono ?_); rintro e w8 ⟨A8, n8, c8, B8, m8, k8, rfl, _, _, hb8'⟩; have hbZ := below_step (below_alloc w8 (dbox A8 n8 c8 B8 m8 k8 0)) (below_alloc _ (.cells #[] 5)); have hb8 := below_step (below_step hb7 hb8') hbZ; have hsz8 := hb8.size; have HR8 := Lib.hid ((HR7.out.keep hb8').keep hbZ); have HO8 := Lib.hid (lit_row w8 (dbox A8 n8 c8 B8 m8 k8 0))))
    | (at_builtin; refine wpList_append_bytes rfl (.tmp 84) (.tmp 85) rfl (w8.heap.size + 1) _ rfl HO8.out ⟨b5, o5, none⟩ L c5 es rfl HR8.out (by omega) (by omega) (by simp) ?_; intro A9 c9 w9 ho9 hg9; have hb9 : Below w.heap.size w w9 := hb8.grown hg9 hsz8 (fun q hq => by have h1 := (World.ownsRow.lt HO8.out q hq).1; have h2 := (hb7.size); have h3 := hb8'.size; omega); have HO9 := Lib.hid ho9; have hbs9 : w8.heap.size + 1 ≤ w9.heap.size := Nat.le_trans (by simp) hg9.size; clear ho9 hg9)
    | (at_builtin; refine wpList_append_byte rfl (.tmp 86) (.tmp 88) rfl (w8.heap.size + 1) _ L es rfl (World.ownsRow.alloc HO9.out _) HES.out w9.heap.size (cut : Int) rfl (by rw [World.cell?_alloc_at _ _ _ _ rfl]; rfl) (by omega) (by simp; omega) ?_; intro A10 c10 w10 ho10 hg10; have hb10 : Below w.heap.size w w10 := (below_step hb9 (below_alloc w9 (.cells #[.int .u8 (cut : Int)] 5))).grown hg10 (by have := hb9.size; simp; omega) (fun q hq => by have h1 := (World.ownsRow.lt HO9.out q hq).1; have h2 := (hb7.size); have h3 := hb8'.size; omega); have hcp := rb_cap ho10; obtain ⟨hr10, -⟩ := rb_own ho10; rw [List.length_append, HES.out] at hr10; have HR10 : Hid (RB w10 A10 (L + 1) (es ++ [(cut : Int)])) := Lib.hid hr10; clear hr10 ho10 hg10)
    | (go_at_call 21; ((with_reducible refine (CL _ _ _ HR10.out hcp).out.mono ?_); rintro e w11 ⟨A11, n11, c11, B11, m11, k11, rfl, _, _, hb11'⟩; have hb11 := below_step (below_step hb10 hb11') (below_alloc w11 (dbox A11 n11 c11 B11 m11 k11 0)))))
  go_ret
  exact ⟨rfl, hb11⟩

set_option maxHeartbeats 12800000 in
set_option maxRecDepth 100000 in
theorem pbinary_11 (A B : Option Addr) (ns cs nm cm : Nat) (lp : Int) (s m : List Int) (R : Option Addr) (N c : Nat) (xs : List Int) (cut : Nat) (w : World) (hs : RI w A ns s) (hm : RI w B nm m) (_hmI : ∀ z ∈ m, inI z) (hA : RB w R N xs) (hc : N ≤ c) (hx : byteL xs) (hcut : cut < 256) (hP : PW w) (hE : (decM xs).E = 0) (hv : validB s m lp = true) :
    Calls Tryd.prog 8 #[dval A ns cs B nm cm lp, .slice R N c, .int .u8 (cut : Nat)] w fun e w' => e = .returned (.bool true) ∧ Below w.heap.size w w' := by
  have hb0 := below_alloc w (dbox A ns cs B nm cm lp)
  have HD := Lib.hid (DB.new w A ns cs B nm cm lp)
  have CA := Lib.hid (pawake_any (w.alloc (dbox A ns cs B nm cm lp)) (PW.keep hP hb0))
  obtain ⟨l1, l2⟩ := decM_len xs
  have CE1 : ∀ W, Below w.heap.size w W → Hid (Calls Tryd.prog 21 #[.slice R N c] W fun e w' => ∃ A ns cs B nm cm, e = .returned (.tuple #[.agg #[.slice A ns cs, .slice B nm cm, .int .i64 (decM xs).lp], .int .i64 (decM xs).E]) ∧ RI w' A ns (decM xs).s ∧ RI w' B nm (decM xs).m ∧ Below W.heap.size W w') := fun W hb => Lib.hid (decode_any R N c xs W (hA.keep hb) hx hc)
  obtain ⟨hgv, hge⟩ := bin_dec hx hE
  have hN2 : 2 ≤ N := by
    have := hA.1
    have h2 := congrArg List.length hge
    unfold enL at h2
    simp only [List.length_cons] at h2
    omega
  have CX1 : ∀ W A2 n2 c2 B2 m2 k2, RI W A2 n2 (decM xs).s → RI W B2 m2 (decM xs).m → Hid (Calls Tryd.prog 19 #[.agg #[.slice A2 n2 c2, .slice B2 m2 k2, .int .i64 (decM xs).lp]] W fun e w' => ∃ A' c', e = .returned (.tuple #[.slice A' N c', .int .i64 0]) ∧ RB w' A' N xs ∧ Below W.heap.size W w') := fun W A2 n2 c2 B2 m2 k2 h1 h2 => Lib.hid (by
    have h3 := encode_yes A2 B2 n2 c2 m2 k2 (decM xs).lp (decM xs).s (decM xs).m W (dv_ok h1 h2 hgv) hgv
    have e1 : m2 = (decM xs).m.length := h2.1.symm
    rw [e1, hge, hA.1] at h3
    subst e1
    exact h3)
  have CX2 : ∀ W A2 n2 c2 B2 m2 k2, RI W A2 n2 (decM xs).s → RI W B2 m2 (decM xs).m → Hid (Calls Tryd.prog 13 #[.agg #[.slice A2 n2 c2, .slice B2 m2 k2, .int .i64 (decM xs).lp]] W fun e w' => e = .returned (.bool true) ∧ Below W.heap.size W w') := fun W A2 n2 c2 B2 m2 k2 h1 h2 => (dv_ok h1 h2 hgv).valid c2 k2 (decM xs).lp true hgv
  have CONV : Hid (∀ (W : World) (A : Option Addr) (c : Nat), RB W A N xs → (convert 39 9 (.slice A N c)).run Tryd.prog W = .ok (.string (strOfNums xs)) W) := Lib.hid fun W A c h => rb_string h (by omega)
  have HRA := Lib.hid hA
  have HBS := Lib.hid hb0
  obtain ⟨str, hstr⟩ : ∃ str, strOfNums xs = str := ⟨_, rfl⟩
  rw [hstr] at CONV
  clear hstr hgv hge
  have F := bk_facts hv
  have hlm := F.lm
  have hle := F.le
  have hnsl := hs.1
  have hnml := hm.1
  have hbl := byteL_enL hv
  have hLL := enL_size hv
  have hd0 := bin_enc hv
  have hd1 := fun k hk => bin_short (k := k) hv hk
  have hd2 := bin_long hv (cut : Int)
  rw [hnml] at hbl hLL hd0 hd2
  simp only [hnml] at hd1
  have CE : ∀ W, Below w.heap.size w W → Hid (Calls Tryd.prog 19 #[dval A ns cs B nm cm lp] W fun e w' => ∃ A' c', e = .returned (.tuple #[.slice A' (enL s (matesOf m) lp nm).length c', .int .i64 0]) ∧ RB w' A' (enL s (matesOf m) lp nm).length (enL s (matesOf m) lp nm) ∧ (enL s (matesOf m) lp nm).length ≤ c' ∧ Below W.heap.size W w') := fun W hb => encode_cap A B ns cs nm cm lp s m W (dv_ok (hs.keep hb) (hm.keep hb) hv) hv
  have CQ : ∀ W A2 n2 c2 B2 m2 k2, RI W A2 n2 s → RI W B2 m2 m → Below w.heap.size w W → Hid (Calls Tryd.prog 15 #[.agg #[.slice A2 n2 c2, .slice B2 m2 k2, .int .i64 lp], .agg #[.slice A ns cs, .slice B nm cm, .int .i64 lp]] W fun e w' => e = .returned (.bool true) ∧ Below W.heap.size W w') := fun W A2 n2 c2 B2 m2 k2 h1 h2 hb => Lib.hid (by
    have := equal_any A2 B2 A B n2 c2 m2 k2 ns cs nm cm lp lp s m s m W h1 h2 (hs.keep hb) (hm.keep hb) (by rw [← h1.1]; omega) (by rw [← h2.1]; omega) (by omega) (by omega)
    simpa [eqD] using this)
  obtain ⟨L, hL⟩ : ∃ L, (enL s (matesOf m) lp nm).length = L := ⟨_, rfl⟩
  generalize enL s (matesOf m) lp nm = es at *
  rw [hL] at hLL
  simp only [hL] at CE hd1
  have hL2 : 2 ≤ L := by unfold decEnd at hLL; omega
  have hL9 : L ≤ 1000 := by unfold decEnd at hLL; omega
  have CDb : ∀ W A' c', RB W A' L es → L ≤ c' → Hid (Calls Tryd.prog 21 #[.slice A' L c'] W fun e w' => ∃ A ns cs B nm cm, e = .returned (.tuple #[.agg #[.slice A ns cs, .slice B nm cm, .int .i64 lp], .int .i64 0]) ∧ RI w' A ns s ∧ RI w' B nm m ∧ Below W.heap.size W w') := fun W A' c' h1 h2 => Lib.hid (by
    have h3 := decode_any A' L c' es W h1 hbl h2
    rw [hd0] at h3
    exact h3)
  have CS : ∀ W b o c' k, RB W (some ⟨b, o, none⟩) L es → k < L → k ≤ c' → Hid (Calls Tryd.prog 21 #[.slice (some ⟨b, o, none⟩) k c'] W fun e w' => ∃ A ns cs B nm cm, e = .returned (.tuple #[.agg #[.slice A ns cs, .slice B nm cm, .int .i64 0], .int .i64 4]) ∧ RI w' A ns [] ∧ RI w' B nm [] ∧ Below W.heap.size W w') := fun W b o c' k h1 hk h2 => Lib.hid (by
    have h3 := decode_any (some ⟨b, o, none⟩) k c' (es.take k) W (rb_take h1 (by omega)) (byteL_take hbl k) h2
    rw [hd1 k hk] at h3
    exact h3)
  have CL : ∀ W A' c', RB W A' (L + 1) (es ++ [(cut : Int)]) → L + 1 ≤ c' → Hid (Calls Tryd.prog 21 #[.slice A' (L + 1) c'] W fun e w' => ∃ A ns cs B nm cm, e = .returned (.tuple #[.agg #[.slice A ns cs, .slice B nm cm, .int .i64 0], .int .i64 3]) ∧ RI w' A ns [] ∧ RI w' B nm [] ∧ Below W.heap.size W w') := fun W A' c' h1 h2 => Lib.hid (by
    have h3 := decode_any A' (L + 1) c' (es ++ [(cut : Int)]) W h1 (byteL_snoc hbl hcut) h2
    rw [hd2] at h3
    exact h3)
  obtain ⟨k, hk⟩ : ∃ k, cut % L = k := ⟨_, rfl⟩
  have hkL : k < L := by rw [← hk]; exact Nat.mod_lt _ (by omega)
  have kk1 : (cut : Int) % (L : Int) = (k : Int) := by rw [← hk]; norm_cast
  have kk2 : (cut : Int).tmod (L : Int) = (k : Int) := by rw [Int.tmod_eq_emod_of_nonneg (Int.natCast_nonneg _), kk1]
  have kk3 : (0 : Int) < (L : Int) := by omega
  have kk4 : ¬ (L : Int) = 0 := by omega
  have kk5 : ((L : Int) == 0) = false := beq_eq_false_iff_ne.2 kk4
  have kk6 : IntKind.i64.wrap (cut : Int) = (cut : Int) := IntWalk.i64_in _ (by omega)
  have kk7 : IntKind.i64.wrap (k : Int) = (k : Int) := IntWalk.i64_in _ (by omega)
  have kk8 : ¬ (L : Int) < 2 := by omega
  have kk9 : (k : Int) ≤ (L : Int) := by omega
  have kk0 : (0 : Int) ≤ (k : Int) := Int.natCast_nonneg _
  have HES := Lib.hid hL
  clear hk hd0 hd1 hd2 hbl hLL hlm hle hnsl hnml F hL
  generalize hdd : decM xs = d at *
  obtain ⟨E, s1, m1, p1⟩ := d
  simp only at CE1 l1 l2 hE CX1 CX2
  subst hE
  unfold dval at *
  clear hs hm _hmI hA hc hx hP hcut hdd l1 l2
  go_enter Tryd.func8, Tryd.ntmps8
  go_wp2_with (first
    | (go_at_call 9; ((with_reducible refine CA.out.mono ?_); rintro e w1 ⟨rfl, hb1'⟩; have hb1 := below_step hb0 hb1'; have HD1 := Lib.hid (HD.out.keep hb1')))
    | (go_at_call 21; ((with_reducible refine (CE1 _ hb1).out.mono ?_); rintro e w2 ⟨A2, n2, c2, B2, m2, k2, rfl, hs2, hm2, hb2'⟩; have hbX := below_alloc w2 (dbox A2 n2 c2 B2 m2 k2 p1); have hb2 := below_step (below_step hb1 hb2') hbX; have HD2 := Lib.hid ((HD1.out.keep hb2').keep hbX); have HX2 := Lib.hid (DB.new w2 A2 n2 c2 B2 m2 k2 p1); obtain ⟨x0, x1, x2, xlt⟩ := HX2.out; have HS2 := Lib.hid (hs2.keep hbX); have HM2 := Lib.hid (hm2.keep hbX); clear hs2 hm2))
    | (go_at_call 19; ((with_reducible refine (CX1 _ _ _ _ _ _ _ HS2.out HM2.out).out.mono ?_); rintro e w3 ⟨A3, c3, rfl, hr3, hb3'⟩; have hb3 := below_step hb2 hb3'; have cv1 := CONV.out w3 A3 c3 hr3; have cv2 := CONV.out w3 R c (HRA.out.keep hb3); obtain ⟨y0, y1, y2, ylt⟩ := HX2.out.keep hb3'))
    | (go_at_call 13; ((with_reducible refine (CX2 _ _ _ _ _ _ _ (HS2.out.keep hb3') (HM2.out.keep hb3')).out.mono ?_); rintro e w4 ⟨rfl, hb4'⟩; have hb4 := below_step hb3 hb4'; have HD4 := Lib.hid ((HD2.out.keep hb3').keep hb4'); obtain ⟨d0, d1, d2, dlt⟩ := HD4.out))
    | (go_at_call 19; ((with_reducible refine (CE _ hb4).out.mono ?_); rintro e w5 ⟨A5, c5, rfl, hr5, hc5, hb5'⟩; have hb5 := below_step hb4 hb5'; have HD5 := Lib.hid (HD4.out.keep hb5'); obtain ⟨b5, o5, rfl, _⟩ := hr5.2 (by omega); have HR5 := Lib.hid hr5; have hkc : (k : Int) ≤ (c5 : Int) := (by omega); clear hr5))
    | (go_at_call 21; ((with_reducible refine (CDb _ _ _ HR5.out hc5).out.mono ?_); rintro e w6 ⟨A6, n6, c6, B6, m6, k6, rfl, hs6, hm6, hb6'⟩; have hbY := below_alloc w6 (dbox A6 n6 c6 B6 m6 k6 lp); have hb6 := below_step (below_step hb5 hb6') hbY; obtain ⟨f0, f1, f2, flt⟩ := (HD5.out.keep hb6').keep hbY; obtain ⟨g0, g1, g2, glt⟩ := DB.new w6 A6 n6 c6 B6 m6 k6 lp; have HR6 := Lib.hid ((HR5.out.keep hb6').keep hbY); have HQ := CQ _ A6 n6 c6 B6 m6 k6 (hs6.keep hbY) (hm6.keep hbY) hb6; clear hs6 hm6))
    | (go_at_call 15; ((with_reducible refine HQ.out.mono ?_); rintro e w7 ⟨rfl, hb7'⟩; have hb7 := below_step hb6 hb7'; have HR7 := Lib.hid (HR6.out.keep hb7')))
    | (go_at_call 21; ((with_reducible refine (CS _ _ _ _ _ HR7.out hkL (by omega)).out.mono ?_); rintro e w8 ⟨A8, n8, c8, B8, m8, k8, rfl, _, _, hb8'⟩; have hbZ := below_step (below_alloc w8 (dbox A8 n8 c8 B8 m8 k8 0)) (below_alloc _ (.cells #[] 5)); have hb8 := below_step (below_step hb7 hb8') hbZ; have hsz8 := hb8.size; have HR8 := Lib.hid ((HR7.out.keep hb8').keep hbZ); have HO8 := Lib.hid (lit_row w8 (dbox A8 n8 c8 B8 m8 k8 0))))
    | (at_builtin; refine wpList_append_bytes rfl (.tmp 84) (.tmp 85) rfl (w8.heap.size + 1) _ rfl HO8.out ⟨b5, o5, none⟩ L c5 es rfl HR8.out (by omega) (by omega) (by simp) ?_; intro A9 c9 w9 ho9 hg9; have hb9 : Below w.heap.size w w9 := hb8.grown hg9 hsz8 (fun q hq => by have h1 := (World.ownsRow.lt HO8.out q hq).1; have h2 := (hb7.size); have h3 := hb8'.size; omega); have HO9 := Lib.hid ho9; have hbs9 : w8.heap.size + 1 ≤ w9.heap.size := Nat.le_trans (by simp) hg9.size; clear ho9 hg9)
    | (at_builtin; refine wpList_append_byte rfl (.tmp 86) (.tmp 88) rfl (w8.heap.size + 1) _ L es rfl (World.ownsRow.alloc HO9.out _) HES.out w9.heap.size (cut : Int) rfl (by rw [World.cell?_alloc_at _ _ _ _ rfl]; rfl) (by omega) (by simp; omega) ?_; intro A10 c10 w10 ho10 hg10; have hb10 : Below w.heap.size w w10 := (below_step hb9 (below_alloc w9 (.cells #[.int .u8 (cut : Int)] 5))).grown hg10 (by have := hb9.size; simp; omega) (fun q hq => by have h1 := (World.ownsRow.lt HO9.out q hq).1; have h2 := (hb7.size); have h3 := hb8'.size; omega); have hcp := rb_cap ho10; obtain ⟨hr10, -⟩ := rb_own ho10; rw [List.length_append, HES.out] at hr10; have HR10 : Hid (RB w10 A10 (L + 1) (es ++ [(cut : Int)])) := Lib.hid hr10; clear hr10 ho10 hg10)
    | (go_at_call 21; ((with_reducible refine (CL _ _ _ HR10.out hcp).out.mono ?_); rintro e w11 ⟨A11, n11, c11, B11, m11, k11, rfl, _, _, hb11'⟩; have hb11 := below_step (below_step hb10 hb11') (below_alloc w11 (dbox A11 n11 c11 B11 m11 k11 0)))))
  go_ret
  exact ⟨rfl, hb11⟩

theorem pbinary_walk (A B : Option Addr) (ns cs nm cm : Nat) (lp : Int) (s m : List Int) (R : Option Addr) (N c : Nat) (xs : List Int) (cut : Nat) (w : World) (hs : RI w A ns s) (hm : RI w B nm m) (hmI : ∀ z ∈ m, inI z) (hA : RB w R N xs) (hc : N ≤ c) (hx : byteL xs) (hcut : cut < 256) (hP : PW w) :
    Calls Tryd.prog 8 #[dval A ns cs B nm cm lp, .slice R N c, .int .u8 (cut : Nat)] w fun e w' => e = .returned (.bool true) ∧ Below w.heap.size w w' := by
  by_cases hE : (decM xs).E = 0
  · cases hv : validB s m lp with
    | true => exact pbinary_11 A B ns cs nm cm lp s m R N c xs cut w hs hm hmI hA hc hx hcut hP hE hv
    | false => exact pbinary_10 A B ns cs nm cm lp s m R N c xs cut w hs hm hmI hA hc hx hcut hP hE hv
  · cases hv : validB s m lp with
    | true => exact pbinary_01 A B ns cs nm cm lp s m R N c xs cut w hs hm hmI hA hc hx hcut hP hE hv
    | false => exact pbinary_00 A B ns cs nm cm lp s m R N c xs cut w hs hm hmI hA hc hx hcut hP hE hv

end Go.Proofs.YtebliaclleplgaaDoor

/- From the cards' condition to the table that Itoa reads; a world that meets the condition. -/
namespace Go.Proofs.YtebliaclleplgaaDoor
open Go.ChangeShapes Go.WideShapes Go.ChangeAt Go.RowKit Go.Joins

abbrev gLaid : List (String × DataW Unit) := Rows.planarEncodesRow.laid
theorem door_met (os : Os) (args : Array Value) : laidMetH Tryd.prog gLaid ((World.doorLaid Tryd.prog 400 os).forCall (fun _ _ => 0) ⟨#[], args, []⟩).memory :=
  laidMetH_of_parts3 (fuel := 8) (laidMet_of_run' 8 (by kernel_rfl) (by kernel_rfl)) (by kernel_rfl) (by kernel_rfl)
theorem pow_data : (Rows.laid_internal_strconv_uint64pow10 : DataW Unit) = Lib.tabData .u64 Lib.pow10Tab := by kernel_rfl
theorem laid_plain {W : World} (h : laidMetH Tryd.prog gLaid W) : laidMet Tryd.prog gLaid W := by
  rw [MakeChecks.laidMetH_plain _ _ _ (by kernel_rfl)] at h
  exact h
theorem pw_of_laid {W : World} (h : laidMetH Tryd.prog gLaid W) : PW W := by
  have h1 := laid_plain h
  have h3 : laidMet Tryd.prog [("internal/strconv.uint64pow10", Rows.laid_internal_strconv_uint64pow10)] W := h1.tail.tail
  rw [pow_data] at h3
  exact Lib.tabIs_of_head Tryd.gPow (by kernel_rfl) Tryd.underlying122 Tryd.underlying113 (by kernel_rfl) (by kernel_rfl) h3

end Go.Proofs.YtebliaclleplgaaDoor
