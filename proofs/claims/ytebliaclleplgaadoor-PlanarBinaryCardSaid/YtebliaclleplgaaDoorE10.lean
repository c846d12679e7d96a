import Derived.Test.YtebliaclleplgaaDoorE09
/- Walks: the reference's Decode, its short ways out. -/
namespace Go.Proofs.YtebliaclleplgaaDoor
open Go.ChangeShapes Go.WideShapes Go.ChangeAt Go.RowKit Go.Joins

set_option maxHeartbeats 3200000 in
theorem genus_any (A B : Option Addr) (ns cs nm cm : Nat) (lp : Int) (s m : List Int) (w : World) (h : DV w A ns B nm s m) (r : Bool) (hr : validB s m lp = r) :
    Calls Tryd.prog 55 #[dval A ns cs B nm cm lp] w fun e w' => e = .returned (.bool r) ∧ Below w.heap.size w w' := by
  have hb0 := below_alloc w (dbox A ns cs B nm cm lp)
  have HD := Lib.hid (DB.new w A ns cs B nm cm lp)
  have HV := Lib.hid (h.keep hb0)
  have CV : ∀ W, DV W A ns B nm s m → Hid (Calls Tryd.prog 11 #[dval A ns cs B nm cm lp] W fun e w' => e = .returned (.bool r) ∧ Below W.heap.size W w') := fun W h => Lib.hid (DV.rvalid h cs cm lp r hr)
  clear h hr
  unfold dbox dval at *
  go_enter Tryd.func55, Tryd.ntmps55
  go_upto_region 1 with fail
  generalize w.alloc (.cells #[.slice A ns cs, .slice B nm cm, .int .i64 lp] 24) = wB at *
  obtain ⟨y0, y1, y2, ylt⟩ := HD.out
  go_wp2_with ((go_at_call 11; ((with_reducible refine (CV _ HV.out).out.mono ?_); rintro e w2 ⟨rfl, hb2⟩)))
  go_ret
  exact ⟨rfl, below_step hb0 hb2⟩
set_option maxHeartbeats 6400000 in
set_option maxRecDepth 100000 in
theorem rdecode_short (A : Option Addr) (N c : Nat) (w : World) (h2 : N < 2) : Calls Tryd.prog 22 #[.slice A N c] w fun e w' => e = .returned (.tuple #[dval none 0 0 none 0 0 0, .int .i64 4]) ∧ Below w.heap.size w w' := by
  have hb0 := below_alloc w (.cells #[.slice none 0 0, .slice none 0 0, .int .i64 0] 24)
  have HX := Lib.hid (BxP.new w)
  have h2' : (N : Int) < 2 := by omega
  obtain ⟨r0, r1, r2, rlt⟩ := HX.out.1
  have g0 := HX.out.2 0
  have g1 := HX.out.2 1
  have g2 := HX.out.2 2
  go_enter Tryd.func22, Tryd.ntmps22
  go_wp2
  exact bodyPost_ret (v := .tuple #[dval none 0 0 none 0 0 0, .int .i64 4]) (by simp [results, Tryd.results22, go_sem, r0, r1, r2]) rfl ⟨rfl, hb0⟩
set_option maxHeartbeats 6400000 in
set_option maxRecDepth 100000 in
theorem rdecode_full (A : Option Addr) (N c : Nat) (xs : List Int) (w : World) (hA : RB w A N xs) (hx : byteL xs) (h2 : 2 ≤ N) (hf : 64 < yN xs 0 ∨ 64 < yN xs 1) : Calls Tryd.prog 22 #[.slice A N c] w fun e w' => e = .returned (.tuple #[dval none 0 0 none 0 0 0, .int .i64 5]) ∧ Below w.heap.size w w' := by
  have hb0 := below_alloc w (.cells #[.slice none 0 0, .slice none 0 0, .int .i64 0] 24)
  have HX := Lib.hid (BxP.new w)
  have HRB := Lib.hid (hA.keep hb0)
  obtain ⟨b, off, rfl, hbb, hcc⟩ := (hA.keep hb0).2 (by omega)
  have q0 := hcc 0 (by omega)
  have q1 := hcc 1 (by omega)
  rw [Nat.add_zero, (yN_cast hx 0).1] at q0
  rw [(yN_cast hx 1).1] at q1
  have l0 := (yN_cast hx 0).2
  have l1 := (yN_cast hx 1).2
  clear hcc hA hbb
  clear hx HRB
  generalize yN xs 0 = n at *
  generalize yN xs 1 = lp at *
  have h20 : ¬ ((N : Int) < 2) := by omega
  have h21 : (0 : Int) < (N : Int) := by omega
  have h22 : (1 : Int) < (N : Int) := by omega
  have wn : IntKind.i64.wrap (n : Int) = (n : Int) := IntWalk.i64_in _ (by omega)
  have wl : IntKind.i64.wrap (lp : Int) = (lp : Int) := IntWalk.i64_in _ (by omega)
  have hff : (64 : Int) < (n : Int) ∨ (n : Int) ≤ 64 ∧ (64 : Int) < (lp : Int) := by omega
  clear hf h2 l0 l1
  go_enter Tryd.func22, Tryd.ntmps22
  go_upto_region 3 with fail
  generalize w.alloc (.cells #[.slice none 0 0, .slice none 0 0, .int .i64 0] 24) = wB at *
  obtain ⟨r0, r1, r2, rlt⟩ := HX.out.1
  have g0 := HX.out.2 0
  have g1 := HX.out.2 1
  have g2 := HX.out.2 2
  rcases hff with h | ⟨h, h'⟩
  all_goals
    go_wp2
    obtain ⟨k0, k1, k2⟩ := set3p_cells HX.out (.slice none 0 0) (.slice none 0 0) (.int .i64 0)
    exact bodyPost_ret (v := .tuple #[dval none 0 0 none 0 0 0, .int .i64 5]) (by simp [results, Tryd.results22, go_sem, k0, k1, k2]) rfl ⟨rfl, set3p_below hb0 (Nat.le_refl _) _ _ _⟩
set_option maxHeartbeats 6400000 in
set_option maxRecDepth 100000 in
theorem rdecode_short' (A : Option Addr) (N c : Nat) (xs : List Int) (w : World) (hA : RB w A N xs) (hx : byteL xs) (h2 : 2 ≤ N) (hn : yN xs 0 ≤ 64) (hlp : yN xs 1 ≤ 64) (hf : N < decEnd (yN xs 0)) : Calls Tryd.prog 22 #[.slice A N c] w fun e w' => e = .returned (.tuple #[dval none 0 0 none 0 0 0, .int .i64 4]) ∧ Below w.heap.size w w' := by
  have hb0 := below_alloc w (.cells #[.slice none 0 0, .slice none 0 0, .int .i64 0] 24)
  have HX := Lib.hid (BxP.new w)
  have HRB := Lib.hid (hA.keep hb0)
  obtain ⟨b, off, rfl, hbb, hcc⟩ := (hA.keep hb0).2 (by omega)
  have q0 := hcc 0 (by omega)
  have q1 := hcc 1 (by omega)
  rw [Nat.add_zero, (yN_cast hx 0).1] at q0
  rw [(yN_cast hx 1).1] at q1
  have l0 := (yN_cast hx 0).2
  have l1 := (yN_cast hx 1).2
  clear hcc hA hbb
  clear hx HRB
  generalize yN xs 0 = n at *
  generalize yN xs 1 = lp at *
  have h20 : ¬ ((N : Int) < 2) := by omega
  have h21 : (0 : Int) < (N : Int) := by omega
  have h22 : (1 : Int) < (N : Int) := by omega
  have wn : IntKind.i64.wrap (n : Int) = (n : Int) := IntWalk.i64_in _ (by omega)
  have wl : IntKind.i64.wrap (lp : Int) = (lp : Int) := IntWalk.i64_in _ (by omega)
  obtain ⟨nb, hnb⟩ : ∃ nb, (n + 7) / 8 = nb := ⟨_, rfl⟩
  have b1 : IntKind.i64.wrap ((n : Int) + 7) = (n : Int) + 7 := IntWalk.i64_in _ (by omega)
  have b2 : ((n : Int) + 7) / 8 = (nb : Int) := by omega
  have b3 : (0 : Int) ≤ (n : Int) := Int.natCast_nonneg _
  obtain ⟨fm, hfm⟩ : ∃ fm, 2 + nb = fm := ⟨_, rfl⟩
  obtain ⟨m2, hm2⟩ : ∃ m2, 2 * n = m2 := ⟨_, rfl⟩
  obtain ⟨en, hen⟩ : ∃ en, fm + m2 = en := ⟨_, rfl⟩
  have w1 : IntKind.i64.wrap (2 + (nb : Int)) = (fm : Int) := by rw [IntWalk.i64_in _ (by omega)]; omega
  have w2 : IntKind.i64.wrap (2 * (n : Int)) = (m2 : Int) := by rw [IntWalk.i64_in _ (by omega)]; omega
  have w3 : IntKind.i64.wrap ((fm : Int) + (m2 : Int)) = (en : Int) := by rw [IntWalk.i64_in _ (by omega)]; omega
  have hen' : decEnd n = en := by unfold decEnd; omega
  rw [hen'] at hf
  have hs : (N : Int) < (en : Int) := by omega
  have hfl : (n : Int) ≤ 64 := by omega
  have hfl2 : (lp : Int) ≤ 64 := by omega
  clear hf h2 l0 l1 hn hlp hen' hen hm2 hfm hnb
  go_enter Tryd.func22, Tryd.ntmps22
  go_upto_region 3 with fail
  generalize w.alloc (.cells #[.slice none 0 0, .slice none 0 0, .int .i64 0] 24) = wB at *
  obtain ⟨r0, r1, r2, rlt⟩ := HX.out.1
  have g0 := HX.out.2 0
  have g1 := HX.out.2 1
  have g2 := HX.out.2 2
  go_wp2
  obtain ⟨k0, k1, k2⟩ := set3p_cells HX.out (.slice none 0 0) (.slice none 0 0) (.int .i64 0)
  exact bodyPost_ret (v := .tuple #[dval none 0 0 none 0 0 0, .int .i64 4]) (by simp [results, Tryd.results22, go_sem, k0, k1, k2]) rfl ⟨rfl, set3p_below hb0 (Nat.le_refl _) _ _ _⟩
set_option maxHeartbeats 6400000 in
set_option maxRecDepth 100000 in
theorem rdecode_long' (A : Option Addr) (N c : Nat) (xs : List Int) (w : World) (hA : RB w A N xs) (hx : byteL xs) (h2 : 2 ≤ N) (hn : yN xs 0 ≤ 64) (hlp : yN xs 1 ≤ 64) (hf : decEnd (yN xs 0) < N) : Calls Tryd.prog 22 #[.slice A N c] w fun e w' => e = .returned (.tuple #[dval none 0 0 none 0 0 0, .int .i64 3]) ∧ Below w.heap.size w w' := by
  have hb0 := below_alloc w (.cells #[.slice none 0 0, .slice none 0 0, .int .i64 0] 24)
  have HX := Lib.hid (BxP.new w)
  have HRB := Lib.hid (hA.keep hb0)
  obtain ⟨b, off, rfl, hbb, hcc⟩ := (hA.keep hb0).2 (by omega)
  have q0 := hcc 0 (by omega)
  have q1 := hcc 1 (by omega)
  rw [Nat.add_zero, (yN_cast hx 0).1] at q0
  rw [(yN_cast hx 1).1] at q1
  have l0 := (yN_cast hx 0).2
  have l1 := (yN_cast hx 1).2
  clear hcc hA hbb
  clear hx HRB
  generalize yN xs 0 = n at *
  generalize yN xs 1 = lp at *
  have h20 : ¬ ((N : Int) < 2) := by omega
  have h21 : (0 : Int) < (N : Int) := by omega
  have h22 : (1 : Int) < (N : Int) := by omega
  have wn : IntKind.i64.wrap (n : Int) = (n : Int) := IntWalk.i64_in _ (by omega)
  have wl : IntKind.i64.wrap (lp : Int) = (lp : Int) := IntWalk.i64_in _ (by omega)
  obtain ⟨nb, hnb⟩ : ∃ nb, (n + 7) / 8 = nb := ⟨_, rfl⟩
  have b1 : IntKind.i64.wrap ((n : Int) + 7) = (n : Int) + 7 := IntWalk.i64_in _ (by omega)
  have b2 : ((n : Int) + 7) / 8 = (nb : Int) := by omega
  have b3 : (0 : Int) ≤ (n : Int) := Int.natCast_nonneg _
  obtain ⟨fm, hfm⟩ : ∃ fm, 2 + nb = fm := ⟨_, rfl⟩
  obtain ⟨m2, hm2⟩ : ∃ m2, 2 * n = m2 := ⟨_, rfl⟩
  obtain ⟨en, hen⟩ : ∃ en, fm + m2 = en := ⟨_, rfl⟩
  have w1 : IntKind.i64.wrap (2 + (nb : Int)) = (fm : Int) := by rw [IntWalk.i64_in _ (by omega)]; omega
  have w2 : IntKind.i64.wrap (2 * (n : Int)) = (m2 : Int) := by rw [IntWalk.i64_in _ (by omega)]; omega
  have w3 : IntKind.i64.wrap ((fm : Int) + (m2 : Int)) = (en : Int) := by rw [IntWalk.i64_in _ (by omega)]; omega
  have hen' : decEnd n = en := by unfold decEnd; omega
  rw [hen'] at hf
  have hs : ¬ (N : Int) < (en : Int) := by omega
  have hl : (en : Int) < (N : Int) := by omega
  have hfl : (n : Int) ≤ 64 := by omega
  have hfl2 : (lp : Int) ≤ 64 := by omega
  clear hf h2 l0 l1 hn hlp hen' hen hm2 hfm hnb
  go_enter Tryd.func22, Tryd.ntmps22
  go_upto_region 3 with fail
  generalize w.alloc (.cells #[.slice none 0 0, .slice none 0 0, .int .i64 0] 24) = wB at *
  obtain ⟨r0, r1, r2, rlt⟩ := HX.out.1
  have g0 := HX.out.2 0
  have g1 := HX.out.2 1
  have g2 := HX.out.2 2
  go_wp2
  obtain ⟨k0, k1, k2⟩ := set3p_cells HX.out (.slice none 0 0) (.slice none 0 0) (.int .i64 0)
  exact bodyPost_ret (v := .tuple #[dval none 0 0 none 0 0 0, .int .i64 3]) (by simp [results, Tryd.results22, go_sem, k0, k1, k2]) rfl ⟨rfl, set3p_below hb0 (Nat.le_refl _) _ _ _⟩

end Go.Proofs.YtebliaclleplgaaDoor

/- Plain: unused bits; and words for a box that grows. -/
namespace Go.Proofs.YtebliaclleplgaaDoor
open Go.RowKit

theorem Tryd.infoBoolD : (Tryd.prog.info? 4).map (fun i => (i.zero, i.size, i.bytes)) = some (some (.bool false), 1, 1) := by kernel_rfl
theorem un_yes {ys : List Int} {n i : Nat} (h1 : n ≤ i) (h2 : i < 8 * ((n + 7) / 8)) (hb : bitY ys i = 1) : unY ys n = true := by
  have e1 : i / 8 = n / 8 := by omega
  have e2 : n % 8 ≠ 0 := by omega
  have e3 : n % 8 ≤ i % 8 := by omega
  unfold bitY at hb
  rw [e1] at hb
  have h3 : yN ys (n / 8) / 2 ^ (n % 8) ≠ 0 := fun q => by
    rw [Nat.div_eq_zero_iff] at q
    rcases q with q | q
    · exact absurd q (Nat.ne_of_gt (Nat.pow_pos (by decide)))
    · rw [Nat.div_eq_of_lt (Nat.lt_of_lt_of_le q (Nat.pow_le_pow_right (by decide) e3))] at hb
      simp at hb
  unfold unY
  simp [e2, h3]
theorem un_no {ys : List Int} {n : Nat} (hy : yN ys (n / 8) < 256) (h : ∀ i, n ≤ i → i < 8 * ((n + 7) / 8) → bitY ys i = 0) : unY ys n = false := by
  by_cases e : n % 8 = 0
  · unfold unY; simp [e]
  have hh : ∀ t, n % 8 ≤ t → t < 8 → yN ys (n / 8) / 2 ^ t % 2 = 0 := fun t h1 h2 => by
    have := h (n / 8 * 8 + t) (by omega) (by omega)
    unfold bitY at this
    rwa [show (n / 8 * 8 + t) / 8 = n / 8 by omega, show (n / 8 * 8 + t) % 8 = t by omega] at this
  have h3 : yN ys (n / 8) / 2 ^ (n % 8) = 0 := by
    have hr : n % 8 < 8 := Nat.mod_lt _ (by decide)
    generalize yN ys (n / 8) = Y at *
    generalize n % 8 = r at *
    have h7 := hh 7 (by omega) (by decide)
    have : r = 1 ∨ r = 2 ∨ r = 3 ∨ r = 4 ∨ r = 5 ∨ r = 6 ∨ r = 7 := by omega
    rcases this with rfl | rfl | rfl | rfl | rfl | rfl | rfl
    · have h1 := hh 1 (by decide) (by decide); have h2 := hh 2 (by decide) (by decide); have h3 := hh 3 (by decide) (by decide); have h4 := hh 4 (by decide) (by decide); have h5 := hh 5 (by decide) (by decide); have h6 := hh 6 (by decide) (by decide); omega
    · have h2 := hh 2 (by decide) (by decide); have h3 := hh 3 (by decide) (by decide); have h4 := hh 4 (by decide) (by decide); have h5 := hh 5 (by decide) (by decide); have h6 := hh 6 (by decide) (by decide); omega
    · have h3 := hh 3 (by decide) (by decide); have h4 := hh 4 (by decide) (by decide); have h5 := hh 5 (by decide) (by decide); have h6 := hh 6 (by decide) (by decide); omega
    · have h4 := hh 4 (by decide) (by decide); have h5 := hh 5 (by decide) (by decide); have h6 := hh 6 (by decide) (by decide); omega
    · have h5 := hh 5 (by decide) (by decide); have h6 := hh 6 (by decide) (by decide); omega
    · have h6 := hh 6 (by decide) (by decide); omega
    · omega
  unfold unY
  simp [h3]
theorem sgY_succ (ys : List Int) (k : Nat) : sgY ys (k + 1) = sgY ys k ++ [2 * (bitY ys k : Int) - 1] := by unfold sgY; rw [List.range_succ, List.map_append]; rfl
theorem yN_bits {xs : List Int} {n q : Nat} (h : q < (n + 7) / 8) : yN (decBits xs n) q = yN xs (2 + q) := by simp [yN, decBits, List.getD, h]
theorem yN_mates {xs : List Int} {n q : Nat} : yN (decMates xs n) q = yN xs (2 + (n + 7) / 8 + q) := by simp [yN, decMates, List.getD]

/-- A diagram's box while its signs grow. -/
structure RdI (w0 wr : World) (gD gM BB nm : Nat) (lp : Int) (v : Value) (xs : List Int) (V : Nat → Value) : Prop where
  below : Below w0.heap.size w0 wr
  base : BB ≤ wr.heap.size
  b0 : wr.cell? ⟨gD, 0, none⟩ = some v
  b1 : wr.cell? ⟨gD, 1, none⟩ = some (.slice (some ⟨gM, 0, none⟩) nm nm)
  b2 : wr.cell? ⟨gD, 2, none⟩ = some (.int .i64 lp)
  bf : ∀ i, wr.frozen? ⟨gD, i, none⟩ = false
  own : OI wr BB v xs
  arr : Arr wr gM 3 nm V
theorem RdI.step {w0 wr w1 w5 : World} {gD gM BB nm : Nat} {lp : Int} {v v' : Value} {xs : List Int} {V : Nat → Value} {u : Int} (h : RdI w0 wr gD gM BB nm lp v xs V) (hD : gD < BB) (hM : gM < BB) (hne : gD ≠ gM) (h0 : w0.heap.size ≤ gD) (hb1 : Below wr.heap.size wr w1) (hg : w1.grownBy w5 v.ownBlock) (ho : OI w5 BB v' (xs ++ [u])) :
    RdI w0 (w5.setCell ⟨gD, 0, none⟩ v') gD gM BB nm lp v' (xs ++ [u]) V := by
  have hs1 := hb1.size
  have hbs := h.base
  have hs5 := hg.size
  have hws := h.below.size
  have hown : ∀ q, v.ownBlock = some q → BB ≤ q := fun q hq => (World.ownsRow.lt h.own q hq).1
  have hnD : some gD ≠ v.ownBlock := fun e => by have := hown gD e.symm; omega
  have hnM : some gM ≠ v.ownBlock := fun e => by have := hown gM e.symm; omega
  have c : ∀ i, w5.cell? ⟨gD, i, none⟩ = wr.cell? ⟨gD, i, none⟩ := fun i => (hg.cell_far ⟨gD, i, none⟩ (by simp; omega) hnD).trans (hb1.cell (p := ⟨gD, i, none⟩) (by simp; omega))
  have cf : ∀ i, w5.frozen? ⟨gD, i, none⟩ = wr.frozen? ⟨gD, i, none⟩ := fun i => (hg.frozen_far ⟨gD, i, none⟩ (by simp; omega) hnD).trans (hb1.frozen (p := ⟨gD, i, none⟩) (by simp; omega))
  refine ⟨below_set ((below_step h.below hb1).grown hg (by omega) (fun q hq => by have := hown q hq; omega)) h0 _, ?_, ?_, ?_, ?_, ?_, ?_, ?_⟩
  · simp [World.setCell]; omega
  · exact World.cell?_setCell_same _ _ _ ((c 0).trans h.b0)
  · rw [World.cell?_setCell_other _ _ _ _ (by simp)]; exact (c 1).trans h.b1
  · rw [World.cell?_setCell_other _ _ _ _ (by simp)]; exact (c 2).trans h.b2
  · intro i
    exact (World.frozen?_setCell _ _ _ _).trans ((cf i).trans (h.bf i))
  · exact ho.far (fun e => by have := (World.ownsRow.lt ho gD e).1; omega) _
  · exact Arr.far ((hg.block gM (by have := h.arr.lt; omega) hnM).trans (h.arr.keep hb1)) (fun e => hne e.symm) _
theorem RdI.mid {w0 wr w1 w5 : World} {gD gM BB nm : Nat} {lp : Int} {v : Value} {xs : List Int} {V : Nat → Value} (h : RdI w0 wr gD gM BB nm lp v xs V) (hD : gD < BB) (hb1 : Below wr.heap.size wr w1) (hg : w1.grownBy w5 v.ownBlock) : w5.cell? ⟨gD, 0, none⟩ = some v ∧ w5.frozen? ⟨gD, 0, none⟩ = false := by
  have hs1 := hb1.size
  have hbs := h.base
  have hnD : some gD ≠ v.ownBlock := fun e => by have := (World.ownsRow.lt h.own gD e.symm).1; omega
  exact ⟨((hg.cell_far ⟨gD, 0, none⟩ (by simp; omega) hnD).trans (hb1.cell (p := ⟨gD, 0, none⟩) (by simp; omega))).trans h.b0, ((hg.frozen_far ⟨gD, 0, none⟩ (by simp; omega) hnD).trans (hb1.frozen (p := ⟨gD, 0, none⟩) (by simp; omega))).trans (h.bf 0)⟩

theorem ri_set {w : World} {A : Option Addr} {n g j : Nat} {xs : List Int} (h : RI w A n xs) (hg : ∀ a, A = some a → a.block ≠ g) (u : Value) : RI (w.setCell ⟨g, j, none⟩ u) A n xs := by
  refine ⟨h.1, fun hn => ?_⟩
  obtain ⟨b, off, rfl, hb, hc⟩ := h.2 hn
  have hne := hg _ rfl
  simp only at hne
  exact ⟨b, off, rfl, by simp [World.setCell]; exact hb, fun i hi => by rw [World.cell?_setCell_other _ _ _ _ (by simp <;> omega)]; exact hc i hi⟩
/-- A diagram's box, its signs, its mates and which half-edges are used. -/
structure R2 (w0 wr : World) (gD gM gU nm n : Nat) (S : Option Addr) (cs : Nat) (lp : Int) (s : List Int) (M : Nat → Nat) (T : List Nat) : Prop where
  below : Below w0.heap.size w0 wr
  hD : w0.heap.size ≤ gD
  hM : w0.heap.size ≤ gM
  hU : w0.heap.size ≤ gU
  b0 : wr.cell? ⟨gD, 0, none⟩ = some (.slice S n cs)
  b1 : wr.cell? ⟨gD, 1, none⟩ = some (.slice (some ⟨gM, 0, none⟩) nm nm)
  b2 : wr.cell? ⟨gD, 2, none⟩ = some (.int .i64 lp)
  lt : gD < wr.heap.size
  own : RI wr S n s
  far : ∀ a, S = some a → (a.block ≠ gM ∧ a.block ≠ gU) ∧ w0.heap.size ≤ a.block
  arr : Arr wr gM 3 nm (iv M)
  used : Arr wr gU 4 nm (bv fun i => decide (i ∈ T))
  ne : gD ≠ gM ∧ gD ≠ gU ∧ gM ≠ gU
theorem R2.setM {w0 wr : World} {gD gM gU nm n cs : Nat} {S : Option Addr} {lp : Int} {s : List Int} {M : Nat → Nat} {T : List Nat} (h : R2 w0 wr gD gM gU nm n S cs lp s M T) (j x : Nat) : R2 w0 (wr.setCell ⟨gM, j, none⟩ (.int .i64 (x : Nat))) gD gM gU nm n S cs lp s (upd M j x) T := by
  have hne := h.ne
  refine ⟨below_set h.below h.hM _, h.hD, h.hM, h.hU, ?_, ?_, ?_, by simp [World.setCell]; exact h.lt, ri_set h.own (fun a e => (h.far a e).1.1) _, h.far, h.arr.seti j x, h.used.far (fun e => hne.2.2 e.symm) _, hne⟩
  · rw [World.cell?_setCell_other _ _ _ _ (by simp)]; exact h.b0
  · rw [World.cell?_setCell_other _ _ _ _ (by simp)]; exact h.b1
  · rw [World.cell?_setCell_other _ _ _ _ (by simp)]; exact h.b2
theorem R2.setU {w0 wr : World} {gD gM gU nm n cs : Nat} {S : Option Addr} {lp : Int} {s : List Int} {M : Nat → Nat} {T : List Nat} (h : R2 w0 wr gD gM gU nm n S cs lp s M T) (x : Nat) : R2 w0 (wr.setCell ⟨gU, x, none⟩ (.bool true)) gD gM gU nm n S cs lp s M (T ++ [x]) := by
  have hne := h.ne
  refine ⟨below_set h.below h.hU _, h.hD, h.hM, h.hU, ?_, ?_, ?_, by simp [World.setCell]; exact h.lt, ri_set h.own (fun a e => (h.far a e).1.2) _, h.far, h.arr.far (fun e => hne.2.2 e) _, (h.used.setb x true).congr fun i _ => by by_cases e : i = x <;> simp [e], hne⟩
  · rw [World.cell?_setCell_other _ _ _ _ (by simp)]; exact h.b0
  · rw [World.cell?_setCell_other _ _ _ _ (by simp)]; exact h.b1
  · rw [World.cell?_setCell_other _ _ _ _ (by simp)]; exact h.b2
theorem R2.dr {w0 wr : World} {gD gM gU nm n cs : Nat} {S : Option Addr} {lp : Int} {s : List Int} {M : Nat → Nat} {T : List Nat} (h : R2 w0 wr gD gM gU nm n S cs lp s M T) : R2 w0 wr.drew gD gM gU nm n S cs lp s M T :=
  ⟨below_drew1 h.below, h.hD, h.hM, h.hU, h.b0, h.b1, h.b2, h.lt, h.own.keep (below_drew0 _), h.far, h.arr, h.used, h.ne⟩
/-- Where the signs are read, the box is done: what is used is made. -/
theorem RdI.two {w0 wr : World} {gD gM BB nm n : Nat} {lp : Int} {S : Option Addr} {cs : Nat} {s : List Int} {M : Nat → Nat} (h : RdI w0 wr gD gM BB nm lp (.slice S n cs) s (iv M)) (hD : gD < BB) (hM : gM < BB) (hne : gD ≠ gM) (h0 : w0.heap.size ≤ gD) (h1 : w0.heap.size ≤ gM) : R2 w0 (wr.alloc (.cells (cellsN nm fun _ => .bool false) 4)) gD gM wr.heap.size nm n S cs lp s M [] := by
  have hb := below_alloc wr (.cells (cellsN nm fun _ => .bool false) 4)
  have hbs := h.base
  have hws := h.below.size
  refine ⟨below_step h.below hb, h0, h1, by omega, (hb.cell (p := ⟨gD, 0, none⟩) (by simp; omega)).trans h.b0, (hb.cell (p := ⟨gD, 1, none⟩) (by simp; omega)).trans h.b1, (hb.cell (p := ⟨gD, 2, none⟩) (by simp; omega)).trans h.b2, by simp; omega, h.own.ri.keep hb, fun a e => ?_, h.arr.keep hb, (Arr.new wr nm 4 fun _ => .bool false).congr fun i _ => by simp, by omega⟩
  subst e
  rcases h.own.form with ⟨e, _⟩ | ⟨g, cap, e, hg1, hg2⟩
  · cases e
  · injection e with e; injection e with e; subst e
    refine ⟨⟨?_, ?_⟩, ?_⟩ <;> (simp only; omega)

theorem oi_snoc {w : World} {B k : Nat} {v : Value} {xs : List Int} {x : Int} (h : OI w B v (xs ++ [x])) (hl : xs.length = k) : ∃ A c, v = .slice A (k + 1) c := by
  rcases h.form with ⟨_, e⟩ | ⟨g, cap, e, _⟩
  · simp at e
  · exact ⟨some ⟨g, 0, none⟩, cap, by rw [e]; simp [hl]⟩
theorem oi_len {w : World} {B k : Nat} {v : Value} {xs : List Int} (h : OI w B v xs) (hl : xs.length = k) : ∃ A c, v = .slice A k c := by
  rcases h.form with ⟨e, rfl⟩ | ⟨g, cap, e, _⟩
  · exact ⟨none, 0, by rw [e, ← hl]; rfl⟩
  · exact ⟨some ⟨g, 0, none⟩, cap, by rw [e, hl]⟩

section
variable {xs : List Int} {n lp : Nat} (e0 : yN xs 0 = n) (e1 : yN xs 1 = lp) (hn : n ≤ 64) (hl : lp ≤ 64) (hf : xs.length = decEnd n)
include e0 e1 hn hl hf
theorem decM_un (hu : unY (decBits xs n) n = true) : decM xs = ⟨3, [], [], 0⟩ := by
  subst e0; subst e1
  unfold decM
  rw [if_neg (by unfold decEnd at hf; omega), if_neg (by omega), if_neg (by omega), if_neg (by omega), if_pos hu]
theorem decM_bad (hu : unY (decBits xs n) n = false) (hb : (msK (sgY (decBits xs n) n) (yN (decMates xs n)) (4 * n) (4 * n)).ok = false) : decM xs = ⟨3, [], [], 0⟩ := by
  subst e0; subst e1
  unfold decM
  rw [if_neg (by unfold decEnd at hf; omega), if_neg (by omega), if_neg (by omega), if_neg (by omega), if_neg (by rw [hu]; decide), if_pos hb]
theorem decM_no (hu : unY (decBits xs n) n = false) (hb : (msK (sgY (decBits xs n) n) (yN (decMates xs n)) (4 * n) (4 * n)).ok = true) (hv : validB (sgY (decBits xs n) n) (lnM (4 * n) (msK (sgY (decBits xs n) n) (yN (decMates xs n)) (4 * n) (4 * n)).M) lp = false) : decM xs = ⟨7, [], [], 0⟩ := by
  subst e0; subst e1
  unfold decM
  rw [if_neg (by unfold decEnd at hf; omega), if_neg (by omega), if_neg (by omega), if_neg (by omega), if_neg (by rw [hu]; decide), if_neg (by rw [hb]; decide), if_neg (by rw [hv]; decide)]
theorem decM_yes (hu : unY (decBits xs n) n = false) (hb : (msK (sgY (decBits xs n) n) (yN (decMates xs n)) (4 * n) (4 * n)).ok = true) (hv : validB (sgY (decBits xs n) n) (lnM (4 * n) (msK (sgY (decBits xs n) n) (yN (decMates xs n)) (4 * n) (4 * n)).M) lp = true) : decM xs = ⟨0, sgY (decBits xs n) n, lnM (4 * n) (msK (sgY (decBits xs n) n) (yN (decMates xs n)) (4 * n) (4 * n)).M, lp⟩ := by
  subst e0; subst e1
  unfold decM
  rw [if_neg (by unfold decEnd at hf; omega), if_neg (by omega), if_neg (by omega), if_neg (by omega), if_neg (by rw [hu]; decide), if_neg (by rw [hb]; decide), if_pos hv]
end

end Go.Proofs.YtebliaclleplgaaDoor

/- Plain: what is encoded is decoded as it was; what is decoded is encoded as the same bytes. -/
namespace Go.Proofs.YtebliaclleplgaaDoor
open Go.RowKit

theorem btK_step (s : List Int) (k i : Nat) : btK s (k + 1) i = if s.getD k 0 = 1 ∧ i = k / 8 then btK s k i + 2 ^ (k % 8) else btK s k i := by
  show (if s.getD k 0 = 1 then upd (btK s k) (k / 8) (btK s k (k / 8) + 2 ^ (k % 8)) else btK s k) i = _
  by_cases h : s.getD k 0 = 1
  · rw [if_pos h]
    unfold upd
    by_cases e : i = k / 8
    · subst e; rw [if_pos rfl, if_pos ⟨h, rfl⟩]
    · rw [if_neg e, if_neg (fun q => e q.2)]
  · rw [if_neg h, if_neg (fun q => h q.1)]
theorem btK_bit (s : List Int) : ∀ k i j, j < 8 → (btK s k i).testBit j = (decide (8 * i + j < k) && decide (s.getD (8 * i + j) 0 = 1))
  | 0, i, j, _ => by simp [btK]
  | k + 1, i, j, hj => by
    have ih := btK_bit s k i j hj
    rw [btK_step]
    by_cases h : s.getD k 0 = 1 ∧ i = k / 8
    · obtain ⟨h1, rfl⟩ := h
      rw [if_pos ⟨h1, rfl⟩, ← btK_or, Nat.testBit_or, ih, Nat.testBit_two_pow]
      by_cases e : k % 8 = j
      · have e2 : 8 * (k / 8) + j = k := by omega
        rw [e2, h1]
        simp [e]
      · have e2 : 8 * (k / 8) + j < k + 1 ↔ 8 * (k / 8) + j < k := by omega
        simp [e, e2]
    · rw [if_neg h, ih]
      by_cases e : 8 * i + j = k
      · have e3 : i = k / 8 := by omega
        have h2 : ¬ s.getD k 0 = 1 := fun q => h ⟨q, e3⟩
        rw [e, decide_eq_false h2]
        simp
      · have e2 : 8 * i + j < k + 1 ↔ 8 * i + j < k := by omega
        simp [e2]
theorem bit_iff (ys : List Int) (i : Nat) : (bitY ys i = 1 ↔ (yN ys (i / 8)).testBit (i % 8) = true) := by
  unfold bitY
  rw [Nat.testBit_eq_decide_div_mod_eq, decide_eq_true_eq]
theorem bit_01 (ys : List Int) (i : Nat) : bitY ys i = 0 ∨ bitY ys i = 1 := by
  have : bitY ys i < 2 := Nat.mod_lt _ (by decide)
  omega
theorem yN_btL (s : List Int) {n i : Nat} (hi : i < (n + 7) / 8) : yN (btL s n) i = btK s n i := by
  simp [yN, btL, List.getD, hi]
theorem bit_btL (s : List Int) {n i : Nat} (hi : i < 8 * ((n + 7) / 8)) : (bitY (btL s n) i = 1 ↔ i < n ∧ s.getD i 0 = 1) := by
  rw [bit_iff, yN_btL s (by omega), btK_bit s n _ _ (Nat.mod_lt _ (by decide)), show 8 * (i / 8) + i % 8 = i by omega]
  simp
theorem sgY_btL {s : List Int} {n : Nat} (hl : s.length = n) (hs : sgnsB s = true) : sgY (btL s n) n = s := by
  refine List.ext_getElem (by rw [sgY_len, hl]) fun i h1 h2 => ?_
  rw [sgY_len] at h1
  have e1 : (sgY (btL s n) n)[i] = 2 * (bitY (btL s n) i : Int) - 1 := by simp [sgY]
  have e2 : s.getD i 0 = s[i] := by simp [List.getD, h2]
  have hg := (sgnsB_iff _).1 hs i h2
  have hb := bit_btL s (n := n) (i := i) (by omega)
  rw [e1]
  rw [e2] at hb hg
  unfold sgB at hg
  simp only [Bool.or_eq_true, beq_iff_eq] at hg
  rcases hg with e | e
  · rw [hb.2 ⟨h1, e⟩, e]; rfl
  · rcases bit_01 (btL s n) i with q | q
    · rw [q, e]; rfl
    · have := (hb.1 q).2; rw [e] at this; cases this
theorem un_btL (s : List Int) (n : Nat) : unY (btL s n) n = false := by
  by_cases e : n % 8 = 0
  · unfold unY; simp [e]
  refine un_no ?_ fun i h1 h2 => ?_
  · rw [yN_btL s (by omega)]; exact (btK_inv s n).2.2 _
  · rcases bit_01 (btL s n) i with q | q
    · exact q
    · have := ((bit_btL s h2).1 q).1; omega
/-- Bytes without unused bits are the bytes of their signs. -/
theorem btL_sgY {ys : List Int} {n : Nat} (hl : ys.length = (n + 7) / 8) (hy : byteL ys) (hu : unY ys n = false) : btL (sgY ys n) n = ys := by
  refine List.ext_getElem (by rw [btL_len, hl]) fun i h1 h2 => ?_
  rw [btL_len] at h1
  have e1 : (btL (sgY ys n) n)[i] = (btK (sgY ys n) n i : Int) := by simp [btL]
  have e2 : ys[i] = (yN ys i : Int) := by
    rw [← (yN_cast hy i).1]; simp [List.getD, h2]
  rw [e1, e2]
  congr 1
  refine Nat.eq_of_testBit_eq fun j => ?_
  by_cases hj : j < 8
  · rw [btK_bit _ _ _ _ hj]
    have hb : (yN ys i).testBit j = decide (bitY ys (8 * i + j) = 1) := by
      have := bit_iff ys (8 * i + j)
      rw [show (8 * i + j) / 8 = i by omega, show (8 * i + j) % 8 = j by omega] at this
      cases h : (yN ys i).testBit j with
      | true => exact (decide_eq_true (this.2 h)).symm
      | false => exact (decide_eq_false (fun q => by rw [this.1 q] at h; cases h)).symm
    rw [hb]
    by_cases hn : 8 * i + j < n
    · rw [sgY_get hn]
      rcases bit_01 ys (8 * i + j) with q | q <;> simp [q, hn]
    · have : bitY ys (8 * i + j) ≠ 1 := fun q => by
        have := un_yes (n := n) (i := 8 * i + j) (by omega) (by omega) q
        rw [this] at hu; cases hu
      simp [hn, this]
  · rw [Nat.testBit_lt_two_pow, Nat.testBit_lt_two_pow]
    · exact Nat.lt_of_lt_of_le (yN_cast hy i).2 (Nat.le_trans (by decide : 256 ≤ 2 ^ 8) (Nat.pow_le_pow_right (by decide) (by omega)))
    · exact Nat.lt_of_lt_of_le ((btK_inv _ n).2.2 i) (Nat.le_trans (by decide : 256 ≤ 2 ^ 8) (Nat.pow_le_pow_right (by decide) (by omega)))

/-- As many outgoing half-edges lie below k. -/
def cO (s : List Int) (k : Nat) : Nat := (List.range k).countP (outB s)
theorem cO_succ (s : List Int) (k : Nat) : cO s (k + 1) = cO s k + if outB s k = true then 1 else 0 := by
  unfold cO
  rw [List.range_succ, List.countP_append]
  cases h : outB s k <;> simp [h]
theorem mtL_len (s : List Int) (pM : Nat → Nat) : ∀ k, (mtL s pM k).length = cO s k
  | 0 => rfl
  | k + 1 => by
    rw [mtL_succ, cO_succ, ← mtL_len s pM k]
    split <;> simp
theorem mtL_pre (s : List Int) (pM : Nat → Nat) (k : Nat) : ∀ d, ∃ r, mtL s pM (k + d) = mtL s pM k ++ r
  | 0 => ⟨[], by simp⟩
  | d + 1 => by
    obtain ⟨r, hr⟩ := mtL_pre s pM k d
    show ∃ r, mtL s pM (k + d + 1) = _
    rw [mtL_succ, hr]
    split
    · exact ⟨r ++ [(pM (k + d) : Int)], by simp⟩
    · exact ⟨r, rfl⟩
theorem mtL_at {s : List Int} {pM : Nat → Nat} {k K : Nat} (hk : k < K) (ho : outB s k = true) : yN (mtL s pM K) (cO s k) = pM k := by
  obtain ⟨r, hr⟩ := mtL_pre s pM (k + 1) (K - (k + 1))
  rw [show k + 1 + (K - (k + 1)) = K by omega, mtL_succ, if_pos ho] at hr
  unfold yN
  rw [hr, ← mtL_len s pM k, List.append_assoc]
  simp [List.getD]
/-- The mates that are written are read again. -/
theorem ms_enc {s : List Int} {pM : Nat → Nat} {N4 : Nat} (hi : Invol pM N4) (ho : ∀ h, h < N4 → outB s h ≠ outB s (pM h)) : ∀ k, k ≤ N4 →
    (msK s (yN (mtL s pM N4)) N4 k).ok = true ∧ (msK s (yN (mtL s pM N4)) N4 k).nx = cO s k ∧ (∀ x, x < N4 → ((outB s x = true ∧ x < k) ∨ (outB s x = false ∧ pM x < k)) → (msK s (yN (mtL s pM N4)) N4 k).M x = pM x) ∧ (∀ x, x ∈ (msK s (yN (mtL s pM N4)) N4 k).T ↔ ∃ h, h < k ∧ outB s h = true ∧ pM h = x)
  | 0, _ => ⟨rfl, rfl, fun x _ h => by omega, fun x => by simp [msK]⟩
  | k + 1, hk => by
    obtain ⟨h1, h2, h3, h4⟩ := ms_enc hi ho k (by omega)
    have hst : msK s (yN (mtL s pM N4)) N4 (k + 1) = msStep s (yN (mtL s pM N4)) N4 k (msK s (yN (mtL s pM N4)) N4 k) := rfl
    rw [hst, cO_succ]
    unfold msStep
    rw [if_neg (by rw [h1]; decide)]
    cases hoK : outB s k with
    | false =>
      rw [if_pos rfl]
      refine ⟨h1, by simp [h2], fun x hx h => h3 x hx (h.imp (fun q => ⟨q.1, ?_⟩) (fun q => ⟨q.1, ?_⟩)), fun x => (h4 x).trans ⟨fun ⟨h, a, b, c⟩ => ⟨h, by omega, b, c⟩, fun ⟨h, a, b, c⟩ => ⟨h, ?_, b, c⟩⟩⟩
      · have : x ≠ k := fun e => by rw [e, hoK] at q; cases q.1
        omega
      · have : pM x ≠ k := fun e => by
          have := ho x hx
          rw [e, hoK, q.1] at this
          exact this rfl
        omega
      · have : h ≠ k := fun e => by rw [e, hoK] at b; cases b
        omega
    | true =>
      rw [if_neg (by decide)]
      have hY : yN (mtL s pM N4) (msK s (yN (mtL s pM N4)) N4 k).nx = pM k := by rw [h2]; exact mtL_at (by omega) hoK
      rw [hY]
      have hlt : pM k < N4 := (hi.1 k (by omega))
      have hinv : pM (pM k) = k := hi.2 k (by omega)
      have hoM : outB s (pM k) = false := by
        have := ho k (by omega)
        rw [hoK] at this
        cases h : outB s (pM k) with
        | true => exact absurd h.symm this
        | false => rfl
      have hnT : pM k ∉ (msK s (yN (mtL s pM N4)) N4 k).T := fun q => by
        obtain ⟨h, a, _, c⟩ := (h4 _).1 q
        have := hi.2 h (by omega)
        rw [c, hinv] at this
        omega
      rw [if_neg (fun q => q.elim (fun q => absurd q (by omega)) (fun q => q.elim (fun q => by rw [hoM] at q; cases q) hnT))]
      refine ⟨rfl, by simp [h2], fun x hx h => ?_, fun x => ?_⟩
      · show upd (upd _ k (pM k)) (pM k) k x = pM x
        unfold upd
        by_cases e : x = pM k
        · rw [if_pos e, e, hinv]
        · rw [if_neg e]
          by_cases e' : x = k
          · rw [if_pos e', e']
          · rw [if_neg e']
            refine h3 x hx (h.imp (fun q => ⟨q.1, by omega⟩) (fun q => ⟨q.1, ?_⟩))
            have : pM x ≠ k := fun z => e (by rw [← z]; exact (hi.2 x hx).symm)
            omega
      · show x ∈ _ ++ [pM k] ↔ _
        rw [List.mem_append, h4, List.mem_singleton]
        constructor
        · rintro (⟨h, a, b, c⟩ | e)
          · exact ⟨h, by omega, b, c⟩
          · exact ⟨k, by omega, hoK, e.symm⟩
        · rintro ⟨h, a, b, c⟩
          by_cases e : h = k
          · exact .inr (by rw [← c, e])
          · exact .inl ⟨h, by omega, b, c⟩
/-- The mates that are read are those that would be written. -/
theorem ms_dec {s : List Int} {Y : Nat → Nat} {N4 : Nat} : ∀ k, (msK s Y N4 k).ok = true → (msK s Y N4 k).nx = cO s k ∧ ∀ h, h < k → outB s h = true → (msK s Y N4 k).M h = Y (cO s h)
  | 0, _ => ⟨rfl, fun h hh => by omega⟩
  | k + 1, hok => by
    have hst : msK s Y N4 (k + 1) = msStep s Y N4 k (msK s Y N4 k) := rfl
    have hk : (msK s Y N4 k).ok = true := by
      cases e : (msK s Y N4 k).ok with
      | true => rfl
      | false => have := msK_bad e 1; rw [this] at hok; cases hok
    obtain ⟨h1, h2⟩ := ms_dec k hk
    rw [hst] at hok ⊢
    rw [cO_succ]
    unfold msStep at hok ⊢
    rw [if_neg (by rw [hk]; decide)] at hok ⊢
    cases hoK : outB s k with
    | false =>
      rw [if_pos rfl]
      refine ⟨by simp [h1], fun h hh ho => h2 h ?_ ho⟩
      have : h ≠ k := fun e => by rw [e, hoK] at ho; cases ho
      omega
    | true =>
      rw [hoK, if_neg (by decide)] at hok
      rw [if_neg (by decide)]
      split at hok
      · cases hok
      · next hc =>
        rw [if_neg hc]
        have hoY : outB s (Y (msK s Y N4 k).nx) = false := by
          cases e : outB s (Y (msK s Y N4 k).nx) with
          | true => exact absurd (.inr (.inl e)) hc
          | false => rfl
        refine ⟨by simp [h1], fun h hh ho => ?_⟩
        show upd (upd _ k (Y (msK s Y N4 k).nx)) (Y (msK s Y N4 k).nx) k h = _
        unfold upd
        rw [if_neg (fun e => by rw [← e, ho] at hoY; cases hoY)]
        by_cases e : h = k
        · rw [if_pos e, e, h1]
        · rw [if_neg e]; exact h2 h (by omega) ho
theorem mtL_dec {s : List Int} {pM Y : Nat → Nat} : ∀ k, (∀ h, h < k → outB s h = true → pM h = Y (cO s h)) → mtL s pM k = (List.range (cO s k)).map fun i => (Y i : Int)
  | 0, _ => rfl
  | k + 1, h => by
    rw [mtL_succ, mtL_dec k (fun x hx ho => h x (by omega) ho), cO_succ]
    cases hoK : outB s k with
    | true => rw [if_pos rfl, if_pos rfl, List.range_succ, List.map_append, h k (by omega) hoK]; rfl
    | false => rw [if_neg (by decide), if_neg (by decide), Nat.add_zero]

end Go.Proofs.YtebliaclleplgaaDoor

/- Plain: the two ways round. -/
namespace Go.Proofs.YtebliaclleplgaaDoor
open Go.RowKit

theorem dec_bits_cons (a b : Int) (l : List Int) (n : Nat) : decBits (a :: b :: l) n = l.take ((n + 7) / 8) := rfl
theorem dec_mates_cons (a b : Int) (l : List Int) (n : Nat) : decMates (a :: b :: l) n = l.drop ((n + 7) / 8) := by
  unfold decMates
  rw [show 2 + (n + 7) / 8 = (n + 7) / 8 + 1 + 1 by omega]
  rfl
theorem enL_size {s m : List Int} {lp : Int} (hv : validB s m lp = true) : (enL s (matesOf m) lp m.length).length = decEnd s.length := by
  have F := bk_facts hv
  unfold enL decEnd
  simp only [List.length_cons, List.length_append]
  rw [btL_len, mtL_len, F.lm]
  have := bk_count F.sg rfl
  unfold cO
  rw [this]; omega
theorem out_ne {s m : List Int} {lp : Int} (hv : validB s m lp = true) (h : Nat) (hh : h < m.length) : outB s h ≠ outB s (matesOf m h) := by
  have F := bk_facts hv
  obtain ⟨x, h1, _, _, h4⟩ := pOK_out ((pairB_iff _ _).1 F.pr h hh) rfl
  have e : matesOf m h = x := by unfold matesOf; rw [h1]; simp
  rw [e]; exact h4
theorem lp_nat {s m : List Int} {lp : Int} (hv : validB s m lp = true) : ∃ l : Nat, lp = l ∧ l ≤ 64 := by
  have F := bk_facts hv
  obtain ⟨_, _, l3, l4⟩ := limB_out F.lim
  exact ⟨lp.toNat, by omega, by omega⟩
theorem bin_enc {s m : List Int} {lp : Int} (hv : validB s m lp = true) : decM (enL s (matesOf m) lp m.length) = ⟨0, s, m, lp⟩ := by
  have F := bk_facts hv
  obtain ⟨l, rfl, hl⟩ := lp_nat hv
  have hf := enL_size hv
  have hlm := F.lm
  have e0 : yN (enL s (matesOf m) (l : Int) m.length) 0 = s.length := by simp [yN, enL]
  have e1 : yN (enL s (matesOf m) (l : Int) m.length) 1 = l := by simp [yN, enL]
  have eb : decBits (enL s (matesOf m) (l : Int) m.length) s.length = btL s s.length := by
    unfold enL
    rw [dec_bits_cons, List.take_left' (btL_len _ _)]
  have em : decMates (enL s (matesOf m) (l : Int) m.length) s.length = mtL s (matesOf m) m.length := by
    unfold enL
    rw [dec_mates_cons, List.drop_left' (btL_len _ _)]
  obtain ⟨h1, _, h3, _⟩ := ms_enc (s := s) F.i (out_ne hv) m.length (Nat.le_refl _)
  have es := sgY_btL (s := s) rfl F.sg
  have hM : lnM m.length (msK s (yN (mtL s (matesOf m) m.length)) m.length m.length).M = m := by
    refine List.ext_getElem (lnM_len _ _) fun i hi1 hi2 => ?_
    obtain ⟨x, g1, _, _, _⟩ := pOK_out ((pairB_iff _ _).1 F.pr i hi2) rfl
    have e2 : matesOf m i = x := by unfold matesOf; rw [g1]; simp
    have e3 : m[i] = (x : Int) := by rw [← g1]; simp [mt, List.getD, hi2]
    have e4 : (msK s (yN (mtL s (matesOf m) m.length)) m.length m.length).M i = matesOf m i := h3 i hi2 (by
      have := F.i.lt i hi2
      cases e : outB s i with
      | true => exact .inl ⟨rfl, hi2⟩
      | false => exact .inr ⟨rfl, this⟩)
    rw [e3, ← e2, ← e4]
    simp [lnM]
  have hd := decM_yes e0 e1 F.le hl hf (by rw [eb]; exact un_btL _ _) (by rw [eb, em, es, ← hlm]; exact h1) (by rw [eb, em, es, ← hlm, hM]; exact hv)
  rw [hd, eb, em, es, ← hlm, hM]
theorem bin_short {s m : List Int} {lp : Int} (hv : validB s m lp = true) {k : Nat} (hk : k < (enL s (matesOf m) lp m.length).length) : decM ((enL s (matesOf m) lp m.length).take k) = ⟨4, [], [], 0⟩ := by
  have F := bk_facts hv
  obtain ⟨l, rfl, hl⟩ := lp_nat hv
  have hf := enL_size hv
  have hle := F.le
  have hlen : ((enL s (matesOf m) (l : Int) m.length).take k).length = k := by rw [List.length_take]; omega
  by_cases h2 : k < 2
  · unfold decM; rw [if_pos (by omega)]
  have e0 : yN ((enL s (matesOf m) (l : Int) m.length).take k) 0 = s.length := by
    unfold yN enL
    rw [show k = (k - 2) + 1 + 1 by omega]; simp
  have e1 : yN ((enL s (matesOf m) (l : Int) m.length).take k) 1 = l := by
    unfold yN enL
    rw [show k = (k - 2) + 1 + 1 by omega]; simp
  unfold decM
  rw [if_neg (by omega), if_neg (by omega), e0, if_pos (by omega)]
theorem bin_long {s m : List Int} {lp : Int} (hv : validB s m lp = true) (c : Int) : decM (enL s (matesOf m) lp m.length ++ [c]) = ⟨3, [], [], 0⟩ := by
  have F := bk_facts hv
  obtain ⟨l, rfl, hl⟩ := lp_nat hv
  have hf := enL_size hv
  have hle := F.le
  have hlen : (enL s (matesOf m) (l : Int) m.length ++ [c]).length = decEnd s.length + 1 := by rw [List.length_append, hf]; rfl
  have h2 : 2 ≤ decEnd s.length := by unfold decEnd; omega
  have e0 : yN (enL s (matesOf m) (l : Int) m.length ++ [c]) 0 = s.length := by simp [yN, enL]
  have e1 : yN (enL s (matesOf m) (l : Int) m.length ++ [c]) 1 = l := by simp [yN, enL]
  unfold decM
  rw [if_neg (by omega), if_neg (by omega), e0, if_neg (by omega), if_pos (by omega)]
/-- What is decoded is a valid diagram whose bytes are those. -/
theorem bin_dec {xs : List Int} (hx : byteL xs) (h : (decM xs).E = 0) : validB (decM xs).s (decM xs).m (decM xs).lp = true ∧ enL (decM xs).s (matesOf (decM xs).m) (decM xs).lp (decM xs).m.length = xs := by
  by_cases h1 : xs.length < 2
  · unfold decM at h; rw [if_pos h1] at h; cases h
  by_cases h2 : 64 < yN xs 0 ∨ 64 < yN xs 1
  · unfold decM at h; rw [if_neg h1, if_pos h2] at h; cases h
  by_cases h3 : xs.length < decEnd (yN xs 0)
  · unfold decM at h; rw [if_neg h1, if_neg h2, if_pos h3] at h; cases h
  by_cases h4 : decEnd (yN xs 0) < xs.length
  · unfold decM at h; rw [if_neg h1, if_neg h2, if_neg h3, if_pos h4] at h; cases h
  have hn : yN xs 0 ≤ 64 := by omega
  have hl : yN xs 1 ≤ 64 := by omega
  have hf : xs.length = decEnd (yN xs 0) := by omega
  cases hu : unY (decBits xs (yN xs 0)) (yN xs 0) with
  | true => rw [decM_un rfl rfl hn hl hf hu] at h; cases h
  | false =>
    cases hb : (msK (sgY (decBits xs (yN xs 0)) (yN xs 0)) (yN (decMates xs (yN xs 0))) (4 * yN xs 0) (4 * yN xs 0)).ok with
    | false => rw [decM_bad rfl rfl hn hl hf hu hb] at h; cases h
    | true =>
      cases hv : validB (sgY (decBits xs (yN xs 0)) (yN xs 0)) (lnM (4 * yN xs 0) (msK (sgY (decBits xs (yN xs 0)) (yN xs 0)) (yN (decMates xs (yN xs 0))) (4 * yN xs 0) (4 * yN xs 0)).M) (yN xs 1 : Nat) with
      | false => rw [decM_no rfl rfl hn hl hf hu hb hv] at h; cases h
      | true =>
        rw [decM_yes rfl rfl hn hl hf hu hb hv]
        refine ⟨hv, ?_⟩
        simp only
        have c0 := (yN_cast hx 0).1
        have c1 := (yN_cast hx 1).1
        generalize yN xs 0 = n at *
        generalize yN xs 1 = l at *
        obtain ⟨a, b, r, rfl⟩ : ∃ a b r, xs = a :: b :: r := by
          match xs, h1 with
          | a :: b :: r, _ => exact ⟨a, b, r, rfl⟩
          | [], h1 => simp at h1
          | [a], h1 => simp at h1
        have ea : a = (n : Int) := by simpa using c0
        have eb : b = (l : Int) := by simpa using c1
        subst ea; subst eb
        have hrl : r.length = (n + 7) / 8 + 2 * n := by unfold decEnd at hf; simp at hf; omega
        have F := bk_facts hv
        have hyb := byteL_bits hx n
        have hyl : (decBits ((n : Int) :: (l : Int) :: r) n).length = (n + 7) / 8 := by rw [dec_bits_cons, List.length_take]; omega
        have hzl : (decMates ((n : Int) :: (l : Int) :: r) n).length = 2 * n := by rw [dec_mates_cons, List.length_drop]; omega
        have hzb := byteL_mates hx n
        have ebt := btL_sgY hyl hyb hu
        have hjoin : decBits ((n : Int) :: (l : Int) :: r) n ++ decMates ((n : Int) :: (l : Int) :: r) n = r := by rw [dec_bits_cons, dec_mates_cons, List.take_append_drop]
        generalize decBits ((n : Int) :: (l : Int) :: r) n = ys at *
        generalize decMates ((n : Int) :: (l : Int) :: r) n = zs at *
        obtain ⟨_, hdec⟩ := ms_dec (4 * n) hb
        have hsl := sgY_len ys n
        have hc : cO (sgY ys n) (4 * n) = 2 * n := bk_count (sgY_sg ys n) hsl
        have hmt : mtL (sgY ys n) (matesOf (lnM (4 * n) (msK (sgY ys n) (yN zs) (4 * n) (4 * n)).M)) (4 * n) = zs := by
          rw [mtL_dec (Y := yN zs) (4 * n) (fun x hx2 ho => by
            rw [← hdec x hx2 ho]
            simp [matesOf, mt, lnM, List.getD, hx2]), hc]
          refine List.ext_getElem (by simp [hzl]) fun i g1 g2 => ?_
          have := (yN_cast hzb i).1
          simp [List.getD, g2] at this
          simp [this]
        unfold enL
        rw [lnM_len, hmt, hsl, ebt, hjoin]

end Go.Proofs.YtebliaclleplgaaDoor
