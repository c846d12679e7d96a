import Derived.Test.YtambhopkacgddaaDoorE01
import Derived.Test.YtambhopkacgddaaDoorShelf
import Derived.Lib.SmallJoins
import Derived.Lib.Fields
import Derived.Lib.Join
import Derived.Test.YtambhopkacgddaaDoorE08
import Derived.Test.YtambhopkacgddaaDoorE02
import Derived.Test.YtambhopkacgddaaDoorE06
import Derived.Laws.BytesArg
import Derived.Test.YtambhopkacgddaaDoorCards
import Derived.LaidMore
import Derived.LaidHandle
import Derived.OpenShut
import Derived.Stop.Joined
import Derived.Stop.LaidErr
import Derived.Test.YtambhopkacgddaaDoorE05
import Derived.Lib.AtoiAllCases
import Derived.Lib.ItoaLen
import Derived.Shelf.Strings.FieldsAny
import Derived.Lib.AppendIntMem
/- The tables and the two errors that Parse and Format read; Atoi of any word; reading words as numbers. -/
namespace Go.Proofs.YtambhopkacgddaaDoor
open Go.ChangeShapes Go.WideShapes Go.ChangeAt Go.RowKit Go.Joins

theorem Tryd.gSpace : Tryd.prog.globalNamed "strings.asciiSpace" = some 0 := by kernel_rfl
theorem Tryd.gPow : Tryd.prog.globalNamed "internal/strconv.uint64pow10" = some 2 := by kernel_rfl
/-- What a world of the door holds: two tables, two errors. -/
structure DW (w : World) : Prop where
  sp : Lib.TabIs Tryd.prog w "strings.asciiSpace" .u8 Lib.asciiSpaceTab
  pw : Lib.TabIs Tryd.prog w "internal/strconv.uint64pow10" .u64 Lib.pow10Tab
  es : ∃ t p, w.cell? ⟨4, 0, none⟩ = some (.iface t p)
  er : ∃ t p, w.cell? ⟨5, 0, none⟩ = some (.iface t p)
theorem DW.keep {w w' : World} (h : DW w) (hb : Below w.heap.size w w') : DW w' := by
  obtain ⟨h1, h2, ⟨t3, p3, h3⟩, t4, p4, h4⟩ := h
  exact ⟨tab_stays Tryd.gSpace h1 hb (Nat.le_refl _), tab_stays Tryd.gPow h2 hb (Nat.le_refl _), ⟨t3, p3, (hb.cell (p := ⟨4, 0, none⟩) (Lib.lt_of_cell h3)).trans h3⟩, ⟨t4, p4, (hb.cell (p := ⟨5, 0, none⟩) (Lib.lt_of_cell h4)).trans h4⟩⟩

/-- The number that a word spells. -/
def wordI (b : List UInt8) : Option Int := match Lib.atoiAll b with
  | .ok v => some v
  | _ => none
theorem atoi_some {b : List UInt8} {v : Int} (h : wordI b = some v) : Lib.atoiAll b = .ok v := by
  unfold wordI at h
  split at h
  · next e => rw [e, Option.some.inj h]
  · cases h
theorem atoi_in {b : List UInt8} {v : Int} (h : wordI b = some v) : -9223372036854775808 ≤ v ∧ v ≤ 9223372036854775807 := Lib.atoiAll_bounds (atoi_some h)
theorem atoi_yes (b : List UInt8) (v : Int) (h : wordI b = some v) (hl : b.length ≤ 100000) (w : World) :
    Calls Tryd.prog 30 #[.string ⟨b.toArray⟩] w fun e w' => e = .returned (.tuple #[.int .i64 v, .nilIface]) ∧ Below w.heap.size w w' := by
  refine (Tryd.strconv_Atoi_ok ⟨b.toArray⟩ (by simp [ByteArray.size]; omega) v (by simpa using atoi_some h) w).mono ?_
  rintro e w' ⟨rfl, hw⟩
  refine ⟨rfl, ?_⟩
  rcases hw with hw | ⟨t, hw⟩
  · rw [hw]; exact Below.refl _ _
  · rw [hw]; exact Lib.bytesWorld_below w _ _
theorem atoi_no (b : List UInt8) (h : wordI b = none) (hl : b.length ≤ 100000) (w : World) (hD : DW w) :
    Calls Tryd.prog 30 #[.string ⟨b.toArray⟩] w fun e w' => ∃ v t p, e = .returned (.tuple #[.int .i64 v, .iface t p]) ∧ Below w.heap.size w w' := by
  obtain ⟨_, _, ⟨t3, p3, h3⟩, t4, p4, h4⟩ := hD
  have hs : (ByteArray.mk b.toArray).size ≤ 281474976710656 := by simp [ByteArray.size]; omega
  cases e : Lib.atoiAll b with
  | ok v => simp [wordI, e] at h
  | «syntax» =>
    refine (Tryd.strconv_Atoi_syntax ⟨b.toArray⟩ hs (by simpa using e) _ w h3 (.inr ⟨t3, p3, rfl⟩)).mono ?_
    rintro e w' ⟨N, rfl, _, _, hb⟩
    exact ⟨_, _, _, rfl, hb⟩
  | range =>
    refine (Tryd.strconv_Atoi_range ⟨b.toArray⟩ hs (by simpa using e) _ w h4 (.inr ⟨t4, p4, rfl⟩)).mono ?_
    rintro e w' ⟨N, rfl, _, _, hb⟩
    exact ⟨_, _, _, rfl, hb⟩

/-- A row of strings. -/
def strV (b : List UInt8) : Value := .string ⟨b.toArray⟩
def WB (w : World) (g : Nat) (ws : List (List UInt8)) : Prop := g < w.heap.size ∧ ∀ k, k < ws.length → w.cell? ⟨g, k, none⟩ = some (strV (ws.getD k []))
theorem WB.keep {w w' : World} {g : Nat} {ws : List (List UInt8)} (h : WB w g ws) (hb : Below w.heap.size w w') : WB w' g ws :=
  ⟨Nat.lt_of_lt_of_le h.1 hb.size, fun k hk => (hb.cell (p := ⟨g, k, none⟩) h.1).trans (h.2 k hk)⟩
theorem wb_new (w : World) (ws : List (List UInt8)) : WB (w.alloc (.cells (ws.map fun l => Value.string ⟨l.toArray⟩).toArray 9)) w.heap.size ws :=
  ⟨by simp, fun k hk => by rw [World.cell?_alloc_at _ _ _ _ rfl]; simp [List.getD, hk, strV]⟩

/-- The numbers of words: all of them, or none. -/
def rdN : List (List UInt8) → Option (List Int)
  | [] => some []
  | b :: r => match wordI b, rdN r with
    | some v, some l => some (v :: l)
    | _, _ => none
theorem rdN_some {ws : List (List UInt8)} {l : List Int} (h : rdN ws = some l) : l.length = ws.length ∧ ∀ k, k < ws.length → wordI (ws.getD k []) = some (l.getD k 0) := by
  induction ws generalizing l with
  | nil => simp only [rdN, Option.some.injEq] at h; subst h; exact ⟨rfl, fun k hk => absurd hk (by simp)⟩
  | cons b r ih =>
    unfold rdN at h
    split at h
    · next v l1 e1 e2 =>
      obtain rfl := Option.some.inj h
      obtain ⟨i1, i2⟩ := ih e2
      refine ⟨by simp [i1], fun k hk => ?_⟩
      cases k with
      | zero => simpa using e1
      | succ k => simpa using i2 k (by simpa using hk)
    · cases h
theorem rdN_none {ws : List (List UInt8)} (h : rdN ws = none) : ∃ k, k < ws.length ∧ wordI (ws.getD k []) = none ∧ ∀ j, j < k → ∃ v, wordI (ws.getD j []) = some v := by
  induction ws with
  | nil => simp [rdN] at h
  | cons b r ih =>
    unfold rdN at h
    cases e1 : wordI b with
    | none => exact ⟨0, by simp, by simpa using e1, fun j hj => absurd hj (by omega)⟩
    | some v =>
      rw [e1] at h
      cases e2 : rdN r with
      | some l => rw [e2] at h; cases h
      | none =>
        obtain ⟨k, h1, h2, h3⟩ := ih e2
        refine ⟨k + 1, by simp; omega, by simpa using h2, fun j hj => ?_⟩
        cases j with
        | zero => exact ⟨v, by simpa using e1⟩
        | succ j => simpa using h3 j (by omega)

end Go.Proofs.YtambhopkacgddaaDoor

/- Words between single spaces; plain. -/
namespace Go.Proofs.YtambhopkacgddaaDoor
open Go.RowKit

theorem fieldsGo_word (w : List UInt8) (h : ∀ b ∈ w, Lib.isSp b = false) (cur rest : List UInt8) : Lib.fieldsGo cur (w ++ rest) = Lib.fieldsGo (cur ++ w) rest := by
  induction w generalizing cur with
  | nil => simp
  | cons b w ih =>
    rw [List.cons_append, Lib.fieldsGo_more _ _ _ (h b (by simp)), ih (fun x hx => h x (by simp [hx])), List.append_assoc]; rfl
theorem fieldsGo_tail (r : List (List UInt8)) (h : ∀ x ∈ r, x ≠ [] ∧ ∀ b ∈ x, Lib.isSp b = false) (cur : List UInt8) (hc : cur ≠ []) : Lib.fieldsGo cur (Lib.joinTail [32] r) = cur :: r := by
  induction r generalizing cur with
  | nil =>
    have : Lib.joinTail [32] [] = [] := rfl
    rw [this]
    unfold Lib.fieldsGo
    cases cur with
    | nil => exact absurd rfl hc
    | cons a t => rfl
  | cons x r ih =>
    obtain ⟨h1, h2⟩ := h x (by simp)
    have e : Lib.joinTail [32] (x :: r) = 32 :: (x ++ Lib.joinTail [32] r) := rfl
    rw [e, Lib.fieldsGo_end _ _ _ (by decide) hc, fieldsGo_word x h2, List.nil_append, ih (fun y hy => h y (by simp [hy])) x h1]
/-- The words of a text of words. -/
theorem fields_join (ws : List (List UInt8)) (h : ∀ x ∈ ws, x ≠ [] ∧ ∀ b ∈ x, Lib.isSp b = false) : Lib.fields (Lib.join ws [32]) = ws := by
  cases ws with
  | nil => rw [Lib.join_nil]; rfl
  | cons x r =>
    obtain ⟨h1, h2⟩ := h x (by simp)
    rw [Lib.join_cons]
    unfold Lib.fields
    rw [fieldsGo_word x h2, List.nil_append, fieldsGo_tail r (fun y hy => h y (by simp [hy])) x h1]

end Go.Proofs.YtambhopkacgddaaDoor

/- Plain: a text of twos; a code of n even numbers in their order. -/
namespace Go.Proofs.YtambhopkacgddaaDoor
open Go.RowKit

theorem twos_fields (n : Nat) (hn : 0 < n) : Lib.fields (List.replicate n (50 : UInt8)) = [List.replicate n 50] := by
  have h := fields_join [List.replicate n (50 : UInt8)] (fun x hx => by
    obtain rfl : x = List.replicate n 50 := by simpa using hx
    refine ⟨fun e => ?_, fun b hb => ?_⟩
    · have := congrArg List.length e
      simp at this; omega
    · rw [(List.mem_replicate.1 hb).2]; decide)
  rw [Lib.join_cons] at h
  have e : Lib.joinTail [32] [] = [] := rfl
  rw [e, List.append_nil] at h
  exact h
theorem twos_uint (r : List UInt8) : Lib.parseUint10 0 (List.replicate 20 50 ++ r) = .range := by
  simp [List.replicate, Lib.parseUint10]
theorem twos_atoi (n : Nat) (hn : 20 ≤ n) : wordI (List.replicate n 50) = none := by
  obtain ⟨m, rfl⟩ : ∃ m, n = 20 + m := ⟨n - 20, by omega⟩
  have h := twos_uint (List.replicate m 50)
  rw [List.replicate_append_replicate] at h
  have e : List.replicate (20 + m) (50 : UInt8) = 50 :: List.replicate (19 + m) 50 := by rw [show 20 + m = (19 + m) + 1 by omega, List.replicate_succ]
  have hm : Lib.parseMag (50 :: List.replicate (19 + m) 50) = .range := by
    unfold Lib.parseMag
    rw [if_neg (by simp), ← e]
    exact h
  unfold wordI
  rw [e, Lib.atoiAll_plain 50 _ (by decide) (by decide), hm]
  rfl
theorem twos_rd (n : Nat) (hn : 20 ≤ n) : rdN [List.replicate n 50] = none := by
  unfold rdN; rw [twos_atoi n hn]

def evL (n : Nat) : List Int := (List.range n).map fun (i : Nat) => 2 * ((i : Int) + 1)
theorem evL_len (n : Nat) : (evL n).length = n := by simp [evL]
theorem evL_at {n i : Nat} (hi : i < n) : (evL n).getD i 0 = 2 * ((i : Int) + 1) := by simp [evL, List.getD, hi]
theorem evL_succ (n : Nat) : evL (n + 1) = evL n ++ [2 * ((n : Int) + 1)] := by unfold evL; rw [List.range_succ, List.map_append]; rfl
theorem evL_sz {n i : Nat} (hi : i < n) : szI ((evL n).getD i 0) = 2 * ((i : Int) + 1) := by
  rw [evL_at hi]; unfold szI; rw [if_neg (by omega), if_neg (by omega)]
theorem evL_ok {n : Nat} (h1 : 1 ≤ n) (h2 : n ≤ 64) : dvB (evL n) = true := by
  rw [dvB_iff, evL_len]
  refine ⟨h1, h2, fun i hi => (okAt_iff _ _).2 ?_⟩
  rw [evL_sz hi, evL_len]
  refine ⟨by omega, by omega, by omega, fun j hj => ?_⟩
  rw [evL_sz (by omega)]
  omega
theorem evL_in (n : Nat) (hn : n ≤ 64) : inL (evL n) := fun j => by
  by_cases h : j < n
  · rw [evL_at h]; omega
  · have e : (evL n).getD j 0 = 0 := by rw [List.getD, List.getElem?_eq_none (by rw [evL_len]; omega)]; rfl
    rw [e]; omega
theorem evL_full {n : Nat} (h1 : 15 ≤ n) (h2 : n ≤ 64) : dgE (evL n) = 5 := by
  unfold dgE
  rw [evL_ok (by omega) h2, evL_len, if_neg (by simp), if_pos (by omega)]
theorem full_twos (n : Nat) (h1 : 20 ≤ n) (h2 : n ≤ 65536) (W : World) (hD : DW W) :
    Calls Tryd.prog 18 #[.string ⟨(List.replicate n (50 : UInt8)).toArray⟩] W fun e w' => ∃ g, e = .returned (.slice (some ⟨g, 0, none⟩) 1 1) ∧ WB w' g [List.replicate n 50] ∧ Below W.heap.size W w' := by
  have hd : (ByteArray.mk (List.replicate n (50 : UInt8)).toArray).data.toList = List.replicate n 50 := by simp
  have h := Tryd.strings_Fields ⟨(List.replicate n (50 : UInt8)).toArray⟩ W (by simp [ByteArray.size]; omega) (fun j b hb => by
    rw [hd] at hb
    rw [(List.mem_replicate.1 (List.mem_of_getElem? hb)).2]; decide) hD.sp
  rw [hd, twos_fields n (by omega)] at h
  refine h.mono ?_
  rintro e w' ⟨rfl, hw⟩
  rw [hw]
  exact ⟨_, rfl, wb_new W _, below_alloc _ _⟩

end Go.Proofs.YtambhopkacgddaaDoor

/- Walk: readNumbers. -/
namespace Go.Proofs.YtambhopkacgddaaDoor
open Go.ChangeShapes Go.WideShapes Go.ChangeAt Go.RowKit Go.Joins

theorem getD_snoc1 {xs : List Int} {v : Int} {k j : Nat} (hl : xs.length = k) (hj : j < k + 1) : (xs ++ [v]).getD j 0 = if j = k then v else xs.getD j 0 := by
  by_cases e : j = k
  · rw [if_pos e]; subst e; subst hl; simp [List.getD]
  · rw [if_neg e, List.getD, List.getD, List.getElem?_append_left (by omega)]
def RnPost (o : Option (List Int)) (w : World) (e : Ending) (w' : World) : Prop :=
  match o with
  | some l => ∃ A c, e = .returned (.tuple #[.slice A l.length c, .bool true]) ∧ OI w' w.heap.size (.slice A l.length c) l ∧ Below w.heap.size w w'
  | none => e = .returned (.tuple #[.slice none 0 0, .bool false]) ∧ Below w.heap.size w w'

set_option maxHeartbeats 3200000 in
set_option maxRecDepth 100000 in
theorem readNumbers_any (g n c : Nat) (ws : List (List UInt8)) (w : World) (hw : WB w g ws) (hn : ws.length = n) (hD : DW w) (hl : ∀ x ∈ ws, x.length ≤ 100000) (hn1 : n ≤ 100000) :
    Calls Tryd.prog 17 #[.slice (some ⟨g, 0, none⟩) n c] w (RnPost (rdN ws) w) := by
  have HW := Lib.hid hw
  have HD := Lib.hid hD
  have HN := Lib.hid hn
  have hL : ∀ k, k < n → (ws.getD k []).length ≤ 100000 := fun k hk => hl _ (by simp [List.getD, hn ▸ hk])
  have HL := Lib.hid hL
  have HP : Hid (∀ k, k < n → wordI (ws.getD k []) = none → rdN ws = none) := Lib.hid fun k hk h => by
    cases e : rdN ws with
    | none => rfl
    | some l => rw [(rdN_some e).2 k (by omega)] at h; cases h
  have HQ : Hid (∀ xs : List Int, xs.length = n → (∀ j, j < n → wordI (ws.getD j []) = some (xs.getD j 0)) → rdN ws = some xs) := Lib.hid fun xs hx h => by
    cases e : rdN ws with
    | none =>
      obtain ⟨k, h1, h2, _⟩ := rdN_none e
      rw [h k (by omega)] at h2; cases h2
    | some l =>
      obtain ⟨e1, e2⟩ := rdN_some e
      congr 1
      apply List.ext_getElem (by omega)
      intro j h1 h2
      have := (h j (by omega)).symm.trans (e2 j (by omega))
      simp only [Option.some.injEq, List.getD, List.getElem?_eq_getElem h1, List.getElem?_eq_getElem h2, Option.getD_some] at this
      exact this.symm
  clear hw hD hn hl hL
  go_enter Tryd.func17, Tryd.ntmps17
  go_wp2
  go_loopw [4, 11] (fun v4 i wr => ∃ k : Nat, k ≤ n ∧ i = .int .i64 k ∧ Below w.heap.size w wr ∧ ∃ xs : List Int, xs.length = k ∧ (∀ j, j < k → wordI (ws.getD j []) = some (xs.getD j 0)) ∧ OI wr w.heap.size v4 xs) (fun _ i _ => n - (intOf i).toNat)
  case atStart => exact ⟨0, by omega, rfl, Below.refl _ _, [], rfl, fun j hj => absurd hj (by omega), OI.nil _ _⟩
  case round =>
    obtain ⟨k, hk, rfl, hbr, xs, hxl, hxs, hoi⟩ := hrel
    by_cases hkn : k < n
    · have hcell := (HW.out.keep hbr).2 k (by have := HN.out; omega)
      have hDr := HD.out.keep hbr
      have hLk := HL.out k hkn
      unfold strV at hcell
      have HX := Lib.hid hxs
      have HXL := Lib.hid hxl
      have HO := Lib.hid hoi
      obtain ⟨i0, hi, hz0, hz1, hz2⟩ := info_parts Tryd.infoInt
      obtain ⟨b, hb⟩ : ∃ b, ws.getD k [] = b := ⟨_, rfl⟩
      have HB := Lib.hid hb
      rw [hb] at hcell hLk
      clear hb hxs hxl hoi
      cases hv : wordI b with
      | none =>
        have CA : ∀ W, DW W → Hid (Calls Tryd.prog 30 #[.string ⟨b.toArray⟩] W fun e w' => ∃ v t p, e = .returned (.tuple #[.int .i64 v, .iface t p]) ∧ Below W.heap.size W w') := fun W h => Lib.hid (atoi_no b hv hLk W h)
        have HF : Hid (rdN ws = none) := Lib.hid (HP.out k hkn (by rw [HB.out]; exact hv))
        obtain ⟨sb, hsb⟩ : ∃ sb : ByteArray, sb = ⟨b.toArray⟩ := ⟨_, rfl⟩
        rw [← hsb] at hcell CA
        clear hv hsb hLk
        go_wp2_with (go_at_call 30; ((with_reducible refine (CA _ hDr).out.mono ?_); rintro e w2 ⟨v, t, p, rfl, hb2⟩; have hb3 := below_step hbr hb2))
        go_ret2
        unfold RnPost
        rw [HF.out]
        exact ⟨rfl, hb3⟩
      | some v =>
        have CA : ∀ W, Hid (Calls Tryd.prog 30 #[.string ⟨b.toArray⟩] W fun e w' => e = .returned (.tuple #[.int .i64 v, .nilIface]) ∧ Below W.heap.size W w') := fun W => Lib.hid (atoi_yes b v hv hLk W)
        obtain ⟨hv0, hv1⟩ := atoi_in hv
        have HV := Lib.hid hv
        obtain ⟨sb, hsb⟩ : ∃ sb : ByteArray, sb = ⟨b.toArray⟩ := ⟨_, rfl⟩
        rw [← hsb] at hcell CA
        clear hv hsb hLk
        go_wp2_with (first
          | (go_at_call 30; ((with_reducible refine (CA _).out.mono ?_); rintro e w2 ⟨rfl, hb2⟩; have hb3 := below_step hbr hb2; have HO2 := Lib.hid (HO.out.keep hb2)))
          | (at_builtin
             refine wpList_append_int rfl (.tmp 22) (.tmp 24) rfl w.heap.size u4 xs rfl (HO2.out.alloc _) w2.heap.size v rfl (by rw [World.cell?_alloc_at _ _ _ _ rfl]; rfl) (by have := HXL.out; omega) (by have := hb3.size; simp; omega) ?_
             intro v7 w7 ho7 hg7
             have hb7 : Below w.heap.size w w7 := (hb3.alloc hb3.size (.cells #[.int .i64 v] 3)).grown hg7 (by have := hb3.size; simp; omega) (fun q hq => (World.ownsRow.lt HO2.out q hq).1)
             have HO7 := Lib.hid ho7
             clear ho7 hg7))
        go_roundw
        case rel => exact ⟨k + 1, by omega, by go_num, hb7, xs ++ [v], by simp [HXL.out], fun j hj => by
          rw [getD_snoc1 HXL.out hj]
          by_cases e : j = k
          · rw [if_pos e, e, HB.out]; exact HV.out
          · rw [if_neg e]; exact HX.out j (by omega), HO7.out⟩
        case measure => simp [intOf]; omega
    · obtain rfl : n = k := by omega
      have HF := Lib.hid (HQ.out xs hxl hxs)
      obtain ⟨A, c', rfl⟩ : ∃ A c', u4 = .slice A n c' := by
        rcases OI.form hoi with ⟨rfl, e⟩ | ⟨g1, cap, rfl, _, _⟩
        · subst e; exact ⟨none, 0, by rw [← hxl]; rfl⟩
        · exact ⟨_, _, by rw [hxl]⟩
      have HO := Lib.hid hoi
      have HXL := Lib.hid hxl
      clear hoi hxl hxs HP HQ HN HL
      go_wp2
      go_ret2
      unfold RnPost
      rw [HF.out]
      exact ⟨A, c', by rw [HXL.out]; rfl, by rw [HXL.out]; exact HO.out, hbr⟩

end Go.Proofs.YtambhopkacgddaaDoor

/- Walk: Parse of a text that is too long, or whose words are no numbers. -/
namespace Go.Proofs.YtambhopkacgddaaDoor
open Go.ChangeShapes Go.WideShapes Go.ChangeAt Go.RowKit Go.Joins

/-- The words of a text, as Fields gives them. -/
def FiPost (ws : List (List UInt8)) (w : World) (e : Ending) (w' : World) : Prop :=
  ∃ g, e = .returned (.slice (some ⟨g, 0, none⟩) ws.length ws.length) ∧ WB w' g ws ∧ Below w.heap.size w w'

set_option maxHeartbeats 1600000 in
theorem parse_long (s : ByteArray) (w : World) (hs : 65536 < s.size) (hs2 : s.size ≤ 1000000) :
    Calls Tryd.prog 7 #[.string s] w fun e w' => e = .returned (.tuple #[.slice none 0 0, .int .i64 5]) ∧ Below w.heap.size w w' := by
  have h1 : 65536 < (s.size : Int) := by omega
  go_enter Tryd.func7, Tryd.ntmps7
  go_wp2
  go_ret2
  exact ⟨rfl, Below.refl _ _⟩

set_option maxHeartbeats 1600000 in
theorem parse_none (s : ByteArray) (ws : List (List UInt8)) (w : World) (hs : s.size ≤ 65536) (hD : DW w) (hF : Calls Tryd.prog 18 #[.string s] w (FiPost ws w)) (hl : ∀ x ∈ ws, x.length ≤ 100000) (hn1 : ws.length ≤ 100000) (hr : rdN ws = none) :
    Calls Tryd.prog 7 #[.string s] w fun e w' => e = .returned (.tuple #[.slice none 0 0, .int .i64 3]) ∧ Below w.heap.size w w' := by
  have h1 : ¬ 65536 < (s.size : Int) := by omega
  have CFi := Lib.hid hF
  have CR : ∀ (g : Nat) (W : World), WB W g ws → DW W → Hid (Calls Tryd.prog 17 #[.slice (some ⟨g, 0, none⟩) ws.length ws.length] W fun e w' => e = .returned (.tuple #[.slice none 0 0, .bool false]) ∧ Below W.heap.size W w') := fun g W h1 h2 => by
    have := readNumbers_any g _ ws.length ws W h1 rfl h2 hl hn1
    rw [hr] at this
    exact Lib.hid this
  have HD := Lib.hid hD
  obtain ⟨n, hn⟩ : ∃ n, ws.length = n := ⟨_, rfl⟩
  unfold FiPost at CFi
  rw [hn] at CR CFi
  clear hF hl hr hD hn1 hn
  go_enter Tryd.func7, Tryd.ntmps7
  go_wp2_with (first
    | (go_at_call 18; ((with_reducible refine CFi.out.mono ?_); rintro e w2 ⟨g2, rfl, hwb, hb2⟩; have hD2 := HD.out.keep hb2))
    | (go_at_call 17; ((with_reducible refine (CR _ _ hwb hD2).out.mono ?_); rintro e w3 ⟨rfl, hb3⟩)))
  go_ret2
  exact ⟨rfl, below_step hb2 hb3⟩

end Go.Proofs.YtambhopkacgddaaDoor

/- Walk: the law DowkerFull. -/
namespace Go.Proofs.YtambhopkacgddaaDoor
open Go.ChangeShapes Go.WideShapes Go.ChangeAt Go.RowKit Go.Joins

theorem Tryd.infoU8 : (Tryd.prog.info? 5).map (fun i => (i.zero, i.size, i.bytes)) = some (some (.int .u8 0), 1, 1) := by kernel_rfl
def twV (k : Nat) : Nat → Value := fun i => .int .u8 (if i < k then 50 else 0)
theorem tw_set {w : World} {g n k : Nat} {t : TypeId} (h : Arr w g t n (twV k)) : Arr (w.setCell ⟨g, k, none⟩ (.int .u8 50)) g t n (twV (k + 1)) :=
  (h.set k (.int .u8 50)).congr fun i _ => by
    unfold twV
    by_cases e : i = k
    · subst e; simp
    · have : i < k + 1 ↔ i < k := by omega
      simp [e, this]
theorem tw_fifty : UInt8.ofNat (Int.toNat 50) = 50 := by decide
theorem tw_nums (m : Nat) : strOfNums (List.replicate m 50) = ⟨(List.replicate m (50 : UInt8)).toArray⟩ := by
  unfold strOfNums
  rw [List.map_replicate, tw_fifty]
theorem tw_string {w : World} {g n m c : Nat} (h : Arr w g 5 n (twV n)) (hm : m ≤ n) :
    (convert 38 9 (.slice (some ⟨g, 0, none⟩) m c)).run Tryd.prog w = .ok (.string ⟨(List.replicate m (50 : UInt8)).toArray⟩) w := by
  have := run_convert_bytes_arg (P := Tryd.prog) w 38 5 Tryd.underlying38 Tryd.underlying5 g 0 m c (List.replicate m 50) (by simp) (fun i hi => by
    rw [Nat.zero_add, h.cell i (by omega)]
    simp [twV, List.getD, hi, show i < n by omega]) 9 Tryd.underlying9
  rw [this, tw_nums]
theorem tw_make_n (N : Nat) (M : Int) (hM : M = (N : Int)) (hN : N ≤ 100000) (W : World) : (Instr.makeSlice 38 (.int .i64 M) (.int .i64 M)).run Tryd.prog W = .ok (.slice (some ⟨W.heap.size, 0, none⟩) N N) (W.alloc (.cells (cellsN N (twV 0)) 5)) := by
  subst hM
  exact make_one (P := Tryd.prog) Tryd.underlying38 Tryd.infoU8 rfl N (by omega) (by omega) W
theorem big_at (N : Nat) (W : World) (big : Array Value) (h : big = cellsN N (twV 0)) : Arr (W.alloc (.cells big 5)) W.heap.size 5 N (twV 0) := by
  rw [h]; exact Arr.new W N _ _
theorem rep_size (n : Nat) : (ByteArray.mk (List.replicate n (50 : UInt8)).toArray).size = n := by simp [ByteArray.size]
theorem rep_word (n : Nat) (hn : n ≤ 100000) : ∀ y ∈ [List.replicate n (50 : UInt8)], y.length ≤ 100000 := fun y hy => by
  rw [List.mem_singleton.1 hy, List.length_replicate]; exact hn

set_option maxHeartbeats 6400000 in
set_option maxRecDepth 100000 in
theorem dkfull_walk (x : Int) (w : World) (hx : 0 ≤ x ∧ x ≤ 255) (hD : DW w) :
    Calls Tryd.prog 4 #[.int .u8 x] w fun e w' => e = .returned (.bool true) ∧ Below w.heap.size w w' := by
  have CA := Lib.hid (dawake_any w)
  obtain ⟨q, hq, hq19⟩ : ∃ q : Nat, x.tmod 20 = (q : Int) ∧ q ≤ 19 := by
    obtain ⟨X, rfl⟩ := Int.eq_ofNat_of_zero_le hx.1
    exact ⟨X % 20, rfl, by omega⟩
  have CS : ∀ (A : Option Addr) (c : Nat) (W : World), RI W A (15 + q) (evL (15 + q)) → Hid (Calls Tryd.prog 12 #[.slice A (15 + q) c] W fun e w' => ∃ A ns cs, e = .returned (.tuple #[.slice A ns cs, .int .i64 5]) ∧ Below W.heap.size W w') := fun A c W h => Lib.hid <|
    (dsigns_any A (15 + q) c _ W h (by omega) (evL_in _ (by omega))).mono fun e w' ⟨A, ns, cs, h1, _, h3⟩ => ⟨A, ns, cs, by rw [h1, evL_full (by omega) (by omega)], h3⟩
  have CDg : ∀ (A : Option Addr) (c : Nat) (W : World), RI W A (15 + q) (evL (15 + q)) → Hid (Calls Tryd.prog 13 #[.slice A (15 + q) c] W fun e w' => ∃ A ns cs B nm cm, e = .returned (.tuple #[dval A ns cs B nm cm 0, .int .i64 5]) ∧ Below W.heap.size W w') := fun A c W h => Lib.hid <|
    (diagram_any A (15 + q) c _ W h (by omega) (evL_in _ (by omega))).mono fun e w' ⟨A, ns, cs, B, nm, cm, h1, _, _, h3⟩ => ⟨A, ns, cs, B, nm, cm, by rw [h1, evL_full (by omega) (by omega)], h3⟩
  obtain ⟨s1, hs1⟩ : ∃ s : ByteArray, s = ⟨(List.replicate 65537 (50 : UInt8)).toArray⟩ := ⟨_, rfl⟩
  obtain ⟨s2, hs2⟩ : ∃ s : ByteArray, s = ⟨(List.replicate 65536 (50 : UInt8)).toArray⟩ := ⟨_, rfl⟩
  have z1 : s1.size = 65537 := by rw [hs1]; exact rep_size _
  have z2 : s2.size = 65536 := by rw [hs2]; exact rep_size _
  have CP1 : ∀ W, Hid (Calls Tryd.prog 7 #[.string s1] W fun e w' => e = .returned (.tuple #[.slice none 0 0, .int .i64 5]) ∧ Below W.heap.size W w') := fun W => Lib.hid (parse_long s1 W (by omega) (by omega))
  have CP2 : ∀ W, DW W → Hid (Calls Tryd.prog 7 #[.string s2] W fun e w' => e = .returned (.tuple #[.slice none 0 0, .int .i64 3]) ∧ Below W.heap.size W w') := fun W h => Lib.hid <|
    parse_none s2 [List.replicate 65536 50] W (by omega) h (by rw [hs2]; exact full_twos 65536 (by omega) (by omega) W h) (rep_word _ (by omega)) (Nat.le_of_ble_eq_true rfl) (twos_rd 65536 (by omega))
  have HV1 : ∀ (g : Nat) (W : World), Arr W g 5 65537 (twV 65537) → Hid ((convert 38 9 (.slice (some ⟨g, 0, none⟩) 65537 65537)).run Tryd.prog W = .ok (.string s1) W) := fun g W h => Lib.hid (by rw [hs1]; exact tw_string h (by omega))
  have HV2 : ∀ (g : Nat) (W : World), Arr W g 5 65537 (twV 65537) → Hid ((convert 38 9 (.slice (some ⟨g, 0, none⟩) 65536 65537)).run Tryd.prog W = .ok (.string s2) W) := fun g W h => Lib.hid (by rw [hs2]; exact tw_string h (by omega))
  obtain ⟨big, hbig⟩ : ∃ big, big = cellsN 65537 (twV 0) := ⟨_, rfl⟩
  have hmk : ∀ W, (Instr.makeSlice 38 (.int .i64 65537) (.int .i64 65537)).run Tryd.prog W = .ok (.slice (some ⟨W.heap.size, 0, none⟩) 65537 65537) (W.alloc (.cells big 5)) := fun W => by rw [hbig]; exact tw_make_n 65537 65537 (by omega) (by omega) W
  have HB : ∀ W : World, Hid (Arr (W.alloc (.cells big 5)) W.heap.size 5 65537 (twV 0)) := fun W => Lib.hid (big_at 65537 W big hbig)
  have HD := Lib.hid hD
  have HZ := Lib.hid (And.intro z1 z2)
  clear hbig hs1 hs2 z1 z2 hD
  have hx0 := hx.1
  have hx1 := hx.2
  have hq0 : (0 : Int) ≤ (q : Int) := Int.natCast_nonneg _
  have hqi : (q : Int) ≤ 19 := by omega
  clear hx
  go_enter Tryd.func4, Tryd.ntmps4
  go_wp2_with (first
    | (go_at_call 5; ((with_reducible refine CA.out.mono ?_); rintro e w1 ⟨rfl, hb1⟩)))
  go_loopw [3, 5] (fun v3 i wr => ∃ k : Nat, k ≤ 15 + q ∧ i = .int .i64 ((k : Int) + 1) ∧ Below w.heap.size w wr ∧ OI wr w.heap.size v3 (evL k)) (fun _ i _ => 16 + q - (intOf i).toNat)
  case atStart => exact ⟨0, by omega, rfl, hb1, OI.nil _ _⟩
  case round =>
    obtain ⟨k, hk, rfl, hbr, hoi⟩ := hrel
    have hk0 : (0 : Int) ≤ (k : Int) := Int.natCast_nonneg _
    have HO := Lib.hid hoi
    clear hoi
    by_cases hlt : k < 15 + q
    · have hlt1 : (k : Int) + 1 ≤ 15 + (q : Int) := by omega
      go_wp2_with (first
        | (at_builtin
           refine wpList_append_int rfl (.tmp 27) (.tmp 30) rfl w.heap.size u3 (evL k) rfl (HO.out.alloc _) wr.heap.size (2 * ((k : Int) + 1)) rfl (by rw [World.cell?_alloc_at _ _ _ _ rfl]; rfl) (by rw [evL_len]; omega) (by have := hbr.size; simp; omega) ?_
           intro v7 w7 ho7 hg7
           have hb7 : Below w.heap.size w w7 := (hbr.alloc hbr.size (.cells #[.int .i64 (2 * ((k : Int) + 1))] 3)).grown hg7 (by have := hbr.size; simp; omega) (fun q hq => (World.ownsRow.lt HO.out q hq).1)
           have HO7 := Lib.hid ho7
           clear ho7 hg7))
      go_roundw
      case rel => exact ⟨k + 1, by omega, by go_num, hb7, by rw [evL_succ]; exact HO7.out⟩
      case measure => simp [intOf]; omega
    · obtain rfl : k = 15 + q := by omega
      obtain ⟨g, cap, rfl⟩ := OI.form_pos HO.out (evL_len _) (by omega)
      have HR := Lib.hid (OI.ri HO.out)
      clear HO hlt
      go_wp2_with (first
        | (go_at_call 13; ((with_reducible refine (CDg _ _ _ (HR.out.keep hb2)).out.mono ?_); rintro e w3 ⟨A3, ns3, cs3, B3, nm3, cm3, rfl, hb3⟩; have hb13 := below_step hbr (below_step hb2 hb3)))
        | (go_at_call 12; ((with_reducible refine (CS _ _ _ HR.out).out.mono ?_); rintro e w2 ⟨A2, ns2, cs2, rfl, hb2⟩)))
      have HA := (HB (w3.alloc (.cells #[.slice A3 ns3 cs3, .slice B3 nm3 cm3, .int .i64 0] 35))).out
      rw [show (w3.alloc (.cells #[.slice A3 ns3 cs3, .slice B3 nm3 cm3, .int .i64 0] 35)).heap.size = w3.heap.size + 1 by simp] at HA
      have hs3 := hb13.size
      have hbF : Below w.heap.size w ((w3.alloc (.cells #[.slice A3 ns3 cs3, .slice B3 nm3 cm3, .int .i64 0] 35)).alloc (.cells big 5)) := below_step hb13 (below_step (below_alloc w3 _) (below_alloc _ _))
      obtain ⟨gB, hgB⟩ : ∃ gB, w3.heap.size + 1 = gB := ⟨_, rfl⟩
      have hgw : w.heap.size ≤ gB := by omega
      rw [hgB] at HA ⊢
      clear hgB hs3 hb1 hb2 hb3 hb13 hbr HR CS CDg hmk
      generalize (w3.alloc (.cells #[.slice A3 ns3 cs3, .slice B3 nm3 cm3, .int .i64 0] 35)).alloc (.cells big 5) = wF at *
      clear HB
      go_loopw [11] (fun i wr => ∃ k : Nat, k ≤ 65537 ∧ i = .int .i64 k ∧ Below w.heap.size w wr ∧ Arr wr gB 5 65537 (twV k)) (fun i _ => 65537 - (intOf i).toNat)
      case atStart => exact ⟨0, by omega, rfl, hbF, HA⟩
      case round =>
        obtain ⟨k, hk, rfl, hbr, har⟩ := hrel
        have hk0 : (0 : Int) ≤ (k : Int) := Int.natCast_nonneg _
        by_cases hlt : k < 65537
        · have hcell := har.cell k hlt
          have hfr := har.frozen k
          have hlt1 : (k : Int) < 65537 := by omega
          have HR := Lib.hid har
          unfold twV at hcell
          rw [if_neg (by omega)] at hcell
          clear har hlt
          go_wp2
          go_roundw
          case rel => exact ⟨k + 1, by omega, by go_num, below_set hbr hgw _, tw_set HR.out⟩
          case measure => simp [intOf]; omega
        · obtain rfl : k = 65537 := by omega
          have hc1 := (HV1 gB _ har).out
          have HR := Lib.hid har
          have hD1 := HD.out.keep hbr
          clear har hlt HA hbF
          go_wp2_with (first
            | (go_at_call 7; ((with_reducible refine (CP1 _).out.mono ?_); rintro e w5 ⟨rfl, hb5⟩; have hc2 := (HV2 gB _ (HR.out.keep hb5)).out; have hb15 := below_step hbr hb5))
            | (go_at_call 7; ((with_reducible refine (CP2 _ (HD.out.keep hb15)).out.mono ?_); rintro e w6 ⟨rfl, hb6⟩; have hb16 := below_step hb15 hb6)))
          go_ret
          exact ⟨rfl, hb16⟩

end Go.Proofs.YtambhopkacgddaaDoor

/- From the cards' condition to the tables and errors; a world that meets the condition. -/
namespace Go.Proofs.YtambhopkacgddaaDoor
open Go.ChangeShapes Go.WideShapes Go.ChangeAt Go.RowKit Go.Joins

abbrev gLaid : List (String × DataW Unit) := Rows.dowkerFullRow.laid
theorem door_met (os : Os) (args : Array Value) : laidMetH Tryd.prog gLaid ((World.doorLaid Tryd.prog 400 os).forCall (fun _ _ => 0) ⟨#[], args, []⟩).memory :=
  laidMetH_of_parts3 (fuel := 8) (laidMet_of_run' 8 (by kernel_rfl) (by kernel_rfl)) (by kernel_rfl) (by kernel_rfl)
theorem space_data : (Rows.laid_strings_asciiSpace : DataW Unit) = Lib.tabData .u8 Lib.asciiSpaceTab := by kernel_rfl
theorem pow_data : (Rows.laid_internal_strconv_uint64pow10 : DataW Unit) = Lib.tabData .u64 Lib.pow10Tab := by kernel_rfl
theorem laid_plain {W : World} (h : laidMetH Tryd.prog gLaid W) : laidMet Tryd.prog gLaid W := by
  rw [MakeChecks.laidMetH_plain _ _ _ (by kernel_rfl)] at h
  exact h
theorem Tryd.gSyn : Tryd.prog.globalNamed "strconv.ErrSyntax" = some 4 := by kernel_rfl
theorem Tryd.gRng : Tryd.prog.globalNamed "strconv.ErrRange" = some 5 := by kernel_rfl
theorem Tryd.star : "*" ++ "errors.errorString" = "*errors.errorString" := by decide
theorem Tryd.rowErr (u : TypeId) (h : Tryd.prog.typeName? 3 u = some "*errors.errorString") : u = 139 :=
  typeName_ptr_named (nm := "errors.errorString") (by rw [Tryd.star]; kernel_rfl) (by kernel_rfl) (by decide) u (by rw [Tryd.star]; exact h)
theorem dw_of_laid {W : World} (h : laidMetH Tryd.prog gLaid W) : DW W := by
  have h1 := laid_plain h
  have h2 : laidMet Tryd.prog [("strings.asciiSpace", Rows.laid_strings_asciiSpace)] W := h1.tail.tail.tail.tail.tail.tail
  rw [space_data] at h2
  have h3 : laidMet Tryd.prog (("internal/strconv.uint64pow10", Rows.laid_internal_strconv_uint64pow10) :: gLaid.drop 3) W := h1.tail.tail
  rw [pow_data] at h3
  have h4 : laidMet Tryd.prog (("strconv.ErrRange", Rows.laid_strconv_ErrRange) :: gLaid.drop 4) W := h1.tail.tail.tail
  have h5 : laidMet Tryd.prog (("strconv.ErrSyntax", Rows.laid_strconv_ErrSyntax) :: gLaid.drop 5) W := h1.tail.tail.tail.tail
  obtain ⟨a4, s4, e4, _, _, _⟩ := laid_sentinel h4 Tryd.gRng (by kernel_rfl) Tryd.underlying58 Tryd.rowErr Tryd.underlying139 Tryd.underlying141 rfl rfl Tryd.underlying9 (by kernel_rfl) (by kernel_rfl)
  obtain ⟨a5, s5, e5, _, _, _⟩ := laid_sentinel h5 Tryd.gSyn (by kernel_rfl) Tryd.underlying58 Tryd.rowErr Tryd.underlying139 Tryd.underlying141 rfl rfl Tryd.underlying9 (by kernel_rfl) (by kernel_rfl)
  have c4 := World.var?_cell Tryd.gRng e4 0
  have c5 := World.var?_cell Tryd.gSyn e5 0
  exact ⟨Lib.tabIs_of_head Tryd.gSpace (by kernel_rfl) Tryd.underlying62 Tryd.underlying5 (by kernel_rfl) (by kernel_rfl) h2,
    Lib.tabIs_of_head Tryd.gPow (by kernel_rfl) Tryd.underlying125 Tryd.underlying93 (by kernel_rfl) (by kernel_rfl) h3,
    ⟨_, _, by simpa using c5⟩, ⟨_, _, by simpa using c4⟩⟩

end Go.Proofs.YtambhopkacgddaaDoor

/- Plain: the text of a code and what it is read as. -/
namespace Go.Proofs.YtambhopkacgddaaDoor
open Go.RowKit

theorem dig_toNat {k : Nat} (h : k < 10) : (UInt8.ofNat (48 + k)).toNat = 48 + k := by
  rw [UInt8.toNat_ofNat']; omega
theorem dec_bytes (u : Nat) : ∀ b ∈ Lib.decDigits u, 48 ≤ b.toNat ∧ b.toNat ≤ 57 := by
  induction u using Nat.strongRecOn with
  | _ u ih =>
    intro b hb
    by_cases h : u < 10
    · rw [Lib.decDigits_one h] at hb
      rw [List.mem_singleton.1 hb, dig_toNat h]; omega
    · rw [Lib.decDigits, dif_neg h] at hb
      rcases List.mem_append.1 hb with hb | hb
      · exact ih (u / 10) (by omega) b hb
      · rw [List.mem_singleton.1 hb, dig_toNat (by omega)]; omega
theorem dec_ne (u : Nat) : Lib.decDigits u ≠ [] := by
  intro e
  rw [Lib.decDigits] at e
  split at e
  · cases e
  · simp at e
theorem dec_parse (u : Nat) (hu : u < 18446744073709551616) : ∀ r, Lib.parseUint10 0 (Lib.decDigits u ++ r) = Lib.parseUint10 u r := by
  induction u using Nat.strongRecOn with
  | _ u ih =>
    intro r
    by_cases h : u < 10
    · rw [Lib.decDigits_one h, List.singleton_append, Lib.parseUint10, dig_toNat h, if_pos (by omega), if_neg (by omega), if_neg (by omega)]
      congr 1; omega
    · rw [Lib.decDigits, dif_neg h, List.append_assoc, ih (u / 10) (by omega) (by omega), List.singleton_append, Lib.parseUint10, dig_toNat (by omega), if_pos (by omega), if_neg (by omega), if_neg (by omega)]
      congr 1; omega
theorem dec_mag (u : Nat) (hu : u < 18446744073709551616) : Lib.parseMag (Lib.decDigits u) = .ok u := by
  unfold Lib.parseMag
  rw [if_neg (dec_ne u)]
  have := dec_parse u hu []
  rw [List.append_nil] at this
  rw [this]; rfl
theorem itoa_bytes (x : Int) : ∀ b ∈ Lib.itoa x, b.toNat = 45 ∨ (48 ≤ b.toNat ∧ b.toNat ≤ 57) := by
  intro b hb
  unfold Lib.itoa at hb
  split at hb
  · rcases List.mem_cons.1 hb with rfl | hb
    · exact .inl rfl
    · exact .inr (dec_bytes _ b hb)
  · exact .inr (dec_bytes _ b hb)
theorem itoa_ne (x : Int) : Lib.itoa x ≠ [] := by
  unfold Lib.itoa
  split
  · simp
  · exact dec_ne _
theorem itoa_word (x : Int) (h0 : -9223372036854775808 ≤ x) (h1 : x ≤ 9223372036854775807) : wordI (Lib.itoa x) = some x := by
  have key : Lib.atoiAll (Lib.itoa x) = .ok x := by
    unfold Lib.itoa
    split
    · next hn =>
      rw [Lib.atoiAll_minus, dec_mag _ (by omega)]
      unfold Lib.signed
      simp only
      rw [if_neg (by omega)]
      congr 1; omega
    · next hn =>
      have hm := dec_mag x.toNat (by omega)
      cases e : Lib.decDigits x.toNat with
      | nil => exact absurd e (dec_ne _)
      | cons c r =>
        rw [e] at hm
        have hc := dec_bytes x.toNat c (by rw [e]; simp)
        rw [Lib.atoiAll_plain c r (by omega) (by omega), hm]
        unfold Lib.signless
        simp only
        rw [if_neg (by omega)]
        congr 1; omega
  unfold wordI; rw [key]
theorem notsp {b : UInt8} (h : b.toNat = 45 ∨ (48 ≤ b.toNat ∧ b.toNat ≤ 57)) : Lib.isSp b = false := by
  unfold Lib.isSp
  have hb : ∀ k : UInt8, k.toNat < 45 → (b == k) = false := fun k hk => by
    simp only [beq_eq_false_iff_ne, ne_eq]
    intro e; subst e; omega
  rw [hb 9 (by decide), hb 10 (by decide), hb 11 (by decide), hb 12 (by decide), hb 13 (by decide), hb 32 (by decide)]
  rfl

/-- The text of a code. -/
def fmtT (code : List Int) : List UInt8 := Lib.join (code.map Lib.itoa) [32]
def inB (code : List Int) : Prop := ∀ x ∈ code, -9223372036854775808 ≤ x ∧ x ≤ 9223372036854775807
theorem fmt_fields (code : List Int) : Lib.fields (fmtT code) = code.map Lib.itoa :=
  fields_join _ fun w hw => by
    obtain ⟨x, _, rfl⟩ := List.mem_map.1 hw
    exact ⟨itoa_ne x, fun b hb => notsp (itoa_bytes x b hb)⟩
theorem join_mem {ws : List (List UInt8)} {b : UInt8} (h : b ∈ Lib.join ws [32]) : b = 32 ∨ ∃ x ∈ ws, b ∈ x := by
  have ht : ∀ (r : List (List UInt8)), b ∈ Lib.joinTail [32] r → b = 32 ∨ ∃ x ∈ r, b ∈ x := by
    intro r
    induction r with
    | nil => intro h; exact absurd h (by rw [show Lib.joinTail [32] [] = [] from rfl]; simp)
    | cons x r ih =>
      intro h
      have e : Lib.joinTail [32] (x :: r) = 32 :: (x ++ Lib.joinTail [32] r) := rfl
      rw [e] at h
      rcases List.mem_cons.1 h with h | h
      · exact .inl h
      · rcases List.mem_append.1 h with h | h
        · exact .inr ⟨x, by simp, h⟩
        · rcases ih h with h | ⟨y, hy, h⟩
          · exact .inl h
          · exact .inr ⟨y, by simp [hy], h⟩
  cases ws with
  | nil => rw [Lib.join_nil] at h; cases h
  | cons x r =>
    rw [Lib.join_cons] at h
    rcases List.mem_append.1 h with h | h
    · exact .inr ⟨x, by simp, h⟩
    · rcases ht r h with h | ⟨y, hy, h⟩
      · exact .inl h
      · exact .inr ⟨y, by simp [hy], h⟩
theorem fmt_ascii (code : List Int) : ∀ b ∈ fmtT code, b.toNat < 128 := fun b hb => by
  rcases join_mem hb with e | ⟨w, hw, hb⟩
  · subst e; decide
  · obtain ⟨x, _, rfl⟩ := List.mem_map.1 hw
    have := itoa_bytes x b hb
    omega
theorem fmt_len (code : List Int) (hB : inB code) : (fmtT code).length ≤ 22 * code.length := by
  have ht : ∀ r : List Int, inB r → (Lib.joinTail [32] (r.map Lib.itoa)).length ≤ 22 * r.length := by
    intro r
    induction r with
    | nil => intro _; exact Nat.zero_le _
    | cons x r ih =>
      intro h
      have e : Lib.joinTail [32] ((x :: r).map Lib.itoa) = 32 :: (Lib.itoa x ++ Lib.joinTail [32] (r.map Lib.itoa)) := rfl
      have h1 := Lib.itoa_length_le x (h x (by simp)).1 (h x (by simp)).2
      have h2 := ih fun y hy => h y (by simp [hy])
      rw [e, List.length_cons, List.length_append, List.length_cons]
      omega
  unfold fmtT
  cases code with
  | nil => rw [List.map_nil, Lib.join_nil]; exact Nat.zero_le _
  | cons x r =>
    have h1 := Lib.itoa_length_le x (hB x (by simp)).1 (hB x (by simp)).2
    have h2 := ht r fun y hy => hB y (by simp [hy])
    rw [List.map_cons, Lib.join_cons, List.length_append, List.length_cons]
    omega
theorem rd_itoa (code : List Int) (hB : inB code) : rdN (code.map Lib.itoa) = some code := by
  induction code with
  | nil => rfl
  | cons x r ih =>
    have h := hB x (by simp)
    rw [List.map_cons, rdN, itoa_word x h.1 h.2, ih fun y hy => hB y (by simp [hy])]

/-- What Parse reads. -/
def pR (b : List UInt8) : Option (List Int) := match rdN (Lib.fieldsD b) with
  | some l => if dvB l = true ∧ fmtT l = b then some l else none
  | none => none
theorem szI_in {x : Int} (h : szI x ≤ 128) : -9223372036854775808 ≤ x ∧ x ≤ 9223372036854775807 := by
  unfold szI at h
  split at h
  · omega
  · split at h <;> omega
theorem dvB_small {l : List Int} (h : dvB l = true) {x : Int} (hx : x ∈ l) : 2 ≤ szI x ∧ szI x ≤ 128 := by
  obtain ⟨h1, h2, h3⟩ := (dvB_iff l).1 h
  obtain ⟨i, hi, rfl⟩ := List.getElem_of_mem hx
  obtain ⟨a, b, _, _⟩ := (okAt_iff l i).1 (h3 i hi)
  have e : l.getD i 0 = l[i] := by simp [List.getD, hi]
  rw [e] at a b
  omega
theorem fmt_rd (code : List Int) (hB : inB code) : rdN (Lib.fieldsD (fmtT code)) = some code := by
  rw [Lib.fieldsD_ascii _ (fmt_ascii code), fmt_fields, rd_itoa code hB]
theorem pR_iff (b : List UInt8) (l : List Int) : pR b = some l ↔ dvB l = true ∧ fmtT l = b := by
  unfold pR
  constructor
  · intro h
    split at h
    · split at h
      · next k _ hk => rw [← Option.some.inj h]; exact hk
      · cases h
    · cases h
  · rintro ⟨h1, rfl⟩
    rw [fmt_rd l fun x hx => szI_in (dvB_small h1 hx).2]
    simp [h1]
theorem pR_fmt (code : List Int) (hB : inB code) : pR (fmtT code) = if dvB code = true then some code else none := by
  unfold pR
  rw [fmt_rd code hB]
  simp

theorem goD_len : ∀ (f : Nat) (cur l x : List UInt8), x ∈ Lib.fieldsGoD f cur l → x.length ≤ cur.length + l.length
  | 0, cur, l, x, h => by
    unfold Lib.fieldsGoD at h
    split at h
    · cases h
    · rw [List.mem_singleton.1 h]; omega
  | f + 1, cur, l, x, h => by
    unfold Lib.fieldsGoD at h
    split at h
    · split at h
      · cases h
      · rw [List.mem_singleton.1 h]; omega
    · split at h
      · rcases List.mem_append.1 h with h | h
        · split at h
          · cases h
          · rw [List.mem_singleton.1 h]; omega
        · have := goD_len f [] _ x h
          simp only [List.length_nil, List.length_drop] at this
          omega
      · have := goD_len f _ _ x h
        simp only [List.length_append, List.length_take, List.length_drop] at this
        omega
theorem goD_cnt : ∀ (f : Nat) (cur l : List UInt8), (Lib.fieldsGoD f cur l).length ≤ f + 1
  | 0, cur, l => by
    unfold Lib.fieldsGoD
    split <;> simp
  | f + 1, cur, l => by
    unfold Lib.fieldsGoD
    split
    · split <;> simp
    · split
      · have := goD_cnt f [] (l.drop (Lib.decodeL l).2)
        rw [List.length_append]
        split <;> simp <;> omega
      · have := goD_cnt f (cur ++ l.take (Lib.decodeL l).2) (l.drop (Lib.decodeL l).2)
        omega

/-- The loop of the reference's Read. -/
def rdGo (out : List Int) (n : Nat) (sg : Int) (dg : Nat) : List UInt8 → Option (List Int)
  | [] => if dg = 0 then none else some (out ++ [sg * n])
  | b :: r => if b.toNat = 32 then (if dg = 0 then none else rdGo (out ++ [sg * n]) 0 1 0 r)
    else if b.toNat = 45 ∧ dg = 0 ∧ sg = 1 then rdGo out n (-1) dg r
    else if b.toNat < 48 ∨ 57 < b.toNat ∨ 3 < dg then none
    else rdGo out (10 * n + (b.toNat - 48)) sg (dg + 1) r
theorem rdGo_dig (out : List Int) (n : Nat) (sg : Int) (dg k : Nat) (r : List UInt8) (hk : k < 10) (hd : dg ≤ 3) : rdGo out n sg dg (UInt8.ofNat (48 + k) :: r) = rdGo out (10 * n + k) sg (dg + 1) r := by
  rw [rdGo, dig_toNat hk, if_neg (by omega), if_neg (by omega), if_neg (by omega)]
  congr 1; omega
theorem rdGo_dec (out : List Int) (sg : Int) (u : Nat) (hu : u < 1000) (r : List UInt8) : ∃ d, 0 < d ∧ rdGo out 0 sg 0 (Lib.decDigits u ++ r) = rdGo out u sg d r := by
  by_cases h1 : u < 10
  · refine ⟨1, by omega, ?_⟩
    rw [Lib.decDigits_one h1, List.singleton_append, rdGo_dig _ _ _ _ _ _ h1 (by omega)]
    simp
  · by_cases h2 : u < 100
    · refine ⟨2, by omega, ?_⟩
      rw [Lib.decDigits_two h1 h2, List.cons_append, rdGo_dig _ _ _ _ _ _ (by omega) (by omega), List.singleton_append, rdGo_dig _ _ _ _ _ _ (by omega) (by omega)]
      congr 1; omega
    · refine ⟨3, by omega, ?_⟩
      rw [Lib.decDigits, dif_neg h1, Lib.decDigits_two (by omega) (by omega), List.append_assoc, List.cons_append, rdGo_dig _ _ _ _ _ _ (by omega) (by omega), List.singleton_append, rdGo_dig _ _ _ _ _ _ (by omega) (by omega), List.singleton_append, rdGo_dig _ _ _ _ _ _ (by omega) (by omega)]
      congr 1; omega
theorem rdGo_itoa (out : List Int) (x : Int) (hx : 2 ≤ szI x ∧ szI x ≤ 128) (r : List UInt8) : ∃ n sg d, 0 < d ∧ sg * (n : Nat) = x ∧ rdGo out 0 1 0 (Lib.itoa x ++ r) = rdGo out n sg d r := by
  obtain ⟨hx2, hx⟩ := hx
  unfold szI at hx hx2
  unfold Lib.itoa
  split
  · next hn =>
    obtain ⟨d, hd, e⟩ := rdGo_dec out (-1) x.natAbs (by split at hx <;> (try split at hx) <;> split at hx2 <;> (try split at hx2) <;> omega) r
    refine ⟨x.natAbs, -1, d, hd, by omega, ?_⟩
    rw [List.cons_append, rdGo, if_neg (by decide), if_pos ⟨by decide, rfl, rfl⟩, e]
  · next hn =>
    obtain ⟨d, hd, e⟩ := rdGo_dec out 1 x.toNat (by split at hx <;> (try split at hx) <;> split at hx2 <;> (try split at hx2) <;> omega) r
    exact ⟨x.toNat, 1, d, hd, by omega, e⟩
theorem rdGo_tail : ∀ (l : List Int) (out : List Int) (n : Nat) (sg : Int) (d : Nat), 0 < d → (∀ x ∈ l, 2 ≤ szI x ∧ szI x ≤ 128) → rdGo out n sg d (Lib.joinTail [32] (l.map Lib.itoa)) = some (out ++ [sg * n] ++ l)
  | [], out, n, sg, d, hd, _ => by
    have e : Lib.joinTail [32] (List.map Lib.itoa []) = [] := rfl
    rw [e, rdGo, if_neg (by omega), List.append_nil]
  | x :: l, out, n, sg, d, hd, h => by
    have e : Lib.joinTail [32] ((x :: l).map Lib.itoa) = 32 :: (Lib.itoa x ++ Lib.joinTail [32] (l.map Lib.itoa)) := rfl
    obtain ⟨n2, s2, d2, h1, h2, h3⟩ := rdGo_itoa (out ++ [sg * n]) x (h x (by simp)) (Lib.joinTail [32] (l.map Lib.itoa))
    rw [e, rdGo, if_pos (by decide), if_neg (by omega), h3, rdGo_tail l _ n2 s2 d2 h1 fun y hy => h y (by simp [hy]), h2]
    simp
theorem rdGo_fmt {l : List Int} (h : dvB l = true) : rdGo [] 0 1 0 (fmtT l) = some l := by
  have hs : ∀ x ∈ l, 2 ≤ szI x ∧ szI x ≤ 128 := fun x hx => dvB_small h hx
  cases l with
  | nil => simp [dvB] at h
  | cons x r =>
    unfold fmtT
    rw [List.map_cons, Lib.join_cons]
    obtain ⟨n, sg, d, h1, h2, h3⟩ := rdGo_itoa [] x (hs x (by simp)) (Lib.joinTail [32] (r.map Lib.itoa))
    rw [h3, rdGo_tail r [] n sg d h1 fun y hy => hs y (by simp [hy]), h2]
    rfl
/-- What the reference reads is what Parse reads. -/
theorem rd_same (b : List UInt8) : (match rdGo [] 0 1 0 b with | some l => if dvB l = true ∧ fmtT l = b then some l else none | none => none) = pR b := by
  cases e : pR b with
  | some l =>
    obtain ⟨h1, rfl⟩ := (pR_iff b l).1 e
    rw [rdGo_fmt h1]
    simp [h1]
  | none =>
    split
    · next l _ =>
      split
      · next h => rw [(pR_iff b l).2 h] at e; cases e
      · rfl
    · rfl

end Go.Proofs.YtambhopkacgddaaDoor

/- Walk: Format. -/
namespace Go.Proofs.YtambhopkacgddaaDoor
open Go.ChangeShapes Go.WideShapes Go.ChangeAt Go.RowKit Go.Joins

theorem Tryd.infoStr : (Tryd.prog.info? 9).map (fun i => (i.zero, i.size, i.bytes)) = some (some (.string ByteArray.empty), 1, 16) := by kernel_rfl
def fwV (code : List Int) (k : Nat) : Nat → Value := fun i => if i < k then strV (Lib.itoa (code.getD i 0)) else .string ByteArray.empty
theorem fw_set {w : World} {g n k : Nat} {t : TypeId} {code : List Int} (h : Arr w g t n (fwV code k)) : Arr (w.setCell ⟨g, k, none⟩ (strV (Lib.itoa (code.getD k 0)))) g t n (fwV code (k + 1)) :=
  (h.set k _).congr fun i _ => by
    unfold fwV
    by_cases e : i = k
    · subst e; simp
    · have : i < k + 1 ↔ i < k := by omega
      simp [e, this]
theorem itoa_call (x : Int) (h0 : -9223372036854775808 ≤ x) (h1 : x ≤ 9223372036854775807) (w : World) (hD : DW w) :
    Calls Tryd.prog 15 #[.int .i64 x] w fun e w' => e = .returned (strV (Lib.itoa x)) ∧ Below w.heap.size w w' := by
  refine (Tryd.strconv_Itoa x h0 h1 w hD.pw).mono ?_
  rintro e w' ⟨rfl, k, os, hw⟩
  exact ⟨rfl, by rw [hw]; exact Lib.below_grow _ w (Nat.le_refl _) k os⟩
theorem join_call (g n : Nat) (code : List Int) (w : World) (hn : code.length = n) (h1000 : n ≤ 1000) (hB : inB code) (h : Arr w g 9 n (fwV code n)) :
    Calls Tryd.prog 16 #[.slice (some ⟨g, 0, none⟩) n n, .string ⟨#[32]⟩] w fun e w' => e = .returned (strV (fmtT code)) ∧ Below w.heap.size w w' := by
  have hl := fmt_len code hB
  have e1 : ((code.map fun x => (ByteArray.mk (Lib.itoa x).toArray)).map (·.data.toList)) = code.map Lib.itoa := by
    rw [List.map_map]; rfl
  have := Tryd.strings_Join g 0 n (code.map fun x => ⟨(Lib.itoa x).toArray⟩) ⟨#[32]⟩ w (fun j x hj => by
    rw [List.getElem?_map] at hj
    rcases Nat.lt_or_ge j code.length with hjl | hjl
    · rw [List.getElem?_eq_getElem hjl] at hj
      simp only [Option.map_some, Option.some.injEq] at hj
      rw [Nat.zero_add, h.cell j (by omega), ← hj]
      simp [fwV, show j < n by omega, strV, List.getD, hjl]
    · rw [List.getElem?_eq_none hjl] at hj; cases hj) h.lt (by simp; omega) (by simp; omega) (by rw [e1]; unfold fmtT at hl; simpa using by omega)
  rw [List.length_map, hn, e1] at this
  exact this

set_option maxHeartbeats 3200000 in
set_option maxRecDepth 100000 in
theorem format_any (C : Option Addr) (n cc : Nat) (code : List Int) (w : World) (hC : RI w C n code) (hn : n ≤ 1000) (hB : inB code) (hD : DW w) :
    Calls Tryd.prog 6 #[.slice C n cc] w fun e w' => e = .returned (strV (fmtT code)) ∧ Below w.heap.size w w' := by
  have hl := hC.1
  have hmk : ∀ W, (Instr.makeSlice 41 (.int .i64 (n : Int)) (.int .i64 (n : Int))).run Tryd.prog W = .ok (.slice (some ⟨W.heap.size, 0, none⟩) n n) (W.alloc (.cells (cellsN n fun _ => .string ByteArray.empty) 9)) := fun W =>
    make_one (P := Tryd.prog) Tryd.underlying41 Tryd.infoStr rfl n (by omega) (by omega) W
  have HA0 : Hid (Arr (w.alloc (.cells (cellsN n fun _ => .string ByteArray.empty) 9)) w.heap.size 9 n (fwV code 0)) := Lib.hid ((Arr.new w n 9 fun _ => .string ByteArray.empty).congr fun i _ => by simp [fwV])
  have HCC : Hid (∀ i, i < n → ∃ b off, C = some ⟨b, off, none⟩ ∧ b < w.heap.size ∧ w.cell? ⟨b, off + i, none⟩ = some (.int .i64 (code.getD i 0))) := Lib.hid fun i hi => by
    obtain ⟨b, off, e, hb, hc⟩ := hC.2 (by omega)
    exact ⟨b, off, e, hb, hc i hi⟩
  have HB : Hid (∀ i, i < n → -9223372036854775808 ≤ code.getD i 0 ∧ code.getD i 0 ≤ 9223372036854775807) := Lib.hid fun i hi => hB _ (by simp [List.getD, hl ▸ hi])
  have CJ : ∀ (W : World), Arr W w.heap.size 9 n (fwV code n) → Hid (Calls Tryd.prog 16 #[.slice (some ⟨w.heap.size, 0, none⟩) n n, .string ⟨#[32]⟩] W fun e w' => e = .returned (strV (fmtT code)) ∧ Below W.heap.size W w') := fun W h => Lib.hid (join_call _ n code W hl hn hB h)
  have HD := Lib.hid hD
  have hb0 := below_alloc w (.cells (cellsN n fun _ => .string ByteArray.empty) 9)

  have hn1 : (n : Int) ≤ 1000 := by omega
  obtain ⟨T, hT⟩ : ∃ T, strV (fmtT code) = T := ⟨_, rfl⟩
  rw [hT] at CJ ⊢
  clear hC hD hB hl hT
  go_enter Tryd.func6, Tryd.ntmps6
  go_wp2
  generalize w.alloc (.cells (cellsN n fun _ => .string ByteArray.empty) 9) = wA at *
  go_loopw [11] (fun i wr => ∃ k : Nat, k ≤ n ∧ i = .int .i64 k ∧ Below w.heap.size w wr ∧ Arr wr w.heap.size 9 n (fwV code k)) (fun i _ => n - (intOf i).toNat)
  case atStart => exact ⟨0, by omega, rfl, hb0, HA0.out⟩
  case round =>
    obtain ⟨k, hk, rfl, hbr, har⟩ := hrel
    have hk0 : (0 : Int) ≤ (k : Int) := Int.natCast_nonneg _
    by_cases hlt : k < n
    · obtain ⟨b, off, rfl, hb, hc⟩ := HCC.out k hlt
      have hcell := (hbr.cell (p := ⟨b, off + k, none⟩) hb).trans hc
      obtain ⟨x0, x1⟩ := HB.out k hlt
      obtain ⟨x, hx⟩ : ∃ x, code.getD k 0 = x := ⟨_, rfl⟩
      rw [hx] at hcell x0 x1
      have HX := Lib.hid hx
      have CI := Lib.hid (itoa_call x x0 x1 wr (HD.out.keep hbr))
      obtain ⟨sx, hsx⟩ : ∃ sx : ByteArray, sx = ⟨(Lib.itoa x).toArray⟩ := ⟨_, rfl⟩
      unfold strV at CI
      rw [← hsx] at CI
      have HS := Lib.hid hsx
      have HR := Lib.hid har
      have hlt1 : (k : Int) < (n : Int) := by omega
      clear hx hsx har hc
      go_wp2_with (go_at_call 15; ((with_reducible refine CI.out.mono ?_); rintro e w2 ⟨rfl, hb2⟩; have hA2 := HR.out.keep hb2; have hcell2 := hA2.cell k hlt; have hfr2 := hA2.frozen k; have hs2 := hb2.size; have HA2 := Lib.hid hA2; clear hA2))
      go_roundw
      case rel => exact ⟨k + 1, by omega, by go_num, below_set (below_step hbr hb2) (Nat.le_refl _) _, by
        have := fw_set HA2.out
        rw [HX.out] at this
        unfold strV at this
        rw [← HS.out] at this
        exact this⟩
      case measure => simp [intOf]; omega
    · obtain rfl : n = k := by omega
      have CJ' := CJ _ har
      clear har CJ HCC HB
      go_wp2_with (go_at_call 16; ((with_reducible refine CJ'.out.mono ?_); rintro e w2 ⟨rfl, hb2⟩))
      go_ret
      exact ⟨rfl, below_step hbr hb2⟩

end Go.Proofs.YtambhopkacgddaaDoor
