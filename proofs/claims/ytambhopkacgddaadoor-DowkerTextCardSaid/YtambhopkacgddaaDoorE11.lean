import Derived.Test.YtambhopkacgddaaDoorE10
import Derived.Test.YtambhopkacgddaaDoorE06
import Derived.Shelf.Unicode.IsSpaceAny
import Derived.Lib.ItoaMem
import Derived.Test.YtambhopkacgddaaDoorE08
import Derived.Test.YtambhopkacgddaaDoorE02
import Derived.Lib.LaidU8
/- Walk: Parse of any text. -/
namespace Go.Proofs.YtambhopkacgddaaDoor
open Go.ChangeShapes Go.WideShapes Go.ChangeAt Go.RowKit Go.Joins

/-- A world of the door with the table of white space beyond ASCII. -/
structure DX (w : World) : Prop where
  d : DW w
  wh : Lib.WhiteTab 1 w
theorem DX.keep {w w' : World} (h : DX w) (hb : Below w.heap.size w w') : DX w' := ⟨h.d.keep hb, WhiteTab_below h.wh hb⟩
theorem fields_call (b : List UInt8) (hl : b.length ≤ 65536) (w : World) (hD : DX w) : Calls Tryd.prog 18 #[.string ⟨b.toArray⟩] w (FiPost (Lib.fieldsD b) w) := by
  have hd : (ByteArray.mk b.toArray).data.toList = b := by simp
  have h := Tryd.strings_Fields_any ⟨b.toArray⟩ w (by simp [ByteArray.size]; omega) hD.d.sp hD.wh
  rw [hd] at h
  refine h.mono ?_
  rintro e w' ⟨A, rfl, hA, ho, hb⟩
  refine ⟨A, rfl, ⟨?_, fun k hk => ?_⟩, hb⟩
  · exact (World.ownsRow.lt ho A rfl).2
  · rw [World.ownsRow.cellAt ho k (by simpa using hk)]
    simp [strV, List.getD, hk]
theorem fieldsD_len (b : List UInt8) (hl : b.length ≤ 65536) : ∀ x ∈ Lib.fieldsD b, x.length ≤ 100000 := fun x hx => by
  have := goD_len (b.length + 1) [] b x hx
  simp at this; omega
theorem fieldsD_cnt (b : List UInt8) (hl : b.length ≤ 65536) : (Lib.fieldsD b).length ≤ 100000 := by
  have : (Lib.fieldsD b).length ≤ b.length + 1 + 1 := goD_cnt (b.length + 1) [] b
  omega
theorem rdN_in {ws : List (List UInt8)} {l : List Int} (h : rdN ws = some l) : inL l := fun j => by
  obtain ⟨h1, h2⟩ := rdN_some h
  rcases Nat.lt_or_ge j ws.length with hj | hj
  · exact atoi_in (h2 j hj)
  · have e : l.getD j 0 = 0 := by rw [List.getD, List.getElem?_eq_none (by omega)]; rfl
    rw [e]; omega
def PaPost (o : Option (List Int)) (w : World) (e : Ending) (w' : World) : Prop :=
  match o with
  | some l => ∃ A c, e = .returned (.tuple #[.slice A l.length c, .int .i64 0]) ∧ RI w' A l.length l ∧ Below w.heap.size w w'
  | none => e = .returned (.tuple #[.slice none 0 0, .int .i64 3]) ∧ Below w.heap.size w w'

set_option maxHeartbeats 1600000 in
set_option maxRecDepth 100000 in
theorem parse_any (b : List UInt8) (w : World) (hl : b.length ≤ 65536) (hD : DX w) :
    Calls Tryd.prog 7 #[.string ⟨b.toArray⟩] w (PaPost (pR b) w) := by
  have hsz : (ByteArray.mk b.toArray).size = b.length := by simp [ByteArray.size]
  cases hr : rdN (Lib.fieldsD b) with
  | none =>
    have hp : pR b = none := by unfold pR; rw [hr]
    rw [hp]
    refine (parse_none ⟨b.toArray⟩ (Lib.fieldsD b) w (by omega) hD.d (fields_call b hl w hD) (fieldsD_len b hl) (fieldsD_cnt b hl) hr).mono fun e w' h => h
  | some l =>
    have hI := rdN_in hr
    obtain ⟨hll, _⟩ := rdN_some hr
    have hcnt := fieldsD_cnt b hl
    obtain ⟨n, hn⟩ : ∃ n, l.length = n := ⟨_, rfl⟩
    have CFi := Lib.hid (fields_call b hl w hD)
    unfold FiPost at CFi
    have CR : ∀ (g : Nat) (W : World), WB W g (Lib.fieldsD b) → Below w.heap.size w W → Hid (Calls Tryd.prog 17 #[.slice (some ⟨g, 0, none⟩) n n] W fun e w' => ∃ A c, e = .returned (.tuple #[.slice A n c, .bool true]) ∧ RI w' A n l ∧ Below W.heap.size W w') := fun g W h1 h2 => Lib.hid <| by
      have := readNumbers_any g n n (Lib.fieldsD b) W h1 (by omega) (hD.d.keep h2) (fieldsD_len b hl) (by omega)
      rw [hr] at this
      refine this.mono ?_
      rintro e w' ⟨A, c, rfl, ho, hb⟩
      exact ⟨A, c, by rw [hn], by have := ho.ri; rwa [hn] at this, hb⟩
    have CV : ∀ (A : Option Addr) (c : Nat) (W : World), RI W A n l → Hid (Calls Tryd.prog 19 #[.slice A n c] W fun e w' => e = .returned (.bool (dvB l)) ∧ Below W.heap.size W w') := fun A c W h => Lib.hid (dvalid_any A n c l W h (by omega) hI)
    rw [← hll, hn] at CFi
    have h1 : ¬ 65536 < ((ByteArray.mk b.toArray).size : Int) := by omega
    cases hv : dvB l with
    | false =>
      have hp : pR b = none := by unfold pR; rw [hr]; simp [hv]
      rw [hp]
      simp only [hv] at CV
      obtain ⟨sb, hsb⟩ : ∃ sb : ByteArray, sb = ⟨b.toArray⟩ := ⟨_, rfl⟩
      rw [← hsb] at CFi h1 ⊢
      clear hv hp hsb hr hI hll hcnt hn hl hsz hD
      go_enter Tryd.func7, Tryd.ntmps7
      go_wp2_with (first
        | (go_at_call 18; ((with_reducible refine CFi.out.mono ?_); rintro e w2 ⟨g2, rfl, hwb, hb2⟩))
        | (go_at_call 17; ((with_reducible refine (CR _ _ hwb hb2).out.mono ?_); rintro e w3 ⟨A3, c3, rfl, hR3, hb3⟩; have hb13 := below_step hb2 hb3))
        | (go_at_call 19; ((with_reducible refine (CV _ _ _ hR3).out.mono ?_); rintro e w4 ⟨rfl, hb4⟩)))
      go_ret2
      exact ⟨rfl, below_step hb13 hb4⟩
    | true =>
      simp only [hv] at CV
      have hn64 : n ≤ 64 := by have := (dvB_iff l).1 hv; omega
      have CF : ∀ (A : Option Addr) (c : Nat) (W : World), RI W A n l → Below w.heap.size w W → Hid (Calls Tryd.prog 6 #[.slice A n c] W fun e w' => e = .returned (.string ⟨(fmtT l).toArray⟩) ∧ Below W.heap.size W w') := fun A c W h h2 => Lib.hid (format_any A n c l W h (by omega) (fun x hx => szI_in (dvB_small hv hx).2) (hD.d.keep h2))
      by_cases he : fmtT l = b
      · have hp : pR b = some l := (pR_iff b l).2 ⟨hv, he⟩
        rw [hp]
        rw [he] at CF
        unfold PaPost
        simp only
        rw [hn]
        obtain ⟨sb, hsb⟩ : ∃ sb : ByteArray, sb = ⟨b.toArray⟩ := ⟨_, rfl⟩
        rw [← hsb] at CFi h1 CF ⊢
        clear hv hp hsb hr hI hll hcnt hn hl hsz hD he
        go_enter Tryd.func7, Tryd.ntmps7
        go_wp2_with (first
          | (go_at_call 18; ((with_reducible refine CFi.out.mono ?_); rintro e w2 ⟨g2, rfl, hwb, hb2⟩))
          | (go_at_call 17; ((with_reducible refine (CR _ _ hwb hb2).out.mono ?_); rintro e w3 ⟨A3, c3, rfl, hR3, hb3⟩; have hb13 := below_step hb2 hb3))
          | (go_at_call 19; ((with_reducible refine (CV _ _ _ hR3).out.mono ?_); rintro e w4 ⟨rfl, hb4⟩; have hR4 := hR3.keep hb4; have hb14 := below_step hb13 hb4))
          | (go_at_call 6; ((with_reducible refine (CF _ _ _ hR4 hb14).out.mono ?_); rintro e w5 ⟨rfl, hb5⟩; have hR5 := hR4.keep hb5)))
        go_ret2
        exact ⟨A3, c3, rfl, hR5, below_step hb14 hb5⟩
      · have hp : pR b = none := by
          cases e : pR b with
          | none => rfl
          | some k =>
            obtain ⟨k1, k2⟩ := (pR_iff b k).1 e
            have := fmt_rd k fun x hx => szI_in (dvB_small k1 hx).2
            rw [k2, hr] at this
            obtain rfl := Option.some.inj this
            exact absurd k2 he
        rw [hp]
        obtain ⟨sb, hsb⟩ : ∃ sb : ByteArray, sb = ⟨b.toArray⟩ := ⟨_, rfl⟩
        obtain ⟨tb, htb⟩ : ∃ tb : ByteArray, tb = ⟨(fmtT l).toArray⟩ := ⟨_, rfl⟩
        have hne2 : (tb.toList == sb.toList) = false := by
          rw [beq_eq_false_iff_ne]
          intro e
          rw [ByteArray.toList_eq, ByteArray.toList_eq, htb, hsb] at e
          exact he (by simpa using e)
        rw [← hsb] at CFi h1 ⊢
        rw [← htb] at CF
        clear hv hp hsb hr hI hll hcnt hn hl hsz hD he htb
        go_enter Tryd.func7, Tryd.ntmps7
        go_wp2_with (first
          | (go_at_call 18; ((with_reducible refine CFi.out.mono ?_); rintro e w2 ⟨g2, rfl, hwb, hb2⟩))
          | (go_at_call 17; ((with_reducible refine (CR _ _ hwb hb2).out.mono ?_); rintro e w3 ⟨A3, c3, rfl, hR3, hb3⟩; have hb13 := below_step hb2 hb3))
          | (go_at_call 19; ((with_reducible refine (CV _ _ _ hR3).out.mono ?_); rintro e w4 ⟨rfl, hb4⟩; have hR4 := hR3.keep hb4; have hb14 := below_step hb13 hb4))
          | (go_at_call 6; ((with_reducible refine (CF _ _ _ hR4 hb14).out.mono ?_); rintro e w5 ⟨rfl, hb5⟩)))
        go_ret2
        exact ⟨rfl, below_step hb14 hb5⟩

end Go.Proofs.YtambhopkacgddaaDoor

/- Walks of the reference: Decimal, Format. -/
namespace Go.Proofs.YtambhopkacgddaaDoor
open Go.ChangeShapes Go.WideShapes Go.ChangeAt Go.RowKit Go.Joins

theorem data_cat (a b : ByteArray) : (a ++ b).data.toList = a.data.toList ++ b.data.toList := by simp [ByteArray.data_append]
theorem size_of {b : ByteArray} {l : List UInt8} (h : b.data.toList = l) : b.size = l.length := by rw [← h]; exact Array.length_toList.symm
def digs : ByteArray := ⟨#[48, 49, 50, 51, 52, 53, 54, 55, 56, 57]⟩
theorem dig_at : ∀ i : Fin 10, (digs.extract i (i + 1)).data.toList = [UInt8.ofNat (48 + i)] := by decide
theorem dec_len (u : Nat) (hu : u ≤ 9223372036854775807) : (Lib.decDigits u).length ≤ 21 := by
  have := Lib.itoa_length_le (u : Int) (by omega) (by omega)
  rwa [Lib.itoa_nonneg] at this

set_option maxHeartbeats 1600000 in
theorem decimal_nn (n : Nat) (hn : n ≤ 9223372036854775807) : ∀ w : World, Calls Tryd.prog 20 #[.int .i64 (n : Nat)] w fun e w' => ∃ b : ByteArray, e = .returned (.string b) ∧ b.data.toList = Lib.decDigits n ∧ w = w' := by
  induction n using Nat.strongRecOn with
  | _ n ih =>
    intro w
    by_cases h10 : n < 10
    · have hd := dig_at ⟨n, h10⟩
      simp only at hd
      have hdd : Lib.decDigits n = [UInt8.ofNat (48 + n)] := Lib.decDigits_one h10
      have h0 : (0 : Int) ≤ (n : Int) := Int.natCast_nonneg _
      have h1 : (n : Int) < 10 := by omega
      have h2 : (n : Int) % 10 = n := by omega
      have HD := Lib.hid hd
      have HDD := Lib.hid hdd
      clear hd hdd ih hn
      go_enter Tryd.func20, Tryd.ntmps20
      go_wp2
      go_ret
      exact ⟨_, rfl, by rw [HDD.out]; exact HD.out, rfl⟩
    · obtain ⟨q, hq⟩ : ∃ q, q = n / 10 := ⟨_, rfl⟩
      obtain ⟨r, hr⟩ : ∃ r, r = n % 10 := ⟨_, rfl⟩
      have hr10 : r < 10 := by omega
      have hd := dig_at ⟨r, hr10⟩
      simp only at hd
      have hdd : Lib.decDigits n = Lib.decDigits q ++ [UInt8.ofNat (48 + r)] := by
        rw [Lib.decDigits, dif_neg h10, hq, hr]
      have h0 : (0 : Int) ≤ (n : Int) := Int.natCast_nonneg _
      have h1 : (10 : Int) ≤ (n : Int) := by omega
      have hn1 : (n : Int) ≤ 9223372036854775807 := by omega
      have h2 : (n : Int) % 10 = (r : Int) := by omega
      have h3 : (n : Int) / 10 = (q : Int) := by omega
      have hr0 : (0 : Int) ≤ (r : Int) := Int.natCast_nonneg _
      have hr1 : (r : Int) < 10 := by omega
      have HD := Lib.hid hd
      have HDD := Lib.hid hdd
      have CQ := Lib.hid (ih q (by omega) (by omega) w)
      have HQ : Hid (∀ b : ByteArray, b.data.toList = Lib.decDigits q → b.size ≤ 21) := Lib.hid fun b hb => by rw [size_of hb]; exact dec_len q (by omega)
      clear hd hdd hq hr ih hn
      go_enter Tryd.func20, Tryd.ntmps20
      go_wp2_with (go_at_call 20; ((with_reducible refine CQ.out.mono ?_); rintro e w1 ⟨b, rfl, hb, rfl⟩; have hbs := HQ.out b hb; have HB := Lib.hid hb; clear hb))
      go_ret
      exact ⟨_, rfl, by rw [HDD.out, data_cat, HB.out]; congr 1, rfl⟩

set_option maxHeartbeats 1600000 in
theorem decimal_any (x : Int) (h0 : -9223372036854775807 ≤ x) (h1 : x ≤ 9223372036854775807) (w : World) : Calls Tryd.prog 20 #[.int .i64 x] w fun e w' => ∃ b : ByteArray, e = .returned (.string b) ∧ b.data.toList = Lib.itoa x ∧ w = w' := by
  by_cases hx : x < 0
  · obtain ⟨q, hq⟩ : ∃ q : Nat, -x = (q : Int) := ⟨(-x).toNat, by omega⟩
    have hi : Lib.itoa x = 45 :: Lib.decDigits q := by
      rw [show x = -(q : Int) by omega, Lib.itoa_neg q (by omega)]
    have HI := Lib.hid hi
    have CQ := Lib.hid (decimal_nn q (by omega) w)
    have HQ : Hid (∀ b : ByteArray, b.data.toList = Lib.decDigits q → b.size ≤ 21) := Lib.hid fun b hb => by rw [size_of hb]; exact dec_len q (by omega)
    clear hi
    go_enter Tryd.func20, Tryd.ntmps20
    go_wp2_with (go_at_call 20; ((with_reducible refine CQ.out.mono ?_); rintro e w1 ⟨b, rfl, hb, rfl⟩; have hbs := HQ.out b hb; have HB := Lib.hid hb; clear hb))
    go_ret
    exact ⟨_, rfl, by rw [HI.out, data_cat, HB.out]; rfl, rfl⟩
  · obtain ⟨q, rfl⟩ := Int.eq_ofNat_of_zero_le (show 0 ≤ x by omega)
    rw [Lib.itoa_nonneg]
    exact decimal_nn q (by omega) w

/-- The text of the first k numbers. -/
theorem fmt_snoc (l : List Int) (x : Int) : fmtT (l ++ [x]) = (if l = [] then [] else fmtT l ++ [32]) ++ Lib.itoa x := by
  unfold fmtT
  cases l with
  | nil =>
    have e : Lib.joinTail [32] [] = [] := rfl
    simp [Lib.join_cons, e]
  | cons y l =>
    rw [if_neg (by simp), List.cons_append, List.map_cons, List.map_cons, Lib.join_cons, Lib.join_cons]
    have ht : ∀ r : List Int, Lib.joinTail [32] ((r ++ [x]).map Lib.itoa) = Lib.joinTail [32] (r.map Lib.itoa) ++ ([32] ++ Lib.itoa x) := by
      intro r
      induction r with
      | nil => 
        have e : Lib.joinTail [32] (([] ++ [x]).map Lib.itoa) = 32 :: (Lib.itoa x ++ []) := rfl
        rw [e, List.append_nil]; rfl
      | cons z r ih =>
        have e1 : Lib.joinTail [32] (((z :: r) ++ [x]).map Lib.itoa) = 32 :: (Lib.itoa z ++ Lib.joinTail [32] ((r ++ [x]).map Lib.itoa)) := rfl
        have e2 : Lib.joinTail [32] ((z :: r).map Lib.itoa) = 32 :: (Lib.itoa z ++ Lib.joinTail [32] (r.map Lib.itoa)) := rfl
        rw [e1, e2, ih]; simp
    rw [ht]; simp

set_option maxHeartbeats 1600000 in
set_option maxRecDepth 100000 in
theorem rformat_any (C : Option Addr) (n cc : Nat) (code : List Int) (w : World) (hC : RI w C n code) (hn : n ≤ 1000) (hB : ∀ x ∈ code, -9223372036854775807 ≤ x ∧ x ≤ 9223372036854775807) :
    Calls Tryd.prog 8 #[.slice C n cc] w fun e w' => e = .returned (strV (fmtT code)) ∧ w = w' := by
  have hl := hC.1
  have HCC : Hid (∀ i, i < n → ∃ b off, C = some ⟨b, off, none⟩ ∧ w.cell? ⟨b, off + i, none⟩ = some (.int .i64 (code.getD i 0))) := Lib.hid fun i hi => by
    obtain ⟨b, off, e, hb, hc⟩ := hC.2 (by omega)
    exact ⟨b, off, e, hc i hi⟩
  have HB : Hid (∀ i, i < n → -9223372036854775807 ≤ code.getD i 0 ∧ code.getD i 0 ≤ 9223372036854775807) := Lib.hid fun i hi => hB _ (by simp [List.getD, hl ▸ hi])
  have HT : Hid (∀ k, k < n → code.take (k + 1) = code.take k ++ [code.getD k 0]) := Lib.hid fun k hk => by
    rw [List.take_add_one]; simp [List.getD, hl ▸ hk]
  have HS : Hid (∀ k, k ≤ n → (fmtT (code.take k)).length ≤ 22 * k) := Lib.hid fun k hk => by
    have := fmt_len (code.take k) fun x hx => by have := hB x (List.mem_of_mem_take hx); omega
    rw [List.length_take] at this
    omega
  have HE : Hid (∀ k, 0 < k → k ≤ n → code.take k ≠ []) := Lib.hid fun k h1 h2 e => by
    have := congrArg List.length e
    rw [List.length_take, hl] at this
    simp at this; omega
  have HF : Hid (code.take n = code) := Lib.hid (List.take_of_length_le (by omega))
  have hn1 : (n : Int) ≤ 1000 := by omega
  clear hC hB hl
  go_enter Tryd.func8, Tryd.ntmps8
  go_wp2
  go_loopw [3, 4] (fun v i wr => ∃ (k : Nat) (b : ByteArray), k ≤ n ∧ i = .int .i64 k ∧ v = .string b ∧ b.data.toList = fmtT (code.take k) ∧ w = wr) (fun _ i _ => n - (intOf i).toNat)
  case atStart => exact ⟨0, ⟨#[]⟩, by omega, rfl, rfl, rfl, rfl⟩
  case round =>
    obtain ⟨k, b, hk, rfl, rfl, hbt, rfl⟩ := hrel
    have hk0 : (0 : Int) ≤ (k : Int) := Int.natCast_nonneg _
    have hbs : b.size ≤ 22000 := by rw [size_of hbt]; have := HS.out k hk; omega
    have HBT := Lib.hid hbt
    clear hbt
    by_cases hlt : k < n
    · obtain ⟨bb, off, rfl, hcell⟩ := HCC.out k hlt
      obtain ⟨x0, x1⟩ := HB.out k hlt
      have hsn := HT.out k hlt
      obtain ⟨x, hx⟩ : ∃ x, code.getD k 0 = x := ⟨_, rfl⟩
      rw [hx] at hcell x0 x1 hsn
      have CD := Lib.hid (decimal_any x x0 x1 w)
      have HZ : Hid (∀ b : ByteArray, b.data.toList = Lib.itoa x → b.size ≤ 21) := Lib.hid fun b hb => by rw [size_of hb]; exact Lib.itoa_length_le x (by omega) (by omega)
      have HSN := Lib.hid hsn
      have hlt1 : (k : Int) < (n : Int) := by omega
      clear hx hsn
      by_cases h0 : k = 0
      · subst h0
        have hcell0 : w.cell? ⟨bb, off, none⟩ = some (.int .i64 x) := by simpa using hcell
        clear hcell
        go_wp2_with (go_at_call 20; ((with_reducible refine CD.out.mono ?_); rintro e w1 ⟨d, rfl, hd, rfl⟩; have hds := HZ.out d hd; have HDD := Lib.hid hd; clear hd))
        go_roundw
        case rel => exact ⟨1, _, by omega, by go_num, rfl, by
          rw [data_cat, HBT.out, HDD.out, HSN.out, fmt_snoc]; simp [fmtT, Lib.join_nil], by trivial⟩
        case measure => simp [intOf]; omega
      · have hkp : (0 : Int) < (k : Int) := by omega
        have HNE := Lib.hid (HE.out k (by omega) hk)
        go_wp2_with (go_at_call 20; ((with_reducible refine CD.out.mono ?_); rintro e w1 ⟨d, rfl, hd, rfl⟩; have hds := HZ.out d hd; have HDD := Lib.hid hd; clear hd))
        go_roundw
        case rel => exact ⟨k + 1, _, by omega, by go_num, rfl, by
          rw [data_cat, data_cat, HBT.out, HDD.out, HSN.out, fmt_snoc, if_neg HNE.out], by trivial⟩
        case measure => simp [intOf]; omega
    · obtain rfl : n = k := by omega
      rw [HF.out] at HBT
      have hbe : b = ⟨(fmtT code).toArray⟩ := by rw [← HBT.out]
      have HBE := Lib.hid hbe
      clear hbe
      go_wp2
      go_ret
      exact ⟨by rw [HBE.out]; rfl, rfl⟩

end Go.Proofs.YtambhopkacgddaaDoor

/- Walk of the reference: Read. -/
namespace Go.Proofs.YtambhopkacgddaaDoor
open Go.ChangeShapes Go.WideShapes Go.ChangeAt Go.RowKit Go.Joins

def RePost (o : Option (List Int)) (w : World) (e : Ending) (w' : World) : Prop :=
  match o with
  | some l => ∃ A c, e = .returned (.tuple #[.slice A l.length c, .bool true]) ∧ RI w' A l.length l ∧ Below w.heap.size w w'
  | none => ∃ A n c, e = .returned (.tuple #[.slice A n c, .bool false]) ∧ Below w.heap.size w w'
/-- What is read at place k. -/
structure RdI (b : List UInt8) (R : Option (List Int)) (k : Nat) (xs : List Int) (nn : Nat) (sg : Int) (dg : Nat) : Prop where
  sg1 : sg = 1 ∨ sg = -1
  d4 : dg ≤ 4
  nd : nn < 10 ^ dg
  len : xs.length ≤ k
  bd : ∀ x ∈ xs, -10000 ≤ x ∧ x ≤ 10000
  at_ : (k ≤ b.length ∧ rdGo xs nn sg dg (b.drop k) = R) ∨ (k = b.length + 1 ∧ R = some xs)
theorem RdI.n4 {b : List UInt8} {R : Option (List Int)} {k : Nat} {xs : List Int} {nn : Nat} {sg : Int} {dg : Nat} (h : RdI b R k xs nn sg dg) : nn ≤ 9999 := by
  have h1 := h.nd
  have h2 : 10 ^ dg ≤ 10 ^ 4 := Nat.pow_le_pow_right (by omega) h.d4
  omega
theorem sgn_in {sg : Int} {nn : Nat} (h : sg = 1 ∨ sg = -1) (hn : nn ≤ 9999) : -10000 ≤ sg * (nn : Int) ∧ sg * (nn : Int) ≤ 10000 := by
  rcases h with h | h <;> subst h <;> omega
theorem RdI.drop {b : List UInt8} {k : Nat} (hk : k < b.length) : b.drop k = b[k] :: b.drop (k + 1) := List.drop_eq_getElem_cons hk
theorem RdI.put {b : List UInt8} {R : Option (List Int)} {k : Nat} {xs : List Int} {nn : Nat} {sg : Int} {dg : Nat} (h : RdI b R k xs nn sg dg) (hd : dg ≠ 0) (hk : k ≤ b.length) (hc : ∀ hk : k < b.length, b[k].toNat = 32) : RdI b R (k + 1) (xs ++ [sg * nn]) 0 1 0 := by
  refine ⟨.inl rfl, by omega, by decide, by have := h.len; simp; omega, fun x hx => ?_, ?_⟩
  · rcases List.mem_append.1 hx with hx | hx
    · exact h.bd x hx
    · rw [List.mem_singleton.1 hx]; exact sgn_in h.sg1 h.n4
  · rcases h.at_ with ⟨_, h2⟩ | ⟨h1, _⟩
    · by_cases e : k < b.length
      · rw [RdI.drop e, rdGo, if_pos (hc e), if_neg hd] at h2
        exact .inl ⟨by omega, h2⟩
      · have ek : k = b.length := by omega
        rw [ek, List.drop_length, rdGo, if_neg hd] at h2
        exact .inr ⟨by omega, h2.symm⟩
    · omega
theorem RdI.stop {b : List UInt8} {R : Option (List Int)} {k : Nat} {xs : List Int} {nn : Nat} {sg : Int} {dg : Nat} (h : RdI b R k xs nn sg dg) (hd : dg = 0) (hk : k ≤ b.length) (hc : ∀ hk : k < b.length, b[k].toNat = 32) : R = none := by
  rcases h.at_ with ⟨_, h2⟩ | ⟨h1, _⟩
  · by_cases e : k < b.length
    · rw [RdI.drop e, rdGo, if_pos (hc e), if_pos hd] at h2
      exact h2.symm
    · have ek : k = b.length := by omega
      rw [ek, List.drop_length, rdGo, if_pos hd] at h2
      exact h2.symm
  · omega
theorem RdI.minus {b : List UInt8} {R : Option (List Int)} {k : Nat} {xs : List Int} {nn : Nat} (h : RdI b R k xs nn 1 0) (hk : k < b.length) (hc : b[k].toNat = 45) : RdI b R (k + 1) xs nn (-1) 0 := by
  refine ⟨.inr rfl, by omega, h.nd, by have := h.len; omega, h.bd, ?_⟩
  rcases h.at_ with ⟨_, h2⟩ | ⟨h1, _⟩
  · rw [RdI.drop hk, rdGo, if_neg (by omega), if_pos ⟨hc, rfl, rfl⟩] at h2
    exact .inl ⟨by omega, h2⟩
  · omega
theorem RdI.bad {b : List UInt8} {R : Option (List Int)} {k : Nat} {xs : List Int} {nn : Nat} {sg : Int} {dg : Nat} (h : RdI b R k xs nn sg dg) (hk : k < b.length) (h32 : b[k].toNat ≠ 32) (h45 : ¬ (b[k].toNat = 45 ∧ dg = 0 ∧ sg = 1)) (hb : b[k].toNat < 48 ∨ 57 < b[k].toNat ∨ 3 < dg) : R = none := by
  rcases h.at_ with ⟨_, h2⟩ | ⟨h1, _⟩
  · rw [RdI.drop hk, rdGo, if_neg h32, if_neg h45, if_pos hb] at h2
    exact h2.symm
  · omega
theorem RdI.digit {b : List UInt8} {R : Option (List Int)} {k : Nat} {xs : List Int} {nn : Nat} {sg : Int} {dg : Nat} (h : RdI b R k xs nn sg dg) (hk : k < b.length) (h48 : 48 ≤ b[k].toNat) (h57 : b[k].toNat ≤ 57) (hd : dg ≤ 3) : RdI b R (k + 1) xs (10 * nn + (b[k].toNat - 48)) sg (dg + 1) := by
  refine ⟨h.sg1, by omega, ?_, by have := h.len; omega, h.bd, ?_⟩
  · have := h.nd
    rw [Nat.pow_succ]; omega
  · rcases h.at_ with ⟨_, h2⟩ | ⟨h1, _⟩
    · rw [RdI.drop hk, rdGo, if_neg (by omega), if_neg (by omega), if_neg (by omega)] at h2
      exact .inl ⟨by omega, h2⟩
    · omega
theorem pR_none {b : List UInt8} (h : rdGo [] 0 1 0 b = none) : pR b = none := by rw [← rd_same, h]
theorem pR_some {b : List UInt8} {xs : List Int} (h : rdGo [] 0 1 0 b = some xs) : pR b = if dvB xs = true ∧ fmtT xs = b then some xs else none := by rw [← rd_same, h]

set_option maxHeartbeats 6400000 in
set_option maxRecDepth 100000 in
theorem read_any (b : List UInt8) (w : World) (hl : b.length ≤ 1000) :
    Calls Tryd.prog 11 #[.string ⟨b.toArray⟩] w (RePost (pR b) w) := by
  obtain ⟨sb, hsb⟩ : ∃ sb : ByteArray, sb = ⟨b.toArray⟩ := ⟨_, rfl⟩
  have hsz : sb.size = b.length := by rw [hsb]; simp [ByteArray.size]
  have HBY : Hid (∀ (k : Nat) (h : k < sb.size) (h2 : k < b.length), (sb[k]'h).toNat = b[k].toNat) := Lib.hid fun k h h2 => by subst hsb; rfl
  have HNO : Hid (rdGo [] 0 1 0 b = none → pR b = none) := Lib.hid pR_none
  have HYES : Hid (∀ xs, rdGo [] 0 1 0 b = some xs → pR b = if dvB xs = true ∧ fmtT xs = b then some xs else none) := Lib.hid fun xs => pR_some
  have H0 : Hid (RdI b (rdGo [] 0 1 0 b) 0 [] 0 1 0) := Lib.hid ⟨.inl rfl, by omega, by decide, by simp, fun x hx => absurd hx (by simp), .inl ⟨by omega, rfl⟩⟩
  have HSB := Lib.hid hsb
  obtain ⟨R, hR⟩ : ∃ R, rdGo [] 0 1 0 b = R := ⟨_, rfl⟩
  rw [hR] at HNO H0
  have HYES' : Hid (∀ xs, R = some xs → pR b = if dvB xs = true ∧ fmtT xs = b then some xs else none) := Lib.hid fun xs e => HYES.out xs (hR.trans e)
  obtain ⟨P, hP⟩ : ∃ P, pR b = P := ⟨_, rfl⟩
  rw [hP] at HNO HYES' ⊢
  rw [← hsb]
  have HL := Lib.hid hl
  have HSZ := Lib.hid hsz
  have hsl : sb.size ≤ 1000 := by omega
  have hsl1 : (sb.size : Int) ≤ 1000 := by omega
  have hsl0 : (0 : Int) ≤ (sb.size : Int) := Int.natCast_nonneg _
  clear HYES hR hP hsb hsz hl
  go_enter Tryd.func11, Tryd.ntmps11
  go_wp2
  go_loopw [4, 5, 6, 7, 8] (fun v4 v5 v6 v7 i wr => ∃ (k nn dg : Nat) (sg : Int) (xs : List Int), i = .int .i64 k ∧ v5 = .int .i64 nn ∧ v6 = .int .i64 sg ∧ v7 = .int .i64 dg ∧ Below w.heap.size w wr ∧ OI wr w.heap.size v4 xs ∧ RdI b R k xs nn sg dg) (fun _ _ _ _ i _ => sb.size + 2 - (intOf i).toNat)
  case atStart => exact ⟨0, 0, 0, 1, [], rfl, rfl, rfl, rfl, Below.refl _ _, OI.nil _ _, H0.out⟩
  case round =>
    obtain ⟨k, nn, dg, sg, xs, rfl, rfl, rfl, rfl, hbr, hoi, hrd⟩ := hrel
    have hk0 : (0 : Int) ≤ (k : Int) := Int.natCast_nonneg _
    have hd0 : (0 : Int) ≤ (dg : Int) := Int.natCast_nonneg _
    have hn0 : (0 : Int) ≤ (nn : Int) := Int.natCast_nonneg _
    have hd4 : (dg : Int) ≤ 4 := by have := hrd.d4; omega
    have hn4 : (nn : Int) ≤ 9999 := by have := hrd.n4; omega
    obtain ⟨hm0, hm1⟩ := sgn_in hrd.sg1 hrd.n4
    have HR := Lib.hid hrd
    have HO := Lib.hid hoi
    clear hrd hoi
    by_cases hex : sb.size < k
    · have hex1 : (sb.size : Int) < (k : Int) := by omega
      have hRx : R = some xs := by
        rcases HR.out.at_ with ⟨h1, _⟩ | ⟨_, h2⟩
        · have := HSZ.out; omega
        · exact h2
      have hP := HYES'.out xs hRx
      have hbd := HR.out.bd
      have hlen := HR.out.len
      have hI : inL xs := fun j => by
        rcases Nat.lt_or_ge j xs.length with hj | hj
        · have e : xs.getD j 0 = xs[j] := by simp [List.getD, hj]
          have := hbd xs[j] (List.getElem_mem hj)
          rw [e]; omega
        · have e : xs.getD j 0 = 0 := by rw [List.getD, List.getElem?_eq_none hj]; rfl
          rw [e]; omega
      have hk1 : k = b.length + 1 := by
        rcases HR.out.at_ with ⟨h1, _⟩ | ⟨h1, _⟩
        · have := HSZ.out; omega
        · exact h1
      have hlb := HL.out
      obtain ⟨A, n, c', hn, rfl⟩ : ∃ A n c', xs.length = n ∧ u4 = .slice A n c' := by
        rcases OI.form HO.out with ⟨rfl, e⟩ | ⟨g1, cap, rfl, _, _⟩
        · subst e; exact ⟨none, 0, 0, rfl, rfl⟩
        · exact ⟨_, _, _, rfl, rfl⟩
      have hri : RI wr A n xs := HO.out.ri
      have CV := fun r (hr : r = dvB xs) => Lib.hid (rdvalid_r r A n c' xs wr hri (by omega) hI hr)
      have HRI := Lib.hid hri
      have HBD := Lib.hid hbd
      have HN := Lib.hid hn
      cases hv : dvB xs with
      | false =>
        have CV' := CV false hv.symm
        rw [hv] at hP
        simp only [Bool.false_eq_true, false_and, if_false] at hP
        obtain rfl := hP
        clear CV hv hRx hbd hlen hI hk1 hlb hn hri HR HO
        go_wp2_with (go_at_call 9; ((with_reducible refine CV'.out.mono ?_); rintro e w2 ⟨rfl, rfl⟩))
        go_ret2
        exact ⟨A, n, c', rfl, hbr⟩
      | true =>
        have CV' := CV true hv.symm
        have hn64 : n ≤ 64 := by have := (dvB_iff xs).1 hv; omega
        have CF := Lib.hid (rformat_any A n c' xs wr hri (by omega) (fun x hx => by have := hbd x hx; omega))
        rw [hv] at hP
        simp only [true_and] at hP
        unfold strV at CF
        by_cases he : fmtT xs = b
        · rw [if_pos he] at hP
          subst hP
          rw [he, ← HSB.out] at CF
          clear CV hv hRx hbd hlen hI hk1 hlb hn hri HR HO he
          go_wp2_with (first
            | (go_at_call 9; ((with_reducible refine CV'.out.mono ?_); rintro e w2 ⟨rfl, rfl⟩))
            | (go_at_call 8; ((with_reducible refine CF.out.mono ?_); rintro e w2 ⟨rfl, rfl⟩)))
          go_ret2
          exact ⟨A, c', by rw [HN.out]; rfl, by rw [HN.out]; exact HRI.out, hbr⟩
        · rw [if_neg he] at hP
          subst hP
          obtain ⟨tb, htb⟩ : ∃ tb : ByteArray, tb = ⟨(fmtT xs).toArray⟩ := ⟨_, rfl⟩
          have hne2 : (tb.toList == sb.toList) = false := by
            rw [beq_eq_false_iff_ne]
            intro e
            rw [ByteArray.toList_eq, ByteArray.toList_eq, htb, HSB.out] at e
            exact he (by simpa using e)
          rw [← htb] at CF
          clear CV hv hRx hbd hlen hI hk1 hlb hn hri HR HO he htb
          go_wp2_with (first
            | (go_at_call 9; ((with_reducible refine CV'.out.mono ?_); rintro e w2 ⟨rfl, rfl⟩))
            | (go_at_call 8; ((with_reducible refine CF.out.mono ?_); rintro e w2 ⟨rfl, rfl⟩)))
          go_ret2
          exact ⟨A, n, c', rfl, hbr⟩
    · have hle : k ≤ b.length := by have := HSZ.out; omega
      have hle1 : (k : Int) ≤ (sb.size : Int) := by omega
      by_cases hend : k = sb.size
      · have hend1 : (k : Int) = (sb.size : Int) := by omega
        by_cases hdz : dg = 0
        · subst hdz
          obtain rfl : P = none := HNO.out (HR.out.stop rfl hle (fun h => absurd h (by have := HSZ.out; omega)))
          go_wp2
          go_ret2
          exact ⟨none, 0, 0, rfl, hbr⟩
        · have hdz1 : ((dg : Int) == 0) = false := beq_eq_false_iff_ne.2 (by omega)
          have HN := Lib.hid (HR.out.put hdz hle (fun h => absurd h (by have := HSZ.out; omega)))
          go_wp2_with (first
            | (at_builtin
               refine wpList_append_int rfl (.tmp 27) (.tmp 31) rfl w.heap.size u4 xs rfl (HO.out.alloc _) wr.heap.size (sg * (nn : Int)) rfl (by rw [World.cell?_alloc_at _ _ _ _ rfl]; rfl) (by have := HR.out.len; omega) (by have := hbr.size; simp; omega) ?_
               intro v7 w7 ho7 hg7
               have hb7 : Below w.heap.size w w7 := (hbr.alloc hbr.size (.cells #[.int .i64 (sg * (nn : Int))] 3)).grown hg7 (by have := hbr.size; simp; omega) (fun q hq => (World.ownsRow.lt HO.out q hq).1)
               have HO7 := Lib.hid ho7
               clear ho7 hg7))
          go_roundw
          case rel => exact ⟨_, 0, 0, 1, _, by go_num, rfl, rfl, rfl, hb7, HO7.out, HN.out⟩
          case measure => simp [intOf]; omega
      · have hlt : k < sb.size := by omega
        have hltb : k < b.length := by have := HSZ.out; omega
        have hlt1 : (k : Int) < (sb.size : Int) := by omega
        have hqe : ((k : Int) == (sb.size : Int)) = false := beq_eq_false_iff_ne.2 (by omega)
        have hby := HBY.out k hlt hltb
        obtain ⟨X, hX⟩ : ∃ X : Nat, b[k].toNat = X := ⟨_, rfl⟩
        rw [hX] at hby
        have hX0 : (0 : Int) ≤ (X : Int) := Int.natCast_nonneg _
        have hX1 : (X : Int) ≤ 255 := by have : b[k].toNat < 256 := UInt8.toNat_lt _; omega
        have HX := Lib.hid hX
        clear hX
        by_cases h32 : X = 32
        · subst h32
          by_cases hdz : dg = 0
          · subst hdz
            obtain rfl : P = none := HNO.out (HR.out.stop rfl hle (fun _ => HX.out))
            go_wp2
            go_ret2
            exact ⟨none, 0, 0, rfl, hbr⟩
          · have hdz1 : ((dg : Int) == 0) = false := beq_eq_false_iff_ne.2 (by omega)
            have HN := Lib.hid (HR.out.put hdz hle (fun _ => HX.out))
            go_wp2_with (first
              | (at_builtin
                 refine wpList_append_int rfl (.tmp 27) (.tmp 31) rfl w.heap.size u4 xs rfl (HO.out.alloc _) wr.heap.size (sg * (nn : Int)) rfl (by rw [World.cell?_alloc_at _ _ _ _ rfl]; rfl) (by have := HR.out.len; omega) (by have := hbr.size; simp; omega) ?_
                 intro v7 w7 ho7 hg7
                 have hb7 : Below w.heap.size w w7 := (hbr.alloc hbr.size (.cells #[.int .i64 (sg * (nn : Int))] 3)).grown hg7 (by have := hbr.size; simp; omega) (fun q hq => (World.ownsRow.lt HO.out q hq).1)
                 have HO7 := Lib.hid ho7
                 clear ho7 hg7))
            go_roundw
            case rel => exact ⟨_, 0, 0, 1, _, by go_num, rfl, rfl, rfl, hb7, HO7.out, HN.out⟩
            case measure => simp [intOf]; omega
        · have h32' : ((X : Int) == 32) = false := beq_eq_false_iff_ne.2 (by omega)
          by_cases h45 : X = 45 ∧ dg = 0 ∧ sg = 1
          · obtain ⟨rfl, rfl, rfl⟩ := h45
            go_wp2
            go_roundw
            case rel => exact ⟨k + 1, nn, 0, -1, xs, by go_num, rfl, rfl, rfl, hbr, HO.out, HR.out.minus hltb HX.out⟩
            case measure => simp [intOf]; omega
          · by_cases hbad : X < 48 ∨ 57 < X ∨ 3 < dg
            · by_cases h45a : X = 45
              · by_cases hdg : dg = 0
                · have hsg : ¬ sg = 1 := fun e => h45 ⟨h45a, hdg, e⟩
                  obtain rfl : P = none := HNO.out (HR.out.bad hltb (by rw [HX.out]; exact h32) (by rw [HX.out]; exact h45) (by rw [HX.out]; exact hbad))
                  go_wp2
                  go_ret2
                  exact ⟨none, 0, 0, rfl, hbr⟩
                · have hdg1 : ((dg : Int) == 0) = false := beq_eq_false_iff_ne.2 (by omega)
                  obtain rfl : P = none := HNO.out (HR.out.bad hltb (by rw [HX.out]; exact h32) (by rw [HX.out]; exact h45) (by rw [HX.out]; exact hbad))
                  go_wp2
                  go_ret2
                  exact ⟨none, 0, 0, rfl, hbr⟩
              · have h45b : ((X : Int) == 45) = false := beq_eq_false_iff_ne.2 (by omega)
                by_cases h48 : X < 48
                · have h48b : decide ((X : Int) < 48) = true := decide_eq_true (by omega)
                  obtain rfl : P = none := HNO.out (HR.out.bad hltb (by rw [HX.out]; exact h32) (by rw [HX.out]; exact h45) (by rw [HX.out]; exact hbad))
                  go_wp2
                  go_ret2
                  exact ⟨none, 0, 0, rfl, hbr⟩
                · have h48b : decide ((X : Int) < 48) = false := decide_eq_false (by omega)
                  by_cases h57 : 57 < X
                  · have h57b : decide (57 < (X : Int)) = true := decide_eq_true (by omega)
                    obtain rfl : P = none := HNO.out (HR.out.bad hltb (by rw [HX.out]; exact h32) (by rw [HX.out]; exact h45) (by rw [HX.out]; exact hbad))
                    go_wp2
                    go_ret2
                    exact ⟨none, 0, 0, rfl, hbr⟩
                  · have h57b : decide (57 < (X : Int)) = false := decide_eq_false (by omega)
                    have hdg3 : decide (3 < (dg : Int)) = true := decide_eq_true (by omega)
                    obtain rfl : P = none := HNO.out (HR.out.bad hltb (by rw [HX.out]; exact h32) (by rw [HX.out]; exact h45) (by rw [HX.out]; exact hbad))
                    go_wp2
                    go_ret2
                    exact ⟨none, 0, 0, rfl, hbr⟩
            · have h48 : 48 ≤ X := by omega
              have h57 : X ≤ 57 := by omega
              have hd3 : dg ≤ 3 := by omega
              have h45b : ((X : Int) == 45) = false := beq_eq_false_iff_ne.2 (by omega)
              have h48b : (48 : Int) ≤ (X : Int) := by omega
              have h57b : (X : Int) ≤ 57 := by omega
              have hd3b : (dg : Int) ≤ 3 := by omega
              have hq48 : decide ((X : Int) < 48) = false := decide_eq_false (by omega)
              have hq57 : decide (57 < (X : Int)) = false := decide_eq_false (by omega)
              have hq3 : decide (3 < (dg : Int)) = false := decide_eq_false (by omega)
              have HD := HR.out.digit hltb (by rw [HX.out]; exact h48) (by rw [HX.out]; exact h57) hd3
              rw [HX.out] at HD
              have HD' := Lib.hid HD
              clear HD
              go_wp2
              go_roundw
              case rel => exact ⟨k + 1, 10 * nn + (X - 48), dg + 1, sg, xs, by go_num, by go_num, rfl, by go_num, hbr, HO.out, HD'.out⟩
              case measure => simp [intOf]; omega

end Go.Proofs.YtambhopkacgddaaDoor

/- Walk: the law DowkerText. -/
namespace Go.Proofs.YtambhopkacgddaaDoor
open Go.ChangeShapes Go.WideShapes Go.ChangeAt Go.RowKit Go.Joins

def midI (x : Int) : Prop := -2305843009213693952 ≤ x ∧ x ≤ 2305843009213693952

set_option maxHeartbeats 6400000 in
set_option maxRecDepth 100000 in
theorem dktext_walk (C : Option Addr) (n cc : Nat) (code : List Int) (b : List UInt8) (w : World) (hC : RI w C n code) (hn : n ≤ 9223372036854775807) (hbl : b.length ≤ 9223372036854775807) (hI : ∀ x ∈ code, -9223372036854775808 ≤ x ∧ x ≤ 9223372036854775807) (hD : DX w) :
    Calls Tryd.prog 3 #[.slice C n cc, .string ⟨b.toArray⟩] w fun e w' => e = .returned (.bool true) ∧ Below w.heap.size w w' := by
  have CA := Lib.hid (dawake_any w)
  have hsz : (ByteArray.mk b.toArray).size = b.length := by simp [ByteArray.size]
  obtain ⟨sb, hsb⟩ : ∃ sb : ByteArray, sb = ⟨b.toArray⟩ := ⟨_, rfl⟩
  rw [← hsb] at hsz ⊢
  have hn0 : (0 : Int) ≤ (n : Int) := Int.natCast_nonneg _
  by_cases h80 : 80 < n
  · have h80' : decide (80 < (n : Int)) = true := decide_eq_true (by omega)
    clear hC hI hD hsb
    go_enter Tryd.func3, Tryd.ntmps3
    go_wp2_with (go_at_call 5; ((with_reducible refine CA.out.mono ?_); rintro e w1 ⟨rfl, hb1⟩))
    go_ret
    exact ⟨rfl, hb1⟩
  · have h80' : decide (80 < (n : Int)) = false := decide_eq_false (by omega)
    by_cases h300 : 300 < sb.size
    · have h300' : decide (300 < (sb.size : Int)) = true := decide_eq_true (by omega)
      clear hC hI hD hsb
      go_enter Tryd.func3, Tryd.ntmps3
      go_wp2_with (go_at_call 5; ((with_reducible refine CA.out.mono ?_); rintro e w1 ⟨rfl, hb1⟩))
      go_ret
      exact ⟨rfl, hb1⟩
    · have h300' : decide (300 < (sb.size : Int)) = false := decide_eq_false (by omega)
      have hl := hC.1
      have HCC : Hid (∀ i, i < n → ∃ b off, C = some ⟨b, off, none⟩ ∧ b < w.heap.size ∧ w.cell? ⟨b, off + i, none⟩ = some (.int .i64 (code.getD i 0))) := Lib.hid fun i hi => by
        obtain ⟨b, off, e, hb, hc⟩ := hC.2 (by omega)
        exact ⟨b, off, e, hb, hc i hi⟩
      have HI : Hid (∀ i, i < n → -9223372036854775808 ≤ code.getD i 0 ∧ code.getD i 0 ≤ 9223372036854775807) := Lib.hid fun i hi => hI _ (by simp [List.getD, hl ▸ hi])
      have HC := Lib.hid hC
      have HD := Lib.hid hD
      have HIN : Hid ((∀ i, i < n → midI (code.getD i 0)) → ∀ x ∈ code, midI x) := Lib.hid fun h x hx => by
        obtain ⟨i, hi, rfl⟩ := List.getElem_of_mem hx
        have := h i (by omega)
        have e : code.getD i 0 = code[i] := by simp [List.getD, hi]
        rwa [e] at this
      have HSB := Lib.hid hsb
      have HSZ := Lib.hid hsz
      have HL := Lib.hid hl
      have hn80 : (n : Int) ≤ 80 := by omega
      have hs300 : (sb.size : Int) ≤ 300 := by omega
      clear hC hI hD hsb hsz hl
      go_enter Tryd.func3, Tryd.ntmps3
      go_wp2_with (go_at_call 5; ((with_reducible refine CA.out.mono ?_); rintro e w1 ⟨rfl, hb1⟩))
      go_loopw [5] (fun i wr => ∃ k : Nat, k ≤ n ∧ i = .int .i64 k ∧ wr = w1 ∧ ∀ j, j < k → midI (code.getD j 0)) (fun i _ => n - (intOf i).toNat)
      case atStart => exact ⟨0, by omega, rfl, rfl, fun j hj => absurd hj (by omega)⟩
      case round =>
        obtain ⟨k, hk, rfl, rfl, hmid⟩ := hrel
        have hk0 : (0 : Int) ≤ (k : Int) := Int.natCast_nonneg _
        have HM := Lib.hid hmid
        clear hmid
        by_cases hlt : k < n
        · obtain ⟨bb, off, rfl, hb, hc⟩ := HCC.out k hlt
          have hcell := (hb1.cell (p := ⟨bb, off + k, none⟩) hb).trans hc
          obtain ⟨x0, x1⟩ := HI.out k hlt
          obtain ⟨x, hx⟩ : ∃ x, code.getD k 0 = x := ⟨_, rfl⟩
          rw [hx] at hcell x0 x1
          have HX := Lib.hid hx
          have hlt1 : (k : Int) < (n : Int) := by omega
          clear hx hc
          by_cases ha : x < -2305843009213693952
          · have ha' : decide (x < -2305843009213693952) = true := decide_eq_true ha
            go_wp2
            go_ret
            exact ⟨rfl, hb1⟩
          · have ha' : decide (x < -2305843009213693952) = false := decide_eq_false ha
            by_cases hc2 : 2305843009213693952 < x
            · have hc2' : decide (2305843009213693952 < x) = true := decide_eq_true hc2
              go_wp2
              go_ret
              exact ⟨rfl, hb1⟩
            · have hc2' : decide (2305843009213693952 < x) = false := decide_eq_false hc2
              go_wp2
              go_roundw
              case rel => exact ⟨k + 1, by omega, by go_num, by trivial, fun j hj => by
                by_cases e : j = k
                · rw [e, HX.out]; unfold midI; omega
                · exact HM.out j (by omega)⟩
              case measure => simp [intOf]; omega
        · obtain rfl : n = k := by omega
          have hmem := HIN.out HM.out
          have hB : inB code := fun x hx => by have := hmem x hx; unfold midI at this; omega
          have hB2 : ∀ x ∈ code, -9223372036854775807 ≤ x ∧ x ≤ 9223372036854775807 := fun x hx => by have := hmem x hx; unfold midI at this; omega
          have hIL : inL code := fun j => by
            rcases Nat.lt_or_ge j code.length with hj | hj
            · have e : code.getD j 0 = code[j] := by simp [List.getD, hj]
              rw [e]; exact hB _ (List.getElem_mem hj)
            · have e : code.getD j 0 = 0 := by rw [List.getD, List.getElem?_eq_none hj]; rfl
              rw [e]; omega
          have hl := HL.out
          have hfl := fmt_len code hB
          have hbl2 : b.length ≤ 300 := by have := HSZ.out; omega
          have CFm := Lib.hid (format_any C n cc code wr (HC.out.keep hb1) (by omega) hB (HD.out.d.keep hb1))
          have CPt : ∀ W, Below w.heap.size w W → Hid (Calls Tryd.prog 7 #[.string ⟨(fmtT code).toArray⟩] W (PaPost (if dvB code = true then some code else none) W)) := fun W h => Lib.hid (by
            have := parse_any (fmtT code) W (by omega) (HD.out.keep h)
            rwa [pR_fmt code hB] at this)
          have CRf : ∀ W, Below w.heap.size w W → Hid (Calls Tryd.prog 8 #[.slice C n cc] W fun e w' => e = .returned (.string ⟨(fmtT code).toArray⟩) ∧ W = w') := fun W h => Lib.hid (rformat_any C n cc code W (HC.out.keep h) (by omega) hB2)
          have CRv : ∀ r W, r = dvB code → Below w.heap.size w W → Hid (Calls Tryd.prog 9 #[.slice C n cc] W fun e w' => e = .returned (.bool r) ∧ W = w') := fun r W hr h => Lib.hid (rdvalid_r r C n cc code W (HC.out.keep h) hn hIL hr)
          have CPs : ∀ W, Below w.heap.size w W → Hid (Calls Tryd.prog 7 #[.string sb] W (PaPost (pR b) W)) := fun W h => Lib.hid (by
            rw [HSB.out]
            exact parse_any b W (by omega) (HD.out.keep h))
          have CRd : ∀ W, Hid (Calls Tryd.prog 11 #[.string sb] W (RePost (pR b) W)) := fun W => Lib.hid (by
            rw [HSB.out]
            exact read_any b W (by omega))
          have CI : ∀ (A B : Option Addr) (m c d : Nat) (xs : List Int) (W : World), RI W A m xs → RI W B m xs → m ≤ 1000000000000000 → Hid (Calls Tryd.prog 10 #[.slice A m c, .slice B m d] W fun e w' => e = .returned (.bool true) ∧ Below W.heap.size W w') := fun A B m c d xs W h1 h2 h3 => Lib.hid (ints_r true A B m c m d xs xs W h1 h2 h3 h3 (by simp))
          have HPL : Hid (∀ l, pR b = some l → l.length ≤ 64) := Lib.hid fun l h => by have := (dvB_iff l).1 ((pR_iff b l).1 h).1; omega
          unfold strV at CFm
          obtain ⟨tb, htb⟩ : ∃ tb : ByteArray, tb = ⟨(fmtT code).toArray⟩ := ⟨_, rfl⟩
          rw [← htb] at CFm CPt CRf
          unfold PaPost at CPt CPs
          unfold RePost at CRd
          obtain ⟨Q, hQ⟩ : ∃ Q, pR b = Q := ⟨_, rfl⟩
          rw [hQ] at CPs CRd HPL
          clear hQ htb hbl2 hfl hIL hB2 hB hmem HIN HCC HI HM hlt HD
          have HN : Hid (n ≤ 80) := Lib.hid (by omega)
          cases hv : dvB code with
          | false =>
            have CV0 : ∀ W, Below w.heap.size w W → Hid (Calls Tryd.prog 9 #[.slice C n cc] W fun e w' => e = .returned (.bool false) ∧ W = w') := fun W h => CRv _ W hv.symm h
            have CT0 : ∀ W, Below w.heap.size w W → Hid (Calls Tryd.prog 7 #[.string tb] W fun e w' => e = .returned (.tuple #[.slice none 0 0, .int .i64 3]) ∧ Below W.heap.size W w') := fun W h => by
              have := CPt W h
              rw [hv] at this
              exact this
            cases Q with
            | none =>
              have CP0 : ∀ W, Below w.heap.size w W → Hid (Calls Tryd.prog 7 #[.string sb] W fun e w' => e = .returned (.tuple #[.slice none 0 0, .int .i64 3]) ∧ Below W.heap.size W w') := CPs
              have CR0 : ∀ W, Hid (Calls Tryd.prog 11 #[.string sb] W fun e w' => ∃ A n c, e = .returned (.tuple #[.slice A n c, .bool false]) ∧ Below W.heap.size W w') := CRd
              clear CPs CRd CPt CRv hv hl
              go_wp2_with (first
                | (go_at_call 11; ((with_reducible refine (CR0 _).out.mono ?_); rintro e w6 ⟨A6, n6, c6, rfl, hb6⟩; have hb17 := below_step hb15 hb6))
                | (go_at_call 7; ((with_reducible refine (CP0 _ hbU).out.mono ?_); rintro e w5 ⟨rfl, hb5⟩; have hb15 := below_step hbU hb5))
                | (go_at_call 9; ((with_reducible refine (CV0 _ hbU).out.mono ?_); rintro e w3x ⟨rfl, rfl⟩))
                | (go_at_call 8; ((with_reducible refine (CRf _ hbU).out.mono ?_); rintro e w3x ⟨rfl, rfl⟩))
                | (go_at_call 7; ((with_reducible refine (CT0 _ hb12).out.mono ?_); rintro e w3 ⟨rfl, hb3⟩; have hbU := below_step hb12 hb3))
                | (go_at_call 6; ((with_reducible refine CFm.out.mono ?_); rintro e w2 ⟨rfl, hb2⟩; have hb12 := below_step hb1 hb2)))
              go_ret
              exact ⟨rfl, hb17⟩
            | some l =>
              have CP0 : ∀ W, Below w.heap.size w W → Hid (Calls Tryd.prog 7 #[.string sb] W fun e w' => ∃ A c, e = .returned (.tuple #[.slice A l.length c, .int .i64 0]) ∧ RI w' A l.length l ∧ Below W.heap.size W w') := CPs
              have CR0 : ∀ W, Hid (Calls Tryd.prog 11 #[.string sb] W fun e w' => ∃ A c, e = .returned (.tuple #[.slice A l.length c, .bool true]) ∧ RI w' A l.length l ∧ Below W.heap.size W w') := CRd
              have HL64 : l.length ≤ 1000000000000000 := by have := HPL.out l rfl; omega
              obtain ⟨m, hm⟩ : ∃ m, l.length = m := ⟨_, rfl⟩
              rw [hm] at CP0 CR0 HL64
              clear CPs CRd CPt CRv hv hl hm
              go_wp2_with (first
                | (go_at_call 10; ((with_reducible refine (CI _ _ _ _ _ l w6 (hR5.keep hb6) hR6 HL64).out.mono ?_); rintro e w7 ⟨rfl, hb7⟩; have hb17 := below_step hb16 hb7))
                | (go_at_call 11; ((with_reducible refine (CR0 _).out.mono ?_); rintro e w6 ⟨A6, c6, rfl, hR6, hb6⟩; have hb16 := below_step hb15 hb6))
                | (go_at_call 7; ((with_reducible refine (CP0 _ hbU).out.mono ?_); rintro e w5 ⟨A5, c5, rfl, hR5, hb5⟩; have hb15 := below_step hbU hb5))
                | (go_at_call 9; ((with_reducible refine (CV0 _ hbU).out.mono ?_); rintro e w3x ⟨rfl, rfl⟩))
                | (go_at_call 8; ((with_reducible refine (CRf _ hbU).out.mono ?_); rintro e w3x ⟨rfl, rfl⟩))
                | (go_at_call 7; ((with_reducible refine (CT0 _ hb12).out.mono ?_); rintro e w3 ⟨rfl, hb3⟩; have hbU := below_step hb12 hb3))
                | (go_at_call 6; ((with_reducible refine CFm.out.mono ?_); rintro e w2 ⟨rfl, hb2⟩; have hb12 := below_step hb1 hb2)))
              go_ret
              exact ⟨rfl, hb17⟩
          | true =>
            have CV0 : ∀ W, Below w.heap.size w W → Hid (Calls Tryd.prog 9 #[.slice C n cc] W fun e w' => e = .returned (.bool true) ∧ W = w') := fun W h => CRv _ W hv.symm h
            have CT0 : ∀ W, Below w.heap.size w W → Hid (Calls Tryd.prog 7 #[.string tb] W fun e w' => ∃ A c, e = .returned (.tuple #[.slice A n c, .int .i64 0]) ∧ RI w' A n code ∧ Below W.heap.size W w') := fun W h => by
              have := CPt W h
              rw [hv] at this
              rw [← hl]
              exact this
            have HN15 : n ≤ 1000000000000000 := by have := HN.out; omega
            cases Q with
            | none =>
              have CP0 : ∀ W, Below w.heap.size w W → Hid (Calls Tryd.prog 7 #[.string sb] W fun e w' => e = .returned (.tuple #[.slice none 0 0, .int .i64 3]) ∧ Below W.heap.size W w') := CPs
              have CR0 : ∀ W, Hid (Calls Tryd.prog 11 #[.string sb] W fun e w' => ∃ A n c, e = .returned (.tuple #[.slice A n c, .bool false]) ∧ Below W.heap.size W w') := CRd
              clear CPs CRd CPt CRv hv hl
              go_wp2_with (first
                | (go_at_call 11; ((with_reducible refine (CR0 _).out.mono ?_); rintro e w6 ⟨A6, n6, c6, rfl, hb6⟩; have hb17 := below_step hb15 hb6))
                | (go_at_call 7; ((with_reducible refine (CP0 _ hbU).out.mono ?_); rintro e w5 ⟨rfl, hb5⟩; have hb15 := below_step hbU hb5))
                | (go_at_call 10; ((with_reducible refine (CI _ _ _ _ _ code w3 hR3 (HC.out.keep hb13) HN15).out.mono ?_); rintro e w4 ⟨rfl, hb4⟩; have hbU := below_step hb13 hb4))
                | (go_at_call 9; ((with_reducible refine (CV0 _ hb13).out.mono ?_); rintro e w3x ⟨rfl, rfl⟩))
                | (go_at_call 8; ((with_reducible refine (CRf _ hb13).out.mono ?_); rintro e w3x ⟨rfl, rfl⟩))
                | (go_at_call 7; ((with_reducible refine (CT0 _ hb12).out.mono ?_); rintro e w3 ⟨A3, c3, rfl, hR3, hb3⟩; have hb13 := below_step hb12 hb3))
                | (go_at_call 6; ((with_reducible refine CFm.out.mono ?_); rintro e w2 ⟨rfl, hb2⟩; have hb12 := below_step hb1 hb2)))
              go_ret
              exact ⟨rfl, hb17⟩
            | some l =>
              have CP0 : ∀ W, Below w.heap.size w W → Hid (Calls Tryd.prog 7 #[.string sb] W fun e w' => ∃ A c, e = .returned (.tuple #[.slice A l.length c, .int .i64 0]) ∧ RI w' A l.length l ∧ Below W.heap.size W w') := CPs
              have CR0 : ∀ W, Hid (Calls Tryd.prog 11 #[.string sb] W fun e w' => ∃ A c, e = .returned (.tuple #[.slice A l.length c, .bool true]) ∧ RI w' A l.length l ∧ Below W.heap.size W w') := CRd
              have HL64 : l.length ≤ 1000000000000000 := by have := HPL.out l rfl; omega
              obtain ⟨m, hm⟩ : ∃ m, l.length = m := ⟨_, rfl⟩
              rw [hm] at CP0 CR0 HL64
              clear CPs CRd CPt CRv hv hl hm
              go_wp2_with (first
                | (go_at_call 10; ((with_reducible refine (CI _ _ _ _ _ l w6 (hR5.keep hb6) hR6 HL64).out.mono ?_); rintro e w7 ⟨rfl, hb7⟩; have hb17 := below_step hb16 hb7))
                | (go_at_call 11; ((with_reducible refine (CR0 _).out.mono ?_); rintro e w6 ⟨A6, c6, rfl, hR6, hb6⟩; have hb16 := below_step hb15 hb6))
                | (go_at_call 7; ((with_reducible refine (CP0 _ hbU).out.mono ?_); rintro e w5 ⟨A5, c5, rfl, hR5, hb5⟩; have hb15 := below_step hbU hb5))
                | (go_at_call 10; ((with_reducible refine (CI _ _ _ _ _ code w3 hR3 (HC.out.keep hb13) HN15).out.mono ?_); rintro e w4 ⟨rfl, hb4⟩; have hbU := below_step hb13 hb4))
                | (go_at_call 9; ((with_reducible refine (CV0 _ hb13).out.mono ?_); rintro e w3x ⟨rfl, rfl⟩))
                | (go_at_call 8; ((with_reducible refine (CRf _ hb13).out.mono ?_); rintro e w3x ⟨rfl, rfl⟩))
                | (go_at_call 7; ((with_reducible refine (CT0 _ hb12).out.mono ?_); rintro e w3 ⟨A3, c3, rfl, hR3, hb3⟩; have hb13 := below_step hb12 hb3))
                | (go_at_call 6; ((with_reducible refine CFm.out.mono ?_); rintro e w2 ⟨rfl, hb2⟩; have hb12 := below_step hb1 hb2)))
              go_ret
              exact ⟨rfl, hb17⟩

end Go.Proofs.YtambhopkacgddaaDoor

/- From the cards' condition to the table of white space beyond ASCII. -/
namespace Go.Proofs.YtambhopkacgddaaDoor
open Go.ChangeShapes Go.WideShapes Go.ChangeAt Go.RowKit Go.Joins

theorem white_data : (Rows.laid_unicode_White_Space : DataW Unit) = Lib.whiteData := by kernel_rfl
theorem white_mem : ("unicode.White_Space", (Rows.laid_unicode_White_Space : DataW Unit)) ∈ gLaid := .tail _ (.tail _ (.tail _ (.tail _ (.tail _ (.head _)))))
theorem dx_of_laid {W : World} (h : laidMetH Tryd.prog gLaid W) : DX W := by
  have h1 := Lib.laidMet.reads (laid_plain h) white_mem
  rw [white_data] at h1
  exact ⟨dw_of_laid h, whiteTab_of_reads Tryd.lays199 ⟨by kernel_rfl, by kernel_rfl, by kernel_rfl, by kernel_rfl, by kernel_rfl, by kernel_rfl, by kernel_rfl, by kernel_rfl⟩ h1⟩

end Go.Proofs.YtambhopkacgddaaDoor
