import Derived.Test.YtdacjnmfmhkpiaaGreatDoorD14
import Derived.Test.YtdacjnmfmhkpiaaGreatDoorD04
import Derived.Test.YtdacjnmfmhkpiaaGreatDoorD05
import Derived.Laws.CopyOwn
import Derived.Deep.RegionLaw
import Derived.Test.YtdacjnmfmhkpiaaGreatDoorD09
/- Walk: slices.Repeat of one string. -/
namespace Go.Proofs.YtdacjnmfmhkpiaaGreatDoor
open Go.RowKit

def fillS (z : ByteArray) (k : Nat) : Nat → Value := fun i => .string (if i < k then z else ⟨#[]⟩)
theorem Tryz.infoStr : (Tryz.prog.info? 9).map (fun i => (i.zero, i.size, i.bytes)) = some (some (.string ⟨#[]⟩), 1, 16) := by kernel_rfl
theorem cellsN_list (n : Nat) (V : Nat → Value) : cellsN n V = ((List.range n).map V).toArray := rfl
theorem splice_fillS (z : ByteArray) (n k d : Nat) (h : k + d ≤ n) : splice ((List.range n).map (fillS z k)) k (List.replicate d (.string z)) = (List.range n).map (fillS z (k + d)) := by
  apply List.ext_getElem
  · rw [length_splice _ _ _ (by simp; omega)]; simp
  · intro i h1 h2
    have hi : i < n := by simpa using h2
    simp only [splice, List.getElem_map, List.getElem_range]
    by_cases e1 : i < k
    · rw [List.getElem_append_left (by simp; omega)]
      simp [fillS, e1, show i < k + d by omega]
    · rw [List.getElem_append_right (by simp; omega)]
      by_cases e2 : i < k + d
      · rw [List.getElem_append_left (by simp; omega)]
        simp [fillS, e2]
      · rw [List.getElem_append_right (by simp; omega)]
        simp only [List.getElem_drop, List.getElem_map, List.getElem_range, List.length_replicate, List.length_take, List.length_map, List.length_range]
        have e3 : k + d + (i - min k n - d) = i := by omega
        rw [e3]
        simp [fillS, e1, e2]

theorem copy_srcS {wr : World} {g n k d j : Nat} {z : ByteArray} {v : Value} (hA : Arr wr g 9 n (fillS z k)) (hd : d ≤ k) (hk : k ≤ n) (hj : (List.replicate d (Value.string z))[j]? = some v) : wr.cell? ((⟨g, 0, none⟩ : Addr).add j) = some v := by
  have hjd : j < d := by
    rcases Nat.lt_or_ge j d with h | h
    · exact h
    · rw [List.getElem?_eq_none (by simpa using h)] at hj; cases hj
  have e : v = .string z := by
    have := List.mem_of_getElem? hj
    exact List.eq_of_mem_replicate this
  have h1 := hA.cell j (by omega)
  rw [e]
  have e2 : fillS z k j = .string z := by simp [fillS, show j < k by omega]
  rw [e2] at h1
  have ea : (⟨g, 0, none⟩ : Addr).add j = ⟨g, 0 + j, none⟩ := by unfold Addr.add; split <;> simp_all
  rw [ea]
  simpa using h1

set_option maxHeartbeats 1600000 in
set_option maxRecDepth 100000 in
theorem repeatS_any (b n : Nat) (z : ByteArray) (w : World) (hb : b < w.heap.size) (hc : w.cell? ⟨b, 0, none⟩ = some (.string z)) (hn : n ≤ 1000) :
    Calls Tryz.prog 56 #[.slice (some ⟨b, 0, none⟩) 1 1, .int .i64 (n : Nat)] w fun e w' => e = .returned (.slice (some ⟨w.heap.size, 0, none⟩) n n) ∧ Arr w' w.heap.size 9 n (fun _ => .string z) ∧ Below w.heap.size w w' := by
  have CM := fun W => Lib.hid (mul_one n (by omega) W)
  have hmk := fun W => make_one (P := Tryz.prog) Tryz.underlying80 Tryz.infoStr rfl n (by omega) (by omega) W
  have hwu : IntKind.u64.wrap (n : Int) = (n : Int) := by rw [IntKind.wrap_u64]; omega
  have hn0 : (0 : Int) ≤ (n : Int) := Int.natCast_nonneg _
  have hsz : (Tryz.prog.info? 9).map (·.size) = some 1 := by kernel_rfl
  have hb0 := below_alloc w (.cells (cellsN n fun _ => .string ⟨#[]⟩) 9)
  have hg0 : (w.alloc (.cells (cellsN n fun _ => .string ⟨#[]⟩) 9)).heap[w.heap.size]? = some (.cells ((List.range n).map (fillS z 0)).toArray 9 (0, 0)) := by
    rw [← cellsN_list]
    have : cellsN n (fillS z 0) = cellsN n fun _ => .string ⟨#[]⟩ := cellsN_congr fun i _ => by simp [fillS]
    rw [this]
    exact heap_alloc_new w _
  by_cases hnz : n = 0
  · have hle : ¬ 0 < n := by omega
    have hmin : Nat.min 1 n = 0 := by rw [hnz]; rfl
    have HG0 := Lib.hid hg0
    have HNZ := Lib.hid hnz
    clear hg0 hnz
    go_enter Tryz.func56, Tryz.ntmps56
    go_wp2_with (first
      | (go_at_call 83; ((with_reducible refine (CM _).out.mono ?_); rintro e w1 ⟨rfl, rfl⟩))
      | (with_reducible refine wpList_copy_nothing rfl (.tmp 31) (.tmp 32) 80 80 rfl 9 Tryz.underlying80 hsz (some ⟨w.heap.size, 0, none⟩) (some ⟨b, 0, none⟩) n n 1 1 rfl rfl hmin ?_))
    go_loopw [8] (fun i wr => i = .int .i64 0 ∧ wr = w.alloc (.cells (cellsN n fun _ => .string ⟨#[]⟩) 9)) (fun _ _ => 0)
    case atStart => exact ⟨rfl, rfl⟩
    case round =>
      obtain ⟨rfl, rfl⟩ := hrel
      go_wp2
      go_ret
      refine ⟨rfl, ?_, hb0⟩
      unfold Arr
      rw [HG0.out, ← cellsN_list]
      congr 2
      exact cellsN_congr fun i hi => absurd hi (by have := HNZ.out; omega)
  · have hlt : 0 < n := by omega
    have hmin : [Value.string z].length = Nat.min 1 n := by
      show 1 = min 1 n
      omega
    have HMIN := Lib.hid hmin
    have HG0 := Lib.hid hg0
    have hcb : (w.alloc (.cells (cellsN n fun _ => .string ⟨#[]⟩) 9)).cell? ⟨b, 0, none⟩ = some (.string z) := by rw [World.cell?_alloc_past _ _ _ hb]; exact hc
    have HCB := Lib.hid hcb
    clear hg0 hcb hnz hc hmin
    go_enter Tryz.func56, Tryz.ntmps56
    go_wp2_with (first
      | (go_at_call 83; ((with_reducible refine (CM _).out.mono ?_); rintro e w1 ⟨rfl, rfl⟩))
      | (with_reducible refine wpList_copy_splice rfl (.tmp 31) (.tmp 32) 80 80 rfl 9 Tryz.underlying80 hsz (some ⟨w.heap.size, 0, none⟩) (some ⟨b, 0, none⟩) n n 1 1 rfl rfl w.heap.size 0 ((List.range n).map (fillS z 0)) 9 HG0.out [.string z] HMIN.out ?c1 ?c2 ?c3 w.heap.size w hb0 (Nat.le_refl _) ?_
         case c1 =>
           intro _
           refine ⟨rfl, _, rfl, fun j v hj => ?_⟩
           match j, hj with
           | 0, hj => (simp at hj; subst hj; exact HCB.out)
         case c2 => (simp; omega)
         case c3 => (intro v hv; simp at hv; subst hv; rfl)
         intro w2 hg2 hb2))
    have hg2' := hg2.out
    have hsp := splice_fillS z n 0 1 (by omega)
    have e0 : List.replicate 1 (Value.string z) = [.string z] := rfl
    rw [e0] at hsp
    rw [hsp, ← cellsN_list] at hg2'
    have hA2 : Arr w2 w.heap.size 9 n (fillS z 1) := hg2'
    clear hg2 hg2' hsp e0 HG0 HCB hmk CM hb0 HMIN
    go_loopw [8] (fun i wr => ∃ k : Nat, 0 < k ∧ k ≤ n ∧ i = .int .i64 k ∧ Below w.heap.size w wr ∧ Arr wr w.heap.size 9 n (fillS z k)) (fun i _ => n - (intOf i).toNat)
    case atStart => exact ⟨1, by omega, by omega, rfl, hb2, hA2⟩
    case round =>
      obtain ⟨k, hk0, hk, rfl, hbr, hA⟩ := hrel
      have hki : (0 : Int) ≤ (k : Int) := Int.natCast_nonneg _
      by_cases hkl : k < n
      · have hg3 : wr.drew.heap[w.heap.size]? = some (.cells ((List.range n).map (fillS z k)).toArray 9 (0, 0)) := by rw [← cellsN_list]; exact hA
        have hA3 : Arr wr.drew w.heap.size 9 n (fillS z k) := hA
        obtain ⟨d, hd⟩ : ∃ d, Nat.min k (n - k) = d := ⟨_, rfl⟩
        have hd1 : d ≤ k ∧ k + d ≤ n ∧ 0 < d := by have : Nat.min k (n - k) = min k (n - k) := rfl; omega
        have hcs : (List.replicate d (Value.string z)).length = Nat.min k (n - k) := by rw [hd]; simp
        have hbD : Below w.heap.size w wr.drew := hbr.drew
        have hwr1 : IntKind.i64.wrap ((k : Int) + (d : Int)) = (k : Int) + (d : Int) := IntWalk.i64_in _ (by omega)
        have HCS := Lib.hid hcs
        have HD1 := Lib.hid hd1
        have HA3 := Lib.hid hA3
        have HSP := Lib.hid (splice_fillS z n k d (by omega))
        have hk1 : (k : Int) < (n : Int) := by omega
        clear hd1 hA hA2 hA3 hd hcs
        go_wp2
        have hne : ¬ n = k := by omega
        obtain ⟨cs, hcs⟩ : ∃ cs, cs = List.replicate d (Value.string z) := ⟨_, rfl⟩
        have hcl : cs.length = d := by rw [hcs]; simp
        have HCE := Lib.hid hcs
        have HCN : Hid (cs.length = Nat.min k (n - k)) := by rw [hcs]; exact HCS.out
        clear hcs HCS
        go_region_law (refine step_copy_splice rfl (.tmp 41) (.tmp 44) 80 80 rfl 9 Tryz.underlying80 hsz (some ⟨w.heap.size, k, none⟩) (some ⟨w.heap.size, 0, none⟩) (n - k) (n - k) k n ?h1 ?h2 w.heap.size k ((List.range n).map (fillS z k)) 9 hg3 cs HCN.out ?c1 ?c2 ?c3 w.heap.size w hbD (Nat.le_refl _) ?c4
                       case h1 => go_simp
                       case h2 => go_simp
                       case c1 => exact fun _ => ⟨rfl, _, rfl, fun j v hj => copy_srcS HA3.out HD1.out.1 hk (by rw [← HCE.out]; exact hj)⟩
                       case c2 => (simp only [List.length_map, List.length_range, hcl]; exact HD1.out.2.1)
                       case c3 => exact fun v hv => by rw [HCE.out] at hv; rw [List.eq_of_mem_replicate hv]; rfl
                       intro w4 hg4 hb4)
        have hg4' := hg4.out
        rw [HCE.out, HSP.out, ← cellsN_list] at hg4'
        have hA4 : Arr w4 w.heap.size 9 n (fillS z (k + d)) := hg4'
        clear hg4 hg4' hg3
        simp only [List.getElem_toArray, List.getElem_cons_succ, List.getElem_cons_zero, Act.put, List.setIfInBounds_toArray, List.set_cons_succ, List.set_cons_zero]
        go_wp2
        go_roundw
        case rel => exact ⟨k + d, by omega, HD1.out.2.1, by go_num, hb4, hA4⟩
        case measure => have := HD1.out; simp [intOf]; omega
      · obtain rfl : n = k := by omega
        clear hkl hk hki hlt hA2
        have hfin : Arr wr w.heap.size 9 n (fun _ => .string z) := hA.congr fun i hi => by simp [fillS, hi]
        go_wp2
        go_ret
        exact ⟨rfl, hfin, hbr⟩

end Go.Proofs.YtdacjnmfmhkpiaaGreatDoor

/- Walk: Format. -/
namespace Go.Proofs.YtdacjnmfmhkpiaaGreatDoor
open Go.ChangeShapes Go.WideShapes Go.ChangeAt Go.RowKit

def strV (l : List UInt8) : Value := .string ⟨l.toArray⟩
/-- The words of a code's text, and the text. -/
def gWords (vss : List (List Vis)) (s : List Int) (lp : Nat) : List (List UInt8) := vss.map (lTxt s) ++ List.replicate lp [42]
def gTxt (vss : List (List Vis)) (s : List Int) (lp : Int) : List UInt8 := Lib.join (gWords vss s lp.toNat) [32]

theorem joinTail_len (sep : List UInt8) (r : List (List UInt8)) : (Lib.joinTail sep r).length = (r.map (fun x => x.length + sep.length)).sum := by
  induction r with
  | nil => rfl
  | cons x r ih =>
    unfold Lib.joinTail at ih ⊢
    simp only [List.map_cons, List.flatten_cons, List.length_append, List.sum_cons, ih]
    omega
theorem join_len (xs : List (List UInt8)) : (Lib.join xs [32]).length ≤ (xs.map (fun x => x.length + 1)).sum := by
  cases xs with
  | nil => simp [Lib.join_nil]
  | cons x r =>
    rw [Lib.join_cons, List.length_append, joinTail_len]
    simp only [List.map_cons, List.sum_cons, List.length_cons, List.length_nil, Nat.zero_add]
    omega
theorem lTxt_len (s : List Int) (l : List Vis) (h : ∀ v ∈ l, v.1.toNat + 1 < 100) : (lTxt s l).length ≤ 4 * l.length := by
  induction l with
  | nil => simp [lTxt]
  | cons v l ih =>
    have h1 := vTxt_len s v (h v (by simp))
    have h2 := ih fun u hu => h u (by simp [hu])
    unfold lTxt at h2 ⊢
    rw [List.flatMap_cons, List.length_append, List.length_cons]
    omega
theorem gTxt_len {vss : List (List Vis)} {s : List Int} {lp : Int} (hv : gvalB vss s lp = true) : (gTxt vss s lp).length ≤ 2000 := by
  unfold gvalB at hv
  simp only [Bool.and_eq_true] at hv
  obtain ⟨⟨h1, _⟩, h3⟩ := hv
  have h64 := glimB_out h1
  obtain ⟨q1, q3, q2⟩ := (visB_iff _ _).1 h3
  have hlf := len_flat q1
  unfold gTxt
  refine Nat.le_trans (join_len _) ?_
  unfold gWords
  rw [List.map_append, List.sum_append]
  have e1 : ∀ xss : List (List Vis), (∀ v ∈ xss.flatten, v.1.toNat + 1 < 100) → ((xss.map (lTxt s)).map (fun x => x.length + 1)).sum ≤ 4 * xss.flatten.length + xss.length := by
    intro xss
    induction xss with
    | nil => intro _; simp
    | cons l xss ih =>
      intro h
      have h2 := ih fun v hv => h v (by simp only [List.flatten_cons, List.mem_append]; exact .inr hv)
      have h3 := lTxt_len s l fun v hv => h v (by simp only [List.flatten_cons, List.mem_append]; exact .inl hv)
      simp only [List.map_cons, List.sum_cons, List.flatten_cons, List.length_append, List.length_cons]
      omega
  have e2 : ∀ n : Nat, ((List.replicate n [(42 : UInt8)]).map (fun x => x.length + 1)).sum = 2 * n := by
    intro n
    induction n with
    | zero => rfl
    | succ n ih => rw [List.replicate_succ, List.map_cons, List.sum_cons, ih]; simp; omega
  have e3 := e1 vss fun v hv => by have := q3.2 v hv; omega
  rw [e2]
  omega

/-- strings.Join of a row of strings of the call's own. -/
theorem join_own {w : World} {B : Nat} {v : Value} {xs : List (List UInt8)} (h : ownRow w B 9 v (xs.map strV)) (hlen : (Lib.join xs [32]).length ≤ 1000000) (hx : xs.length ≤ 1000000) :
    Calls Tryz.prog 57 #[v, .string ⟨#[32]⟩] w fun e w' => e = .returned (.string ⟨(Lib.join xs [32]).toArray⟩) ∧ Below w.heap.size w w' := by
  rcases id h.2 with ⟨h1, h2⟩ | ⟨g, cap, cur, h1, hg, hh, hcap, _⟩
  · have hn : xs = [] := by simpa using h2
    subst hn; subst h1
    refine (Tryz.strings_Join_none none 0 ⟨#[32]⟩ w).mono ?_
    rintro e w' ⟨rfl, rfl⟩
    exact ⟨rfl, Below.refl _ _⟩
  · subst h1
    have hl : (xs.map strV).length = xs.length := List.length_map _
    have hcells : ∀ (j : Nat) x, (xs.map fun x => (⟨x.toArray⟩ : ByteArray))[j]? = some x → w.cell? ⟨g, 0 + j, none⟩ = some (.string x) := by
      intro j x hj
      obtain ⟨hj1, hj2⟩ := List.getElem?_eq_some_iff.1 hj
      have hj3 : j < xs.length := by simpa using hj1
      have h2 := World.ownsRow.cellAt (g := g) (cap := cap) h j (by rw [hl]; omega)
      rw [Nat.zero_add, h2]
      have e1 : x = ⟨xs[j].toArray⟩ := by rw [← hj2]; simp
      rw [e1]
      simp [hj3, strV]
    have hm : ((xs.map fun x => (⟨x.toArray⟩ : ByteArray)).map (·.data.toList)) = xs := by
      rw [List.map_map]
      exact (List.map_congr_left fun a _ => rfl).trans (List.map_id xs)
    have hlm : (xs.map fun x => (⟨x.toArray⟩ : ByteArray)).length = xs.length := by simp
    have := Tryz.strings_Join g 0 cap (xs.map fun x => (⟨x.toArray⟩ : ByteArray)) ⟨#[32]⟩ w hcells (World.ownsRow.lt h g rfl).2 (by omega) (by rw [hlm, ← hl]; exact hcap) (by rw [hm]; exact Nat.le_trans hlen (by omega))
    rw [hm, hlm] at this
    rw [hl]
    exact this

theorem Tryz.infoStrW : (Tryz.prog.info? 9).map (fun i => (i.zero, i.size, i.bytes)) = some (some (.string ⟨#[]⟩), 1, 16) := Tryz.infoStr
/-- The words of the first k sequences. -/
def wTo (vss : List (List Vis)) (s : List Int) (k : Nat) : List Value := ((vss.take k).map (lTxt s)).map strV
theorem wTo_len {vss : List (List Vis)} {s : List Int} {k : Nat} (h : k ≤ vss.length) : (wTo vss s k).length = k := by
  unfold wTo; simp only [List.length_map, List.length_take]; omega
theorem wTo_succ {vss : List (List Vis)} {s : List Int} {k : Nat} (h : k < vss.length) : wTo vss s (k + 1) = wTo vss s k ++ [strV (lTxt s (vss.getD k []))] := by
  unfold wTo
  rw [take_succ_getD vss [] k h, List.map_append, List.map_append]; rfl

theorem own_words {w : World} {B : Nat} {v : Value} {n m : Nat} {vss : List (List Vis)} {s : List Int} (h : w.ownsRow B 9 1 v (n + m) (wTo vss s vss.length ++ List.replicate m (strV [42]))) : ownRow w B 9 v ((gWords vss s m).map strV) := by
  have e : (gWords vss s m).map strV = wTo vss s vss.length ++ List.replicate m (strV [42]) := by
    unfold gWords wTo
    rw [List.map_append, List.map_replicate, List.take_length]
  rw [e]
  have := h.1
  rw [Nat.mul_one] at this
  unfold ownRow
  rw [this]
  exact h

set_option maxHeartbeats 3200000 in
set_option maxRecDepth 100000 in
theorem gFormat_yes (C S : Option Addr) (nc cc ns cs : Nat) (lp : Int) (vss : List (List Vis)) (s : List Int) (w : World) (hC : RVV w C nc vss) (hS : RI w S ns s) (hv : gvalB vss s lp = true) :
    Calls Tryz.prog 29 #[dval C nc cc S ns cs lp] w fun e w' => e = .returned (.tuple #[.string ⟨(gTxt vss s lp).toArray⟩, .int .i64 0]) ∧ Below w.heap.size w w' := by
  have hd := DB.newT w C nc cc S ns cs lp 28
  obtain ⟨d0, d1, d2, dlt⟩ := hd
  have hb0 := below_alloc w (cbox C nc cc S ns cs lp)
  have hsz : (w.alloc (cbox C nc cc S ns cs lp)).heap.size = w.heap.size + 1 := by simp
  have hgl := gTxt_len hv
  have hv0 := hv
  unfold gvalB at hv0
  simp only [Bool.and_eq_true] at hv0
  obtain ⟨⟨h1, _⟩, h3⟩ := hv0
  have h64 := glimB_out h1
  obtain ⟨q1, q3, q2⟩ := (visB_iff _ _).1 h3
  have hlf := len_flat q1
  have hin := visB_inR h3
  have hls := hS.1
  have hlc := hC.1
  rw [hls] at hin h64 q2
  have hrl : ∀ j, (vss.getD j []).length ≤ 1000 := fun j => by have := row_flat (vss := vss) j; omega
  have hnc : nc ≤ 1000 := by omega
  have hns : ns ≤ 64 := h64.1
  have hvd : ∀ w1 : World, Below w.heap.size w w1 → Hid (Calls Tryz.prog 21 #[dval C nc cc S ns cs lp] w1 fun e w' => e = .returned (.bool true) ∧ Below w1.heap.size w1 w') := fun w1 hb => by
    have := gvalid_any C S nc cc ns cs lp vss s w1 (hC.keep hb) (hS.keep hb) (by omega) (by omega) (by omega)
    rw [hv] at this; exact this
  obtain ⟨m, rfl⟩ := Int.eq_ofNat_of_zero_le h64.2.1
  have hm : m ≤ 64 := by omega
  have hgt : gTxt vss s (m : Nat) = Lib.join (gWords vss s m) [32] := by unfold gTxt; rw [Int.toNat_natCast]
  rw [hgt] at hgl ⊢
  clear hgt
  have HGL := Lib.hid hgl
  have HIN := Lib.hid hin
  have HRL := Lib.hid hrl
  have HC := Lib.hid hC
  have HS := Lib.hid hS
  have HLC := Lib.hid hlc
  clear hgl hin hrl hC hS h1 h3 h64 q1 q2 q3 hlf hls hlc hv
  go_enter Tryz.func29, Tryz.ntmps29
  go_upto_region 1 with fail
  obtain ⟨B0, hB0⟩ : ∃ B0, w.heap.size + 1 = B0 := ⟨_, rfl⟩
  rw [hB0] at hsz
  generalize w.alloc (cbox C nc cc S ns cs (m : Nat)) = wA at *
  have hwB : w.heap.size < B0 := by omega
  clear hB0
  go_wp2_with (go_at_call 21; ((with_reducible refine (hvd _ hb0).out.mono ?_); rintro e w1 ⟨rfl, hb1⟩; have hc0 := (hb1.cell (p := ⟨w.heap.size, 0, none⟩) dlt).trans d0))
  rw [hsz] at hb1
  have hv00 : ownRow w1 B0 9 (.slice none 0 0) (wTo vss s 0) := World.ownsRow_nil w1 B0 _ _
  clear hvd
  go_loopw [4, 6, 13] (fun v _ i wr => ∃ k : Nat, k ≤ nc ∧ i = .int .i64 k ∧ Below B0 wA wr ∧ ownRow wr B0 9 v (wTo vss s k)) (fun _ _ i _ => nc - (intOf i).toNat)
  case atStart => exact ⟨0, by omega, rfl, hb1, hv00⟩
  case round =>
    obtain ⟨k, hk, rfl, hbr, hrow⟩ := hrel
    have hk0 : (0 : Int) ≤ (k : Int) := Int.natCast_nonneg _
    have hbr' : Below wA.heap.size wA wr := by rw [hsz]; exact hbr
    have hbw := below_step hb0 hbr'
    have hsr : B0 ≤ wr.heap.size := by have := hbr.size; omega
    by_cases hlt : k < nc
    · obtain ⟨bC, oC, hCe, hbC, hcc⟩ := HC.out.2 (by omega)
      subst hCe
      obtain ⟨A1, n1, c1, hcel0, hrv⟩ := hcc k hlt
      have hcel := (hbw.cell (p := ⟨bC, oC + k, none⟩) hbC).trans hcel0
      have k0 := (hbr'.cell (p := ⟨w.heap.size, 1, none⟩) dlt).trans d1
      have hk1 : (k : Int) < (nc : Int) := by omega
      have hkl : k < vss.length := by rw [HLC.out]; exact hlt
      have hln := hrv.1
      have hl1 := HRL.out k
      have hin1 : ∀ i, i < n1 → 0 ≤ ((vss.getD k []).getD i v0).1 ∧ ((vss.getD k []).getD i v0).1 < ns := fun i hi => HIN.out k i hkl (by rw [hln]; exact hi)
      have HSUC := Lib.hid (wTo_succ (s := s) hkl)
      have HWL := Lib.hid (wTo_len (s := s) (Nat.le_of_lt hkl))
      obtain ⟨l, hl⟩ : ∃ l, vss.getD k [] = l := ⟨_, rfl⟩
      rw [hl] at hrv hln hl1 HSUC
      simp only [hl] at hin1
      have CT : ∀ W : World, Below w.heap.size w W → Hid (Calls Tryz.prog 55 #[.slice A1 n1 c1, .slice S ns cs] W fun e w' => e = .returned (.string ⟨(lTxt s l).toArray⟩) ∧ Below W.heap.size W w') := fun W hb => textOf_any A1 S n1 c1 ns cs l s W (hrv.keep hb) (HS.out.keep hb) hns (by omega) hin1
      have HROW := Lib.hid hrow
      clear hcc hrv hl hin1 hln hrow hcel0
      go_wp2_with (first
        | (at_builtin; refine wpList_append_row1 rfl (.tmp 17) (.tmp 22) 80 9 (.string ⟨#[]⟩) 16 rfl Tryz.underlying80 Tryz.infoStr rfl (by omega) B0 _ (wTo vss s k) rfl (hown2 _) w2.heap.size (strV (lTxt s l)) rfl (by rw [World.cell?_alloc_at _ _ _ _ rfl]; rfl) rfl (by rw [HWL.out]; omega) (by have := hb2.size; simp; omega) ?_; intro A3 c3 w3 hrow3 hg3)
        | (go_at_call 55; ((with_reducible refine (CT _ hbw).out.mono ?_); rintro e w2 ⟨rfl, hb2⟩; have hown2 : ∀ o, ownRow (w2.alloc o) B0 9 _ (wTo vss s k) := (fun o => World.ownsRow.alloc (HROW.out.keep hb2) o))))
      have hb4 : Below B0 wA w3 := (((hbr.trans (hb2.mono hsr)).alloc (by have := hb2.size; omega) _).grown hg3 (by have := hb2.size; simp; omega) (fun k hk => (World.ownsRow.lt HROW.out k hk).1))
      rw [← HSUC.out] at hrow3
      have HR3 := Lib.hid hrow3
      clear hrow3 hg3 hown2
      go_roundw
      case rel => exact ⟨k + 1, by omega, by go_num, hb4, HR3.out⟩
      case measure => simp [intOf]; omega
    · obtain rfl : k = nc := by omega
      have hkl : k = vss.length := HLC.out.symm
      have k2 := ((below_step hbr' (below_alloc wr (.cells #[.string ⟨#[42]⟩] 9))).cell (p := ⟨w.heap.size, 2, none⟩) dlt).trans d2
      have HRP := Lib.hid (repeatS_any wr.heap.size m ⟨#[42]⟩ (wr.alloc (.cells #[.string ⟨#[42]⟩] 9)) (by simp) (by rw [World.cell?_alloc_at _ _ _ _ rfl]; rfl) (by omega))
      have HX1 : Hid ((wr.alloc (.cells #[.string ⟨#[42]⟩] 9)).heap.size = wr.heap.size + 1) := Lib.hid (by simp)
      rw [hkl] at hrow
      have hwl := wTo_len (vss := vss) (s := s) (Nat.le_refl _)
      have HROW := Lib.hid hrow
      have HWL := Lib.hid hwl
      obtain ⟨i0, hi, hz0, hz1, hz2⟩ := info_parts Tryz.infoStr
      have hnv : vss.length ≤ 1000 := by omega
      have hgw : (gWords vss s m).length ≤ 1000000 := by unfold gWords; rw [List.length_append, List.length_map, List.length_replicate]; omega
      clear hrow hwl hlt hk hk0 hkl
      go_wp2_with (first
        | (at_builtin; refine wpList_append_own _ rfl (.tmp 25) (.tmp 29) 80 rfl B0 9 i0 (.string ⟨#[]⟩) 1 16 Tryz.underlying80 hi hz0 hz1 hz2 rfl (by decide) _ _ (wTo vss s vss.length) rfl hown5 _ m m (List.replicate m (strV [42])) rfl (by simp) ?c1 ?c2 ?c3 ?c4 ?c5 ?_
           case c1 =>
             (intro j u hj
              have hjm : j < m := by
                have := (List.getElem?_eq_some_iff.1 hj).1
                simpa using this
              have hu : u = strV [42] := List.eq_of_mem_replicate (List.mem_of_getElem? hj)
              rw [hu, add_plain, Nat.zero_add]
              have h5 := hA5.cell j hjm
              rw [HX1.out] at h5
              exact h5)
           case c2 => (intro u hu; rw [List.eq_of_mem_replicate hu]; rfl)
           case c3 => (have := HWL.out; unfold maxLen; omega)
           case c4 => (have := HWL.out; omega)
           case c5 => (have := hb5.size; simp at this; omega)
           intro v6 w6 hrow6 hg6 _
           have hb6 : Below B0 wA w6 := (((hbr.alloc hsr _).trans (hb5.mono (by simp; omega))).grown hg6 (by have := hb5.size; simp at this; omega) (fun k hk => ((World.ownsRow.lt hown5) k hk).1))
           have hrw := own_words hrow6)
        | (go_at_call 56; ((with_reducible refine HRP.out.mono ?_); rintro e w5 ⟨rfl, hA5, hb5⟩; have hown5 := ownRow.keep (World.ownsRow.alloc HROW.out _) hb5))
        | (go_at_call 57; ((with_reducible refine (join_own hrw (by have := HGL.out; omega) hgw).mono ?_); rintro e w7 ⟨rfl, hb7⟩)))
      go_ret2
      exact ⟨rfl, below_step hb0 (by rw [hsz]; exact hb6.trans (hb7.mono (by have := hb6.size; omega)))⟩

theorem gFormat_any (C S : Option Addr) (nc cc ns cs : Nat) (lp : Int) (vss : List (List Vis)) (s : List Int) (w : World) (hC : RVV w C nc vss) (hS : RI w S ns s) (hns : ns ≤ 1000000) (hnc : nc ≤ 1000000) (hfl : vss.flatten.length ≤ 1000000) :
    Calls Tryz.prog 29 #[dval C nc cc S ns cs lp] w fun e w' => e = .returned (if gvalB vss s lp = true then .tuple #[.string ⟨(gTxt vss s lp).toArray⟩, .int .i64 0] else .tuple #[.string ⟨#[]⟩, .int .i64 1]) ∧ Below w.heap.size w w' := by
  cases h1 : gvalB vss s lp with
  | true =>
    simp only [if_true]
    exact gFormat_yes C S nc cc ns cs lp vss s w hC hS h1
  | false =>
    have hb0 := below_alloc w (cbox C nc cc S ns cs lp)
    obtain ⟨d0, d1, d2, dlt⟩ := DB.newT w C nc cc S ns cs lp 28
    have HC1 : ∀ w1 : World, Below w.heap.size w w1 → Hid (Calls Tryz.prog 21 #[dval C nc cc S ns cs lp] w1 fun e w' => e = .returned (.bool (gvalB vss s lp)) ∧ Below w1.heap.size w1 w') :=
      fun w1 hb => gvalid_any C S nc cc ns cs lp vss s w1 (hC.keep hb) (hS.keep hb) hns hnc hfl
    rw [h1] at HC1
    simp only [Bool.false_eq_true, if_false]
    clear h1 hC hS
    go_enter Tryz.func29, Tryz.ntmps29
    go_wp2_with (go_at_call 21; ((with_reducible refine (HC1 _ hb0).out.mono ?_); rintro e w1 ⟨rfl, hb1⟩))
    go_ret2
    exact ⟨rfl, below_step hb0 hb1⟩

end Go.Proofs.YtdacjnmfmhkpiaaGreatDoor
