import Derived.Test.YtkfjledhnakfoaaA02
import Derived.Deep.LoopGhost
import Derived.Deep.WholeRow
/- Walk: spherical. -/
namespace Go.Proofs.Ytkfjledhnakfoaa
open Go.RowKit

theorem turnI_face (x : Nat) : turnI (x : Int) (-1) = (trn x 3 : Nat) := by
  have e : (-1 : Int).tmod 4 = -1 := rfl
  unfold turnI trn; rw [if_neg (by omega), e]; omega
theorem turnI_opp (x : Nat) : turnI (x : Int) 2 = (trn x 2 : Nat) := by
  have e : (2 : Int).tmod 4 = 2 := rfl
  unfold turnI trn; rw [if_neg (by omega), e]; omega
/-- The next half-edge of a face, of a strand. -/
def ff (m : Nat → Nat) : Nat → Nat := fun h => trn (m h) 3
def fs (m : Nat → Nat) : Nat → Nat := fun h => trn (m h) 2

theorem nextface_nat (A B : Option Addr) (ns cs nm cm : Nat) (lp : Int) (mate : List Int) (m : Nat → Nat) (h : Nat) (w : World) (hs : RI w B nm mate) (hh : h < nm) (hmm : Mates mate nm m) (hnm : nm ≤ 256) (x : Int) (hx : x = (h : Nat)) :
    Calls Try.prog 105 #[dval A ns cs B nm cm lp, .int .i64 x] w fun e w' => e = .returned (.int .i64 (ff m h : Nat)) ∧ Below w.heap.size w w' := by
  subst hx
  obtain ⟨h1, h2⟩ := hmm h hh
  have e : mt mate h = (m h : Int) := h1
  have := nextface_any A B ns cs nm cm lp mate h w hs hh (by omega) (by omega) (by omega)
  rw [e, turnI_face] at this
  exact this
theorem nextstrand_nat (A B : Option Addr) (ns cs nm cm : Nat) (lp : Int) (mate : List Int) (m : Nat → Nat) (h : Nat) (w : World) (hs : RI w B nm mate) (hh : h < nm) (hmm : Mates mate nm m) (hnm : nm ≤ 256) (x : Int) (hx : x = (h : Nat)) :
    Calls Try.prog 75 #[dval A ns cs B nm cm lp, .int .i64 x] w fun e w' => e = .returned (.int .i64 (fs m h : Nat)) ∧ Below w.heap.size w w' := by
  subst hx
  obtain ⟨h1, h2⟩ := hmm h hh
  have e : mt mate h = (m h : Int) := h1
  have := nextstrand_any A B ns cs nm cm lp mate h w hs hh (by omega) (by omega) (by omega)
  rw [e, turnI_opp] at this
  exact this


/-- Block g tells which half-edges are on the cycle of a number below k. -/
def Seen (f : Nat → Nat) (nm k : Nat) (g : Nat) (w : World) : Prop := ∃ S : Nat → Bool, Arr w g 91 256 (bv S) ∧ ∀ x, x < nm → (S x = true ↔ ∃ h, h < k ∧ Orb f h x)
/-- And those that the first i steps from k reach. -/
def Seen2 (f : Nat → Nat) (nm k i : Nat) (g : Nat) (w : World) : Prop := ∃ S : Nat → Bool, Arr w g 91 256 (bv S) ∧ ∀ x, x < nm → (S x = true ↔ (∃ h, h < k ∧ Orb f h x) ∨ ∃ j, j < i ∧ it f j k = x)
theorem Seen2.full {f : Nat → Nat} {nm k g : Nat} {w : World} (p : Perm f nm) (hk : k < nm) (h : Seen2 f nm k (per f nm k) g w) : Seen f nm (k + 1) g w := by
  obtain ⟨S, hA, hS⟩ := h
  refine ⟨S, hA, fun x hx => (hS x hx).trans ⟨?_, ?_⟩⟩
  · rintro (⟨h, h1, h2⟩ | ⟨j, _, e⟩)
    · exact ⟨h, by omega, h2⟩
    · exact ⟨k, by omega, j, e⟩
  · rintro ⟨h, h1, h2⟩
    by_cases e : h = k
    · subst e; exact .inr (p.orb_lt hk h2)
    · exact .inl ⟨h, by omega, h2⟩
theorem Seen.skip {f : Nat → Nat} {nm k g : Nat} {w : World} {S : Nat → Bool} (hk : k < nm) (hA : Arr w g 91 256 (bv S)) (hS : ∀ x, x < nm → (S x = true ↔ ∃ h, h < k ∧ Orb f h x)) (hold : S k = true) : Seen f nm (k + 1) g w := by
  refine ⟨S, hA, fun x hx => (hS x hx).trans ⟨?_, ?_⟩⟩
  · rintro ⟨h, h1, h2⟩; exact ⟨h, by omega, h2⟩
  · rintro ⟨h, h1, h2⟩
    by_cases e : h = k
    · subst e
      obtain ⟨h', h3, h4⟩ := (hS h hk).1 hold
      exact ⟨h', h3, h4.trans h2⟩
    · exact ⟨h, by omega, h2⟩
theorem fst_of_seen {f : Nat → Nat} {nm k : Nat} (p : Perm f nm) {S : Nat → Bool} (hk : k < nm) (hS : ∀ x, x < nm → (S x = true ↔ ∃ h, h < k ∧ Orb f h x)) : fst f nm k = !S k := by
  cases h : S k with
  | true =>
    obtain ⟨h', h3, h4⟩ := (hS k hk).1 h
    cases e : fst f nm k with
    | false => rfl
    | true => exact absurd h4 ((p.fst_iff hk).1 e h' h3)
  | false =>
    refine (p.fst_iff hk).2 fun h' hlt o => ?_
    rw [(hS k hk).2 ⟨h', hlt, o⟩] at h; cases h
/-- The surplus: block g counts the faces of each component that begin below k. -/
def CntF (F f : Nat → Nat) (nm k : Nat) (g : Nat) (w : World) : Prop := Arr w g 74 64 (zv fun l => (cntF F f nm k l : Nat))
theorem cntF_le (F f : Nat → Nat) (N k l : Nat) : cntF F f N k l ≤ k := by
  unfold cntF; exact Nat.le_trans List.countP_le_length (by simp)
theorem cntV_le (F : Nat → Nat) (k l : Nat) : cntV F k l ≤ k := by
  unfold cntV; exact Nat.le_trans List.countP_le_length (by simp)

set_option maxHeartbeats 3200000 in
set_option maxRecDepth 100000 in
theorem sph_r (r : Bool) (A B : Option Addr) (ns cs nm cm : Nat) (lp : Int) (mate : List Int) (m : Nat → Nat) (w : World) (hm : RI w B nm mate) (hns : ns ≤ 64) (hnm : nm = 4 * ns) (hmm : Mates mate nm m) (hin : Invol m nm) (hr : r = sphB (ufLab m nm) (ff m) nm ns) :
    Calls Try.prog 65 #[dval A ns cs B nm cm lp] w fun e w' => e = .returned (.bool r) ∧ Below w.heap.size w w' := by
  have HNM := Lib.hid hnm
  have HR := Lib.hid hr
  clear hnm hr
  have hd := DB.new w A ns cs B nm cm lp
  obtain ⟨d0, d1, d2, dlt⟩ := hd
  have HC := Lib.hid (uf_any A B ns cs nm cm lp [] mate m (w.alloc (dbox A ns cs B nm cm lp)) (hm.alloc _) hns HNM.out hmm)
  have hzv := fal256_run
  have hzn := fal256_ne
  go_enter Try.func65, Try.ntmps65
  go_upto_region 4 with (first | (refine wpList_store_row rfl 74 (.tmp 3) (.tmp 11) rfl w1.heap.size 74 _ (cellsN 64 (iv (cutN ns (ufLab m nm)))) rfl rfl (heap_alloc_new w1 _) (by rw [cellsN_size]; exact Try.size56) (by rw [cellsN_size]; rfl) (cellsN_one _ _ fun _ => rfl) ?_) | (go_at_call 76; ((with_reducible refine HC.out.mono ?_); rintro e w1 ⟨rfl, hb1⟩; have hc0 := (hb1.cell (p := ⟨w.heap.size, 0, none⟩) dlt).trans d0; have hc1 := (hb1.cell (p := ⟨w.heap.size, 1, none⟩) dlt).trans d1; have hc2 := (hb1.cell (p := ⟨w.heap.size, 2, none⟩) dlt).trans d2)))
  rw [zeros64]
  try rw [fal256_eq]
  rw [fal256_def, World.setRow_alloc_new]
  clear hzv hzn
  have hbw1 : Below w.heap.size w w1 := below_step (below_alloc _ _) hb1
  have hsz1 : w.heap.size < w1.heap.size := by have := hb1.size; simp at this; omega
  generalize hwA : ((w1.alloc (.cells (cellsN 64 (iv (cutN ns (ufLab m nm)))) 74)).alloc (.cells (cellsN 64 (iv fun _ => 0)) 74)).alloc (.cells (cellsN 256 (bv fun _ => false)) 91) = wA
  have hd : DB wA w.heap.size A ns cs B nm cm lp := by
    have h0 : DB w1 w.heap.size A ns cs B nm cm lp := ⟨hc0, hc1, hc2, hsz1⟩
    rw [← hwA]; exact ((h0.keep (below_alloc _ _)).keep (below_alloc _ _)).keep (below_alloc _ _)
  obtain ⟨g3, hg3⟩ : ∃ g3, w1.heap.size = g3 := ⟨_, rfl⟩
  obtain ⟨g4, hg4⟩ : ∃ g4, w1.heap.size + 1 = g4 := ⟨_, rfl⟩
  obtain ⟨g5, hg5⟩ : ∃ g5, w1.heap.size + 2 = g5 := ⟨_, rfl⟩
  have ha3 : Arr wA g3 74 64 (iv (cutN ns (ufLab m nm))) := by
    rw [← hwA, ← hg3]; exact ((Arr.new w1 _ _ _).alloc _).alloc _
  have ha4 : Arr wA g4 74 64 (iv fun _ => 0) := by
    rw [← hwA, ← hg4]
    have := (Arr.new (w1.alloc (.cells (cellsN 64 (iv (cutN ns (ufLab m nm)))) 74)) 64 74 (iv fun _ => 0)).alloc (.cells (cellsN 256 (bv fun _ => false)) 91)
    simpa using this
  have ha5 : Arr wA g5 91 256 (bv fun _ => false) := by
    rw [← hwA, ← hg5]
    have := Arr.new ((w1.alloc (.cells (cellsN 64 (iv (cutN ns (ufLab m nm)))) 74)).alloc (.cells (cellsN 64 (iv fun _ => 0)) 74)) 256 91 (bv fun _ => false)
    simpa using this
  have hb0 : Below w.heap.size w wA := by
    rw [← hwA]; exact hbw1.trans (((below_step (below_step (below_alloc w1 _) (below_alloc _ _)) (below_alloc _ _))).mono hbw1.size)
  have e5 : g4 + 1 = g5 := by omega
  rw [hg4, e5, hg3]
  have h03 : w.heap.size < g3 := by omega
  have h34 : g3 < g4 := by omega
  have h45 : g4 < g5 := by omega
  clear hwA hg3 hg4 hg5 e5 hc0 hc1 hc2 hb1 hbw1 hsz1 HC d0 d1 d2 dlt
  obtain ⟨d0, d1, d2, dlt⟩ := hd
  have HP := Lib.hid (show Perm (ff m) nm from by have := HNM.out; subst this; exact hin.perm 3)
  have hnm256 : nm ≤ 256 := by have := HNM.out; omega
  have hF : ∀ c, c < 64 → cutN ns (ufLab m nm) c < 64 := fun c hc => by
    have := cutN_le ns (ufLab m nm) (fun i => root_le _ i) c; omega
  generalize hFF : cutN ns (ufLab m nm) = F at *
  have HFF := Lib.hid hFF
  have HF := Lib.hid hF
  clear hFF hF hin
  have hst : Seen (ff m) nm 0 g5 wA := ⟨_, ha5, fun x _ => ⟨fun h => Bool.noConfusion h, fun ⟨_, h, _⟩ => absurd h (by omega)⟩⟩
  have hct : CntF F (ff m) nm 0 g4 wA := ha4
  go_wp2
  go_loopw [6, 7, 15] (fun _ _ i wr => ∃ k : Nat, k ≤ nm ∧ i = .int .i64 k ∧ Below g4 wA wr ∧ CntF F (ff m) nm k g4 wr ∧ Seen (ff m) nm k g5 wr) (fun _ _ i _ => nm - (intOf i).toNat)
  case atStart => exact ⟨0, by omega, rfl, Below.refl _ _, hct, hst⟩
  case round =>
    obtain ⟨k, hk, rfl, hbr, hcr, hsr⟩ := hrel
    have d0' := (hbr.cell (p := ⟨w.heap.size, 0, none⟩) (by show w.heap.size < g4; omega)).trans d0
    have d1' := (hbr.cell (p := ⟨w.heap.size, 1, none⟩) (by show w.heap.size < g4; omega)).trans d1
    have d2' := (hbr.cell (p := ⟨w.heap.size, 2, none⟩) (by show w.heap.size < g4; omega)).trans d2
    by_cases hlt : k < nm
    · obtain ⟨S, hA, hS⟩ := hsr
      have hk0 : (0 : Int) ≤ (k : Int) := Int.natCast_nonneg _
      have hk1 : (k : Int) < 256 := by omega
      have hcS : wr.cell? ⟨g5, k, none⟩ = some (.bool (S k)) := hA.cell k (by omega)
      cases hSk : S k with
      | true =>
        have hcn : CntF F (ff m) nm (k + 1) g4 wr := Arr.congr hcr fun l hl => by
          simp only [zv, cntF_succ, fst_of_seen HP.out hlt hS, hSk]; simp
        have hsn := Seen.skip hlt hA hS hSk
        rw [hSk] at hcS
        clear hS hA hSk hcr
        go_wp2
        refine wp_loop_rounds 1 ?_
        rw [rounds_succ]
        go_wp2
        go_roundw
        case rel => exact ⟨k + 1, by omega, by go_num, hbr, hcn, hsn⟩
        case measure => simp [intOf]; omega
      | false =>
        have hl64 := HF.out (k / 4) (by omega)
        have hcn : Arr (wr.setCell ⟨g4, F (k / 4), none⟩ (.int .i64 ((cntF F (ff m) nm k (F (k / 4)) : Nat) + 1 : Int))) g4 74 64 (zv fun l => (cntF F (ff m) nm (k + 1) l : Nat)) :=
          (Arr.setz hcr _ _).congr fun l hl => by
            simp only [zv, cntF_succ, fst_of_seen HP.out hlt hS, hSk]
            by_cases e : l = F (k / 4)
            · subst e; simp
            · simp [e, Ne.symm e]
        have hcu : wr.cell? ⟨g4, F (k / 4), none⟩ = some (.int .i64 (cntF F (ff m) nm k (F (k / 4)) : Nat)) := Arr.cell hcr _ hl64
        have hfu := Arr.frozen hcr (F (k / 4))
        have hcl : wr.cell? ⟨g3, k / 4, none⟩ = some (.int .i64 (F (k / 4) : Nat)) := (ha3.below hbr h34).cell (k / 4) (by omega)
        have hule := cntF_le F (ff m) nm k (F (k / 4))
        have hSk2 : ∀ i, i < per (ff m) nm k → ¬ ∃ h, h < k ∧ Orb (ff m) h (it (ff m) i k) := by
          rintro i _ ⟨h, h1, h2⟩
          have : S k = true := (hS k hlt).2 ⟨h, h1, h2.trans (HP.out.orb_symm hlt ⟨i, rfl⟩)⟩
          rw [hSk] at this; cases this
        have hs2 : Seen2 (ff m) nm k 0 g5 (wr.setCell ⟨g4, F (k / 4), none⟩ (.int .i64 ((cntF F (ff m) nm k (F (k / 4)) : Nat) + 1 : Int))) :=
          ⟨S, hA.far (p := ⟨g4, F (k / 4), none⟩) (by show g5 ≠ g4; omega) _, fun x hx => (hS x hx).trans ⟨.inl, fun h => h.elim id fun ⟨j, hj, _⟩ => absurd hj (by omega)⟩⟩
        rw [hSk] at hcS
        have HS2 := Lib.hid hSk2
        have HZ := Lib.hid hs2
        have HN := Lib.hid hcn
        clear hSk2 hs2 hcn hS hA hSk hcr
        generalize cntF F (ff m) nm k (F (k / 4)) = u at *
        generalize hle : F (k / 4) = l at *
        have HL := Lib.hid hle
        clear hle
        have hl0 : (0 : Int) ≤ (l : Int) := Int.natCast_nonneg _
        have hl1 : (l : Int) < 64 := by omega
        have hu0 : (0 : Int) ≤ (u : Int) := Int.natCast_nonneg _
        have hw1 : IntKind.i64.wrap ((k : Int) / 4) = (k : Int) / 4 := IntWalk.i64_in _ (by omega)
        go_wp2
        have hbs : Below g4 wA (wr.setCell ⟨g4, l, none⟩ (.int .i64 ((u : Int) + 1))) := below_set hbr (Nat.le_refl _) _
        obtain ⟨wB, hwB⟩ : ∃ wB, wr.setCell ⟨g4, l, none⟩ (.int .i64 ((u : Int) + 1)) = wB := ⟨_, rfl⟩
        rw [hwB] at hbs HZ HN ⊢
        clear hwB hcu hfu hcl hcS hbr hw1
        go_loopg [7] (per (ff m) nm k) (fun n g wr => ∃ i : Nat, n + i = per (ff m) nm k ∧ g = .int .i64 (it (ff m) i k : Nat) ∧ Below g4 wA wr ∧ CntF F (ff m) nm (k + 1) g4 wr ∧ Seen2 (ff m) nm k i g5 wr)
        case atStart => exact ⟨0, by omega, rfl, hbs, HN.out, HZ.out⟩
        case round =>
          obtain ⟨i, hi, rfl, hbi, hci, hsi⟩ := hrel
          have d0' := (hbi.cell (p := ⟨w.heap.size, 0, none⟩) (by show w.heap.size < g4; omega)).trans d0
          have d1' := (hbi.cell (p := ⟨w.heap.size, 1, none⟩) (by show w.heap.size < g4; omega)).trans d1
          have d2' := (hbi.cell (p := ⟨w.heap.size, 2, none⟩) (by show w.heap.size < g4; omega)).trans d2
          have hgl := HP.out.it_lt hlt i
          by_cases hil : i < per (ff m) nm k
          · obtain ⟨S, hA, hS⟩ := hsi
            have hSg : S (it (ff m) i k) = false := by
              cases e : S (it (ff m) i k) with
              | false => rfl
              | true =>
                rcases (hS _ hgl).1 e with h | ⟨j, hj, e'⟩
                · exact absurd h (HS2.out i hil)
                · exact absurd e' (HP.out.it_ne hlt hj hil)
            have hcS : wr.cell? ⟨g5, it (ff m) i k, none⟩ = some (.bool false) := by rw [← hSg]; exact hA.cell _ (by omega)
            have hfS := hA.frozen (it (ff m) i k)
            have hs' : Seen2 (ff m) nm k (i + 1) g5 (wr.setCell ⟨g5, it (ff m) i k, none⟩ (.bool true)) := by
              refine ⟨_, hA.setb _ _, fun x hx => ?_⟩
              by_cases e : x = it (ff m) i k
              · subst e; simp only [if_pos]
                exact ⟨fun _ => .inr ⟨i, by omega, rfl⟩, fun _ => trivial⟩
              · simp only [if_neg e]
                refine (hS x hx).trans ⟨fun h => h.imp id fun ⟨j, hj, e'⟩ => ⟨j, by omega, e'⟩, fun h => h.imp id fun ⟨j, hj, e'⟩ => ⟨j, ?_, e'⟩⟩
                by_cases ej : j = i
                · subst ej; exact absurd e'.symm e
                · omega
            have hc' : CntF F (ff m) nm (k + 1) g4 (wr.setCell ⟨g5, it (ff m) i k, none⟩ (.bool true)) := Arr.far hci (p := ⟨g5, it (ff m) i k, none⟩) (by show g4 ≠ g5; omega) _
            have hb' : Below g4 wA (wr.setCell ⟨g5, it (ff m) i k, none⟩ (.bool true)) := below_set hbi (by omega) _
            have hm' := hm.keep (hb0.trans (hb'.mono (by omega)))
            have hnext : it (ff m) (i + 1) k = ff m (it (ff m) i k) := rfl
            have HX := Lib.hid (nextface_nat A B ns cs nm cm lp mate m (it (ff m) i k) _ hm' hgl hmm hnm256 _ rfl)
            have HS' := Lib.hid hs'
            have HC' := Lib.hid hc'
            have HB' := Lib.hid hb'
            clear hs' hc' hb' hS hA hci hSg hm'
            rw [← hnext] at HX
            clear hnext
            have HI := Lib.hid hi
            clear hi
            generalize hx : it (ff m) i k = x at *
            clear hx
            have hx0 : (0 : Int) ≤ (x : Int) := Int.natCast_nonneg _
            have hx1 : (x : Int) < 256 := by omega
            go_wp2_with (go_at_call 105; ((with_reducible refine HX.out.mono ?_); rintro e w2 ⟨rfl, hb2⟩))
            go_roundg (gk - 1)
            case measure => have := HI.out; omega
            case rel =>
              obtain ⟨S', hA', hS'⟩ := HS'.out
              exact ⟨i + 1, by have := HI.out; omega, rfl, HB'.out.trans (hb2.mono (Nat.le_of_lt (Arr.lt HC'.out))), Arr.keep HC'.out hb2, S', hA'.keep hb2, hS'⟩
          · have hip : i = per (ff m) nm k := by omega
            have hret : it (ff m) i k = k := by rw [hip]; exact (HP.out.per_spec hlt).1
            have hfull := Seen2.full HP.out hlt (by rw [← hip]; exact hsi)
            obtain ⟨S, hA, hS⟩ := hsi
            have hSk : S k = true := (hS k hlt).2 (.inr ⟨0, by rw [hip]; exact per_pos _ _ _, rfl⟩)
            have hcS : wr.cell? ⟨g5, k, none⟩ = some (.bool true) := by rw [← hSk]; exact hA.cell _ (by omega)
            rw [hret]
            have HFu := Lib.hid hfull
            clear hfull hS hA hSk hret hi hil hip hgl HS2
            go_wp2
            go_roundw
            case rel => exact ⟨k + 1, by omega, by go_num, hbi, hci, HFu.out⟩
            case measure => simp [intOf]; omega
    · obtain rfl : k = nm := by omega
      obtain ⟨wB, hwB⟩ : ∃ wB : World, wB = wr := ⟨_, rfl⟩
      subst hwB
      have ha3B := ha3.below hbr h34
      have hv0 : Arr wB g4 74 64 (zv fun l => (cntF F (ff m) k k l : Int) - (cntV F 0 l : Int)) := Arr.congr hcr fun l _ => by simp [zv, cntV]
      clear hsr hlt hk hcr
      go_wp2
      go_loopw [8, 44] (fun _ i wr => ∃ q : Nat, q ≤ ns ∧ i = .int .i64 q ∧ Below g4 wB wr ∧ Arr wr g4 74 64 (zv fun l => (cntF F (ff m) k k l : Int) - (cntV F q l : Int))) (fun _ i _ => ns - (intOf i).toNat)
      case atStart => exact ⟨0, by omega, rfl, Below.refl _ _, hv0⟩
      case round =>
        obtain ⟨q, hq, rfl, hbq, haq⟩ := hrel
        have hbW := hbr.trans hbq
        have d0'' := (hbW.cell (p := ⟨w.heap.size, 0, none⟩) (by show w.heap.size < g4; omega)).trans d0
        have d1'' := (hbW.cell (p := ⟨w.heap.size, 1, none⟩) (by show w.heap.size < g4; omega)).trans d1
        have d2'' := (hbW.cell (p := ⟨w.heap.size, 2, none⟩) (by show w.heap.size < g4; omega)).trans d2
        have hq0 : (0 : Int) ≤ (q : Int) := Int.natCast_nonneg _
        by_cases hlt : q < ns
        · have hq1 : (q : Int) < 64 := by omega
          have hl64 := HF.out q (by omega)
          have hcl : wr.cell? ⟨g3, q, none⟩ = some (.int .i64 (F q : Nat)) := (ha3B.below hbq h34).cell q (by omega)
          have hcn : Arr (wr.setCell ⟨g4, F q, none⟩ (.int .i64 ((cntF F (ff m) k k (F q) : Int) - (cntV F q (F q) : Int) - 1))) g4 74 64 (zv fun l => (cntF F (ff m) k k l : Int) - (cntV F (q + 1) l : Int)) :=
            (Arr.setz haq _ _).congr fun l hl => by
              simp only [zv, cntV_succ]
              by_cases e : l = F q
              · subst e; simp; omega
              · simp [e, Ne.symm e]
          have hcu : wr.cell? ⟨g4, F q, none⟩ = some (.int .i64 ((cntF F (ff m) k k (F q) : Int) - (cntV F q (F q) : Int))) := Arr.cell haq _ hl64
          have hfu := Arr.frozen haq (F q)
          have hu1 := cntF_le F (ff m) k k (F q)
          have hu2 := cntV_le F q (F q)
          have hulo : -1000 ≤ (cntF F (ff m) k k (F q) : Int) - (cntV F q (F q) : Int) := by omega
          have huhi : (cntF F (ff m) k k (F q) : Int) - (cntV F q (F q) : Int) ≤ 1000 := by omega
          have HN := Lib.hid hcn
          clear hcn haq hu1 hu2
          generalize (cntF F (ff m) k k (F q) : Int) - (cntV F q (F q) : Int) = u at *
          generalize hle : F q = l at *
          clear hle
          have hl0 : (0 : Int) ≤ (l : Int) := Int.natCast_nonneg _
          have hl1 : (l : Int) < 64 := by omega
          go_wp2
          go_roundw
          case rel => exact ⟨q + 1, by omega, by go_num, below_set hbq (Nat.le_refl _) _, HN.out⟩
          case measure => simp [intOf]; omega
        · obtain rfl : q = ns := by omega
          obtain ⟨wC, hwC⟩ : ∃ wC : World, wC = wr := ⟨_, rfl⟩
          subst hwC
          have ha3C := ha3B.below hbq h34
          have hfin : Below w.heap.size w wC := hb0.trans (hbW.mono (by omega))
          clear hlt hq hbq hbr
          have hnone : ∀ c, c < 0 → cntF F (ff m) k k (F c) = cntV F q (F c) + 2 := fun c hc => absurd hc (by omega)
          have HNONE := Lib.hid hnone
          clear hnone
          go_wp2
          go_loop [9, 58] (fun _ i => ∃ c : Nat, c ≤ q ∧ i = .int .i64 c ∧ Hid (∀ x, x < c → cntF F (ff m) k k (F x) = cntV F q (F x) + 2)) (fun _ i => q - (intOf i).toNat)
          case atStart => exact ⟨0, by omega, rfl, HNONE⟩
          case round =>
            obtain ⟨c, hc, rfl, hall⟩ := hrel
            have hc0 : (0 : Int) ≤ (c : Int) := Int.natCast_nonneg _
            by_cases hlt : c < q
            · have hc1 : (c : Int) < 64 := by omega
              have hl64 := HF.out c (by omega)
              have hcl : wC.cell? ⟨g3, c, none⟩ = some (.int .i64 (F c : Nat)) := ha3C.cell c (by omega)
              have hcu : wC.cell? ⟨g4, F c, none⟩ = some (.int .i64 ((cntF F (ff m) k k (F c) : Int) - (cntV F q (F c) : Int))) := Arr.cell haq _ hl64
              by_cases he : cntF F (ff m) k k (F c) = cntV F q (F c) + 2
              · have hall' : Hid (∀ x, x < c + 1 → cntF F (ff m) k k (F x) = cntV F q (F x) + 2) := fun x hx => by
                  by_cases e : x = c
                  · subst e; exact he
                  · exact hall.out x (by omega)
                have hv : (cntF F (ff m) k k (F c) : Int) - (cntV F q (F c) : Int) = 2 := by omega
                rw [hv] at hcu
                clear hv he haq
                generalize hle : F c = l at *
                clear hle
                have hl0 : (0 : Int) ≤ (l : Int) := Int.natCast_nonneg _
                have hl1 : (l : Int) < 64 := by omega
                go_wp2
                go_round
                case rel => exact ⟨c + 1, by omega, by go_num, hall'⟩
                case measure => simp [intOf]; omega
              · have hres : sphB (ufLab m k) (ff m) k q = false := by
                  cases e : sphB (ufLab m k) (ff m) k q with
                  | false => rfl
                  | true =>
                    have e2 : sphB F (ff m) k q = true := by
                      rw [← e, ← HFF.out, HNM.out]
                      exact sphB_congr fun c hc => by simp [cutN, hc]
                    exact absurd ((sphB_iff _ _ _ _).1 e2 c hlt) he
                have hv : ((cntF F (ff m) k k (F c) : Int) - (cntV F q (F c) : Int) != 2) = true := by simp only [bne_iff_ne, ne_eq]; omega
                obtain rfl : r = false := HR.out.trans hres
                clear HR hres he haq
                generalize (cntF F (ff m) k k (F c) : Int) - (cntV F q (F c) : Int) = u at *
                generalize hle : F c = l at *
                clear hle
                have hl0 : (0 : Int) ≤ (l : Int) := Int.natCast_nonneg _
                have hl1 : (l : Int) < 64 := by omega
                go_wp2
                go_ret
                exact ⟨rfl, hfin⟩
            · obtain rfl : c = q := by omega
              have hres : sphB (ufLab m k) (ff m) k c = true := by
                have e2 : sphB F (ff m) k c = true := (sphB_iff _ _ _ _).2 hall.out
                rw [← e2, ← HFF.out, HNM.out]
                exact (sphB_congr fun c hc => by simp [cutN, hc])
              obtain rfl : r = true := HR.out.trans hres
              clear HR hres hall haq
              go_wp2
              go_ret
              exact ⟨rfl, hfin⟩

theorem sph_any (A B : Option Addr) (ns cs nm cm : Nat) (lp : Int) (mate : List Int) (m : Nat → Nat) (w : World) (hm : RI w B nm mate) (hns : ns ≤ 64) (hnm : nm = 4 * ns) (hmm : Mates mate nm m) (hin : Invol m nm) :
    Calls Try.prog 65 #[dval A ns cs B nm cm lp] w fun e w' => e = .returned (.bool (sphB (ufLab m nm) (ff m) nm ns)) ∧ Below w.heap.size w w' :=
  sph_r _ A B ns cs nm cm lp mate m w hm hns hnm hmm hin rfl

end Go.Proofs.Ytkfjledhnakfoaa

/- Walk: cycle. -/
namespace Go.Proofs.Ytkfjledhnakfoaa
open Go.RowKit

/-- The successor function 'func fid' (which captured the block gd) leads from x to f x, in every world after w. -/
def Next (w : World) (fid : FuncId) (gd : Nat) (f : Nat → Nat) (N : Nat) : Prop := ∀ (W : World) (x : Nat), Below w.heap.size w W → x < N →
  Calls Try.prog fid #[.int .i64 (x : Nat), .pointer (some ⟨gd, 0, none⟩)] W fun e W' => e = .returned (.int .i64 (f x : Nat)) ∧ Below W.heap.size W W'
theorem Next.keep {w w' : World} {fid : FuncId} {gd : Nat} {f : Nat → Nat} {N : Nat} (h : Next w fid gd f N) (hb : Below w.heap.size w w') : Next w' fid gd f N :=
  fun W x hW hx => h W x (below_step hb hW) hx

/-- A call of 'func fid' enters that function. -/
def Enters (fid : FuncId) : Prop := ∀ (args : Array Value) (W : World), (callFunc fid args).run Try.prog W = .ok (.enter fid args) W
theorem enters56 : Enters 131 := fun _ _ => by kernel_rfl
theorem enters59 : Enters 74 := fun _ _ => by kernel_rfl
theorem enters54 : Enters 130 := fun _ _ => by kernel_rfl
theorem enters58 : Enters 71 := fun _ _ => by kernel_rfl

def itl (f : Nat → Nat) (h k : Nat) : List Int := (List.range k).map fun i => (it f i h : Int)
theorem itl_succ (f : Nat → Nat) (h k : Nat) : itl f h (k + 1) = itl f h k ++ [(it f k h : Int)] := by simp [itl, List.range_succ]
theorem itl_length (f : Nat → Nat) (h k : Nat) : (itl f h k).length = k := by simp [itl]
theorem itl_getD (f : Nat → Nat) (h k j : Nat) (hj : j < k) : (itl f h k).getD j 0 = (it f j h : Int) := by simp [itl, List.getD, hj]

def CycPost (w : World) (xs : List Int) (e : Ending) (w' : World) : Prop := ∃ v, e = .returned v ∧ OI w' w.heap.size v xs ∧ Below w.heap.size w w'

set_option maxHeartbeats 1600000 in
set_option maxRecDepth 100000 in
theorem cycle_any (fid : FuncId) (gd h N : Nat) (f : Nat → Nat) (w : World) (hcall : Enters fid) (hn : Next w fid gd f N) (hp : Perm f N) (hh : h < N) (hN : N ≤ 256) :
    Calls Try.prog 110 #[.int .i64 (h : Nat), .func (.func fid) #[] #[.pointer (some ⟨gd, 0, none⟩)]] w (CycPost w (itl f h (per f N h))) := by
  have h1 := OI.one w w.heap.size h (Nat.le_refl _)
  have hb1 := below_alloc w (.cells #[.int .i64 (h : Int)] 3)
  have hcf : ∀ (args : Array Value) (W : World), (callFunc fid args).run Try.prog W = .ok (.enter fid args) W := hcall
  clear hcall
  have C0 := Lib.hid (hn _ h hb1 hh)
  have HN := Lib.hid hn
  have HP := Lib.hid hp
  clear hn hp
  go_enter Try.func110, Try.ntmps110
  go_wp2_with ((with_reducible refine C0.out.mono ?_); rintro e w1 ⟨rfl, hbn⟩)
  go_loopg [5, 6] (per f N h - 1) (fun n v g wr => ∃ i : Nat, 0 < i ∧ n + i = per f N h ∧ g = .int .i64 (it f i h : Nat) ∧ Below w.heap.size w wr ∧ OI wr w.heap.size v (itl f h i))
  case atStart => exact ⟨1, by omega, by have := per_pos f N h; omega, rfl, below_step hb1 hbn, h1.keep hbn⟩
  case round =>
    obtain ⟨i, hi0, hi, rfl, hbr, hown⟩ := hrel
    have hgl := HP.out.it_lt hh i
    by_cases hil : i < per f N h
    · have hne : ((it f i h : Int) != (h : Int)) = true := by
        have := (HP.out.per_spec hh).2.2 i hi0 hil
        simp only [bne_iff_ne, ne_eq]; omega
      have HI := Lib.hid hi
      have hlen := itl_length f h i
      have hsucc := itl_succ f h i
      have hil' : (itl f h i).length ≤ 1000000000 := by have := (HP.out.per_spec hh).2.1; omega
      have hit : it f (i + 1) h = f (it f i h) := rfl
      have HIT := Lib.hid hit
      have HSU := Lib.hid hsucc
      clear hi hlen hsucc hit
      generalize itl f h i = xs at *
      generalize it f i h = x at *
      go_wp2_with (first
        | (at_builtin
           refine wpList_append_int rfl (.tmp 18) (.tmp 20) rfl w.heap.size _ xs rfl (hown.alloc _) wr.heap.size (x : Int) rfl (by rw [World.cell?_alloc_at _ _ _ _ rfl]; rfl) hil' (Nat.le_trans hbr.size (by simp)) ?_
           intro v2 w2 hown2 hg2
           have hb2 : Below w.heap.size w w2 := (below_step hbr (below_alloc wr _)).grown hg2 (Nat.le_trans hbr.size (by simp)) (fun k hk => (World.ownsRow.lt hown k hk).1)
           have C1 := Lib.hid (HN.out w2 x hb2 hgl))
        | ((with_reducible refine C1.out.mono ?_); rintro e w3 ⟨rfl, hb3⟩))
      go_roundg (gk - 1)
      case measure => have := HI.out; omega
      case rel => exact ⟨i + 1, by omega, by have := HI.out; omega, by rw [HIT.out], below_step hb2 hb3, by rw [HSU.out]; exact hown2.keep hb3⟩
    · have hip : i = per f N h := by omega
      have hret : it f i h = h := by rw [hip]; exact (HP.out.per_spec hh).1
      rw [hret]
      rw [hip] at hown
      clear hret hip hil hi
      go_wp2
      go_ret
      exact ⟨_, rfl, hown, hbr⟩

end Go.Proofs.Ytkfjledhnakfoaa

/- Words for memory: a slice of slices of the call's own; make. -/
namespace Go.Proofs.Ytkfjledhnakfoaa
open Go.RowKit

theorem Try.infoSlice : (Try.prog.info? 22).map (fun i => (i.zero, i.size, i.bytes)) = some (some (.slice none 0 0), 1, 24) := by kernel_rfl
theorem Try.infoBool : (Try.prog.info? 4).map (fun i => (i.zero, i.size, i.bytes)) = some (some (.bool false), 1, 1) := by kernel_rfl

theorem made_one (z : Value) (n : Nat) : madeCells #[z] n = cellsN n (fun _ => z) := by
  apply Array.ext'
  rw [toList_madeCells_one]
  simp [cellsN]
  apply List.ext_getElem <;> simp
theorem make_one {P : Program} {t e : TypeId} {z : Value} {bytes : Nat} (ht : P.underlying t = some (.slice e)) (hi : (P.info? e).map (fun i => (i.zero, i.size, i.bytes)) = some (some z, 1, bytes)) (hz : z.cells = #[z])
    (n : Nat) (hb : bytes * n ≤ 281474976710656) (h63 : n ≤ 9223372036854775807) (w : World) :
    (Instr.makeSlice t (.int .i64 (n : Int)) (.int .i64 (n : Int))).run P w = .ok (.slice (some ⟨w.heap.size, 0, none⟩) n n) (w.alloc (.cells (cellsN n fun _ => z) e)) := by
  obtain ⟨i0, hi0, hz0, hz1, hz2⟩ := info_parts hi
  have hb' : (i0.bytes : Int) * (n : Int) ≤ 281474976710656 := by
    have h1 : ((bytes * n : Nat) : Int) ≤ 281474976710656 := by omega
    rw [hz2]; rwa [Int.natCast_mul] at h1
  have := run_make (P := P) w t e i0 z ht hi0 hz0 .i64 .i64 n n (by omega) (Int.le_refl _) hb' (by omega)
  simp only [Int.toNat_natCast, hz1, hz, Nat.mul_one] at this
  rw [this, made_one]

/-- A row whose elements are one cell each. -/
def ownRow (w : World) (B : Nat) (e : TypeId) (v : Value) (vs : List Value) : Prop := w.ownsRow B e 1 v vs.length vs
theorem OI.type {w : World} {B : Nat} {v : Value} {xs : List Int} (h : OI w B v xs) {g : Nat} (hg : v.ownBlock = some g) : ∃ cur, w.heap[g]? = some (.cells cur 3 (0, 0)) := by
  rcases h.2 with ⟨rfl, _⟩ | ⟨g', cap, cur, rfl, _, h3, _⟩
  · cases hg
  · simp [Value.ownBlock] at hg; subst hg; exact ⟨cur, h3⟩
theorem ownRow.type {w : World} {B : Nat} {e : TypeId} {v : Value} {vs : List Value} (h : ownRow w B e v vs) {g : Nat} (hg : v.ownBlock = some g) : ∃ cur, w.heap[g]? = some (.cells cur e (0, 0)) := by
  rcases h.2 with ⟨rfl, _⟩ | ⟨g', cap, cur, rfl, _, h3, _⟩
  · cases hg
  · simp [Value.ownBlock] at hg; subst hg; exact ⟨cur, h3⟩
theorem ownRow.keep {w w' : World} {B : Nat} {e : TypeId} {v : Value} {vs : List Value} (h : ownRow w B e v vs) (hb : Below w.heap.size w w') : ownRow w' B e v vs :=
  World.ownsRow.kept h (grown_of_below hb) (by cases e : v.ownBlock <;> simp)
theorem OI.ne_row {w : World} {B B' : Nat} {e : TypeId} {v v' : Value} {xs : List Int} {vs : List Value} (h : OI w B v xs) (k : ownRow w B' e v' vs) (he : e ≠ 3) : v.ownBlock = none ∨ v.ownBlock ≠ v'.ownBlock := by
  cases hg : v.ownBlock with
  | none => exact .inl rfl
  | some g =>
    refine .inr fun e' => ?_
    obtain ⟨c1, h1⟩ := h.type hg
    obtain ⟨c2, h2⟩ := k.type e'.symm
    rw [h1] at h2; injection h2 with h2; injection h2 with _ h3 _; exact he h3.symm
theorem OI.ne_arr {w : World} {B g n : Nat} {e : TypeId} {v : Value} {xs : List Int} {V : Nat → Value} (h : OI w B v xs) (k : Arr w g e n V) (he : e ≠ 3) : v.ownBlock ≠ some g := fun hg => by
  obtain ⟨c1, h1⟩ := h.type hg
  unfold Arr at k
  rw [h1] at k; injection k with k; injection k with _ h3 _; exact he h3.symm
theorem ownRow.ne_arr {w : World} {B g n : Nat} {e e' : TypeId} {v : Value} {vs : List Value} {V : Nat → Value} (h : ownRow w B e' v vs) (k : Arr w g e n V) (he : e ≠ e') : v.ownBlock ≠ some g := fun hg => by
  obtain ⟨c1, h1⟩ := h.type hg
  unfold Arr at k
  rw [h1] at k; injection k with k; injection k with _ h3 _; exact he h3.symm
theorem ownRow.far {w : World} {B : Nat} {e : TypeId} {v : Value} {vs : List Value} (h : ownRow w B e v vs) {p : Addr} (hp : v.ownBlock ≠ some p.block) (u : Value) : ownRow (w.setCell p u) B e v vs := by
  refine ⟨h.1, h.2.imp id ?_⟩
  rintro ⟨g, cap, cur, rfl, h2, h3, h4⟩
  exact ⟨g, cap, cur, rfl, h2, (Below.heap_setCell w p u g (by rintro rfl; exact hp rfl)).trans h3, h4⟩

/-- v is a slice of slices of ints of the call's own that reads as xss. -/
def OO (w : World) (B : Nat) (v : Value) (xss : List (List Int)) : Prop :=
  ∃ vs : List Value, ownRow w B 22 v vs ∧ vs.length = xss.length ∧ ∀ i, i < xss.length → OI w B (vs.getD i undef) (xss.getD i [])
theorem OO.nil (w : World) (B : Nat) : OO w B (.slice none 0 0) [] := ⟨[], World.ownsRow_nil w B _ _, rfl, fun i hi => absurd hi (by simp)⟩
theorem OO.keep {w w' : World} {B : Nat} {v : Value} {xss : List (List Int)} (h : OO w B v xss) (hb : Below w.heap.size w w') : OO w' B v xss := by
  obtain ⟨vs, h1, h2, h3⟩ := h
  exact ⟨vs, h1.keep hb, h2, fun i hi => (h3 i hi).keep hb⟩
theorem OO.far {w : World} {B g n : Nat} {e : TypeId} {v : Value} {xss : List (List Int)} {V : Nat → Value} (h : OO w B v xss) (k : Arr w g e n V) (he : e ≠ 3) (he' : e ≠ 22) (j : Nat) (u : Value) : OO (w.setCell ⟨g, j, none⟩ u) B v xss := by
  obtain ⟨vs, h1, h2, h3⟩ := h
  exact ⟨vs, h1.far (h1.ne_arr k he') u, h2, fun i hi => (h3 i hi).far ((h3 i hi).ne_arr k he) u⟩
theorem OO.form {w : World} {B : Nat} {v : Value} {xss : List (List Int)} (h : OO w B v xss) : ∃ A c, v = .slice A xss.length c := by
  obtain ⟨vs, h1, h2, _⟩ := h
  rcases h1.2 with ⟨h3, h4⟩ | ⟨g, cap, cur, h3, _⟩
  · exact ⟨none, 0, by rw [h3, ← h2, h4]⟩
  · exact ⟨_, cap, by rw [h3, h2]⟩
theorem ownRow.mono {w : World} {B B' : Nat} {e : TypeId} {v : Value} {vs : List Value} (h : ownRow w B e v vs) (hB : B' ≤ B) : ownRow w B' e v vs := by
  refine ⟨h.1, h.2.imp id ?_⟩
  rintro ⟨g, cap, cur, h1, h2, h3⟩
  exact ⟨g, cap, cur, h1, by omega, h3⟩
theorem OO.mono {w : World} {B B' : Nat} {v : Value} {xss : List (List Int)} (h : OO w B v xss) (hB : B' ≤ B) : OO w B' v xss := by
  obtain ⟨vs, h1, h2, h3⟩ := h
  exact ⟨vs, h1.mono hB, h2, fun i hi => (h3 i hi).mono hB⟩
theorem OO.ne_arr {w : World} {B g n : Nat} {e : TypeId} {v : Value} {xss : List (List Int)} {V : Nat → Value} (h : OO w B v xss) (k : Arr w g e n V) (he' : e ≠ 22) : v.ownBlock ≠ some g := by
  obtain ⟨vs, h1, _⟩ := h; exact h1.ne_arr k he'
theorem Arr.grown {w w' : World} {g n : Nat} {t : TypeId} {V : Nat → Value} (h : Arr w g t n V) {row : Option Nat} (hg : w.grownBy w' row) (hne : row ≠ some g) : Arr w' g t n V :=
  (hg.block g h.lt (fun e => hne e.symm)).trans h
theorem OO.lt {w : World} {B : Nat} {v : Value} {xss : List (List Int)} (h : OO w B v xss) : ∀ k, v.ownBlock = some k → B ≤ k ∧ k < w.heap.size := by
  obtain ⟨vs, h1, _⟩ := h; exact World.ownsRow.lt h1

/-- append of one slice to a slice of slices of the call's own. -/
theorem wpList_append_row {ops : Array Oper} {rest : List Oper} {o : Oper} {a : Act} {w : World} {Q : Exit → Act → World → Prop} (hgd : o.guard = none) (s x : Operand)
    (ho : o.op = .call { callee := .builtin .append, args := #[s, x], argTypes := #[40, 40] }) (B : Nat) (v : Value) (xss : List (List Int)) (hs : a.eval s = v) (hown : OO w B v xss)
    (g : Nat) (y : Value) (ys : List Int) (hx : a.eval x = .slice (some ⟨g, 0, none⟩) 1 1) (hc : w.cell? ⟨g, 0, none⟩ = some y) (hy : OI w B y ys) (hlen : xss.length ≤ 1000000000) (hbase : B ≤ w.heap.size)
    (h : ∀ v' w', OO w' B v' (xss ++ [ys]) → w.grownBy w' v.ownBlock → wpList Try.prog ops Q rest (a.put o.dst v') w') : wpList Try.prog ops Q (o :: rest) a w := by
  obtain ⟨i0, hi, hz0, hz1, hz2⟩ := info_parts Try.infoSlice
  obtain ⟨vs, h1, h2, h3⟩ := hown
  have hone : y.oneCell' = true := by
    rcases hy.form with ⟨rfl, _⟩ | ⟨_, _, rfl, _⟩ <;> rfl
  refine wpList_append_own w hgd s x 40 ho B 22 i0 (.slice none 0 0) 1 24 Try.underlying40 hi hz0 hz1 hz2 rfl (by decide) v vs.length vs hs h1 ⟨g, 0, none⟩ 1 1 [y] hx rfl ?_ ?_ (by unfold maxLen; omega) (by omega) hbase ?_
  · intro j u hj
    match j, hj with
    | 0, hj => simp at hj; subst hj; simpa [Addr.add] using hc
  · intro u hu; simp at hu; subst hu; exact hone
  · intro v' w' k1 k2 _
    refine h v' w' ⟨vs ++ [y], by unfold ownRow; simpa using k1, by simp [h2], fun i hi => ?_⟩ k2
    simp only [List.length_append, List.length_cons, List.length_nil] at hi
    by_cases e : i < xss.length
    · have e1 : (vs ++ [y]).getD i undef = vs.getD i undef := by simp [List.getD, List.getElem?_append_left (show i < vs.length by omega)]
      have e2 : (xss ++ [ys]).getD i [] = xss.getD i [] := by simp [List.getD, List.getElem?_append_left e]
      rw [e1, e2]
      exact (h3 i e).grown k2 ((h3 i e).ne_row h1 (by decide))
    · have ei : i = xss.length := by omega
      subst ei
      have e1 : (vs ++ [y]).getD xss.length undef = y := by simp [List.getD, ← h2]
      have e2 : (xss ++ [ys]).getD xss.length [] = ys := by simp [List.getD]
      rw [e1, e2]
      exact hy.grown k2 (hy.ne_row h1 (by decide))

end Go.Proofs.Ytkfjledhnakfoaa
