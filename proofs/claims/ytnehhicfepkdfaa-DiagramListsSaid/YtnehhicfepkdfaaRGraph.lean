/- Walks: the reference's Graph and Components; Components, Face. -/
import Derived.Test.YtnehhicfepkdfaaRStrand
namespace Go.Proofs.Ytnehhicfepkdfaa
open Go.RowKit

theorem memb_congr {F G : Nat → Nat} {n c : Nat} (h : ∀ b, b < n → F b = G b) (hc : c ≤ n) (l : Nat) : memb F c l = memb G c l := by
  induction c with
  | zero => rfl
  | succ c ih => rw [memb_succ, memb_succ, ih (by omega), h c (by omega)]
theorem roots_congr {F G : Nat → Nat} {n c : Nat} (h : ∀ b, b < n → F b = G b) (hc : c ≤ n) : roots F c = roots G c := by
  induction c with
  | zero => rfl
  | succ c ih => rw [roots_succ, roots_succ, ih (by omega), h c (by omega)]
theorem graphL_congr {F G : Nat → Nat} {n : Nat} (h : ∀ b, b < n → F b = G b) : graphL F n = graphL G n := by
  unfold graphL
  rw [roots_congr h (Nat.le_refl _)]
  exact List.map_congr_left fun l _ => memb_congr h (Nat.le_refl _) l

def rootsL (F : Nat → Nat) (n c : Nat) : List (List Int) := (roots F c).map (memb F n)
theorem rootsL_succ (F : Nat → Nat) (n c : Nat) : rootsL F n (c + 1) = rootsL F n c ++ if F c = c then [memb F n c] else [] := by
  unfold rootsL; rw [roots_succ, List.map_append]
  by_cases h : F c = c <;> simp [h]

set_option maxHeartbeats 3200000 in
set_option maxRecDepth 100000 in
theorem rgraph_any (B : Option Addr) (nm cm n : Nat) (mate : List Int) (m : Nat → Nat) (w : World) (hm : RI w B nm mate) (hmm : Mates mate nm m) (hn : nm = 4 * n) (hN : nm ≤ 256) :
    Calls Try.prog 33 #[.slice B nm cm] w (CycsPost w (graphL (ufLab m nm) n)) := by
  have CL := Lib.hid (label_any B nm cm n mate m w hm hmm hn hN)
  have FL : ∀ c, c < n → labAt m nm n c = ufLab m nm c := fun c hc => labAt_eq (m := m) (F := ufLab m nm) hn (fun h hh => (hmm h hh).2) (ufLab_isLab m nm n) c hc
  rw [← graphL_congr FL]
  have hn64 : n ≤ 64 := by omega
  have hlenI : ((List.range n).map fun i => (labAt m nm n i : Int)).length = n := by simp
  have hgetI : ∀ c, c < n → ((List.range n).map fun i => (labAt m nm n i : Int)).getD c 0 = (labAt m nm n c : Int) := fun c hc => by simp [List.getD, hc]
  have HG := Lib.hid hgetI
  have HLI := Lib.hid hlenI
  clear hgetI hlenI hm hmm hn FL
  generalize labAt m nm n = F at *
  have HF := Lib.hid (show graphL F n = rootsL F n n from rfl)
  rw [HF.out]
  go_enter Try.func33, Try.ntmps33
  go_wp2_with (go_at_call 48; ((with_reducible refine CL.out.mono ?_); rintro e w1 ⟨vl, rfl, hol, hb1⟩))
  obtain ⟨Al, cl, hvl⟩ : ∃ Al cl, vl = .slice Al n cl := by
    rcases hol.form with ⟨e, he⟩ | ⟨g, cap, e, _⟩
    · refine ⟨none, 0, ?_⟩
      have h0 : n = 0 := by have := HLI.out; rw [he] at this; simpa using this.symm
      rw [e, h0]
    · exact ⟨_, cap, by rw [e, HLI.out]⟩
  subst hvl
  go_loopw [4, 5, 6, 7] (fun v i _ _ wr => ∃ c : Nat, c ≤ n ∧ i = .int .i64 c ∧ Below w1.heap.size w1 wr ∧ OO wr w1.heap.size v (rootsL F n c)) (fun _ i _ _ _ => n - (intOf i).toNat)
  case atStart => exact ⟨0, by omega, rfl, Below.refl _ _, OO.nil _ _⟩
  case round =>
    obtain ⟨c, hc, rfl, hbr, hown⟩ := hrel
    have holr := hol.keep hbr
    have hc0 : (0 : Int) ≤ (c : Int) := Int.natCast_nonneg _
    have hsz := hbr.size
    by_cases hlt : c < n
    · obtain ⟨gl, cl', hsl⟩ := holr.form_pos HLI.out (by omega)
      injection hsl with hsl1 hsl2 hsl3
      subst hsl1; subst hsl3
      have hlt' := (World.ownsRow.lt holr gl rfl).2
      have hcell : ∀ b, b < n → wr.cell? ⟨gl, b, none⟩ = some (.int .i64 (F b : Nat)) := fun b hb => by
        rw [holr.cell b (by rw [HLI.out]; exact hb), HG.out b hb]
      have HCE := Lib.hid hcell
      have hcc := hcell c hlt
      have hc1 : (c : Int) < (n : Int) := by omega
      have hsucc := rootsL_succ F n c
      by_cases hFc : F c = c
      · rw [hFc] at hcc
        rw [if_pos hFc] at hsucc
        have HS := Lib.hid hsucc
        have HFC := Lib.hid hFc
        clear hcell hsucc hFc
        obtain ⟨wO, hwO⟩ : ∃ wO : World, wO = wr := ⟨_, rfl⟩
        subst hwO
        go_wp2
        go_loopw [6, 7] (fun x i wx => ∃ b : Nat, b ≤ n ∧ i = .int .i64 b ∧ Below wO.heap.size wO wx ∧ OI wx wO.heap.size x (memb F b c)) (fun _ i _ => n - (intOf i).toNat)
        case atStart => exact ⟨0, by omega, rfl, Below.refl _ _, OI.nil _ _⟩
        case round =>
          obtain ⟨b, hb, rfl, hbx, hox⟩ := hrel
          have hb0 : (0 : Int) ≤ (b : Int) := Int.natCast_nonneg _
          have hszx := hbx.size
          by_cases hbl : b < n
          · have hcb := (hbx.cell (p := ⟨gl, b, none⟩) hlt').trans (HCE.out b hbl)
            have hb1' : (b : Int) < (n : Int) := by omega
            have hsb := memb_succ F b c
            have hml := memb_length F b c
            by_cases hFb : F b = c
            · rw [hFb] at hcb
              have HSB := Lib.hid (show memb F (b + 1) c = memb F b c ++ [(b : Int)] from by rw [hsb, hFb]; simp)
              clear hsb hFb
              generalize memb F b c = ml at *
              go_wp2_with (at_builtin
                           refine wpList_append_int rfl (.tmp 34) (.tmp 36) rfl wO.heap.size _ ml rfl (hox.alloc _) wr.heap.size (b : Int) rfl (by rw [World.cell?_alloc_at _ _ _ _ rfl]; rfl) (by omega) (by simp; omega) ?_
                           intro v2 w2 hown2 hg2)
              go_roundw
              case rel => exact ⟨b + 1, by omega, by go_num, (hbx.alloc hszx _).grown hg2 (by simp; omega) (fun q hq => (World.ownsRow.lt hox q hq).1), by rw [HSB.out]; exact hown2⟩
              case measure => simp [intOf]; omega
            · have hne : ((F b : Int) == (c : Int)) = false := by simp only [beq_eq_false_iff_ne, ne_eq]; omega
              have HSB := Lib.hid (show memb F (b + 1) c = memb F b c from by rw [hsb]; simp [hFb])
              clear hsb hFb
              generalize F b = y at *
              go_wp2
              go_roundw
              case rel => exact ⟨b + 1, by omega, by go_num, hbx, by rw [HSB.out]; exact hox⟩
              case measure => simp [intOf]; omega
          · obtain rfl : b = n := by omega
            have HH := Lib.hid hown
            have hox' := hox.mono (B' := w1.heap.size) hsz
            have hown2 := hown.keep hbx
            have hbw2 := below_step hbr hbx
            obtain ⟨Ax, cx, hx6⟩ : ∃ Ax cx, u6 = .slice Ax (memb F b c).length cx := by
              rcases hox.form with ⟨e, he⟩ | ⟨g, cap, e, _⟩
              · exact ⟨none, 0, by rw [e, he]; rfl⟩
              · exact ⟨_, cap, e⟩
            subst hx6
            clear hown hox hcc hlt' HCE holr HG HLI
            go_wp2_with (at_builtin
                         refine wpList_append_row rfl (.tmp 38) (.tmp 40) rfl w1.heap.size u4 (rootsL F b c) rfl (hown2.keep (below_alloc _ _)) wr.heap.size (.slice Ax (memb F b c).length cx) (memb F b c) rfl (by rw [World.cell?_alloc_at _ _ _ _ rfl]; rfl) (hox'.alloc _) (by have := roots_length F c; simp [rootsL, roots] at *; omega) (by have := hbw2.size; simp; omega) ?_
                         intro v2 w2 ho2 hg2)
            go_roundw
            case rel => exact ⟨c + 1, by omega, by go_num, (below_step hbw2 (below_alloc wr _)).grown hg2 (by have := hbw2.size; simp; omega) (fun q hq => (hown2.lt q hq).1), by rw [HS.out]; exact ho2⟩
            case measure => simp [intOf]; omega
      · have hne : ((F c : Int) != (c : Int)) = true := by simp only [bne_iff_ne, ne_eq]; omega
        rw [if_neg hFc, List.append_nil] at hsucc
        rw [← hsucc] at hown
        clear hsucc hFc hcell
        generalize F c = y at *
        go_wp2
        go_roundw
        case rel => exact ⟨c + 1, by omega, by go_num, hbr, hown⟩
        case measure => simp [intOf]; omega
    · obtain rfl : c = n := by omega
      have HO := Lib.hid (hown.mono (B' := w.heap.size) hb1.size)
      have HB := Lib.hid (below_step hb1 hbr)
      clear hown hlt hc holr
      go_wp2
      go_ret
      exact ⟨_, rfl, HO.out, HB.out⟩

end Go.Proofs.Ytnehhicfepkdfaa
