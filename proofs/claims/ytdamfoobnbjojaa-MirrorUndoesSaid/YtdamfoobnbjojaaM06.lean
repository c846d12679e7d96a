import Derived.Test.YtdamfoobnbjojaaM05
import Derived.Maps.OwnOps
import Derived.Maps.OwnSet
import Derived.Maps.RangeWalk
import Derived.Deep.QuietTactic
import Derived.BigQuiet
import Derived.RegionTactic
/- Walks: crossingError, Switch. -/
namespace Go.Proofs.Ytdamfoobnbjojaa
open Go.RowKit

def crossE (v : Bool) (ns : Nat) (x : Int) : Int := if v = false then 1 else if x < 0 then 2 else if (ns : Int) ≤ x then 2 else 0
set_option maxHeartbeats 1600000 in
theorem cross_any (A B : Option Addr) (ns cs nm cm : Nat) (lp x : Int) (s m : List Int) (w : World) (h : DV w A ns B nm s m) (hx : -9223372036854775808 ≤ x ∧ x ≤ 9223372036854775807) :
    Calls Try.prog 55 #[dval A ns cs B nm cm lp, .int .i64 x] w fun e w' => e = .returned (.int .i64 (crossE (validB s m lp) ns x)) ∧ Below w.heap.size w w' := by
  obtain ⟨d0, d1, d2, dlt⟩ := DB.new w A ns cs B nm cm lp
  have hb0 := below_alloc w (dbox A ns cs B nm cm lp)
  have HB := Lib.hid hb0
  have hns := h.hns
  cases hv : validB s m lp with
  | false =>
    have CV := Lib.hid ((h.keep hb0).valid cs cm lp false hv)
    clear h hv hb0
    go_enter Try.func55, Try.ntmps55
    go_wp2_with (go_at_call 29; ((with_reducible refine CV.out.mono ?_); rintro e w1 ⟨rfl, hb1⟩))
    go_ret
    exact ⟨rfl, below_step HB.out hb1⟩
  | true =>
    have CV := Lib.hid ((h.keep hb0).valid cs cm lp true hv)
    clear h hv hb0
    by_cases h0 : x < 0
    · have HE : Hid (crossE true ns x = 2) := Lib.hid (by unfold crossE; simp [h0])
      go_enter Try.func55, Try.ntmps55
      go_wp2_with (go_at_call 29; ((with_reducible refine CV.out.mono ?_); rintro e w1 ⟨rfl, hb1⟩; have y0 := (hb1.cell (p := ⟨w.heap.size, 0, none⟩) dlt).trans d0))
      go_ret
      exact ⟨ret_int HE.out.symm, below_step HB.out hb1⟩
    · have h0' : 0 ≤ x := by omega
      by_cases h1 : (ns : Int) ≤ x
      · have HE : Hid (crossE true ns x = 2) := Lib.hid (by unfold crossE; simp [h0, h1])
        go_enter Try.func55, Try.ntmps55
        go_wp2_with (go_at_call 29; ((with_reducible refine CV.out.mono ?_); rintro e w1 ⟨rfl, hb1⟩; have y0 := (hb1.cell (p := ⟨w.heap.size, 0, none⟩) dlt).trans d0))
        go_ret
        exact ⟨ret_int HE.out.symm, below_step HB.out hb1⟩
      · have h1' : x < (ns : Int) := by omega
        have HE : Hid (crossE true ns x = 0) := Lib.hid (by unfold crossE; simp [h0, h1])
        clear h1
        go_enter Try.func55, Try.ntmps55
        go_wp2_with (go_at_call 29; ((with_reducible refine CV.out.mono ?_); rintro e w1 ⟨rfl, hb1⟩; have y0 := (hb1.cell (p := ⟨w.heap.size, 0, none⟩) dlt).trans d0))
        go_ret
        exact ⟨ret_int HE.out.symm, below_step HB.out hb1⟩

theorem enters_one : Enters 56 := fun _ _ => by kernel_rfl
theorem asks_one (w : World) (g N k : Nat) (hc : w.cell? ⟨g, 0, none⟩ = some (.int .i64 (k : Nat))) (hg : g < w.heap.size) : Asks w 56 #[.pointer (some ⟨g, 0, none⟩)] (fun c => decide (c = k)) N := fun W x hW _ => by
  show Calls Try.prog 56 #[.int .i64 (x : Nat), .pointer (some ⟨g, 0, none⟩)] W _
  have hc1 := (hW.cell (p := ⟨g, 0, none⟩) hg).trans hc
  by_cases e : x = k
  · subst e
    have he : ((x : Int) == (x : Int)) = true := by simp
    have HR : Hid (decide (x = x) = true) := Lib.hid (by simp)
    clear hc
    go_enter Try.func56, Try.ntmps56
    go_wp2
    go_ret
    exact ⟨ret_bool HR.out.symm, Below.refl _ _⟩
  · have he : ((x : Int) == (k : Int)) = false := by simp only [beq_eq_false_iff_ne, ne_eq]; omega
    have HR : Hid (decide (x = k) = false) := Lib.hid (by simp [e])
    clear hc e
    go_enter Try.func56, Try.ntmps56
    go_wp2
    go_ret
    exact ⟨ret_bool HR.out.symm, Below.refl _ _⟩

set_option maxHeartbeats 1600000 in
set_option maxRecDepth 100000 in
theorem switch_yes (A B : Option Addr) (ns cs nm cm : Nat) (lp : Int) (s m : List Int) (k : Nat) (w : World) (h : DV w A ns B nm s m) (hv : validB s m lp = true) (hk : k < ns) : Calls Try.prog 23 #[dval A ns cs B nm cm lp, .int .i64 (k : Nat)] w (OpYes w ns nm lp s m 3 k) := by
  obtain ⟨hnm, hns, hM, hS, _, _⟩ := valid_data hv h.hs.1 h.hm.1
  have HV := Lib.hid hv
  have HNM := Lib.hid hnm
  have HK := Lib.hid hk
  clear hM hS hv hnm
  have hb1 := below_alloc w (dbox A ns cs B nm cm lp)
  have hb2 := below_alloc (w.alloc (dbox A ns cs B nm cm lp)) (.cells #[.int .i64 (k : Nat)] 3)
  have hb3 := below_alloc ((w.alloc (dbox A ns cs B nm cm lp)).alloc (.cells #[.int .i64 (k : Nat)] 3)) (.cells #[.slice none 0 0, .slice none 0 0, .int .i64 0] 24)
  have hd := ((DB.new w A ns cs B nm cm lp).keep hb2).keep hb3
  have hbx := bx0_new ((w.alloc (dbox A ns cs B nm cm lp)).alloc (.cells #[.int .i64 (k : Nat)] 3))
  have hfc : ((w.alloc (dbox A ns cs B nm cm lp)).alloc (.cells #[.int .i64 (k : Nat)] 3)).cell? ⟨w.heap.size + 1, 0, none⟩ = some (.int .i64 (k : Nat)) := by
    rw [show w.heap.size + 1 = (w.alloc (dbox A ns cs B nm cm lp)).heap.size by simp, World.cell?_alloc_at _ _ _ _ rfl]; rfl
  have hfc2 := (hb3.cell (p := ⟨w.heap.size + 1, 0, none⟩) (by simp)).trans hfc
  have hb := below_step (below_step hb1 hb2) hb3
  have hsz : ((w.alloc (dbox A ns cs B nm cm lp)).alloc (.cells #[.int .i64 (k : Nat)] 3)).heap.size = w.heap.size + 2 := by simp
  rw [hsz] at hbx
  have hsz3 : (((w.alloc (dbox A ns cs B nm cm lp)).alloc (.cells #[.int .i64 (k : Nat)] 3)).alloc (.cells #[.slice none 0 0, .slice none 0 0, .int .i64 0] 24)).heap.size = w.heap.size + 3 := by simp
  have HH := Lib.hid h
  clear hb1 hb2 hb3 hfc hsz h
  unfold dbox at hd hbx hfc2 hb hsz3
  go_enter Try.func23, Try.ntmps23
  go_upto_region 1 with fail
  generalize ((w.alloc (.cells #[.slice A ns cs, .slice B nm cm, .int .i64 lp] 24)).alloc (.cells #[.int .i64 (k : Nat)] 3)).alloc (.cells #[.slice none 0 0, .slice none 0 0, .int .i64 0] 24) = w0 at hd hbx hfc2 hb hsz3 ⊢
  rw [show w.heap.size + 1 + 1 = w.heap.size + 2 by omega]
  obtain ⟨gf, hgf⟩ : ∃ gf, w.heap.size + 1 = gf := ⟨_, rfl⟩
  obtain ⟨gr, hgr⟩ : ∃ gr, w.heap.size + 2 = gr := ⟨_, rfl⟩
  rw [hgf] at hfc2 ⊢
  rw [hgr] at hbx ⊢
  have HBX := Lib.hid hbx
  have HB := Lib.hid hb
  have HFC := Lib.hid hfc2
  have HLT : Hid (gf < w0.heap.size ∧ w.heap.size ≤ gr ∧ gr < w0.heap.size) := Lib.hid ⟨by omega, by omega, by omega⟩
  obtain ⟨d0, d1, d2, dlt⟩ := hd
  have hflt : gf < w0.heap.size := HLT.out.1
  have hce : crossE (validB s m lp) ns (k : Int) = 0 := by rw [HV.out]; unfold crossE; rw [if_neg (by decide), if_neg (by omega), if_neg (by omega)]
  have CE0 := cross_any A B ns cs nm cm lp (k : Int) s m w0 (HH.out.keep hb) (by omega)
  rw [hce] at CE0
  have CE := Lib.hid CE0
  have CM : ∀ W, Below w0.heap.size w0 W → Hid (Calls Try.prog 39 #[dval A ns cs B nm cm lp, .func (.func 56) #[] #[.pointer (some ⟨gf, 0, none⟩)]] W (MvPost W ns nm lp (fpK (fun c => decide (c = k)) s ns) (mvK (rot fun c => if (fun c => decide (c = k)) c = true then swQ s c else 0) m nm))) := fun W hW =>
    Lib.hid (switched_any 56 #[.pointer (some ⟨gf, 0, none⟩)] (fun c => decide (c = k)) A B ns cs nm cm lp s m W (HH.out.hs.keep (below_step HB.out hW)) (HH.out.hm.keep (below_step HB.out hW)) HV.out enters_one (asks_one W gf ns k ((hW.cell (p := ⟨gf, 0, none⟩) HLT.out.1).trans HFC.out) (Nat.lt_of_lt_of_le HLT.out.1 hW.size)))
  have HMO := Lib.hid (moved_op (kd := 3) (k := k) HH.out.hs.1 HH.out.hm.1 HNM.out (rot fun c => if (fun c => decide (c = k)) c = true then swQ s c else 0) (fun c => decide (c = k)) (by unfold opT; simp) (fun _ => rfl))
  have hmf : ∀ (fn : Fn) (first cap : Array Value) (w : World), (Instr.makeFunc fn first cap).run Try.prog w = .ok (.func fn first cap) w := fun _ _ _ _ => rfl
  clear hb hbx hgr hgf hsz3 hce CE0
  go_wp2_with (first
    | (go_at_call 55; ((with_reducible refine CE.out.mono ?_); rintro e w1 ⟨rfl, hb1⟩; have x0 := (hb1.cell (p := ⟨w.heap.size, 0, none⟩) dlt).trans d0; have x1 := (hb1.cell (p := ⟨w.heap.size, 1, none⟩) dlt).trans d1; have x2 := (hb1.cell (p := ⟨w.heap.size, 2, none⟩) dlt).trans d2))
    | (go_at_call 39; ((with_reducible refine (CM _ hb1).out.mono ?_); rintro e w2 ⟨A1, c1, B1, m1, rfl, oS, oM, hb2⟩; have hr := HBX.out.kp (below_step hb1 hb2); have r0 := hr.1.1; have r1 := hr.1.2.1; have r2 := hr.1.2.2.1; have f0 := hr.2 0; have f1 := hr.2 1; have f2 := hr.2 2)))
  obtain ⟨k0, k1, k2⟩ := set3_cells w2 gr (.slice A1 ns c1) (.slice B1 nm m1) (.int .i64 lp) r0 r1 r2
  have HF : Hid (OpYes w ns nm lp s m 3 k (.returned (.tuple #[dval A1 ns c1 B1 nm m1 lp, .int .i64 0])) (set3 w2 gr (.slice A1 ns c1) (.slice B1 nm m1) (.int .i64 lp))) := Lib.hid (by
    have hg := HLT.out
    have h1 := hb1.size
    have h0 := HB.out.size
    exact ⟨_, _, _, _, _, _, rfl, (oS.set3 (fun e => by have := World.ownsRow.lt oS _ e; omega) _ _ _).mono (by omega), (oM.set3 (fun e => by have := World.ownsRow.lt oM _ e; omega) _ _ _).mono (by omega), HMO.out, set3_below (below_step HB.out (below_step hb1 hb2)) hg.2.1 _ _ _⟩)
  exact bodyPost_ret (v := .tuple #[dval A1 ns c1 B1 nm m1 lp, .int .i64 0]) (by simp [results, Try.results23, go_sem, k0, k1, k2]) rfl HF.out
set_option maxHeartbeats 1600000 in
set_option maxRecDepth 100000 in
theorem switch_no1 (A B : Option Addr) (ns cs nm cm : Nat) (lp x : Int) (s m : List Int) (w : World) (h : DV w A ns B nm s m) (hx : -9223372036854775808 ≤ x ∧ x ≤ 9223372036854775807) (hc : crossE (validB s m lp) ns x = 1) : Calls Try.prog 23 #[dval A ns cs B nm cm lp, .int .i64 x] w (OpNo w 1) := by
  have hb1 := below_alloc w (dbox A ns cs B nm cm lp)
  have hb2 := below_alloc (w.alloc (dbox A ns cs B nm cm lp)) (.cells #[.int .i64 x] 3)
  have hb3 := below_alloc ((w.alloc (dbox A ns cs B nm cm lp)).alloc (.cells #[.int .i64 x] 3)) (.cells #[.slice none 0 0, .slice none 0 0, .int .i64 0] 24)
  have hd := ((DB.new w A ns cs B nm cm lp).keep hb2).keep hb3
  have hbx := bx0_new ((w.alloc (dbox A ns cs B nm cm lp)).alloc (.cells #[.int .i64 x] 3))
  have hfc : ((w.alloc (dbox A ns cs B nm cm lp)).alloc (.cells #[.int .i64 x] 3)).cell? ⟨w.heap.size + 1, 0, none⟩ = some (.int .i64 x) := by
    rw [show w.heap.size + 1 = (w.alloc (dbox A ns cs B nm cm lp)).heap.size by simp, World.cell?_alloc_at _ _ _ _ rfl]; rfl
  have hfc2 := (hb3.cell (p := ⟨w.heap.size + 1, 0, none⟩) (by simp)).trans hfc
  have hb := below_step (below_step hb1 hb2) hb3
  have hsz : ((w.alloc (dbox A ns cs B nm cm lp)).alloc (.cells #[.int .i64 x] 3)).heap.size = w.heap.size + 2 := by simp
  rw [hsz] at hbx
  have hsz3 : (((w.alloc (dbox A ns cs B nm cm lp)).alloc (.cells #[.int .i64 x] 3)).alloc (.cells #[.slice none 0 0, .slice none 0 0, .int .i64 0] 24)).heap.size = w.heap.size + 3 := by simp
  have HH := Lib.hid h
  clear hb1 hb2 hb3 hfc hsz h
  unfold dbox at hd hbx hfc2 hb hsz3
  go_enter Try.func23, Try.ntmps23
  go_upto_region 1 with fail
  generalize ((w.alloc (.cells #[.slice A ns cs, .slice B nm cm, .int .i64 lp] 24)).alloc (.cells #[.int .i64 x] 3)).alloc (.cells #[.slice none 0 0, .slice none 0 0, .int .i64 0] 24) = w0 at hd hbx hfc2 hb hsz3 ⊢
  rw [show w.heap.size + 1 + 1 = w.heap.size + 2 by omega]
  obtain ⟨gf, hgf⟩ : ∃ gf, w.heap.size + 1 = gf := ⟨_, rfl⟩
  obtain ⟨gr, hgr⟩ : ∃ gr, w.heap.size + 2 = gr := ⟨_, rfl⟩
  rw [hgf] at hfc2 ⊢
  rw [hgr] at hbx ⊢
  have HBX := Lib.hid hbx
  have HB := Lib.hid hb
  have HFC := Lib.hid hfc2
  have HLT : Hid (gf < w0.heap.size ∧ w.heap.size ≤ gr ∧ gr < w0.heap.size) := Lib.hid ⟨by omega, by omega, by omega⟩
  obtain ⟨d0, d1, d2, dlt⟩ := hd
  have hflt : gf < w0.heap.size := HLT.out.1
  have CE0 := cross_any A B ns cs nm cm lp x s m w0 (HH.out.keep hb) hx
  rw [hc] at CE0
  have CE := Lib.hid CE0
  clear hb hbx hgr hgf hsz3 CE0 hc
  go_wp2_with (go_at_call 55; ((with_reducible refine CE.out.mono ?_); rintro e w1 ⟨rfl, hb1⟩; have hr := HBX.out.kp hb1; have r0 := hr.1.1; have r1 := hr.1.2.1; have r2 := hr.1.2.2.1; have f0 := hr.2 0; have f1 := hr.2 1; have f2 := hr.2 2))
  obtain ⟨k0, k1, k2⟩ := set3_cells w1 gr (.slice none 0 0) (.slice none 0 0) (.int .i64 0) r0 r1 r2
  have HF : Hid (OpNo w 1 (.returned (.tuple #[dval none 0 0 none 0 0 0, .int .i64 1])) (set3 w1 gr (.slice none 0 0) (.slice none 0 0) (.int .i64 0))) := Lib.hid ⟨rfl, set3_below (below_step HB.out hb1) HLT.out.2.1 _ _ _⟩
  exact bodyPost_ret (v := .tuple #[dval none 0 0 none 0 0 0, .int .i64 1]) (by simp [results, Try.results23, go_sem, k0, k1, k2]) rfl HF.out
set_option maxHeartbeats 1600000 in
set_option maxRecDepth 100000 in
theorem switch_no2 (A B : Option Addr) (ns cs nm cm : Nat) (lp x : Int) (s m : List Int) (w : World) (h : DV w A ns B nm s m) (hx : -9223372036854775808 ≤ x ∧ x ≤ 9223372036854775807) (hc : crossE (validB s m lp) ns x = 2) : Calls Try.prog 23 #[dval A ns cs B nm cm lp, .int .i64 x] w (OpNo w 2) := by
  have hb1 := below_alloc w (dbox A ns cs B nm cm lp)
  have hb2 := below_alloc (w.alloc (dbox A ns cs B nm cm lp)) (.cells #[.int .i64 x] 3)
  have hb3 := below_alloc ((w.alloc (dbox A ns cs B nm cm lp)).alloc (.cells #[.int .i64 x] 3)) (.cells #[.slice none 0 0, .slice none 0 0, .int .i64 0] 24)
  have hd := ((DB.new w A ns cs B nm cm lp).keep hb2).keep hb3
  have hbx := bx0_new ((w.alloc (dbox A ns cs B nm cm lp)).alloc (.cells #[.int .i64 x] 3))
  have hfc : ((w.alloc (dbox A ns cs B nm cm lp)).alloc (.cells #[.int .i64 x] 3)).cell? ⟨w.heap.size + 1, 0, none⟩ = some (.int .i64 x) := by
    rw [show w.heap.size + 1 = (w.alloc (dbox A ns cs B nm cm lp)).heap.size by simp, World.cell?_alloc_at _ _ _ _ rfl]; rfl
  have hfc2 := (hb3.cell (p := ⟨w.heap.size + 1, 0, none⟩) (by simp)).trans hfc
  have hb := below_step (below_step hb1 hb2) hb3
  have hsz : ((w.alloc (dbox A ns cs B nm cm lp)).alloc (.cells #[.int .i64 x] 3)).heap.size = w.heap.size + 2 := by simp
  rw [hsz] at hbx
  have hsz3 : (((w.alloc (dbox A ns cs B nm cm lp)).alloc (.cells #[.int .i64 x] 3)).alloc (.cells #[.slice none 0 0, .slice none 0 0, .int .i64 0] 24)).heap.size = w.heap.size + 3 := by simp
  have HH := Lib.hid h
  clear hb1 hb2 hb3 hfc hsz h
  unfold dbox at hd hbx hfc2 hb hsz3
  go_enter Try.func23, Try.ntmps23
  go_upto_region 1 with fail
  generalize ((w.alloc (.cells #[.slice A ns cs, .slice B nm cm, .int .i64 lp] 24)).alloc (.cells #[.int .i64 x] 3)).alloc (.cells #[.slice none 0 0, .slice none 0 0, .int .i64 0] 24) = w0 at hd hbx hfc2 hb hsz3 ⊢
  rw [show w.heap.size + 1 + 1 = w.heap.size + 2 by omega]
  obtain ⟨gf, hgf⟩ : ∃ gf, w.heap.size + 1 = gf := ⟨_, rfl⟩
  obtain ⟨gr, hgr⟩ : ∃ gr, w.heap.size + 2 = gr := ⟨_, rfl⟩
  rw [hgf] at hfc2 ⊢
  rw [hgr] at hbx ⊢
  have HBX := Lib.hid hbx
  have HB := Lib.hid hb
  have HFC := Lib.hid hfc2
  have HLT : Hid (gf < w0.heap.size ∧ w.heap.size ≤ gr ∧ gr < w0.heap.size) := Lib.hid ⟨by omega, by omega, by omega⟩
  obtain ⟨d0, d1, d2, dlt⟩ := hd
  have hflt : gf < w0.heap.size := HLT.out.1
  have CE0 := cross_any A B ns cs nm cm lp x s m w0 (HH.out.keep hb) hx
  rw [hc] at CE0
  have CE := Lib.hid CE0
  clear hb hbx hgr hgf hsz3 CE0 hc
  go_wp2_with (go_at_call 55; ((with_reducible refine CE.out.mono ?_); rintro e w1 ⟨rfl, hb1⟩; have hr := HBX.out.kp hb1; have r0 := hr.1.1; have r1 := hr.1.2.1; have r2 := hr.1.2.2.1; have f0 := hr.2 0; have f1 := hr.2 1; have f2 := hr.2 2))
  obtain ⟨k0, k1, k2⟩ := set3_cells w1 gr (.slice none 0 0) (.slice none 0 0) (.int .i64 0) r0 r1 r2
  have HF : Hid (OpNo w 2 (.returned (.tuple #[dval none 0 0 none 0 0 0, .int .i64 2])) (set3 w1 gr (.slice none 0 0) (.slice none 0 0) (.int .i64 0))) := Lib.hid ⟨rfl, set3_below (below_step HB.out hb1) HLT.out.2.1 _ _ _⟩
  exact bodyPost_ret (v := .tuple #[dval none 0 0 none 0 0 0, .int .i64 2]) (by simp [results, Try.results23, go_sem, k0, k1, k2]) rfl HF.out

end Go.Proofs.Ytdamfoobnbjojaa

/- Walks: overOutgoing, nextAtSmoothed, closedUp. -/
namespace Go.Proofs.Ytdamfoobnbjojaa
open Go.RowKit Go.Maps

/-- The outgoing half-edge of the over strand. -/
def oO (s : List Int) (k : Nat) : Nat := trn (4 * k) (swQ s k)
theorem over_any (A B : Option Addr) (ns cs nm cm : Nat) (lp : Int) (s : List Int) (k : Nat) (w : World) (hs : RI w A ns s) (hk : k < ns) (hns : ns ≤ 64) (hS : s.getD k 0 = 1 ∨ s.getD k 0 = -1) :
    Calls Try.prog 81 #[dval A ns cs B nm cm lp, .int .i64 (k : Nat)] w fun e w' => e = .returned (.int .i64 (oO s k : Nat)) ∧ Below w.heap.size w w' := by
  obtain ⟨d0, d1, d2, dlt⟩ := DB.new w A ns cs B nm cm lp
  have hb0 := below_alloc w (dbox A ns cs B nm cm lp)
  have HB := Lib.hid hb0
  obtain ⟨b, off, rfl, hb, hc⟩ := hs.2 (by omega)
  have hcell := (hb0.cell (p := ⟨b, off + k, none⟩) hb).trans (hc k hk)
  obtain ⟨sg, hsg⟩ : ∃ sg, s.getD k 0 = sg := ⟨_, rfl⟩
  rw [hsg] at hcell hS
  have hsl : -1 ≤ sg ∧ sg ≤ 1 := by omega
  have k0 : (0 : Int) ≤ (k : Int) := Int.natCast_nonneg _
  have k1 : (k : Int) < (ns : Int) := by omega
  have hki : (k : Int) ≤ 64 := by omega
  have HE : Hid (turnI (4 * (k : Int)) sg = ((oO s k : Nat) : Int)) := Lib.hid (by
    unfold oO swQ turnI trn; rw [hsg, if_neg (by omega)]
    rcases hS with e | e <;> rw [e]
    · rw [show (1 : Int).tmod 4 = 1 from rfl]; first | (simp; done) | (simp; omega)
    · rw [show (-1 : Int).tmod 4 = -1 from rfl]; first | (simp; done) | (simp; omega))
  have CT : ∀ W1, Hid (Calls Try.prog 42 #[.int .i64 (4 * (k : Int)), .int .i64 sg] W1 fun e w' => e = .returned (.int .i64 (turnI (4 * (k : Int)) sg)) ∧ W1 = w') := fun W1 => Lib.hid (turn_any (4 * (k : Int)) sg W1 (by omega) (by omega) (by omega) (by omega))
  clear hs hc hb0 hS hsg
  go_enter Try.func81, Try.ntmps81
  go_wp2_with (go_at_call 42; ((with_reducible refine (CT _).out.mono ?_); rintro e w2 ⟨rfl, rfl⟩))
  go_ret
  exact ⟨ret_int HE.out, HB.out⟩

theorem lawInt : Keyed Try.prog 3 := int_keyed Try.underlying3
theorem zeroInt (w : World) : (zeroValue 3).run Try.prog w = .ok (.int .i64 0) w := by kernel_rfl
/-- The map of two entries. -/
def nxD (u v a c : Int) : DataW Unit := ((DataW.map []).put (.int .i64 u) (.lit (.int .i64 a))).put (.int .i64 v) (.lit (.int .i64 c))
/-- The map at block b leads from u to a, and from v to c. -/
def NxM (w : World) (b : Nat) (u v a c : Int) : Prop := ∃ D, (D = nxD u v a c ∨ D = nxD v u c a) ∧ w.ownsMap Try.prog 3 (plainElem Try.prog 3) b 2 D

def NxPost (k p a c : Nat) (w : World) (e : Ending) (w' : World) : Prop := ∃ b, e = .returned (.map (some b)) ∧ NxM w' b (4 * (k : Int)) p a c ∧ w.heap.size ≤ b ∧ b < w'.heap.size ∧ Below w.heap.size w w'

set_option maxHeartbeats 6400000 in
set_option maxRecDepth 100000 in
theorem next_any (A B : Option Addr) (ns cs nm cm : Nat) (lp : Int) (s m : List Int) (k : Nat) (w : World) (hs : RI w A ns s) (hm : RI w B nm m) (hk : k < ns) (hv : validB s m lp = true) :
    Calls Try.prog 57 #[dval A ns cs B nm cm lp, .int .i64 (k : Nat)] w (NxPost k (trn (oO s k) 2) (matesOf m (oO s k)) (matesOf m (trn (4 * k) 2)) w) := by
  obtain ⟨hnm, hns, hM, hS, _, _⟩ := valid_data hv hs.1 hm.1
  have hmm := @run_makeMap Try.prog
  have hd := DB.new w A ns cs B nm cm lp
  have hb0 := below_alloc w (dbox A ns cs B nm cm lp)
  have ho4 : oO s k < nm := by rw [hnm]; exact trn_lt (by omega)
  have hu4 : trn (4 * k) 2 < nm := by rw [hnm]; exact trn_lt (by omega)
  have hv4 : trn (oO s k) 2 < nm := by rw [hnm] at ho4 ⊢; exact trn_lt ho4
  have CO := Lib.hid (over_any A B ns cs nm cm lp s k (w.alloc (dbox A ns cs B nm cm lp)) (hs.keep hb0) hk hns (hS k hk))
  obtain ⟨b, off, rfl, hb, hc⟩ := hm.2 (by omega)
  obtain ⟨h1, h1'⟩ := hM _ ho4
  obtain ⟨h2, h2'⟩ := hM _ hu4
  have c1 := (hb0.cell (p := ⟨b, off + oO s k, none⟩) hb).trans (hc _ ho4)
  have c2 := (hb0.cell (p := ⟨b, off + trn (4 * k) 2, none⟩) hb).trans (hc _ hu4)
  unfold mt at h1 h2
  rw [h1] at c1
  rw [h2] at c2
  have t1 := turn_trn (oO s k) 2 (by omega)
  have t2 := turn_trn (4 * k) 2 (by omega)
  rw [show ((2 : Nat) : Int) = 2 from rfl] at t1 t2
  rw [show ((4 * k : Nat) : Int) = 4 * (k : Int) by omega] at t2
  have O1 : ∀ W1, Hid (Calls Try.prog 45 #[.int .i64 ((oO s k : Nat) : Int)] W1 fun e w' => e = .returned (.int .i64 ((trn (oO s k) 2 : Nat) : Int)) ∧ W1 = w') := fun W1 => Lib.hid (by have := opposite_any ((oO s k : Nat) : Int) W1 (by omega) (by omega); rwa [t1] at this)
  have O2 : ∀ W1, Hid (Calls Try.prog 45 #[.int .i64 (4 * (k : Int))] W1 fun e w' => e = .returned (.int .i64 ((trn (4 * k) 2 : Nat) : Int)) ∧ W1 = w') := fun W1 => Lib.hid (by have := opposite_any (4 * (k : Int)) W1 (by omega) (by omega); rwa [t2] at this)
  have hxy : 4 * k ≠ trn (oO s k) 2 := fun e => by
    unfold oO swQ trn at e; split at e <;> omega
  have HXY := Lib.hid hxy
  obtain ⟨o, ho⟩ : ∃ o, oO s k = o := ⟨_, rfl⟩
  rw [ho] at ho4 hv4 CO h1' c1 O1 HXY ⊢
  obtain ⟨p, hp⟩ : ∃ p, trn o 2 = p := ⟨_, rfl⟩
  rw [hp] at O1 hv4 HXY ⊢
  obtain ⟨q, hq⟩ : ∃ q, trn (4 * k) 2 = q := ⟨_, rfl⟩
  rw [hq] at hu4 h2' c2 O2 ⊢
  obtain ⟨a, ha⟩ : ∃ a, matesOf m o = a := ⟨_, rfl⟩
  rw [ha] at h1' c1 ⊢
  obtain ⟨c, hcc⟩ : ∃ c, matesOf m q = c := ⟨_, rfl⟩
  rw [hcc] at h2' c2 ⊢
  have HB0 := Lib.hid hb0
  have HLT : Hid (a < nm ∧ c < nm ∧ nm = 4 * ns ∧ ns ≤ 64 ∧ p < nm ∧ o < nm ∧ q < nm) := Lib.hid ⟨h1', h2', hnm, hns, hv4, ho4, hu4⟩
  have k0 : (0 : Int) ≤ (k : Int) := Int.natCast_nonneg _
  have k1 : (k : Int) ≤ 64 := by omega
  have q0 : (0 : Int) ≤ (q : Int) := Int.natCast_nonneg _
  have q1 : (q : Int) < (nm : Int) := by omega
  have o0 : (0 : Int) ≤ (o : Int) := Int.natCast_nonneg _
  have o1 : (o : Int) < (nm : Int) := by omega
  have hnmi : (nm : Int) ≤ 256 := by omega
  obtain ⟨d0, d1, d2, dlt⟩ := hd
  clear hs hm hM hS hv h1 h2 h1' h2' t1 t2 hc hb0 ho hp hq ha hcc hnm hxy
  go_enter Try.func57, Try.ntmps57
  go_upto_region 2 with (go_at_call 81; ((with_reducible refine CO.out.mono ?_); rintro e w1 ⟨rfl, hb1⟩))
  have x1 := (hb1.cell (p := ⟨w.heap.size, 1, none⟩) dlt).trans d1
  have y1 := (hb1.cell (p := ⟨b, off + o, none⟩) (Nat.lt_of_lt_of_le hb HB0.out.size)).trans c1
  have y2 := (hb1.cell (p := ⟨b, off + q, none⟩) (Nat.lt_of_lt_of_le hb HB0.out.size)).trans c2
  have hw1 : w.heap.size < w1.heap.size := Nat.lt_of_lt_of_le dlt hb1.size
  have hbw1 : b < w1.heap.size := by omega
  clear d0 d1 d2 c1 c2
  have hM0 : (w1.alloc (.map #[] 0)).drew.ownsMap Try.prog 3 (plainElem (H := Unit) Try.prog 3) w1.heap.size 0 (.map []) := World.ownsMap_made w1 _ _ _
  have hwf : ∀ x : Int, 0 ≤ x → x ≤ 1000 → (Lit.int .i64 x).wf = true := fun x h0 h1 => WalkArith.wf_i64 (by omega)
  have hlt := HLT.out
  obtain ⟨wA, hA, oA, gA⟩ := hM0.update (t := 59) (e := 3) lawInt Try.underlying59 (by unfold maxLen; omega) (keyOf_int_mk (a := 4 * (k : Int)) Try.underlying3 (hwf _ (by omega) (by omega))) (plainElem_int (a := (a : Int)) Try.underlying3 (hwf _ (by omega) (by omega)))
  obtain ⟨wB, hB, oB, gB⟩ := oA.update (t := 59) (e := 3) lawInt Try.underlying59 (by unfold maxLen; omega) (keyOf_int_mk (a := (p : Int)) Try.underlying3 (hwf _ (by omega) (by omega))) (plainElem_int (a := (c : Int)) Try.underlying3 (hwf _ (by omega) (by omega)))
  obtain ⟨wC, hC, oC, gC⟩ := hM0.update (t := 59) (e := 3) lawInt Try.underlying59 (by unfold maxLen; omega) (keyOf_int_mk (a := (p : Int)) Try.underlying3 (hwf _ (by omega) (by omega))) (plainElem_int (a := (c : Int)) Try.underlying3 (hwf _ (by omega) (by omega)))
  obtain ⟨wE, hE, oE, gE⟩ := oC.update (t := 59) (e := 3) lawInt Try.underlying59 (by unfold maxLen; omega) (keyOf_int_mk (a := 4 * (k : Int)) Try.underlying3 (hwf _ (by omega) (by omega))) (plainElem_int (a := (a : Int)) Try.underlying3 (hwf _ (by omega) (by omega)))
  have far : ∀ {x y : World}, (w1.alloc (.map #[] 0)).drew.grownBy x (some w1.heap.size) → x.grownBy y (some w1.heap.size) → (∀ g i, g < w1.heap.size → x.cell? ⟨g, i, none⟩ = w1.cell? ⟨g, i, none⟩) ∧ (∀ g i, g < w1.heap.size → y.cell? ⟨g, i, none⟩ = w1.cell? ⟨g, i, none⟩) ∧ Below w.heap.size w y := fun {x y} h1 h2 => by
    have f1 : ∀ g i, g < w1.heap.size → x.cell? ⟨g, i, none⟩ = w1.cell? ⟨g, i, none⟩ := fun g i h => (h1.cell_far ⟨g, i, none⟩ (by simp; omega) (by simp; omega)).trans (World.cell?_alloc_past _ _ _ h)
    have hs1 := h1.size
    simp at hs1
    have hb01 := below_step HB0.out hb1
    refine ⟨f1, fun g i h => (h2.cell_far ⟨g, i, none⟩ (by simp; omega) (by simp; omega)).trans (f1 g i h), ?_⟩
    exact ((below_step hb01 (below_alloc w1 _)).drew.grown h1 (by simp; omega) (fun j e => by injection e with e; omega)).grown h2 (by omega) (fun j e => by injection e with e; omega)
  obtain ⟨cA, cB, bB⟩ := far gA gB
  obtain ⟨cC, cE, bE⟩ := far gC gE
  have SA := Lib.hid (show wA.cell? ⟨w.heap.size, 1, none⟩ = some (.slice (some ⟨b, off, none⟩) nm cm) ∧ wA.cell? ⟨b, off + o, none⟩ = some (.int .i64 (a : Nat)) ∧ wA.cell? ⟨b, off + q, none⟩ = some (.int .i64 (c : Nat)) from ⟨(cA _ _ hw1).trans x1, (cA _ _ hbw1).trans y1, (cA _ _ hbw1).trans y2⟩)
  have SB := Lib.hid (show wB.cell? ⟨w.heap.size, 1, none⟩ = some (.slice (some ⟨b, off, none⟩) nm cm) ∧ wB.cell? ⟨b, off + o, none⟩ = some (.int .i64 (a : Nat)) ∧ wB.cell? ⟨b, off + q, none⟩ = some (.int .i64 (c : Nat)) from ⟨(cB _ _ hw1).trans x1, (cB _ _ hbw1).trans y1, (cB _ _ hbw1).trans y2⟩)
  have SC := Lib.hid (show wC.cell? ⟨w.heap.size, 1, none⟩ = some (.slice (some ⟨b, off, none⟩) nm cm) ∧ wC.cell? ⟨b, off + o, none⟩ = some (.int .i64 (a : Nat)) ∧ wC.cell? ⟨b, off + q, none⟩ = some (.int .i64 (c : Nat)) from ⟨(cC _ _ hw1).trans x1, (cC _ _ hbw1).trans y1, (cC _ _ hbw1).trans y2⟩)
  have SE := Lib.hid (show wE.cell? ⟨w.heap.size, 1, none⟩ = some (.slice (some ⟨b, off, none⟩) nm cm) ∧ wE.cell? ⟨b, off + o, none⟩ = some (.int .i64 (a : Nat)) ∧ wE.cell? ⟨b, off + q, none⟩ = some (.int .i64 (c : Nat)) from ⟨(cE _ _ hw1).trans x1, (cE _ _ hbw1).trans y1, (cE _ _ hbw1).trans y2⟩)
  have hw1' : w.heap.size ≤ w1.heap.size := by omega
  have hpost : ∀ y : World, y.ownsMap Try.prog 3 (plainElem (H := Unit) Try.prog 3) w1.heap.size 2 (nxD (4 * (k : Int)) p a c) ∨ y.ownsMap Try.prog 3 (plainElem (H := Unit) Try.prog 3) w1.heap.size 2 (nxD p (4 * (k : Int)) c a) → Below w.heap.size w y →
      NxPost k p a c w (.returned (.map (some w1.heap.size))) y := fun y h1 h2 => by
    rcases h1 with h1 | h1
    · exact ⟨_, rfl, ⟨_, .inl rfl, h1⟩, hw1', h1.lt, h2⟩
    · exact ⟨_, rfl, ⟨_, .inr rfl, h1⟩, hw1', h1.lt, h2⟩
  have HPB := Lib.hid (hpost wB (.inl oB) bB)
  have HPE := Lib.hid (hpost wE (.inr oE) bE)
  clear cA cB cC cE bB bE hM0 hwf oA oB gA gB oC oE gC gE hlt far hpost
  go_region_held3 (fun w' => w'.cell? ⟨w.heap.size, 1, none⟩ = some (.slice (some ⟨b, off, none⟩) nm cm) ∧ w'.cell? ⟨b, off + o, none⟩ = some (.int .i64 (a : Nat)) ∧ w'.cell? ⟨b, off + q, none⟩ = some (.int .i64 (c : Nat)))
    (first | exact SA.out | exact SB.out | exact SC.out | exact SE.out | go_keep)
    (first
      | (go_at_call 45; ((with_reducible refine (O1 _).out.mono ?_); rintro e w2 ⟨rfl, rfl⟩))
      | (go_at_call 45; ((with_reducible refine (O2 _).out.mono ?_); rintro e w2 ⟨rfl, rfl⟩)))
  all_goals (go_wp2; go_ret; first | exact HPB.out | exact HPE.out)

end Go.Proofs.Ytdamfoobnbjojaa

/- Walk: closedUp. -/
namespace Go.Proofs.Ytdamfoobnbjojaa
open Go.RowKit Go.Maps

/-- What a map of two entries reads as. -/
structure NxD (D : DataW Unit) (u v a c : Int) : Prop where
  has : ∀ x, has D (.int .i64 x) = decide (x = u ∨ x = v)
  atU : ∀ z, D.atKey (.int .i64 u) z = .lit (.int .i64 a)
  atV : ∀ z, D.atKey (.int .i64 v) z = .lit (.int .i64 c)
  no : ∀ x z, x ≠ u → x ≠ v → D.atKey (.int .i64 x) z = z
theorem lit_ne {x y : Int} (h : x ≠ y) : (Lit.int .i64 x) ≠ Lit.int .i64 y := fun e => by injection e with _ e; exact h e
theorem nx_read (u v a c : Int) (h : u ≠ v) : NxD (nxD u v a c) u v a c := by
  have hm0 : IsMap (DataW.map (H := Unit) []) := ⟨_, rfl⟩
  have hk : ∀ x : Int, WideAt.IsKeyLit (Lit.int .i64 x) := fun _ => trivial
  have hm1 : IsMap ((DataW.map (H := Unit) []).put (.int .i64 u) (.lit (.int .i64 a))) := ⟨_, rfl⟩
  unfold nxD
  refine ⟨fun x => ?_, fun z => ?_, fun z => ?_, fun x z h1 h2 => ?_⟩
  · by_cases e1 : x = v
    · subst e1; rw [has_put_same hm1 (hk _)]; simp
    · rw [has_put_other (lit_ne e1)]
      by_cases e2 : x = u
      · subst e2; rw [has_put_same hm0 (hk _)]; simp
      · rw [has_put_other (lit_ne e2)]; simp [e1, e2, Maps.has]
  · rw [atKey_put_other (lit_ne h), atKey_put_same hm0 (hk _)]
  · rw [atKey_put_same hm1 (hk _)]
  · rw [atKey_put_other (lit_ne h2), atKey_put_other (lit_ne h1)]; simp [DataW.atKey]
theorem NxD.of {D : DataW Unit} {u v a c : Int} (h : D = nxD u v a c ∨ D = nxD v u c a) (hne : u ≠ v) : NxD D u v a c := by
  rcases h with rfl | rfl
  · exact nx_read u v a c hne
  · have r := nx_read v u c a (fun e => hne e.symm)
    exact ⟨fun x => by rw [r.has x]; simp [or_comm], r.atV, r.atU, fun x z h1 h2 => r.no x z h2 h1⟩

/-- How many entries close up, of those that have come. -/
def clsN (left : Lit → Bool) (u v a c : Int) : Int := (if left (.int .i64 u) = false ∧ a = u then 1 else 0) + if left (.int .i64 v) = false ∧ c = v then 1 else 0
def closedN (u v a c : Int) : Int := (if a = u then 1 else 0) + if c = v then 1 else 0
theorem clsN_le (left : Lit → Bool) (u v a c : Int) : 0 ≤ clsN left u v a c ∧ clsN left u v a c ≤ 2 := by unfold clsN; split <;> split <;> omega
theorem same_int (x y : Int) : (Lit.int .i64 x).sameKey (.int .i64 y) = decide (x = y) := by
  by_cases e : x = y
  · subst e; rw [WideAt.sameKey_self (a := Lit.int .i64 x) trivial]; simp
  · rw [Maps.sameKey_ne (lit_ne e)]; simp [e]
theorem clsN_step {left : Lit → Bool} {u v a c x y : Int} (hne : u ≠ v) (hl : left (.int .i64 x) = true) (hx : (x = u ∧ y = a) ∨ (x = v ∧ y = c)) :
    clsN (fun z => left z && !z.sameKey (.int .i64 x)) u v a c = clsN left u v a c + if y = x then 1 else 0 := by
  unfold clsN
  simp only [same_int]
  rcases hx with ⟨rfl, rfl⟩ | ⟨rfl, rfl⟩
  · have h2 : ¬ v = x := fun e => hne e.symm
    simp [hl, h2]; omega
  · simp [hl, hne]

set_option maxHeartbeats 3200000 in
set_option maxRecDepth 100000 in
theorem closed_any (b : Nat) (u v a c : Int) (w : World) (hM : NxM w b u v a c) (hne : u ≠ v) :
    Calls Try.prog 58 #[.map (some b)] w fun e w' => e = .returned (.int .i64 (closedN u v a c)) ∧ Below w.heap.size w w' := by
  obtain ⟨D, hD0, hown⟩ := hM
  have hD := NxD.of hD0 hne
  have HD := Lib.hid hD
  have HNE := Lib.hid hne
  clear hD hD0 hne
  have hbl := hown.lt
  go_enter Try.func58, Try.ntmps58
  go_wp2_with (at_range; refine wpList_range_own _ rfl _ 59 rfl 3 3 lawInt Try.underlying59 _ b 2 _ rfl hown ?_; intro w0 hrg0 hg0 hs0)
  go_frame
  have hb0 : Below w.heap.size w w0 := (Below.refl _ _).grown hg0 (Nat.le_refl _) (fun q e => by cases e)
  have HS0 : Hid (clsN (has D) u v a c = 0) := Lib.hid (by unfold clsN; rw [HD.out.has u, HD.out.has v]; simp)
  go_loopw [3, 4, 5] (fun z _ _ wr => ∃ (left : Lit → Bool) (cnt : Nat), wr.ranges Try.prog 3 (plainElem Try.prog 3) b w.heap.size 2 D left cnt ∧ Below w.heap.size w wr ∧ z = .int .i64 (clsN left u v a c) ∧ Hid (∀ x, left (.int .i64 x) = true → x = u ∨ x = v)) (fun _ _ _ wr => wr.rangeLeft b w.heap.size)
  case atStart => exact ⟨_, _, hrg0, hb0, by rw [HS0.out], Lib.hid fun x h => by rw [HD.out.has x] at h; simpa using h⟩
  case round =>
    obtain ⟨left, cnt, hrg, hbr, rfl, HLF⟩ := hrel
    have hcl := clsN_le left u v a c
    obtain ⟨z, hz⟩ : ∃ z, clsN left u v a c = z := ⟨_, rfl⟩
    have HZ := Lib.hid hz
    rw [hz] at hcl ⊢
    clear hz
    go_wp2_with (first
      | (at_next; refine wpList_next_ranges_ii _ rfl _ rfl 3 3 .i64 .i64 lawInt Try.underlying3 Try.underlying3 b w.heap.size 2 _ _ _ rfl hrg ?_ ?_))
    · intro _ hl0
      have HE : Hid (z = closedN u v a c) := Lib.hid (by rw [← HZ.out]; unfold clsN closedN; simp only [hl0, true_and])
      clear hl0
      go_wp2
      go_ret
      exact ⟨ret_int HE.out, hbr⟩
    · intro x y w1 cnt1 hwx hwc hlx hat hrg1 hlt hg1 hs1 hen
      have hxy : (x = u ∧ y = a) ∨ (x = v ∧ y = c) := by
        have h1 := hat (.lit (.int .i64 0))
        rcases HLF.out x hlx with e | e
        · subst e
          rw [HD.out.atU] at h1
          injection h1 with h1; injection h1 with _ h1
          exact .inl ⟨rfl, h1.symm⟩
        · subst e
          rw [HD.out.atV] at h1
          injection h1 with h1; injection h1 with _ h1
          exact .inr ⟨rfl, h1.symm⟩
      have HST := Lib.hid (clsN_step (a := a) (c := c) HNE.out hlx hxy)
      have hb1 : Below w.heap.size w w1 := hbr.grown hg1 hbr.size (fun q e => by injection e with e; omega)
      have HLF' : Hid (∀ x', (fun z : Lit => left z && !z.sameKey (.int .i64 x)) (.int .i64 x') = true → x' = u ∨ x' = v) := Lib.hid fun x' h => HLF.out x' (by simp only [Bool.and_eq_true] at h; exact h.1)
      have HXY := Lib.hid hxy
      clear hat hlx hxy
      by_cases e : y = x
      · have he : (y == x) = true := by simp [e]
        have HE := Lib.hid e
        clear e
        go_wp2
        go_roundw
        case rel => exact ⟨_, cnt1, hrg1, hb1, by rw [HST.out, HZ.out, if_pos HE.out], HLF'⟩
        case measure => rw [hrg1.left_eq, hrg.left_eq]; exact hlt
      · have he : (y == x) = false := by simp [e]
        have HE := Lib.hid e
        clear e
        go_wp2
        go_roundw
        case rel => exact ⟨_, cnt1, hrg1, hb1, by rw [HST.out, HZ.out, if_neg HE.out, Int.add_zero], HLF'⟩
        case measure => rw [hrg1.left_eq, hrg.left_eq]; exact hlt

end Go.Proofs.Ytdamfoobnbjojaa

/- Walks: the two closures of matesWithout. -/
namespace Go.Proofs.Ytdamfoobnbjojaa
open Go.RowKit Go.Maps

theorem gr_drew {w w' : World} {row : Option Nat} (h : w.grownBy w' row) : w.grownBy w'.drew row := ⟨h.os, h.tape, h.output, h.size, h.block⟩
/-- The number of a half-edge when crossing k is gone. -/
def numN (k h : Nat) : Nat := if k < h / 4 then h - 4 else h
theorem enters_num : Enters 83 := fun _ _ => by kernel_rfl
theorem num_any (gq k h : Nat) (w : World) (hk : w.cell? ⟨gq, 0, none⟩ = some (.int .i64 (k : Nat))) (hh : h ≤ 1000) :
    Calls Try.prog 83 #[.int .i64 (h : Nat), .pointer (some ⟨gq, 0, none⟩)] w fun e w' => e = .returned (.int .i64 (numN k h : Nat)) ∧ w = w' := by
  obtain ⟨q, hq⟩ : ∃ q, h / 4 = q := ⟨_, rfl⟩
  have hqi : (h : Int) / 4 = (q : Int) := by omega
  have h0 : (0 : Int) ≤ (h : Int) := Int.natCast_nonneg _
  have h1 : (h : Int) ≤ 1000 := by omega
  have q0 : (0 : Int) ≤ (q : Int) := Int.natCast_nonneg _
  by_cases hlt : k < q
  · have hd : decide (k < q) = true := by simp [hlt]
    have HE : Hid ((numN k h : Int) = (h : Int) - 4) := Lib.hid (by unfold numN; rw [hq, if_pos hlt]; omega)
    have h4 : 4 ≤ (h : Int) := by omega
    clear hq hlt
    go_enter Try.func83, Try.ntmps83
    go_wp2
    go_ret
    exact ⟨ret_int HE.out.symm, rfl⟩
  · have hd : decide (k < q) = false := by simp [hlt]
    have HE : Hid ((numN k h : Int) = (h : Int)) := Lib.hid (by unfold numN; rw [hq, if_neg hlt])
    clear hq hlt
    go_enter Try.func83, Try.ntmps83
    go_wp2
    go_ret
    exact ⟨ret_int HE.out.symm, rfl⟩

/-- Where a strand goes on. -/
def nxV (u v a c x : Nat) : Nat := if x = u then a else if x = v then c else 0
set_option maxRecDepth 100000 in
theorem look_nx {w : World} {b : Nat} {D : DataW Unit} {u v a c : Nat} (h : w.ownsMap Try.prog 3 (plainElem Try.prog 3) b 2 D) (hD : NxD D u v a c) (x : Nat) (hx : x ≤ 1000) :
    (Instr.lookup 59 (.map (some b)) (.int .i64 (x : Nat)) true).run Try.prog w = .ok (.tuple #[.int .i64 (nxV u v a c x : Nat), .bool (decide (x = u ∨ x = v))]) w := by
  obtain ⟨y, ps, hrun, hy⟩ := h.look_ok lawInt Try.underlying59 (zeroInt w) (plainElem_int Try.underlying3 (a := 0) (by decide)) (keyOf_int_mk (a := (x : Int)) Try.underlying3 (WalkArith.wf_i64 (by omega)))
  rw [hrun, hD.has]
  obtain ⟨z, rfl, hz, hwz⟩ := plainElem_int_inv Try.underlying3 hy
  have h1 : D.atKey (.int .i64 (x : Int)) (.lit (.int .i64 0)) = .lit (.int .i64 z) := congrArg Prod.fst hz
  have hz2 : z = (nxV u v a c x : Nat) := by
    unfold nxV
    by_cases e1 : x = u
    · subst e1; rw [hD.atU] at h1; injection h1 with h1; injection h1 with _ h1; rw [if_pos rfl]; exact h1.symm
    · rw [if_neg e1]
      by_cases e2 : x = v
      · subst e2; rw [hD.atV] at h1; injection h1 with h1; injection h1 with _ h1; rw [if_pos rfl]; exact h1.symm
      · rw [if_neg e2]; rw [hD.no _ _ (by omega) (by omega)] at h1; injection h1 with h1; injection h1 with _ h1; exact h1.symm
  rw [hz2]
  have hdd : decide ((x : Int) = (u : Int) ∨ (x : Int) = (v : Int)) = decide (x = u ∨ x = v) := by
    rw [Bool.eq_iff_iff]; simp only [decide_eq_true_eq]; omega
  rw [hdd]

/-- Behind crossing k: the half-edge that is reached from x, and no further. -/
structure Chn (u v a c n : Nat) (X : Nat → Nat) : Prop where
  go : ∀ i, i < n → (X i = u ∨ X i = v) ∧ X (i + 1) = nxV u v a c (X i)
  stop : X n ≠ u ∧ X n ≠ v
  small : ∀ i, X i ≤ 1000

/-- What follow reads. -/
structure FolW (w : World) (gd gn gf gx gq gX nx b k : Nat) (A B : Option Addr) (ns cs nm cm : Nat) (lp : Int) (m : List Int) (u v a c : Nat) (D : DataW Unit) : Prop where
  d : DB w gd A ns cs B nm cm lp
  hm : RI w B nm m
  n : w.cell? ⟨gn, 0, none⟩ = some (.map (some b))
  f : w.cell? ⟨gf, 0, none⟩ = some (.func (.func 83) #[] #[.pointer (some ⟨gq, 0, none⟩)])
  x : w.cell? ⟨gx, 0, none⟩ = some (.slice (some ⟨gX, 0, none⟩) nx nx)
  k : w.cell? ⟨gq, 0, none⟩ = some (.int .i64 (k : Nat))
  map : w.ownsMap Try.prog 3 (plainElem Try.prog 3) b 2 D
  read : NxD D u v a c
  ne : gX ≠ gx

def FolPost (w : World) (gX nx : Nat) (M : Nat → Nat) (e : Ending) (w' : World) : Prop := e = .returned (.tuple #[]) ∧ w.grownBy w' (some gX) ∧ Arr w' gX 3 nx (iv M)

set_option maxHeartbeats 1600000 in
set_option maxRecDepth 100000 in
theorem follow_any (gd gn gf gx gq gX nx b k : Nat) (A B : Option Addr) (ns cs nm cm : Nat) (lp : Int) (m : List Int) (u v a c : Nat) (D : DataW Unit) (h n : Nat) (X M : Nat → Nat) (w : World) (F : FolW w gd gn gf gx gq gX nx b k A B ns cs nm cm lp m u v a c D) (hX : Arr w gX 3 nx (iv M))
    (C : Chn u v a c n X) (hh : h < nm) (hnm : nm ≤ 256) (h0 : mt m h = (X 0 : Nat)) (hn1 : numN k h < nx) (hn2 : numN k (X n) < nx) (hnx : nx ≤ 256) :
    Calls Try.prog 84 #[.int .i64 (h : Nat), .pointer (some ⟨gd, 0, none⟩), .pointer (some ⟨gn, 0, none⟩), .pointer (some ⟨gf, 0, none⟩), .pointer (some ⟨gx, 0, none⟩)] w
      (FolPost w gX nx (upd (upd M (numN k h) (numN k (X n))) (numN k (X n)) (numN k h))) := by
  obtain ⟨d0, d1, d2, dlt⟩ := F.d
  obtain ⟨b0, off, rfl, hb, hc⟩ := F.hm.2 (by omega)
  have hcell := hc h hh
  unfold mt at h0
  rw [h0] at hcell
  have hfn := F.f
  have hnx0 := F.n
  have hcx := F.x
  have hck := F.k
  have HL : Hid (∀ i, (Instr.lookup 59 (.map (some b)) (.int .i64 (X i : Nat)) true).run Try.prog w = .ok (.tuple #[.int .i64 (nxV u v a c (X i) : Nat), .bool (decide (X i = u ∨ X i = v))]) w) := Lib.hid fun i => look_nx F.map F.read (X i) (C.small i)
  have hcf : ∀ (args : Array Value) (W : World), (callFunc 83 args).run Try.prog W = .ok (.enter 83 args) W := enters_num
  have HC := Lib.hid C
  have HX := Lib.hid hX
  have HNE := Lib.hid F.ne
  have hh0 : (0 : Int) ≤ (h : Int) := Int.natCast_nonneg _
  have hh1 : (h : Int) < (nm : Int) := by omega
  have hnmi : (nm : Int) ≤ 256 := by omega
  have HX0 := Lib.hid (C.small 0)
  obtain ⟨x0, hx0⟩ : ∃ x0, X 0 = x0 := ⟨_, rfl⟩
  rw [hx0] at hcell
  have L0 := HL.out 0
  have HXE := Lib.hid hx0
  rw [hx0] at L0
  obtain ⟨y0, hy0⟩ : ∃ y0, nxV u v a c x0 = y0 := ⟨_, rfl⟩
  obtain ⟨p0, hp0⟩ : ∃ p0, decide (x0 = u ∨ x0 = v) = p0 := ⟨_, rfl⟩
  rw [hy0, hp0] at L0
  have HY0 := Lib.hid hy0
  have HP0 := Lib.hid hp0
  clear F C hX hc h0 hx0 hy0 hp0
  go_enter Try.func84, Try.ntmps84
  go_wp2
  go_loopg [6, 7, 8] n (fun n' x y p wr => ∃ i : Nat, n' + i = n ∧ wr = w ∧ x = .int .i64 (X i : Nat) ∧ y = .int .i64 (nxV u v a c (X i) : Nat) ∧ p = .bool (decide (X i = u ∨ X i = v)))
  case atStart => exact ⟨0, by omega, rfl, by rw [HXE.out], by rw [HXE.out, HY0.out], by rw [HXE.out, HP0.out]⟩
  case round =>
    obtain ⟨i, hi, hw, rfl, rfl, rfl⟩ := hrel
    subst hw
    by_cases hin : i < n
    · obtain ⟨g1, g2⟩ := HC.out.go i hin
      have hp : decide (X i = u ∨ X i = v) = true := by simpa using g1
      have L1 := HL.out (i + 1)
      rw [hp, ← g2]
      have HE : Hid (∃ j, X (i + 1) = j) := Lib.hid ⟨_, rfl⟩
      obtain ⟨x1, hx1⟩ := HE.out
      obtain ⟨y1, hy1⟩ : ∃ y1, nxV u v a c x1 = y1 := ⟨_, rfl⟩
      obtain ⟨p1, hp1⟩ : ∃ p1, decide (x1 = u ∨ x1 = v) = p1 := ⟨_, rfl⟩
      rw [hx1, hy1, hp1] at L1
      rw [hx1]
      have HX1 := Lib.hid hx1
      have HY1 := Lib.hid hy1
      have HP1 := Lib.hid hp1
      have HIN := Lib.hid hi
      clear g1 g2 hp hx1 hy1 hp1 L0 hi
      go_wp2
      go_roundg (gk - 1)
      case measure => have := HIN.out; omega
      case rel => exact ⟨i + 1, by have := HIN.out; omega, rfl, by rw [HX1.out], by rw [HX1.out, HY1.out], by rw [HX1.out, HP1.out]⟩
    · obtain rfl : n = i := by omega
      have hp : decide (X n = u ∨ X n = v) = false := by have := HC.out.stop; simpa using this
      rw [hp]
      obtain ⟨y, hy⟩ : ∃ y, X n = y := ⟨_, rfl⟩
      rw [hy] at hn2 ⊢
      have hy1 : y ≤ 1000 := by rw [← hy]; exact HC.out.small n
      have C1 := Lib.hid (num_any gq k h wr.drew hck (by omega))
      have C2 := Lib.hid (num_any gq k y wr.drew hck hy1)
      obtain ⟨r, hr⟩ : ∃ r, numN k h = r := ⟨_, rfl⟩
      obtain ⟨z, hz⟩ : ∃ z, numN k y = z := ⟨_, rfl⟩
      rw [hr] at C1 hn1
      rw [hz] at C2 hn2
      have HRZ : Hid (upd (upd M (numN k h) (numN k (X n))) (numN k (X n)) (numN k h) = upd (upd M r z) z r) := Lib.hid (by rw [hy, hr, hz])
      have HF : Hid (∀ wq : World, Below wr.heap.size wr wq → Arr wq gX 3 nx (iv M) → True) := Lib.hid fun _ _ _ => trivial
      clear hp hy hr hz L0 hi hin HF
      go_wp2
      go_region_held3 (fun w' => w'.cell? ⟨gf, 0, none⟩ = some (.func (.func 83) #[] #[.pointer (some ⟨gq, 0, none⟩)]) ∧ w'.cell? ⟨gq, 0, none⟩ = some (.int .i64 (k : Nat)))
        (first | exact ⟨hfn, hck⟩ | go_keep)
        (first
          | ((with_reducible refine C1.out.mono ?_); rintro e w2 ⟨rfl, rfl⟩)
          | ((with_reducible refine C2.out.mono ?_); rintro e w2 ⟨rfl, rfl⟩))
      have cx := hcx
      have f1 := HX.out.frozen r
      have q1 := HX.out.cell r hn1
      have hA1 := HX.out.seti r z
      have f2 := hA1.frozen z
      have q2 := hA1.cell z hn2
      have cx1 : (wr.setCell ⟨gX, r, none⟩ (.int .i64 (z : Nat))).cell? ⟨gx, 0, none⟩ = some (.slice (some ⟨gX, 0, none⟩) nx nx) := (World.cell?_setCell_other _ _ _ _ (by have := HNE.out; first | (simp; done) | (simp; omega))).trans hcx
      have HA2 := Lib.hid (hA1.seti z r)
      have HG2 := Lib.hid (grown_set (grown_set ((⟨rfl, rfl, rfl, Nat.le_refl _, fun _ _ _ => rfl⟩ : wr.grownBy wr (some gX))) r (.int .i64 (z : Nat))) z (.int .i64 (r : Nat)))
      have r0 : (0 : Int) ≤ (r : Int) := Int.natCast_nonneg _
      have r1 : (r : Int) < (nx : Int) := by omega
      have z0 : (0 : Int) ≤ (z : Int) := Int.natCast_nonneg _
      have z1 : (z : Int) < (nx : Int) := by omega
      have hnxi : (nx : Int) ≤ 256 := by omega
      clear hA1
      go_wp2
      go_region
      all_goals
        go_wp2
        go_end0
        exact ⟨rfl, gr_drew (gr_drew HG2.out), by rw [HRZ.out]; exact HA2.out.drew.drew⟩

end Go.Proofs.Ytdamfoobnbjojaa

/- Plain mathematics: where a strand goes on behind a crossing that is taken out. -/
namespace Go.Proofs.Ytdamfoobnbjojaa
open Go.RowKit

/-- The end of the strand that comes in at x. -/
def endN (u v a c x : Nat) : Nat := if x = u then (if a = v then c else a) else if x = v then (if c = u then a else c) else x
def uN (k : Nat) : Nat := 4 * k
def qN (k : Nat) : Nat := trn (4 * k) 2
def vN (s : List Int) (k : Nat) : Nat := trn (oO s k) 2
def aN (s m : List Int) (k : Nat) : Nat := matesOf m (oO s k)
def cN (m : List Int) (k : Nat) : Nat := matesOf m (qN k)
/-- The end of the strand that goes out at h. -/
def foN (s m : List Int) (k h : Nat) : Nat := endN (uN k) (vN s k) (aN s m k) (cN m k) (matesOf m h)
def puN (k : Nat) (M : Nat → Nat) (h x : Nat) : Nat → Nat := upd (upd M (numN k h) (numN k x)) (numN k x) (numN k h)
/-- The mates without crossing k, when the first j crossings have been seen. -/
def smK (s m : List Int) (k : Nat) : Nat → Nat → Nat
  | 0 => fun _ => 0
  | j + 1 => if j = k then smK s m k j else puN k (puN k (smK s m k j) (4 * j + 2) (foN s m k (4 * j + 2))) (oO s j) (foN s m k (oO s j))

section
variable {s m : List Int} {lp : Int} {n : Nat}
structure Cr (s : List Int) (m : List Int) (n k : Nat) : Prop where
  inv : Invol (matesOf m) (4 * n)
  io : ∀ x, x < 4 * n → outB s (matesOf m x) = !(outB s x)
  kn : k < n
  sg : s.getD k 0 = 1 ∨ s.getD k 0 = -1
theorem cr_of (hv : validB s m lp = true) (hn : s.length = n) {k : Nat} (hk : k < n) : Cr s m n k := by
  obtain ⟨v1, v2, v3, _⟩ := validB_out hv
  have hl : m.length = 4 * n := by unfold limB at v1; simp only [Bool.and_eq_true, decide_eq_true_eq] at v1; omega
  refine ⟨matesOf_invol v3 hl, fun x hx => ?_, hk, sg_or v2 (by omega)⟩
  obtain ⟨y, g1, g2, g3, g4⟩ := pOK_out ((pairB_iff _ _).1 v3 x (by omega)) hl
  have gy : matesOf m x = y := by unfold matesOf; rw [g1]; rfl
  rw [gy]
  cases hA : outB s x <;> cases hB : outB s y <;> simp [hA, hB] at g4 ⊢
theorem oO_cases {k : Nat} (h : s.getD k 0 = 1 ∨ s.getD k 0 = -1) : (s.getD k 0 = 1 ∧ oO s k = 4 * k + 1 ∧ vN s k = 4 * k + 3) ∨ (s.getD k 0 = -1 ∧ oO s k = 4 * k + 3 ∧ vN s k = 4 * k + 1) := by
  unfold vN oO swQ trn
  rcases h with e | e
  · left; rw [e]; refine ⟨rfl, ?_, ?_⟩ <;> simp <;> omega
  · right; rw [e]; refine ⟨rfl, ?_, ?_⟩ <;> simp <;> omega
theorem qN_eq (k : Nat) : qN k = 4 * k + 2 := by unfold qN trn; omega
/-- At a crossing two half-edges go out. -/
theorem out_at {k x : Nat} (h : s.getD k 0 = 1 ∨ s.getD k 0 = -1) (hx : x / 4 = k) : (outB s x = true ↔ x = qN k ∨ x = oO s k) ∧ (outB s x = false ↔ x = uN k ∨ x = vN s k) := by
  rw [outB_eq, hx]
  have hq := qN_eq k
  rcases oO_cases h with ⟨e, e1, e2⟩ | ⟨e, e1, e2⟩ <;> rw [e, e1, e2, hq] <;> unfold outQ uN <;> (have : x % 4 = 0 ∨ x % 4 = 1 ∨ x % 4 = 2 ∨ x % 4 = 3 := by omega) <;> rcases this with r | r | r | r <;> rw [r] <;> simp <;> omega

theorem fo_chn {k : Nat} (C : Cr s m n k) (hn : n ≤ 64) {h : Nat} (hh : h < 4 * n) (hk : h / 4 ≠ k) (ho : outB s h = true) :
    (∃ L X, Chn (uN k) (vN s k) (aN s m k) (cN m k) L X ∧ X 0 = matesOf m h ∧ X L = foN s m k h) ∧ foN s m k h < 4 * n ∧ foN s m k h / 4 ≠ k ∧ outB s (foN s m k h) = false := by
  have hc := oO_cases C.sg
  have hk4 := C.kn
  have hq := qN_eq k
  have hu : uN k = 4 * k := rfl
  have lo : oO s k < 4 * n := by rcases hc with ⟨_, e, _⟩ | ⟨_, e, _⟩ <;> omega
  have lv : vN s k < 4 * n := by rcases hc with ⟨_, _, e⟩ | ⟨_, _, e⟩ <;> omega
  have lq : qN k < 4 * n := by omega
  have do_ : oO s k / 4 = k := by rcases hc with ⟨_, e, _⟩ | ⟨_, e, _⟩ <;> omega
  have dv : vN s k / 4 = k := by rcases hc with ⟨_, _, e⟩ | ⟨_, _, e⟩ <;> omega
  have dq : qN k / 4 = k := by omega
  have du : uN k / 4 = k := by omega
  have nqo : qN k ≠ oO s k := by rcases hc with ⟨_, e, _⟩ | ⟨_, e, _⟩ <;> omega
  have oo := (out_at C.sg do_).1.2 (.inr rfl)
  have oq := (out_at C.sg dq).1.2 (.inl rfl)
  have ia : outB s (aN s m k) = false := by unfold aN; rw [C.io _ lo, oo]; rfl
  have ic : outB s (cN m k) = false := by unfold cN; rw [C.io _ lq, oq]; rfl
  have ix : outB s (matesOf m h) = false := by rw [C.io _ hh, ho]; rfl
  have la : aN s m k < 4 * n := C.inv.lt _ lo
  have lc : cN m k < 4 * n := C.inv.lt _ lq
  have lx := C.inv.lt _ hh
  have ma : matesOf m (aN s m k) = oO s k := C.inv.inv _ lo
  have mc : matesOf m (cN m k) = qN k := C.inv.inv _ lq
  have mx : matesOf m (matesOf m h) = h := C.inv.inv _ hh
  have nax : aN s m k ≠ matesOf m h := fun e => hk (by rw [← mx, ← e, ma]; exact do_)
  have ncx : cN m k ≠ matesOf m h := fun e => hk (by rw [← mx, ← e, mc]; exact dq)
  have nac : aN s m k ≠ cN m k := fun e => nqo (by rw [← mc, ← e, ma])
  have nuv : uN k ≠ vN s k := by rcases hc with ⟨_, _, e⟩ | ⟨_, _, e⟩ <;> omega
  have away : ∀ y, outB s y = false → y ≠ uN k → y ≠ vN s k → y / 4 ≠ k := fun y hy h1 h2 e => by
    rcases (out_at C.sg e).2.1 hy with q | q
    · exact h1 q
    · exact h2 q
  unfold foN endN
  generalize matesOf m h = x at *
  generalize aN s m k = a at *
  generalize cN m k = c at *
  generalize uN k = u at *
  generalize vN s k = v at *
  have hX : ∀ x0 x1 x2 : Nat, x0 < 4 * n → x1 < 4 * n → x2 < 4 * n → ∀ i, (fun i => if i = 0 then x0 else if i = 1 then x1 else x2) i ≤ 1000 := fun x0 x1 x2 h0 h1 h2 i => by
    show (if i = 0 then x0 else if i = 1 then x1 else x2) ≤ 1000
    split
    · omega
    · split <;> omega
  by_cases e1 : x = u
  · rw [if_pos e1]
    by_cases e2 : a = v
    · rw [if_pos e2]
      refine ⟨⟨2, fun i => if i = 0 then x else if i = 1 then a else c, ⟨fun i hi => ?_, ?_, hX _ _ _ lx la lc⟩, rfl, rfl⟩, lc, away c ic (by omega) (by omega), ic⟩
      · have : i = 0 ∨ i = 1 := by omega
        rcases this with rfl | rfl
        · exact ⟨.inl e1, by simp [nxV, e1]⟩
        · refine ⟨.inr e2, ?_⟩
          have : v ≠ u := fun q => nuv q.symm
          simp [nxV, e2, this]
      · exact ⟨by show c ≠ u; omega, by show c ≠ v; omega⟩
    · rw [if_neg e2]
      refine ⟨⟨1, fun i => if i = 0 then x else if i = 1 then a else c, ⟨fun i hi => ?_, ?_, hX _ _ _ lx la lc⟩, rfl, rfl⟩, la, away a ia (by omega) e2, ia⟩
      · have : i = 0 := by omega
        subst this
        exact ⟨.inl e1, by simp [nxV, e1]⟩
      · exact ⟨by show a ≠ u; omega, by show a ≠ v; exact e2⟩
  · rw [if_neg e1]
    by_cases e3 : x = v
    · rw [if_pos e3]
      by_cases e2 : c = u
      · rw [if_pos e2]
        refine ⟨⟨2, fun i => if i = 0 then x else if i = 1 then c else a, ⟨fun i hi => ?_, ?_, hX _ _ _ lx lc la⟩, rfl, rfl⟩, la, away a ia (by omega) (by omega), ia⟩
        · have : i = 0 ∨ i = 1 := by omega
          rcases this with rfl | rfl
          · refine ⟨.inr e3, ?_⟩
            have : v ≠ u := fun q => nuv q.symm
            simp [nxV, e3, this]
          · exact ⟨.inl e2, by simp [nxV, e2]⟩
        · exact ⟨by show a ≠ u; omega, by show a ≠ v; omega⟩
      · rw [if_neg e2]
        refine ⟨⟨1, fun i => if i = 0 then x else if i = 1 then c else a, ⟨fun i hi => ?_, ?_, hX _ _ _ lx lc la⟩, rfl, rfl⟩, lc, away c ic e2 (by omega), ic⟩
        · have : i = 0 := by omega
          subst this
          refine ⟨.inr e3, ?_⟩
          have : v ≠ u := fun q => nuv q.symm
          simp [nxV, e3, this]
        · exact ⟨by show c ≠ u; exact e2, by show c ≠ v; omega⟩
    · rw [if_neg e3]
      exact ⟨⟨0, fun _ => x, ⟨fun i hi => absurd hi (by omega), ⟨e1, e3⟩, fun _ => by omega⟩, rfl, rfl⟩, lx, away x ix e1 e3, ix⟩
theorem numN_lt {k h : Nat} (hk : k < n) (hh : h < 4 * n) (hne : h / 4 ≠ k) : numN k h < 4 * n - 4 := by unfold numN; split <;> omega
end

end Go.Proofs.Ytdamfoobnbjojaa
