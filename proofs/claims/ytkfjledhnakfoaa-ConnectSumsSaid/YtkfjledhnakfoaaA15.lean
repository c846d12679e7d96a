import Derived.Test.YtkfjledhnakfoaaA04
import Derived.Test.YtkfjledhnakfoaaA06
import Derived.Test.YtkfjledhnakfoaaA08
import Derived.Test.YtkfjledhnakfoaaA01
import Derived.Test.YtkfjledhnakfoaaA05
/- Walk: Strands. -/
namespace Go.Proofs.Ytkfjledhnakfoaa
open Go.RowKit

theorem next59 (A B : Option Addr) (ns cs nm cm gd : Nat) (lp : Int) (mate : List Int) (m : Nat → Nat) (w : World) (hd : DB w gd A ns cs B nm cm lp) (hm : RI w B nm mate) (hmm : Mates mate nm m) (hnm : nm ≤ 256) :
    Next w 74 gd (fs m) nm := fun W x hW hx => by
  have hb0 := hd.keep hW
  obtain ⟨d0, d1, d2, dlt⟩ := hb0
  have C := Lib.hid (nextstrand_nat A B ns cs nm cm lp mate m x W (hm.keep hW) hx hmm hnm _ rfl)
  clear hd hm hmm hW
  go_enter Try.func74, Try.ntmps74
  go_wp2_with (go_at_call 75; ((with_reducible refine C.out.mono ?_); rintro e w1 ⟨rfl, hb1⟩))
  go_ret
  exact ⟨rfl, hb1⟩
theorem asks58 (A B : Option Addr) (ns cs nm cm gd : Nat) (lp : Int) (signs : List Int) (w : World) (hd : DB w gd A ns cs B nm cm lp) (hs : RI w A ns signs) (hnm : nm = 4 * ns) (hns : ns ≤ 64) :
    Asks w 71 #[.pointer (some ⟨gd, 0, none⟩)] (outB signs) nm := fun W x hW hx => by
  show Calls Try.prog 71 #[.int .i64 (x : Nat), .pointer (some ⟨gd, 0, none⟩)] W _
  have hb0 := hd.keep hW
  obtain ⟨d0, d1, d2, dlt⟩ := hb0
  have C := Lib.hid (outgoing_any A B ns cs nm cm lp signs x W (hs.keep hW) (by omega) (by omega))
  clear hd hs hW hnm
  go_enter Try.func71, Try.ntmps71
  go_wp2_with (go_at_call 72; ((with_reducible refine C.out.mono ?_); rintro e w1 ⟨rfl, hb1⟩))
  go_ret
  exact ⟨rfl, hb1⟩


set_option maxHeartbeats 1600000 in
theorem strands_any (A B : Option Addr) (ns cs nm cm : Nat) (lp : Int) (signs mate : List Int) (w : World) (h : DV w A ns B nm signs mate) :
    Calls Try.prog 29 #[dval A ns cs B nm cm lp] w (CycsPost w (strandsM signs mate lp)) := by
  have hd := DB.new w A ns cs B nm cm lp
  obtain ⟨d0, d1, d2, dlt⟩ := hd
  have hb0 := below_alloc w (dbox A ns cs B nm cm lp)
  have hls := h.hs.1
  have hlm := h.hm.1
  cases hv : validB signs mate lp with
  | false =>
    have e : strandsM signs mate lp = [] := by simp [strandsM, hv]
    rw [e]
    have CV := Lib.hid ((h.keep hb0).valid cs cm lp false hv)
    clear e hv hls hlm
    go_enter Try.func29, Try.ntmps29
    go_wp2_with (go_at_call 18; ((with_reducible refine CV.out.mono ?_); rintro e w1 ⟨rfl, hb1⟩))
    go_ret
    exact ⟨_, rfl, OO.nil _ _, below_step hb0 hb1⟩
  | true =>
    have e : strandsM signs mate lp = cycL (fs (matesOf mate)) nm (outB signs) nm := by simp [strandsM, hv, hlm]
    rw [e]
    have CV := Lib.hid ((h.keep hb0).valid cs cm lp true hv)
    obtain ⟨v1, v2, v3, v4⟩ := validB_out hv
    rw [hls, hlm] at v1
    obtain ⟨l1, l2, l3, l4⟩ := limB_out v1
    have HM := Lib.hid (matesOf_mates v3 hlm)
    have HI := Lib.hid (matesOf_invol v3 hlm)
    have HL := Lib.hid l2
    have HD := Lib.hid (DB.new w A ns cs B nm cm lp)
    have CCf : ∀ w1 : World, Below (w.alloc (dbox A ns cs B nm cm lp)).heap.size (w.alloc (dbox A ns cs B nm cm lp)) w1 →
        Hid (Calls Try.prog 73 #[.int .i64 (nm : Nat), .func (.func 71) #[] #[.pointer (some ⟨w.heap.size, 0, none⟩)], .func (.func 74) #[] #[.pointer (some ⟨w.heap.size, 0, none⟩)]] w1 (CycsPost w1 (cycL (fs (matesOf mate)) nm (outB signs) nm))) := fun w1 hb1 =>
      cycles_any 74 71 w.heap.size nm #[.pointer (some ⟨w.heap.size, 0, none⟩)] (fs (matesOf mate)) (outB signs) w1 enters59 enters58
        (next59 A B ns cs nm cm w.heap.size lp mate (matesOf mate) w1 (HD.out.keep hb1) (h.hm.keep (below_step hb0 hb1)) HM.out (by have := HL.out; omega)) (asks58 A B ns cs nm cm w.heap.size lp signs w1 (HD.out.keep hb1) (h.hs.keep (below_step hb0 hb1)) HL.out l1) (by have := HI.out; rw [HL.out] at this ⊢; exact this.perm 2) (by have := HL.out; omega)
    clear e hv hls hlm v1 v2 v3 v4 l2
    go_enter Try.func29, Try.ntmps29
    have hmf : ∀ (fn : Fn) (first cap : Array Value) (w : World), (Instr.makeFunc fn first cap).run Try.prog w = .ok (.func fn first cap) w := fun _ _ _ _ => rfl
    go_wp2_with (first
      | (go_at_call 18; ((with_reducible refine CV.out.mono ?_); rintro e w1 ⟨rfl, hb1⟩; have d0' := (hb1.cell (p := ⟨w.heap.size, 0, none⟩) dlt).trans d0; have d1' := (hb1.cell (p := ⟨w.heap.size, 1, none⟩) dlt).trans d1; have d2' := (hb1.cell (p := ⟨w.heap.size, 2, none⟩) dlt).trans d2))
      | (go_at_call 73; ((with_reducible refine (CCf _ hb1).out.mono ?_); rintro e w2 ⟨v, rfl, hov, hb2⟩)))
    go_ret
    have hb01 := below_step hb0 hb1
    exact ⟨_, rfl, hov.mono hb01.size, below_step hb01 hb2⟩

end Go.Proofs.Ytkfjledhnakfoaa

/- Plain mathematics: all cycles of the wanted numbers together are a rearrangement of the wanted numbers. -/
namespace Go.Proofs.Ytkfjledhnakfoaa

/-- The first wanted numbers of the cycles. -/
def reprs (f : Nat → Nat) (N : Nat) (p : Nat → Bool) : List Nat := (List.range N).filter (sel f N p)
theorem reprs_mem {f : Nat → Nat} {N h : Nat} {p : Nat → Bool} : h ∈ reprs f N p ↔ h < N ∧ sel f N p h = true := by simp [reprs, List.mem_filter]
def flatN (f : Nat → Nat) (N : Nat) (p : Nat → Bool) : List Nat := ((reprs f N p).map (cyc f N)).flatten
def ClosedN (f : Nat → Nat) (N : Nat) (p : Nat → Bool) : Prop := ∀ h, h < N → p h = true → p (f h) = true
theorem ClosedN.it {f : Nat → Nat} {N : Nat} {p : Nat → Bool} (c : ClosedN f N p) (q : Perm f N) {h : Nat} (hh : h < N) (hp : p h = true) (i : Nat) : p (it f i h) = true := by
  induction i with
  | zero => exact hp
  | succ i ih => exact c _ (q.it_lt hh i) ih
theorem least_nat (P : Nat → Prop) : ∀ x, P x → ∃ y, P y ∧ ∀ z, z < y → ¬ P z := by
  intro x
  induction x using Nat.strongRecOn with
  | ind x ih =>
    intro hx
    by_cases e : ∃ z, z < x ∧ P z
    · obtain ⟨z, hz, hp⟩ := e; exact ih z hz hp
    · exact ⟨x, hx, fun z hz hp => e ⟨z, hz, hp⟩⟩
theorem reprs_ex {f : Nat → Nat} {N x : Nat} {p : Nat → Bool} (q : Perm f N) (hx : x < N) (hp : p x = true) : ∃ r, r ∈ reprs f N p ∧ Orb f r x := by
  obtain ⟨y, hy, hmin⟩ := least_nat (fun y => y < N ∧ p y = true ∧ Orb f y x) x ⟨hx, hp, Orb.refl f x⟩
  exact ⟨y, reprs_mem.2 ⟨hy.1, (q.sel_iff p hy.1).2 ⟨hy.2.1, fun h' hlt hp' o => hmin h' hlt ⟨by omega, hp', o.trans hy.2.2⟩⟩⟩, hy.2.2⟩
theorem reprs_uniq {f : Nat → Nat} {N a b x : Nat} {p : Nat → Bool} (q : Perm f N) (ha : a ∈ reprs f N p) (hb : b ∈ reprs f N p) (h1 : Orb f a x) (h2 : Orb f b x) : a = b := by
  obtain ⟨a1, a2⟩ := reprs_mem.1 ha
  obtain ⟨b1, b2⟩ := reprs_mem.1 hb
  have ha' := (q.sel_iff p a1).1 a2
  have hb' := (q.sel_iff p b1).1 b2
  have o1 := h1.trans (q.orb_symm b1 h2)
  have o2 := h2.trans (q.orb_symm a1 h1)
  rcases Nat.lt_trichotomy a b with k | k | k
  · exact absurd o1 (hb'.2 _ k ha'.1)
  · exact k
  · exact absurd o2 (ha'.2 _ k hb'.1)
theorem cyc_nodup {f : Nat → Nat} {N h : Nat} (q : Perm f N) (hh : h < N) : (cyc f N h).Nodup := by
  unfold cyc
  refine List.pairwise_map.2 (List.Pairwise.imp_of_mem (R := (· < ·)) (fun {a b} ha hb hab => ?_) List.pairwise_lt_range)
  exact q.it_ne hh hab (by simpa using hb)
theorem mem_flatN {f : Nat → Nat} {N x : Nat} {p : Nat → Bool} (q : Perm f N) (c : ClosedN f N p) : x ∈ flatN f N p ↔ x < N ∧ p x = true := by
  unfold flatN
  simp only [List.mem_flatten, List.mem_map]
  constructor
  · rintro ⟨l, ⟨r, hr, rfl⟩, hx⟩
    obtain ⟨r1, r2⟩ := reprs_mem.1 hr
    obtain ⟨i, _, rfl⟩ := q.orb_lt r1 ((q.mem_cyc r1 x).1 hx)
    exact ⟨q.it_lt r1 i, c.it q r1 ((q.sel_iff p r1).1 r2).1 i⟩
  · rintro ⟨hx, hp⟩
    obtain ⟨r, hr, o⟩ := reprs_ex q hx hp
    exact ⟨_, ⟨r, hr, rfl⟩, (q.mem_cyc (reprs_mem.1 hr).1 x).2 o⟩
theorem flatN_nodup {f : Nat → Nat} {N : Nat} {p : Nat → Bool} (q : Perm f N) : (flatN f N p).Nodup := by
  unfold flatN
  refine List.pairwise_flatten.2 ⟨fun l hl => ?_, ?_⟩
  · obtain ⟨r, hr, rfl⟩ := List.mem_map.1 hl
    exact cyc_nodup q (reprs_mem.1 hr).1
  · refine List.pairwise_map.2 (List.Pairwise.imp_of_mem (R := (· < ·)) (fun {a b} ha hb hab x hx y hy e => ?_) (List.Pairwise.filter _ List.pairwise_lt_range))
    have h1 := (q.mem_cyc (reprs_mem.1 ha).1 x).1 hx
    have h2 := (q.mem_cyc (reprs_mem.1 hb).1 y).1 hy
    rw [← e] at h2
    have := reprs_uniq q ha hb h1 h2
    omega
theorem flatN_perm {f : Nat → Nat} {N : Nat} {p : Nat → Bool} (q : Perm f N) (c : ClosedN f N p) : (flatN f N p).Perm ((List.range N).filter p) :=
  (List.perm_ext_iff_of_nodup (flatN_nodup q) (List.Pairwise.filter _ List.nodup_range)).2 fun x => by
    rw [mem_flatN q c, List.mem_filter, List.mem_range]
def lenSum (l : List Nat) (g : Nat → Nat) : Nat := (l.map g).sum
theorem flatN_length (f : Nat → Nat) (N : Nat) (p : Nat → Bool) : (flatN f N p).length = lenSum (reprs f N p) (per f N) := by
  unfold flatN lenSum
  rw [List.length_flatten, List.map_map]
  congr 1
  refine List.map_congr_left fun r _ => ?_
  simp [cyc]
/-- The lengths of the cycles of the wanted add up to the number of the wanted. -/
theorem sum_per {f : Nat → Nat} {N : Nat} {p : Nat → Bool} (q : Perm f N) (c : ClosedN f N p) : lenSum (reprs f N p) (per f N) = (List.range N).countP p := by
  rw [← flatN_length, (flatN_perm q c).length_eq, List.countP_eq_length_filter]
theorem cycL_reprs (f : Nat → Nat) (N : Nat) (p : Nat → Bool) : cycL f N p N = (reprs f N p).map (fun h => itl f h (per f N h)) := rfl
theorem cycL_get (f : Nat → Nat) (N : Nat) (p : Nat → Bool) {i : Nat} (hi : i < (cycL f N p N).length) : (reprs f N p).getD i 0 ∈ reprs f N p ∧ (cycL f N p N).getD i [] = itl f ((reprs f N p).getD i 0) (per f N ((reprs f N p).getD i 0)) := by
  rw [cycL_reprs] at hi ⊢
  rw [List.length_map] at hi
  have e : (reprs f N p).getD i 0 = (reprs f N p)[i] := by simp [List.getD, hi]
  rw [e]
  exact ⟨List.getElem_mem hi, by simp [List.getD, hi]⟩
theorem cycL_len (f : Nat → Nat) (N : Nat) (p : Nat → Bool) : (cycL f N p N).length = (reprs f N p).length := by rw [cycL_reprs, List.length_map]

/-- The lengths of the first i rows. -/
def totR (xss : List (List Int)) (i : Nat) : Nat := ((xss.take i).map List.length).sum
theorem totR_succ {xss : List (List Int)} {i : Nat} (h : i < xss.length) : totR xss (i + 1) = totR xss i + (xss.getD i []).length := by
  unfold totR
  rw [List.take_succ_eq_append_getElem h, List.map_append, List.sum_append]
  have e : xss.getD i [] = xss[i] := by simp [List.getD, h]
  rw [e]; simp
theorem totR_zero (xss : List (List Int)) : totR xss 0 = 0 := by simp [totR]
theorem totR_all {f : Nat → Nat} {N : Nat} {p : Nat → Bool} (q : Perm f N) (c : ClosedN f N p) : totR (cycL f N p N) (cycL f N p N).length = (List.range N).countP p := by
  unfold totR
  rw [List.take_length, cycL_reprs, List.map_map, ← sum_per q c]
  unfold lenSum
  congr 1
  exact List.map_congr_left fun r _ => by simp [itl]

end Go.Proofs.Ytkfjledhnakfoaa

/- Walk: exchangeMates. -/
namespace Go.Proofs.Ytkfjledhnakfoaa
open Go.RowKit

/-- The mates when the edges of x and y have exchanged their ends. -/
def exL (m : List Int) (x y : Nat) : List Int := (((m.set x (m.getD y 0)).set (m.getD y 0).toNat (x : Int)).set y (m.getD x 0)).set (m.getD x 0).toNat (y : Int)
theorem exL_length (m : List Int) (x y : Nat) : (exL m x y).length = m.length := by simp [exL]
theorem set_getD (m : List Int) (i j : Nat) (z : Int) (hi : i < m.length) : (m.set i z).getD j 0 = if j = i then z else m.getD j 0 := by
  rw [List.getD_eq_getElem?_getD, List.getElem?_set]
  by_cases e : i = j
  · subst e; simp [hi]
  · rw [if_neg e, if_neg (fun q => e q.symm), ← List.getD_eq_getElem?_getD]
/-- The place of the half-edge h. -/
theorem exL_mates {m : List Int} {M : Nat} {x y : Nat} (hl : m.length = M) (hx : x < M) (hy : y < M) (hM : ∀ h, h < M → m.getD h 0 = (matesOf m h : Nat) ∧ matesOf m h < M) (h : Nat) (hh : h < M) :
    (exL m x y).getD h 0 = (exN (matesOf m) x y h : Nat) := by
  obtain ⟨e1, l1⟩ := hM x hx
  obtain ⟨e2, l2⟩ := hM y hy
  have n1 : (m.getD x 0).toNat = matesOf m x := by rw [e1]; simp
  have n2 : (m.getD y 0).toNat = matesOf m y := by rw [e2]; simp
  unfold exL exN
  rw [n1, n2, e1, e2]
  rw [set_getD _ _ _ _ (by simp; omega)]
  by_cases h1 : h = matesOf m x
  · rw [if_pos h1, if_pos h1]
  rw [if_neg h1, if_neg h1, set_getD _ _ _ _ (by simp; omega)]
  by_cases h2 : h = y
  · rw [if_pos h2, if_pos h2]
  rw [if_neg h2, if_neg h2, set_getD _ _ _ _ (by simp; omega)]
  by_cases h3 : h = matesOf m y
  · rw [if_pos h3, if_pos h3]
  rw [if_neg h3, if_neg h3, set_getD _ _ _ _ (by omega)]
  by_cases h4 : h = x
  · rw [if_pos h4, if_pos h4]
  rw [if_neg h4, if_neg h4]
  exact (hM h hh).1

def XcPost (w : World) (B g M cM : Nat) (m : List Int) (x y : Nat) (e : Ending) (w' : World) : Prop :=
  e = .returned (.tuple #[]) ∧ OI w' B (.slice (some ⟨g, 0, none⟩) M cM) (exL m x y) ∧ w.grownBy w' (some g)
theorem gr_alloc {w w' : World} {row : Option Nat} (h : w.grownBy w' row) (o : Obj) : w.grownBy (w'.alloc o) row :=
  h.trans (World.grownBy_alloc w' o row)

theorem oi_fz {W : World} {B g M cM : Nat} {zs : List Int} (h : OI W B (.slice (some ⟨g, 0, none⟩) M cM) zs) (h2 : zs.length = M) (j : Nat) : W.frozen? ⟨g, j, none⟩ = false := by
  unfold OI at h; rw [h2] at h; exact World.ownsRow.frozenAt h j

set_option maxHeartbeats 3200000 in
set_option maxRecDepth 100000 in
theorem xch_any (A : Option Addr) (ns cs g M cM B : Nat) (lp : Int) (m : List Int) (x y ex ey : Nat) (w : World) (hm : OI w B (.slice (some ⟨g, 0, none⟩) M cM) m) (hl : m.length = M) (hM : M ≤ 1000) (hx : x < M) (hy : y < M) (hex : m.getD x 0 = (ex : Nat)) (hey : m.getD y 0 = (ey : Nat)) (lx : ex < M) (ly : ey < M) :
    Calls Try.prog 80 #[dval A ns cs (some ⟨g, 0, none⟩) M cM lp, .int .i64 (x : Nat), .int .i64 (y : Nat)] w (XcPost w B g M cM m x y) := by
  have hd := DB.new w A ns cs (some ⟨g, 0, none⟩) M cM lp
  have hb := below_alloc w (dbox A ns cs (some ⟨g, 0, none⟩) M cM lp)
  have hm1 := hm.keep hb
  have hgl := World.ownsRow.lt hm g rfl
  have HE : Hid (exL m x y = (((m.set x (ey : Int)).set ey (x : Int)).set y (ex : Int)).set ex (y : Int)) := Lib.hid (by unfold exL; rw [hex, hey]; simp)
  have c1 := hm1.cell x (by omega)
  have c2 := hm1.cell y (by omega)
  rw [hex] at c1
  rw [hey] at c2
  have hgr0 : w.grownBy (w.alloc (dbox A ns cs (some ⟨g, 0, none⟩) M cM lp)) (some g) := World.grownBy_alloc _ _ _
  have hsz : (w.alloc (dbox A ns cs (some ⟨g, 0, none⟩) M cM lp)).heap.size = w.heap.size + 1 := by simp
  unfold dbox at hd hm1 c1 c2 hgr0 hsz
  have x0 : (0 : Int) ≤ (x : Int) := Int.natCast_nonneg _
  have x1 : (x : Int) < (M : Int) := by omega
  have y0 : (0 : Int) ≤ (y : Int) := Int.natCast_nonneg _
  have y1 : (y : Int) < (M : Int) := by omega
  have p0 : (0 : Int) ≤ (ex : Int) := Int.natCast_nonneg _
  have p1 : (ex : Int) < (M : Int) := by omega
  have q0 : (0 : Int) ≤ (ey : Int) := Int.natCast_nonneg _
  have q1 : (ey : Int) < (M : Int) := by omega
  have hMi : (M : Int) ≤ 1000 := by omega
  have hne : g ≠ w.heap.size := by omega
  clear hb hm hex hey hx hy lx ly hgl
  go_enter Try.func80, Try.ntmps80
  go_upto_region 1 with fail
  generalize w.alloc (.cells #[.slice A ns cs, .slice (some ⟨g, 0, none⟩) M cM, .int .i64 lp] 24) = w1 at hd hm1 c1 c2 hgr0 hsz ⊢
  obtain ⟨gd, hgd⟩ : ∃ gd, w.heap.size = gd := ⟨_, rfl⟩
  rw [hgd] at hd hne ⊢
  have HM := Lib.hid hm1
  have HGR := Lib.hid hgr0
  have HL := Lib.hid hl
  obtain ⟨d0, d1, d2, dlt⟩ := hd
  clear hm1 hgr0 hsz hgd hl
  go_wp2
  go_region
  obtain ⟨wA, hwA⟩ : ∃ wA, w1.drew = wA := ⟨_, rfl⟩
  have hA : OI wA B (.slice (some ⟨g, 0, none⟩) M cM) m := by rw [← hwA]; exact HM.out
  have GA : Hid (w.grownBy wA (some g)) := Lib.hid (by rw [← hwA]; have := HGR.out; exact ⟨this.os, this.tape, this.output, this.size, this.block⟩)
  have dA : wA.cell? ⟨gd, 1, none⟩ = some (.slice (some ⟨g, 0, none⟩) M cM) := by rw [← hwA]; exact d1
  have c3 : wA.cell? ⟨g, x, none⟩ = some (.int .i64 (ex : Nat)) := by rw [← hwA]; exact c1
  rw [hwA]
  have st1 := hA.set_ HL.out x (ey : Int)
  have l1 : (m.set x (ey : Int)).length = M := by simp [HL.out]
  have st2 := st1.1.set_ l1 ey (x : Int)
  have l2 : ((m.set x (ey : Int)).set ey (x : Int)).length = M := by simp [HL.out]
  have f1 := oi_fz hA HL.out x
  have f2 := oi_fz st1.1 l1 ey
  have c4 := st1.1.cell ey (by omega)
  have dB : ((wA.setCell ⟨g, x, none⟩ (.int .i64 (ey : Int))).setCell ⟨g, ey, none⟩ (.int .i64 (x : Int))).cell? ⟨gd, 1, none⟩ = some (.slice (some ⟨g, 0, none⟩) M cM) := by
    rw [World.cell?_setCell_other _ _ _ _ (by first | (simp; done) | (simp; omega)), World.cell?_setCell_other _ _ _ _ (by first | (simp; done) | (simp; omega))]; exact dA
  have HB2 := Lib.hid st2.1
  have HG2 := Lib.hid (GA.out.trans (st1.2.trans st2.2))
  have HL2 := Lib.hid l2
  obtain ⟨v4, hv4⟩ : ∃ v4, (m.set x (ey : Int)).getD ey 0 = v4 := ⟨_, rfl⟩
  rw [hv4] at c4
  clear st1 st2 l1 l2 hv4 hA hwA c1 c2 d0 d1 d2 dlt
  go_wp2
  go_region
  obtain ⟨wB, hwB⟩ : ∃ wB, ((wA.setCell ⟨g, x, none⟩ (.int .i64 (ey : Int))).setCell ⟨g, ey, none⟩ (.int .i64 (x : Int))).drew = wB := ⟨_, rfl⟩
  have hB : OI wB B (.slice (some ⟨g, 0, none⟩) M cM) ((m.set x (ey : Int)).set ey (x : Int)) := by rw [← hwB]; exact HB2.out
  have GB : Hid (w.grownBy wB (some g)) := Lib.hid (by rw [← hwB]; have := HG2.out; exact ⟨this.os, this.tape, this.output, this.size, this.block⟩)
  have eB : wB.cell? ⟨gd, 1, none⟩ = some (.slice (some ⟨g, 0, none⟩) M cM) := by rw [← hwB]; exact dB
  rw [hwB]
  have c5 := hB.cell y (by have := HL2.out; omega)
  have st1 := hB.set_ HL2.out y (ex : Int)
  have l3 : (((m.set x (ey : Int)).set ey (x : Int)).set y (ex : Int)).length = M := by simp [HL.out]
  have st2 := st1.1.set_ l3 ex (y : Int)
  have f3 := oi_fz hB HL2.out y
  have f4 := oi_fz st1.1 l3 ex
  have c6 := st1.1.cell ex (by omega)
  have HF : Hid (XcPost w B g M cM m x y (.returned (.tuple #[])) ((wB.setCell ⟨g, y, none⟩ (.int .i64 (ex : Int))).setCell ⟨g, ex, none⟩ (.int .i64 (y : Int))).drew) := Lib.hid (by
    refine ⟨rfl, ?_, ?_⟩
    · rw [HE.out]; exact st2.1
    · have := GB.out.trans (st1.2.trans st2.2); exact ⟨this.os, this.tape, this.output, this.size, this.block⟩)
  obtain ⟨v5, hv5⟩ : ∃ v5, ((m.set x (ey : Int)).set ey (x : Int)).getD y 0 = v5 := ⟨_, rfl⟩
  rw [hv5] at c5
  obtain ⟨v6, hv6⟩ : ∃ v6, (((m.set x (ey : Int)).set ey (x : Int)).set y (ex : Int)).getD ex 0 = v6 := ⟨_, rfl⟩
  rw [hv6] at c6
  clear st1 st2 l3 hv5 hv6 hB hwB c3 c4 f1 f2 dA dB
  go_wp2
  go_region
  go_wp2
  go_end0
  exact HF.out

end Go.Proofs.Ytkfjledhnakfoaa

/- Walk: isHalfEdge. -/
namespace Go.Proofs.Ytkfjledhnakfoaa
open Go.RowKit

set_option maxHeartbeats 400000 in
theorem ishalf_any (A B : Option Addr) (ns cs nm cm : Nat) (lp h : Int) (w : World) (hlo : -9223372036854775808 ≤ h) (hhi : h ≤ 9223372036854775807) (_hnm : nm ≤ 1000000000000000) :
    Calls Try.prog 77 #[dval A ns cs B nm cm lp, .int .i64 h] w fun e w' => e = .returned (.bool (decide (0 ≤ h ∧ h < nm))) ∧ Below w.heap.size w w' := by
  by_cases h0 : 0 ≤ h
  · by_cases h1 : h < nm
    · have e : decide (0 ≤ h ∧ h < nm) = true := by simp [h0, h1]
      rw [e]; clear e
      go_enter Try.func77, Try.ntmps77
      go_wp2
      go_ret
      exact ⟨rfl, below_alloc _ _⟩
    · have e : decide (0 ≤ h ∧ h < nm) = false := by simp; omega
      rw [e]; clear e
      have h1' : (nm : Int) ≤ h := by omega
      go_enter Try.func77, Try.ntmps77
      go_wp2
      go_ret
      exact ⟨rfl, below_alloc _ _⟩
  · have e : decide (0 ≤ h ∧ h < nm) = false := by simp; omega
    rw [e]; clear e
    have h1' : h < 0 := by omega
    go_enter Try.func77, Try.ntmps77
    go_wp2
    go_ret
    exact ⟨rfl, below_alloc _ _⟩

end Go.Proofs.Ytkfjledhnakfoaa

/- Walk: Out. -/
namespace Go.Proofs.Ytkfjledhnakfoaa
open Go.RowKit

def outV (signs mate : List Int) (lp x : Int) : Bool := validB signs mate lp && decide (0 ≤ x ∧ x < mate.length) && outB signs x.toNat

set_option maxHeartbeats 1600000 in
theorem out_any (A B : Option Addr) (ns cs nm cm : Nat) (lp x : Int) (signs mate : List Int) (w : World) (h : DV w A ns B nm signs mate) (hlo : -9223372036854775808 ≤ x) (hhi : x ≤ 9223372036854775807) (r : Bool) (hr : outV signs mate lp x = r) :
    Calls Try.prog 31 #[dval A ns cs B nm cm lp, .int .i64 x] w fun e w' => e = .returned (.bool r) ∧ Below w.heap.size w w' := by
  have hd := DB.new w A ns cs B nm cm lp
  obtain ⟨d0, d1, d2, dlt⟩ := hd
  have hb0 := below_alloc w (dbox A ns cs B nm cm lp)
  have hls := h.hs.1
  have hlm := h.hm.1
  have H := Lib.hid (h.keep hb0)
  cases hv : validB signs mate lp with
  | false =>
    have e : r = false := by rw [← hr]; simp [outV, hv]
    subst e
    have CV := Lib.hid (H.out.valid cs cm lp false hv)
    clear hr hv hls hlm
    go_enter Try.func31, Try.ntmps31
    go_wp2_with (go_at_call 18; ((with_reducible refine CV.out.mono ?_); rintro e w1 ⟨rfl, hb1⟩))
    go_ret
    exact ⟨rfl, below_step hb0 hb1⟩
  | true =>
    have CV := Lib.hid (H.out.valid cs cm lp true hv)
    obtain ⟨v1, v2, v3, v4⟩ := validB_out hv
    rw [hls, hlm] at v1
    obtain ⟨l1, l2, l3, l4⟩ := limB_out v1
    have CI : ∀ w1 : World, Hid (Calls Try.prog 77 #[dval A ns cs B nm cm lp, .int .i64 x] w1 fun e w' => e = .returned (.bool (decide (0 ≤ x ∧ x < nm))) ∧ Below w1.heap.size w1 w') :=
      fun w1 => ishalf_any A B ns cs nm cm lp x w1 hlo hhi (by omega)
    cases hx : decide (0 ≤ x ∧ x < (nm : Int)) with
    | false =>
      have e : r = false := by rw [← hr]; unfold outV; rw [hlm, hx]; simp
      subst e
      rw [hx] at CI
      clear hr hv hls hlm hx v1 v2 v3 v4 l2
      go_enter Try.func31, Try.ntmps31
      go_wp2_with (first
        | (go_at_call 18; ((with_reducible refine CV.out.mono ?_); rintro e w1 ⟨rfl, hb1⟩; have hc0 := (hb1.cell (p := ⟨w.heap.size, 0, none⟩) dlt).trans d0; have hc1 := (hb1.cell (p := ⟨w.heap.size, 1, none⟩) dlt).trans d1; have hc2 := (hb1.cell (p := ⟨w.heap.size, 2, none⟩) dlt).trans d2))
        | (go_at_call 77; ((with_reducible refine (CI _).out.mono ?_); rintro e w2 ⟨rfl, hb2⟩)))
      go_ret
      exact ⟨rfl, below_step hb0 (below_step hb1 hb2)⟩
    | true =>
      obtain ⟨x0, x1⟩ := of_decide_eq_true hx
      obtain ⟨n, rfl⟩ := Int.eq_ofNat_of_zero_le x0
      have e : r = outB signs n := by rw [← hr]; unfold outV; rw [hlm, hx, hv]; simp
      subst e
      rw [hx] at CI
      have CO : ∀ w1 : World, Below (w.alloc (dbox A ns cs B nm cm lp)).heap.size (w.alloc (dbox A ns cs B nm cm lp)) w1 → Hid (Calls Try.prog 72 #[dval A ns cs B nm cm lp, .int .i64 (n : Int)] w1 fun e w' => e = .returned (.bool (outB signs n)) ∧ Below w1.heap.size w1 w') :=
        fun w1 hb => outgoing_any A B ns cs nm cm lp signs n w1 (H.out.hs.keep hb) (by omega) (by omega)
      clear hr hv hls hlm hx v1 v2 v3 v4 l2
      go_enter Try.func31, Try.ntmps31
      go_wp2_with (first
        | (go_at_call 18; ((with_reducible refine CV.out.mono ?_); rintro e w1 ⟨rfl, hb1⟩; have hc0 := (hb1.cell (p := ⟨w.heap.size, 0, none⟩) dlt).trans d0; have hc1 := (hb1.cell (p := ⟨w.heap.size, 1, none⟩) dlt).trans d1; have hc2 := (hb1.cell (p := ⟨w.heap.size, 2, none⟩) dlt).trans d2))
        | (go_at_call 77; ((with_reducible refine (CI _).out.mono ?_); rintro e w2 ⟨rfl, hb2⟩; have hb12 := below_step hb1 hb2; have hc0 := (hb12.cell (p := ⟨w.heap.size, 0, none⟩) dlt).trans d0; have hc1 := (hb12.cell (p := ⟨w.heap.size, 1, none⟩) dlt).trans d1; have hc2 := (hb12.cell (p := ⟨w.heap.size, 2, none⟩) dlt).trans d2))
        | (go_at_call 72; ((with_reducible refine (CO _ hb12).out.mono ?_); rintro e w3 ⟨rfl, hb3⟩)))
      go_ret
      exact ⟨rfl, below_step hb0 (below_step hb12 hb3)⟩

end Go.Proofs.Ytkfjledhnakfoaa

/- Walk: canBeOpened. -/
namespace Go.Proofs.Ytkfjledhnakfoaa
open Go.RowKit

/-- x is an outgoing half-edge, or stands for a loop. -/
def placeV (s m : List Int) (lp x : Int) : Bool := outV s m lp x || (decide (x = -1) && decide (0 < lp))
set_option maxHeartbeats 3200000 in
set_option maxRecDepth 100000 in
theorem place_any (A B : Option Addr) (ns cs nm cm : Nat) (lp x : Int) (s m : List Int) (w : World) (h : DV w A ns B nm s m) (hlo : -9223372036854775808 ≤ x) (hhi : x ≤ 9223372036854775807) (hlp : -9223372036854775808 ≤ lp ∧ lp ≤ 9223372036854775807) :
    Calls Try.prog 79 #[dval A ns cs B nm cm lp, .int .i64 x] w fun e w' => e = .returned (.bool (placeV s m lp x)) ∧ Below w.heap.size w w' := by
  obtain ⟨d0, d1, d2, dlt⟩ := DB.new w A ns cs B nm cm lp
  have hb0 := below_alloc w (dbox A ns cs B nm cm lp)
  have H := Lib.hid (h.keep hb0)
  cases ho : outV s m lp x with
  | true =>
    have CO := Lib.hid (out_any A B ns cs nm cm lp x s m _ H.out hlo hhi true ho)
    have HE : Hid (placeV s m lp x = true) := Lib.hid (by unfold placeV; rw [ho]; rfl)
    clear ho h
    go_enter Try.func79, Try.ntmps79
    go_wp2_with (go_at_call 31; ((with_reducible refine CO.out.mono ?_); rintro e w1 ⟨rfl, hb1⟩))
    go_ret
    exact ⟨ret_bool HE.out.symm, below_step hb0 hb1⟩
  | false =>
    have CO := Lib.hid (out_any A B ns cs nm cm lp x s m _ H.out hlo hhi false ho)
    by_cases hx : x = -1
    · subst hx
      by_cases hp : 0 < lp
      · have HE : Hid (placeV s m lp (-1) = true) := Lib.hid (by unfold placeV; rw [ho]; simp [hp])
        clear ho h
        go_enter Try.func79, Try.ntmps79
        go_wp2_with (go_at_call 31; ((with_reducible refine CO.out.mono ?_); rintro e w1 ⟨rfl, hb1⟩; have x2 := (hb1.cell (p := ⟨w.heap.size, 2, none⟩) dlt).trans d2))
        go_ret
        exact ⟨ret_bool HE.out.symm, below_step hb0 hb1⟩
      · have HE : Hid (placeV s m lp (-1) = false) := Lib.hid (by unfold placeV; rw [ho]; simp [hp])
        have hp' : decide (0 < lp) = false := by simp; omega
        clear ho h
        go_enter Try.func79, Try.ntmps79
        go_wp2_with (go_at_call 31; ((with_reducible refine CO.out.mono ?_); rintro e w1 ⟨rfl, hb1⟩; have x2 := (hb1.cell (p := ⟨w.heap.size, 2, none⟩) dlt).trans d2))
        go_ret
        exact ⟨ret_bool HE.out.symm, below_step hb0 hb1⟩
    · have HE : Hid (placeV s m lp x = false) := Lib.hid (by unfold placeV; rw [ho]; simp [hx])
      clear ho h
      go_enter Try.func79, Try.ntmps79
      go_wp2_with (go_at_call 31; ((with_reducible refine CO.out.mono ?_); rintro e w1 ⟨rfl, hb1⟩))
      go_ret
      exact ⟨ret_bool HE.out.symm, below_step hb0 hb1⟩

end Go.Proofs.Ytkfjledhnakfoaa
