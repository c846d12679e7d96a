import Derived.Test.YtdamfoobnbjojaaM02
import Derived.Test.YtdamfoobnbjojaaM01
/- Walk: cycles. -/
namespace Go.Proofs.Ytdamfoobnbjojaa
open Go.RowKit

/-- The test function 'func fid' answers P x, in every world after w. -/
def Asks (w : World) (fid : FuncId) (caps : Array Value) (p : Nat → Bool) (N : Nat) : Prop := ∀ (W : World) (x : Nat), Below w.heap.size w W → x < N →
  Calls Try.prog fid (#[.int .i64 (x : Nat)] ++ caps) W fun e W' => e = .returned (.bool (p x)) ∧ Below W.heap.size W W'

/-- Is h the first wanted one of its cycle? -/
def sel (f : Nat → Nat) (N : Nat) (p : Nat → Bool) (h : Nat) : Bool := p h && (cyc f N h).all (fun g => !(p g) || decide (h ≤ g))
def cycL (f : Nat → Nat) (N : Nat) (p : Nat → Bool) (k : Nat) : List (List Int) := ((List.range k).filter (sel f N p)).map (fun h => itl f h (per f N h))
theorem cycL_succ (f : Nat → Nat) (N : Nat) (p : Nat → Bool) (k : Nat) : cycL f N p (k + 1) = cycL f N p k ++ if sel f N p k then [itl f k (per f N k)] else [] := by
  unfold cycL; rw [List.range_succ, List.filter_append, List.map_append]
  cases h : sel f N p k <;> simp [h]
theorem cycL_length (f : Nat → Nat) (N : Nat) (p : Nat → Bool) (k : Nat) : (cycL f N p k).length ≤ k := by
  unfold cycL; rw [List.length_map]; exact Nat.le_trans (List.length_filter_le _ _) (by simp)
theorem Perm.sel_iff {f : Nat → Nat} {N : Nat} (q : Perm f N) (p : Nat → Bool) {h : Nat} (hh : h < N) : sel f N p h = true ↔ p h = true ∧ ∀ h', h' < h → p h' = true → ¬ Orb f h' h := by
  unfold sel
  rw [Bool.and_eq_true, List.all_eq_true]
  constructor
  · rintro ⟨h1, h2⟩
    refine ⟨h1, fun h' hlt hp o => ?_⟩
    have := h2 h' ((q.mem_cyc hh h').2 (q.orb_symm (by omega) o))
    rw [hp] at this; simp at this; omega
  · rintro ⟨h1, h2⟩
    refine ⟨h1, fun g hg => ?_⟩
    have o := (q.mem_cyc hh g).1 hg
    cases hp : p g with
    | false => rfl
    | true =>
      simp only [Bool.not_true, Bool.false_or, decide_eq_true_eq]
      by_cases hlt : g < h
      · exact absurd (q.orb_symm hh o) (h2 g hlt hp)
      · omega

/-- Block g tells which numbers are on the cycle of a wanted number below k. -/
def SeenP (f : Nat → Nat) (p : Nat → Bool) (N k : Nat) (g : Nat) (w : World) : Prop := ∃ S : Nat → Bool, Arr w g 4 N (bv S) ∧ ∀ x, x < N → (S x = true ↔ ∃ h, h < k ∧ p h = true ∧ Orb f h x)

/-- And those that the first j steps from k reach. -/
def SeenI (f : Nat → Nat) (N k j : Nat) (S : Nat → Bool) (g : Nat) (w : World) : Prop := ∃ S' : Nat → Bool, Arr w g 4 N (bv S') ∧ ∀ x, x < N → (S' x = true ↔ S x = true ∨ ∃ i, i < j ∧ it f i k = x)

def CycsPost (w : World) (xss : List (List Int)) (e : Ending) (w' : World) : Prop := ∃ v, e = .returned v ∧ OO w' w.heap.size v xss ∧ Below w.heap.size w w'

set_option maxHeartbeats 3200000 in
set_option maxRecDepth 100000 in
theorem cycles_any (fid fidp : FuncId) (gd N : Nat) (caps : Array Value) (f : Nat → Nat) (p : Nat → Bool) (w : World) (hcall : Enters fid) (hcallp : Enters fidp) (hn : Next w fid gd f N) (ha : Asks w fidp caps p N) (hp : Perm f N) (hN : N ≤ 256) :
    Calls Try.prog 67 #[.int .i64 (N : Nat), .func (.func fidp) #[] caps, .func (.func fid) #[] #[.pointer (some ⟨gd, 0, none⟩)]] w (CycsPost w (cycL f N p N)) := by
  have hcf : ∀ (args : Array Value) (W : World), (callFunc fidp args).run Try.prog W = .ok (.enter fidp args) W := hcallp
  clear hcallp
  have hmk := fun W => make_one (P := Try.prog) Try.underlying54 Try.infoBool rfl N (by omega) (by omega) W
  have HCE := Lib.hid hcall
  have HN := Lib.hid hn
  have HA := Lib.hid ha
  have HP := Lib.hid hp
  clear hn ha hp hcall
  have hs0 : SeenP f p N 0 w.heap.size (w.alloc (.cells (cellsN N fun _ => .bool false) 4)) := ⟨fun _ => false, Arr.new w N _ _, fun x _ => ⟨fun h => Bool.noConfusion h, fun ⟨_, h, _⟩ => absurd h (by omega)⟩⟩
  have hb0 := below_alloc w (.cells (cellsN N fun _ => .bool false) 4)
  go_enter Try.func67, Try.ntmps67
  go_wp2
  generalize w.alloc (.cells (cellsN N fun _ => .bool false) 4) = wA at hs0 hb0
  go_loopw [7, 9, 10, 12, 16] (fun v _ _ _ i wr => ∃ k : Nat, k ≤ N ∧ i = .int .i64 k ∧ Below w.heap.size w wr ∧ SeenP f p N k w.heap.size wr ∧ OO wr w.heap.size v (cycL f N p k)) (fun _ _ _ _ i _ => N - (intOf i).toNat)
  case atStart => exact ⟨0, by omega, rfl, hb0, hs0, OO.nil _ _⟩
  case round =>
    obtain ⟨k, hk, rfl, hbr, hsr, hown⟩ := hrel
    by_cases hlt : k < N
    · obtain ⟨S, hA, hS⟩ := hsr
      have hcS : wr.cell? ⟨w.heap.size, k, none⟩ = some (.bool (S k)) := hA.cell k hlt
      have hk0 : (0 : Int) ≤ (k : Int) := Int.natCast_nonneg _
      have hk1 : (k : Int) < (N : Int) := by omega
      cases hSk : S k with
      | true =>
        obtain ⟨h', h1, h2, h3⟩ := (hS k hlt).1 hSk
        have hsel : sel f N p k = false := by
          cases e : sel f N p k with
          | false => rfl
          | true => exact absurd h3 (((HP.out.sel_iff p hlt).1 e).2 h' h1 h2)
        have hsn : SeenP f p N (k + 1) w.heap.size wr := ⟨S, hA, fun x hx => (hS x hx).trans ⟨fun ⟨a, b, c⟩ => ⟨a, by omega, c⟩, fun ⟨a, b, c, d⟩ => by
          by_cases e : a = k
          · subst e; exact ⟨h', h1, h2, h3.trans d⟩
          · exact ⟨a, by omega, c, d⟩⟩⟩
        have hcy : cycL f N p (k + 1) = cycL f N p k := by rw [cycL_succ, hsel]; simp
        rw [← hcy] at hown
        rw [hSk] at hcS
        clear hS hA hSk hsel hcy
        go_wp2
        go_roundw
        case rel => exact ⟨k + 1, by omega, by go_num, hbr, hsn, hown⟩
        case measure => simp [intOf]; omega
      | false =>
        have CA := Lib.hid (HA.out wr k hbr hlt)
        cases hpk : p k with
        | false =>
          have hsel : sel f N p k = false := by simp [sel, hpk]
          have hcy : cycL f N p (k + 1) = cycL f N p k := by rw [cycL_succ, hsel]; simp
          have hsn : SeenP f p N (k + 1) w.heap.size wr := ⟨S, hA, fun x hx => (hS x hx).trans ⟨fun ⟨a, b, c⟩ => ⟨a, by omega, c⟩, fun ⟨a, b, c, d⟩ => by
            by_cases e : a = k
            · subst e; rw [hpk] at c; cases c
            · exact ⟨a, by omega, c, d⟩⟩⟩
          rw [← hcy] at hown
          rw [hSk] at hcS
          rw [hpk] at CA
          clear hS hA hSk hsel hcy hpk
          go_wp2_with ((with_reducible refine CA.out.mono ?_); rintro e w1 ⟨rfl, hb1⟩)
          go_roundw
          case rel => exact ⟨k + 1, by omega, by go_num, below_step hbr hb1, by
            obtain ⟨S', hA', hS'⟩ := hsn
            exact ⟨S', hA'.keep hb1, hS'⟩, hown.keep hb1⟩
          case measure => simp [intOf]; omega
        | true =>
          have hsel : sel f N p k = true := (HP.out.sel_iff p hlt).2 ⟨hpk, fun h' h1 h2 h3 => by
            rw [(hS k hlt).2 ⟨h', h1, h2, h3⟩] at hSk; cases hSk⟩
          have hcy : cycL f N p (k + 1) = cycL f N p k ++ [itl f k (per f N k)] := by rw [cycL_succ, hsel]; simp
          have HCY := Lib.hid hcy
          rw [hSk] at hcS
          rw [hpk] at CA
          have HSS := Lib.hid hS
          have HPK := Lib.hid hpk
          clear hS hSk hsel hcy hpk
          go_wp2_with (first
            | ((with_reducible refine CA.out.mono ?_); rintro e w1 ⟨rfl, hb1⟩
               have hbw1 := below_step hbr hb1
               have CC := Lib.hid (cycle_any fid gd k N f w1 HCE.out (Next.keep HN.out hbw1) HP.out hlt hN))
            | (go_at_call 89; ((with_reducible refine CC.out.mono ?_); rintro e w2 ⟨vm, rfl, hom, hb2⟩; obtain ⟨gm, cpm, rfl⟩ := hom.form_pos (itl_length f k (per f N k)) (per_pos f N k))))
          have hbw2 := below_step hbw1 hb2
          have hpl := (HP.out.per_spec hlt).2.1
          have hom' := hom.mono (B' := w.heap.size) hbw1.size
          have hown2 := (hown.keep hb1).keep hb2
          have hst : SeenI f N k 0 S w.heap.size w2 :=
            ⟨S, (hA.keep hb1).keep hb2, fun x _ => ⟨.inl, fun h => h.elim id fun ⟨i, hi, _⟩ => absurd hi (by omega)⟩⟩
          clear hom hb2 hb1 hbw1 hbr hown hA CC CA hcS
          go_loopw [12, 34] (fun _ i wr => ∃ j : Nat, j ≤ per f N k ∧ i = .int .i64 j ∧ Below w.heap.size w wr ∧ OI wr w.heap.size (.slice (some ⟨gm, 0, none⟩) (per f N k) cpm) (itl f k (per f N k)) ∧ OO wr w.heap.size u7 (cycL f N p k) ∧
            SeenI f N k j S w.heap.size wr) (fun _ i _ => per f N k - (intOf i).toNat)
          case atStart => exact ⟨0, by omega, rfl, hbw2, hom', hown2, hst⟩
          case round =>
            obtain ⟨j, hj, rfl, hbj, homj, hownj, hsj⟩ := hrel
            by_cases hjl : j < per f N k
            · obtain ⟨S', hA', hS'⟩ := hsj
              have hx : it f j k < N := HP.out.it_lt hlt j
              have hcm : wr.cell? ⟨gm, j, none⟩ = some (.int .i64 (it f j k : Nat)) := by
                have := homj.cell j (by rw [itl_length]; exact hjl)
                rwa [itl_getD _ _ _ _ hjl] at this
              have hcS : wr.cell? ⟨w.heap.size, it f j k, none⟩ = some (.bool (S' (it f j k))) := hA'.cell _ hx
              have hfS := hA'.frozen (it f j k)
              have hs2 : SeenI f N k (j + 1) S w.heap.size (wr.setCell ⟨w.heap.size, it f j k, none⟩ (.bool true)) := by
                refine ⟨_, hA'.setb _ _, fun x hx => ?_⟩
                by_cases e : x = it f j k
                · subst e; simp only [if_pos]
                  exact ⟨fun _ => .inr ⟨j, by omega, rfl⟩, fun _ => trivial⟩
                · simp only [if_neg e]
                  refine (hS' x hx).trans ⟨fun h => h.imp id fun ⟨i, hi, e'⟩ => ⟨i, by omega, e'⟩, fun h => h.imp id fun ⟨i, hi, e'⟩ => ⟨i, ?_, e'⟩⟩
                  by_cases ej : i = j
                  · subst ej; exact absurd e'.symm e
                  · omega
              have hom2 : OI (wr.setCell ⟨w.heap.size, it f j k, none⟩ (.bool true)) w.heap.size (.slice (some ⟨gm, 0, none⟩) (per f N k) cpm) (itl f k (per f N k)) := homj.far (homj.ne_arr hA' (by decide)) _
              have hown2 := hownj.far hA' (by decide) (by decide) (it f j k) (.bool true)
              have H1 := Lib.hid hs2
              have H2 := Lib.hid hom2
              have H3 := Lib.hid hown2
              clear hs2 hom2 hown2 hS' hA' homj hownj hst hom'
              generalize it f j k = x at *
              have hx0 : (0 : Int) ≤ (x : Int) := Int.natCast_nonneg _
              have hx1 : (x : Int) < (N : Int) := by omega
              have hj0 : (0 : Int) ≤ (j : Int) := Int.natCast_nonneg _
              have hj1 : (j : Int) < (per f N k : Int) := by omega
              go_wp2
              go_roundw
              case rel => exact ⟨j + 1, by omega, by go_num, below_set hbj (Nat.le_refl _) _, H2.out, H3.out, H1.out⟩
              case measure => simp [intOf]; omega
            · obtain rfl : j = per f N k := by omega
              have hsz := hbj.size
              have hlen := cycL_length f N p k
              have hseen : ∃ S' : Nat → Bool, Arr wr w.heap.size 4 N (bv S') ∧ ∀ x, x < N → (S' x = true ↔ ∃ h, h < k + 1 ∧ p h = true ∧ Orb f h x) := by
                obtain ⟨S', hA', hS'⟩ := hsj
                refine ⟨S', hA', fun x hx => (hS' x hx).trans ⟨?_, ?_⟩⟩
                · rintro (h | ⟨i, _, e⟩)
                  · obtain ⟨a, b, c⟩ := (HSS.out x hx).1 h
                    exact ⟨a, by omega, c⟩
                  · exact ⟨k, by omega, HPK.out, i, e⟩
                · rintro ⟨a, b, c, d⟩
                  by_cases e : a = k
                  · subst e; exact .inr (HP.out.orb_lt hlt d)
                  · exact .inl ((HSS.out x hx).2 ⟨a, by omega, c, d⟩)
              have HSE := Lib.hid hseen
              clear hseen hsj hj hjl hpl hst hown2 hom'
              go_wp2_with (at_builtin
                           refine wpList_append_row rfl (.tmp 42) (.tmp 44) rfl w.heap.size u7 (cycL f N p k) rfl (hownj.keep (below_alloc _ _)) wr.heap.size (.slice (some ⟨gm, 0, none⟩) (per f N k) cpm) (itl f k (per f N k)) rfl (by rw [World.cell?_alloc_at _ _ _ _ rfl]; rfl) (homj.alloc _) (by omega) (Nat.le_trans hsz (by simp)) ?_
                           intro v2 w3 ho2 hg2)
              go_roundw
              case rel =>
                refine ⟨k + 1, by omega, by go_num, (below_step hbj (below_alloc wr _)).grown hg2 (Nat.le_trans hsz (by simp)) (fun q hq => (hownj.lt q hq).1), ?_, by rw [HCY.out]; exact ho2⟩
                obtain ⟨S', hA', hS'⟩ := HSE.out
                exact ⟨S', (hA'.alloc _).grown hg2 (hownj.ne_arr hA' (by decide)), hS'⟩
              case measure => simp [intOf]; omega
    · obtain rfl : k = N := by omega
      clear hlt hk hmk hcf
      go_wp2
      go_ret
      exact ⟨_, rfl, hown, hbr⟩

end Go.Proofs.Ytdamfoobnbjojaa

/- Plain mathematics: all cycles of the wanted numbers together are a rearrangement of the wanted numbers. -/
namespace Go.Proofs.Ytdamfoobnbjojaa

/-- The first wanted numbers of the cycles. -/
def reprs (f : Nat → Nat) (N : Nat) (p : Nat → Bool) : List Nat := (List.range N).filter (sel f N p)
theorem reprs_mem {f : Nat → Nat} {N h : Nat} {p : Nat → Bool} : h ∈ reprs f N p ↔ h < N ∧ sel f N p h = true := by simp [reprs, List.mem_filter]
def flatN (f : Nat → Nat) (N : Nat) (p : Nat → Bool) : List Nat := ((reprs f N p).map (cyc f N)).flatten
def ClosedN (f : Nat → Nat) (N : Nat) (p : Nat → Bool) : Prop := ∀ h, h < N → p h = true → p (f h) = true
theorem ClosedN.it {f : Nat → Nat} {N : Nat} {p : Nat → Bool} (c : ClosedN f N p) (q : Perm f N) {h : Nat} (hh : h < N) (hp : p h = true) (i : Nat) : p (it f i h) = true := by
  induction i with
  | zero => exact hp
  | succ i ih => exact c _ (q.it_lt hh i) ih
theorem least_nat (P : Nat → Prop) : ∀ x, P x → ∃ y, P y ∧ ∀ z, z < y → ¬ P z := by
  intro x
  induction x using Nat.strongRecOn with
  | ind x ih =>
    intro hx
    by_cases e : ∃ z, z < x ∧ P z
    · obtain ⟨z, hz, hp⟩ := e; exact ih z hz hp
    · exact ⟨x, hx, fun z hz hp => e ⟨z, hz, hp⟩⟩
theorem reprs_ex {f : Nat → Nat} {N x : Nat} {p : Nat → Bool} (q : Perm f N) (hx : x < N) (hp : p x = true) : ∃ r, r ∈ reprs f N p ∧ Orb f r x := by
  obtain ⟨y, hy, hmin⟩ := least_nat (fun y => y < N ∧ p y = true ∧ Orb f y x) x ⟨hx, hp, Orb.refl f x⟩
  exact ⟨y, reprs_mem.2 ⟨hy.1, (q.sel_iff p hy.1).2 ⟨hy.2.1, fun h' hlt hp' o => hmin h' hlt ⟨by omega, hp', o.trans hy.2.2⟩⟩⟩, hy.2.2⟩
theorem reprs_uniq {f : Nat → Nat} {N a b x : Nat} {p : Nat → Bool} (q : Perm f N) (ha : a ∈ reprs f N p) (hb : b ∈ reprs f N p) (h1 : Orb f a x) (h2 : Orb f b x) : a = b := by
  obtain ⟨a1, a2⟩ := reprs_mem.1 ha
  obtain ⟨b1, b2⟩ := reprs_mem.1 hb
  have ha' := (q.sel_iff p a1).1 a2
  have hb' := (q.sel_iff p b1).1 b2
  have o1 := h1.trans (q.orb_symm b1 h2)
  have o2 := h2.trans (q.orb_symm a1 h1)
  rcases Nat.lt_trichotomy a b with k | k | k
  · exact absurd o1 (hb'.2 _ k ha'.1)
  · exact k
  · exact absurd o2 (ha'.2 _ k hb'.1)
theorem cyc_nodup {f : Nat → Nat} {N h : Nat} (q : Perm f N) (hh : h < N) : (cyc f N h).Nodup := by
  unfold cyc
  refine List.pairwise_map.2 (List.Pairwise.imp_of_mem (R := (· < ·)) (fun {a b} ha hb hab => ?_) List.pairwise_lt_range)
  exact q.it_ne hh hab (by simpa using hb)
theorem mem_flatN {f : Nat → Nat} {N x : Nat} {p : Nat → Bool} (q : Perm f N) (c : ClosedN f N p) : x ∈ flatN f N p ↔ x < N ∧ p x = true := by
  unfold flatN
  simp only [List.mem_flatten, List.mem_map]
  constructor
  · rintro ⟨l, ⟨r, hr, rfl⟩, hx⟩
    obtain ⟨r1, r2⟩ := reprs_mem.1 hr
    obtain ⟨i, _, rfl⟩ := q.orb_lt r1 ((q.mem_cyc r1 x).1 hx)
    exact ⟨q.it_lt r1 i, c.it q r1 ((q.sel_iff p r1).1 r2).1 i⟩
  · rintro ⟨hx, hp⟩
    obtain ⟨r, hr, o⟩ := reprs_ex q hx hp
    exact ⟨_, ⟨r, hr, rfl⟩, (q.mem_cyc (reprs_mem.1 hr).1 x).2 o⟩
theorem flatN_nodup {f : Nat → Nat} {N : Nat} {p : Nat → Bool} (q : Perm f N) : (flatN f N p).Nodup := by
  unfold flatN
  refine List.pairwise_flatten.2 ⟨fun l hl => ?_, ?_⟩
  · obtain ⟨r, hr, rfl⟩ := List.mem_map.1 hl
    exact cyc_nodup q (reprs_mem.1 hr).1
  · refine List.pairwise_map.2 (List.Pairwise.imp_of_mem (R := (· < ·)) (fun {a b} ha hb hab x hx y hy e => ?_) (List.Pairwise.filter _ List.pairwise_lt_range))
    have h1 := (q.mem_cyc (reprs_mem.1 ha).1 x).1 hx
    have h2 := (q.mem_cyc (reprs_mem.1 hb).1 y).1 hy
    rw [← e] at h2
    have := reprs_uniq q ha hb h1 h2
    omega
theorem flatN_perm {f : Nat → Nat} {N : Nat} {p : Nat → Bool} (q : Perm f N) (c : ClosedN f N p) : (flatN f N p).Perm ((List.range N).filter p) :=
  (List.perm_ext_iff_of_nodup (flatN_nodup q) (List.Pairwise.filter _ List.nodup_range)).2 fun x => by
    rw [mem_flatN q c, List.mem_filter, List.mem_range]
def lenSum (l : List Nat) (g : Nat → Nat) : Nat := (l.map g).sum
theorem flatN_length (f : Nat → Nat) (N : Nat) (p : Nat → Bool) : (flatN f N p).length = lenSum (reprs f N p) (per f N) := by
  unfold flatN lenSum
  rw [List.length_flatten, List.map_map]
  congr 1
  refine List.map_congr_left fun r _ => ?_
  simp [cyc]
/-- The lengths of the cycles of the wanted add up to the number of the wanted. -/
theorem sum_per {f : Nat → Nat} {N : Nat} {p : Nat → Bool} (q : Perm f N) (c : ClosedN f N p) : lenSum (reprs f N p) (per f N) = (List.range N).countP p := by
  rw [← flatN_length, (flatN_perm q c).length_eq, List.countP_eq_length_filter]
theorem cycL_reprs (f : Nat → Nat) (N : Nat) (p : Nat → Bool) : cycL f N p N = (reprs f N p).map (fun h => itl f h (per f N h)) := rfl
theorem cycL_get (f : Nat → Nat) (N : Nat) (p : Nat → Bool) {i : Nat} (hi : i < (cycL f N p N).length) : (reprs f N p).getD i 0 ∈ reprs f N p ∧ (cycL f N p N).getD i [] = itl f ((reprs f N p).getD i 0) (per f N ((reprs f N p).getD i 0)) := by
  rw [cycL_reprs] at hi ⊢
  rw [List.length_map] at hi
  have e : (reprs f N p).getD i 0 = (reprs f N p)[i] := by simp [List.getD, hi]
  rw [e]
  exact ⟨List.getElem_mem hi, by simp [List.getD, hi]⟩
theorem cycL_len (f : Nat → Nat) (N : Nat) (p : Nat → Bool) : (cycL f N p N).length = (reprs f N p).length := by rw [cycL_reprs, List.length_map]

/-- The lengths of the first i rows. -/
def totR (xss : List (List Int)) (i : Nat) : Nat := ((xss.take i).map List.length).sum
theorem totR_succ {xss : List (List Int)} {i : Nat} (h : i < xss.length) : totR xss (i + 1) = totR xss i + (xss.getD i []).length := by
  unfold totR
  rw [List.take_succ_eq_append_getElem h, List.map_append, List.sum_append]
  have e : xss.getD i [] = xss[i] := by simp [List.getD, h]
  rw [e]; simp
theorem totR_zero (xss : List (List Int)) : totR xss 0 = 0 := by simp [totR]
theorem totR_all {f : Nat → Nat} {N : Nat} {p : Nat → Bool} (q : Perm f N) (c : ClosedN f N p) : totR (cycL f N p N) (cycL f N p N).length = (List.range N).countP p := by
  unfold totR
  rw [List.take_length, cycL_reprs, List.map_map, ← sum_per q c]
  unfold lenSum
  congr 1
  exact List.map_congr_left fun r _ => by simp [itl]

end Go.Proofs.Ytdamfoobnbjojaa

/- Plain mathematics: the list of the components. -/
namespace Go.Proofs.Ytdamfoobnbjojaa

/-- The members below c of the component l. -/
def memb (F : Nat → Nat) (c l : Nat) : List Int := ((List.range c).filter (fun b => F b == l)).map (fun (b : Nat) => (b : Int))
/-- The least members below c. -/
def roots (F : Nat → Nat) (c : Nat) : List Nat := (List.range c).filter (fun l => F l == l)
def graphL (F : Nat → Nat) (c : Nat) : List (List Int) := (roots F c).map (memb F c)

theorem memb_succ (F : Nat → Nat) (c l : Nat) : memb F (c + 1) l = memb F c l ++ if F c == l then [(c : Int)] else [] := by
  unfold memb
  rw [List.range_succ, List.filter_append, List.map_append]
  cases h : F c == l <;> simp [h]
theorem roots_succ (F : Nat → Nat) (c : Nat) : roots F (c + 1) = roots F c ++ if F c == c then [c] else [] := by
  unfold roots
  rw [List.range_succ, List.filter_append]
  cases h : F c == c <;> simp [h]
theorem roots_lt {F : Nat → Nat} {c l : Nat} (h : l ∈ roots F c) : l < c ∧ F l = l := by
  unfold roots at h
  have := List.mem_filter.1 h
  exact ⟨List.mem_range.1 this.1, by simpa using this.2⟩
theorem memb_none {F : Nat → Nat} {c l : Nat} (hF : ∀ b, F b ≤ b) (hl : c ≤ l) : memb F c l = [] := by
  unfold memb
  have : (List.range c).filter (fun b => F b == l) = [] := List.filter_eq_nil_iff.2 fun b hb => by
    have := hF b
    have := List.mem_range.1 hb
    simp; omega
  rw [this]; rfl
/-- The place of the root l. -/
def plc (F : Nat → Nat) (l : Nat) : Nat := (roots F l).length
theorem graphL_new {F : Nat → Nat} {c : Nat} (hF : ∀ b, F b ≤ b) (h : F c = c) : graphL F (c + 1) = graphL F c ++ [[(c : Int)]] := by
  have hm : (roots F c).map (memb F (c + 1)) = (roots F c).map (memb F c) := List.map_congr_left fun l hl => by
    have := roots_lt hl
    rw [memb_succ, h]
    have hne : (c == l) = false := by simp; omega
    simp [hne]
  have hn : memb F (c + 1) c = [(c : Int)] := by rw [memb_succ, h, memb_none hF (Nat.le_refl _)]; simp
  unfold graphL
  rw [roots_succ, h]
  simp only [beq_self_eq_true, if_true, List.map_append, List.map_cons, List.map_nil]
  rw [hm, hn]
theorem roots_split {F : Nat → Nat} {c l : Nat} (hl : l < c) (h : F l = l) : ∃ r, roots F c = roots F l ++ l :: r ∧ ∀ x ∈ r, x ≠ l := by
  induction c with
  | zero => omega
  | succ c ih =>
    by_cases e : l = c
    · subst e
      exact ⟨[], by rw [roots_succ, h]; simp, fun x hx => by cases hx⟩
    · obtain ⟨r, h1, h2⟩ := ih (by omega)
      rw [roots_succ, h1]
      refine ⟨r ++ if F c == c then [c] else [], by simp, fun x hx => ?_⟩
      rcases List.mem_append.1 hx with h3 | h3
      · exact h2 x h3
      · split at h3
        · simp at h3; omega
        · cases h3
theorem graphL_old {F : Nat → Nat} {c : Nat} (hlt : F c < c) (hid : F (F c) = F c) :
    plc F (F c) < (graphL F c).length ∧ (graphL F c).getD (plc F (F c)) [] = memb F c (F c) ∧ graphL F (c + 1) = (graphL F c).set (plc F (F c)) (memb F c (F c) ++ [(c : Int)]) := by
  obtain ⟨r, h1, h2⟩ := roots_split hlt hid
  have hp : plc F (F c) = ((roots F (F c)).map (memb F c)).length := by simp [plc]
  have hg : graphL F c = (roots F (F c)).map (memb F c) ++ memb F c (F c) :: r.map (memb F c) := by unfold graphL; rw [h1]; simp
  refine ⟨by rw [hg, hp]; simp, by rw [hg, hp]; simp [List.getD], ?_⟩
  rw [hg, hp, List.set_append_right _ _ (Nat.le_refl _)]
  simp only [Nat.sub_self, List.set_cons_zero]
  have hne : (F c == c) = false := by simp; omega
  unfold graphL
  rw [roots_succ, hne, h1]
  simp only [Bool.false_eq_true, if_false, List.append_nil, List.map_append, List.map_cons]
  have e1 : ∀ x, x ≠ F c → memb F (c + 1) x = memb F c x := fun x hx => by
    rw [memb_succ]
    have : (F c == x) = false := by simp; exact fun e => hx e.symm
    simp [this]
  have e2 : (roots F (F c)).map (memb F (c + 1)) = (roots F (F c)).map (memb F c) := List.map_congr_left fun x hx => e1 x (by have := roots_lt hx; omega)
  have e3 : r.map (memb F (c + 1)) = r.map (memb F c) := List.map_congr_left fun x hx => e1 x (h2 x hx)
  have e4 : memb F (c + 1) (F c) = memb F c (F c) ++ [(c : Int)] := by rw [memb_succ]; simp
  rw [e2, e3, e4]
theorem graphL_length (F : Nat → Nat) (c : Nat) : (graphL F c).length = (roots F c).length := by simp [graphL]
theorem roots_length (F : Nat → Nat) (c : Nat) : (roots F c).length ≤ c := by
  unfold roots; exact Nat.le_trans (List.length_filter_le _ _) (by simp)
theorem memb_length (F : Nat → Nat) (c l : Nat) : (memb F c l).length ≤ c := by
  unfold memb; rw [List.length_map]; exact Nat.le_trans (List.length_filter_le _ _) (by simp)

end Go.Proofs.Ytdamfoobnbjojaa

/- Plain mathematics: each number bears the index of the row that it lies in. -/
namespace Go.Proofs.Ytdamfoobnbjojaa

/-- The first j of a row get the colour i. -/
def hueRow (xs : List Int) (i : Nat) : Nat → (Nat → Nat) → Nat → Nat
  | 0, V => V
  | j + 1, V => fun x => if (x : Int) = xs.getD j 0 then i else hueRow xs i j V x
def hue (xss : List (List Int)) : Nat → Nat → Nat
  | 0 => fun _ => 0
  | i + 1 => hueRow (xss.getD i []) i (xss.getD i []).length (hue xss i)
theorem hueRow_in {xs : List Int} {i j q x : Nat} {V : Nat → Nat} (hq : q < j) (e : xs.getD q 0 = x) : hueRow xs i j V x = i := by
  induction j with
  | zero => omega
  | succ j ih =>
    show (if (x : Int) = xs.getD j 0 then i else hueRow xs i j V x) = i
    by_cases h : q = j
    · subst h; rw [e]; simp
    · split
      · rfl
      · exact ih (by omega)
theorem hueRow_out {xs : List Int} {i j x : Nat} {V : Nat → Nat} (hx : ∀ q, q < j → xs.getD q 0 ≠ x) : hueRow xs i j V x = V x := by
  induction j with
  | zero => rfl
  | succ j ih =>
    show (if (x : Int) = xs.getD j 0 then i else hueRow xs i j V x) = V x
    rw [if_neg (fun e => hx j (by omega) e.symm)]
    exact ih fun q hq => hx q (by omega)
theorem getD_mem_int {xs : List Int} {q : Nat} (hq : q < xs.length) : xs.getD q 0 ∈ xs := by
  have e : xs.getD q 0 = xs[q] := by simp [List.getD, hq]
  rw [e]; exact List.getElem_mem hq
theorem hue_done {xss : List (List Int)} {a x : Nat} (hx : (x : Int) ∈ xss.getD a []) (hu : ∀ b, b < xss.length → b ≠ a → (x : Int) ∉ xss.getD b []) {i : Nat} (ha : a < i) (hi : i ≤ xss.length) : hue xss i x = a := by
  induction i with
  | zero => omega
  | succ i ih =>
    show hueRow (xss.getD i []) i _ (hue xss i) x = a
    by_cases e : a = i
    · subst e
      obtain ⟨q, hq, k⟩ := List.getElem_of_mem hx
      exact hueRow_in (q := q) hq (by have e : (xss.getD a []).getD q 0 = (xss.getD a [])[q] := by generalize xss.getD a [] = ys at hq ⊢; simp [List.getD, hq]
                                      rw [e, k])
    · rw [hueRow_out fun q hq k => hu i (by omega) (Ne.symm e) (by rw [← k]; exact getD_mem_int hq)]
      exact ih (by omega) (by omega)

theorem mem_memb {F : Nat → Nat} {n l x : Nat} : (x : Int) ∈ memb F n l ↔ x < n ∧ F x = l := by
  unfold memb
  simp only [List.mem_map, List.mem_filter, List.mem_range, beq_iff_eq]
  constructor
  · rintro ⟨b, ⟨h1, h2⟩, e⟩
    have : b = x := by omega
    subst this; exact ⟨h1, h2⟩
  · rintro ⟨h1, h2⟩
    exact ⟨x, ⟨h1, h2⟩, rfl⟩
theorem mem_memb_nat {F : Nat → Nat} {n l : Nat} {y : Int} (h : y ∈ memb F n l) : ∃ x : Nat, y = x ∧ x < n ∧ F x = l := by
  unfold memb at h
  obtain ⟨b, hb, e⟩ := List.mem_map.1 h
  have hb' := List.mem_filter.1 hb
  exact ⟨b, e.symm, List.mem_range.1 hb'.1, by simpa using hb'.2⟩
theorem roots_nodup (F : Nat → Nat) (n : Nat) : (roots F n).Nodup := List.Pairwise.filter _ List.nodup_range
theorem graphL_get (F : Nat → Nat) (n : Nat) {a : Nat} (ha : a < (graphL F n).length) : ∃ h : a < (roots F n).length, (graphL F n).getD a [] = memb F n (roots F n)[a] := by
  have h : a < (roots F n).length := by rw [← graphL_length]; exact ha
  exact ⟨h, by unfold graphL; simp [List.getD, h]⟩
/-- All painted: numbers of one component bear one colour. -/
theorem hue_same {F : Nat → Nat} {n x y : Nat} (hle : ∀ b, F b ≤ b) (hid : ∀ b, F (F b) = F b) (hx : x < n) (hy : y < n) (e : F x = F y) : hue (graphL F n) (graphL F n).length x = hue (graphL F n) (graphL F n).length y := by
  have hm : F x ∈ roots F n := by
    unfold roots
    rw [List.mem_filter, List.mem_range]
    exact ⟨by have := hle x; omega, by simp [hid]⟩
  obtain ⟨a, ha, ea⟩ := List.getElem_of_mem hm
  have hal : a < (graphL F n).length := by rw [graphL_length]; exact ha
  obtain ⟨h1, h2⟩ := graphL_get F n hal
  have key : ∀ z, z < n → F z = F x → hue (graphL F n) (graphL F n).length z = a := fun z hz ez => by
    refine hue_done (by rw [h2]; exact mem_memb.2 ⟨hz, by rw [ez, ea]⟩) (fun b hb hne hin => ?_) hal (Nat.le_refl _)
    obtain ⟨g1, g2⟩ := graphL_get F n hb
    rw [g2] at hin
    obtain ⟨_, k⟩ := mem_memb.1 hin
    rw [ez, ← ea] at k
    exact hne ((List.getElem_inj (roots_nodup F n)).1 k).symm
  rw [key x hx rfl, key y hy e.symm]

/-- Two of each four are wanted. -/
theorem count_two (p : Nat → Bool) (n : Nat) (h : ∀ c, c < n → (List.range 4).countP (fun s => p (4 * c + s)) = 2) : (List.range (4 * n)).countP p = 2 * n := by
  induction n with
  | zero => rfl
  | succ n ih =>
    have h1 := ih fun c hc => h c (by omega)
    have h2 := h n (by omega)
    rw [show 4 * (n + 1) = 4 * n + 1 + 1 + 1 + 1 by omega, List.range_succ, List.range_succ, List.range_succ, List.range_succ]
    simp only [List.countP_append, List.countP_cons, List.countP_nil]
    simp only [List.range_succ, List.range_zero, List.nil_append, List.countP_append, List.countP_cons, List.countP_nil, Nat.add_zero] at h2
    rw [show 4 * n + 1 + 1 = 4 * n + 2 by omega, show 4 * n + 2 + 1 = 4 * n + 3 by omega]
    omega

end Go.Proofs.Ytdamfoobnbjojaa

/- Plain mathematics: how many rows have a given length, told by the members; a bijection keeps it. -/
namespace Go.Proofs.Ytdamfoobnbjojaa

/-- Rows of length k, times k: the members of rows of that length. -/
theorem rows_count (xss : List (List Nat)) (sz : Nat → Nat) (h : ∀ r ∈ xss, ∀ x ∈ r, sz x = r.length) (k : Nat) : xss.countP (fun r => r.length == k) * k = xss.flatten.countP (fun x => sz x == k) := by
  induction xss with
  | nil => simp
  | cons r rs ih =>
    have h1 := ih fun r' hr x hx => h r' (by simp [hr]) x hx
    have h2 : r.countP (fun x => sz x == k) = if r.length == k then r.length else 0 := by
      have e : ∀ x ∈ r, (sz x == k) = (r.length == k) := fun x hx => by rw [h r (by simp) x hx]
      rw [List.countP_congr (q := fun _ => r.length == k) fun x hx => by rw [e x hx]]
      cases r.length == k <;> simp
    rw [List.flatten_cons, List.countP_append, List.countP_cons, Nat.add_mul, h1, h2]
    by_cases e : r.length = k
    · simp [e]; omega
    · have : (r.length == k) = false := by simp [e]
      simp [this]
/-- Two lists of rows whose members correspond, with the lengths of their rows, have as many rows of each length. -/
theorem rows_alike {xss yss : List (List Nat)} {sz sz' : Nat → Nat} {t : Nat → Nat} (h : ∀ r ∈ xss, ∀ x ∈ r, sz x = r.length) (h' : ∀ r ∈ yss, ∀ x ∈ r, sz' x = r.length) (hp : yss.flatten.Perm (xss.flatten.map t))
    (ht : ∀ x ∈ xss.flatten, sz' (t x) = sz x) (hx : ∀ r ∈ xss, r ≠ []) (hy : ∀ r ∈ yss, r ≠ []) (k : Nat) : xss.countP (fun r => r.length == k) = yss.countP (fun r => r.length == k) := by
  by_cases hk : k = 0
  · subst hk
    have z : ∀ zss : List (List Nat), (∀ r ∈ zss, r ≠ []) → zss.countP (fun r => r.length == 0) = 0 := fun zss hz => by
      rw [List.countP_eq_zero]
      intro r hr e
      exact hz r hr (by simpa using e)
    rw [z xss hx, z yss hy]
  · have h1 := rows_count xss sz h k
    have h2 := rows_count yss sz' h' k
    rw [hp.countP_eq, List.countP_map] at h2
    have h3 : List.countP ((fun x => sz' x == k) ∘ t) xss.flatten = xss.flatten.countP (fun x => sz x == k) := List.countP_congr fun x hx => by
      simp [ht x hx]
    rw [h3, ← h1] at h2
    exact (Nat.eq_of_mul_eq_mul_right (by omega) h2).symm
theorem length_alike {xss yss : List (List Nat)} (h : ∀ k, xss.countP (fun r => r.length == k) = yss.countP (fun r => r.length == k)) : xss.length = yss.length := by
  have hp : (xss.map List.length).Perm (yss.map List.length) := List.perm_iff_count.2 fun k => by
    have e : ∀ zss : List (List Nat), (zss.map List.length).count k = zss.countP (fun r => r.length == k) := fun zss => by
      rw [List.count, List.countP_map]; rfl
    rw [e, e, h k]
  have := hp.length_eq
  simpa using this

/-- A bijection of the numbers below N rearranges them. -/
theorem Perm.range {t : Nat → Nat} {N : Nat} (q : Perm t N) : ((List.range N).map t).Perm (List.range N) := by
  refine (List.perm_ext_iff_of_nodup ?_ List.nodup_range).2 fun x => ?_
  · refine List.pairwise_map.2 (List.Pairwise.imp_of_mem (R := (· ≠ ·)) (fun {a b} ha hb hab e => hab ?_) List.nodup_range)
    exact q.inj a b (by simpa using ha) (by simpa using hb) e
  · simp only [List.mem_map, List.mem_range]
    constructor
    · rintro ⟨y, hy, rfl⟩; exact q.lt y hy
    · intro hx
      obtain ⟨r, _, e⟩ := q.returns hx
      exact ⟨it t r x, q.it_lt hx r, e⟩
theorem Perm.onto {t : Nat → Nat} {N : Nat} (q : Perm t N) {x : Nat} (hx : x < N) : ∃ y, y < N ∧ t y = x := by
  obtain ⟨r, _, e⟩ := q.returns hx
  exact ⟨it t r x, q.it_lt hx r, e⟩
theorem filter_map_perm {t : Nat → Nat} {N : Nat} (q : Perm t N) {p p' : Nat → Bool} (hp : ∀ x, x < N → p' (t x) = p x) : ((List.range N).filter p').Perm (((List.range N).filter p).map t) := by
  have h1 := q.range.symm.filter p'
  rw [List.filter_map] at h1
  have h2 : (List.range N).filter (p' ∘ t) = (List.range N).filter p := List.filter_congr fun x hx => hp x (by simpa using hx)
  rw [h2] at h1
  exact h1

theorem it_conj {f g t : Nat → Nat} {N : Nat} (q : Perm f N) (hg : ∀ x, x < N → g (t x) = t (f x)) {x : Nat} (hx : x < N) (i : Nat) : it g i (t x) = t (it f i x) := by
  induction i with
  | zero => rfl
  | succ i ih => show g (it g i (t x)) = t (f (it f i x)); rw [ih, hg _ (q.it_lt hx i)]
theorem per_unique {f : Nat → Nat} {N h k : Nat} (q : Perm f N) (hh : h < N) (h0 : 0 < k) (h1 : it f k h = h) (h2 : ∀ i, 0 < i → i < k → it f i h ≠ h) : per f N h = k := by
  have hp := q.per_spec hh
  have := per_pos f N h
  rcases Nat.lt_trichotomy (per f N h) k with e | e | e
  · exact absurd hp.1 (h2 _ this e)
  · exact e
  · exact absurd h1 (hp.2.2 k h0 e)
theorem per_conj {f g t : Nat → Nat} {N : Nat} (qf : Perm f N) (qg : Perm g N) (qt : Perm t N) (hg : ∀ x, x < N → g (t x) = t (f x)) {x : Nat} (hx : x < N) : per g N (t x) = per f N x := by
  have hp := qf.per_spec hx
  refine per_unique qg (qt.lt x hx) (per_pos f N x) (by rw [it_conj qf hg hx, hp.1]) fun i h0 hi e => ?_
  rw [it_conj qf hg hx] at e
  exact hp.2.2 i h0 hi (qt.inj _ _ (qf.it_lt hx i) hx e)
theorem per_orb {f : Nat → Nat} {N x y : Nat} (q : Perm f N) (hx : x < N) (o : Orb f x y) : per f N y = per f N x := by
  obtain ⟨i, rfl⟩ := o
  have hp := q.per_spec hx
  have back : ∀ k, it f k (it f i x) = it f i (it f k x) := fun k => by rw [← it_add, ← it_add, Nat.add_comm]
  refine per_unique q (q.it_lt hx i) (per_pos f N x) (by rw [back, hp.1]) fun k h0 hk e => ?_
  rw [back] at e
  exact hp.2.2 k h0 hk (q.it_inj (q.it_lt hx k) hx i e)
/-- The cycles as rows of numbers. -/
def cycN (f : Nat → Nat) (N : Nat) (p : Nat → Bool) : List (List Nat) := (reprs f N p).map (cyc f N)
theorem cycN_size {f : Nat → Nat} {N : Nat} {p : Nat → Bool} (q : Perm f N) : ∀ r ∈ cycN f N p, ∀ x ∈ r, per f N x = r.length := by
  intro r hr x hx
  obtain ⟨h, hh, rfl⟩ := List.mem_map.1 hr
  have h1 := (reprs_mem.1 hh).1
  rw [per_orb q h1 ((q.mem_cyc h1 x).1 hx)]
  simp [cyc]
theorem cycN_ne {f : Nat → Nat} {N : Nat} {p : Nat → Bool} : ∀ r ∈ cycN f N p, r ≠ [] := by
  intro r hr e
  obtain ⟨h, _, rfl⟩ := List.mem_map.1 hr
  have := per_pos f N h
  have hl := congrArg List.length e
  simp [cyc] at hl
  omega
theorem cycN_lens (f : Nat → Nat) (N : Nat) (p : Nat → Bool) : (cycN f N p).map List.length = (cycL f N p N).map List.length := by
  rw [cycL_reprs]; unfold cycN
  rw [List.map_map, List.map_map]
  exact List.map_congr_left fun r _ => by simp [cyc, itl]
/-- Conjugate permutations have as many cycles of each length. -/
theorem cycN_conj {f g t : Nat → Nat} {N : Nat} {p p' : Nat → Bool} (qf : Perm f N) (qg : Perm g N) (qt : Perm t N) (hg : ∀ x, x < N → g (t x) = t (f x)) (hp : ∀ x, x < N → p' (t x) = p x) (cf : ClosedN f N p) (cg : ClosedN g N p') (k : Nat) :
    (cycN f N p).countP (fun r => r.length == k) = (cycN g N p').countP (fun r => r.length == k) :=
  rows_alike (t := t) (cycN_size qf) (cycN_size qg) ((flatN_perm qg cg).trans ((filter_map_perm qt hp).trans ((flatN_perm qf cf).symm.map t)))
    (fun _ hx => per_conj qf qg qt hg ((mem_flatN qf cf).1 hx).1) cycN_ne cycN_ne k
theorem reprs_conj {f g t : Nat → Nat} {N : Nat} {p p' : Nat → Bool} (qf : Perm f N) (qg : Perm g N) (qt : Perm t N) (hg : ∀ x, x < N → g (t x) = t (f x)) (hp : ∀ x, x < N → p' (t x) = p x) (cf : ClosedN f N p) (cg : ClosedN g N p') :
    (reprs f N p).length = (reprs g N p').length := by
  have := length_alike (cycN_conj qf qg qt hg hp cf cg)
  simpa [cycN] using this

/-- How many rows have the length k. -/
def many (xss : List (List Int)) (k : Nat) : Nat := xss.countP (fun r => r.length == k)
theorem many_lens {xss : List (List Int)} {yss : List (List Nat)} (h : yss.map List.length = xss.map List.length) (k : Nat) : many xss k = yss.countP (fun r => r.length == k) := by
  have e1 : many xss k = (xss.map List.length).countP (fun n => n == k) := by rw [List.countP_map]; rfl
  have e2 : yss.countP (fun r => r.length == k) = (yss.map List.length).countP (fun n => n == k) := by rw [List.countP_map]; rfl
  rw [e1, e2, h]
theorem many_conj {f g t : Nat → Nat} {N : Nat} {p p' : Nat → Bool} (qf : Perm f N) (qg : Perm g N) (qt : Perm t N) (hg : ∀ x, x < N → g (t x) = t (f x)) (hp : ∀ x, x < N → p' (t x) = p x) (cf : ClosedN f N p) (cg : ClosedN g N p') (k : Nat) :
    many (cycL f N p N) k = many (cycL g N p' N) k := by
  rw [many_lens (cycN_lens f N p) k, many_lens (cycN_lens g N p') k]
  exact cycN_conj qf qg qt hg hp cf cg k

/-- The components as rows of numbers. -/
def membN (F : Nat → Nat) (n l : Nat) : List Nat := (List.range n).filter (fun b => F b == l)
def graphN (F : Nat → Nat) (n : Nat) : List (List Nat) := (roots F n).map (membN F n)
theorem graphN_lens (F : Nat → Nat) (n : Nat) : (graphN F n).map List.length = (graphL F n).map List.length := by
  unfold graphN graphL
  rw [List.map_map, List.map_map]
  exact List.map_congr_left fun r _ => by simp [membN, memb]
theorem mem_membN {F : Nat → Nat} {n l x : Nat} : x ∈ membN F n l ↔ x < n ∧ F x = l := by unfold membN; simp [List.mem_filter]
theorem graphN_flat {F : Nat → Nat} {n : Nat} (hle : ∀ b, F b ≤ b) (hid : ∀ b, F (F b) = F b) : (graphN F n).flatten.Perm (List.range n) := by
  refine (List.perm_ext_iff_of_nodup ?_ List.nodup_range).2 fun x => ?_
  · refine List.pairwise_flatten.2 ⟨fun l hl => ?_, ?_⟩
    · obtain ⟨r, _, rfl⟩ := List.mem_map.1 hl
      exact List.Pairwise.filter _ List.nodup_range
    · refine List.pairwise_map.2 (List.Pairwise.imp (R := (· ≠ ·)) (fun {a b} hab x hx y hy e => hab ?_) (roots_nodup F n))
      rw [← (mem_membN.1 hx).2, ← (mem_membN.1 hy).2, e]
  · unfold graphN
    simp only [List.mem_flatten, List.mem_map, List.mem_range]
    constructor
    · rintro ⟨l, ⟨r, _, rfl⟩, hx⟩
      exact (mem_membN.1 hx).1
    · intro hx
      refine ⟨_, ⟨F x, ?_, rfl⟩, mem_membN.2 ⟨hx, rfl⟩⟩
      unfold roots
      rw [List.mem_filter, List.mem_range]
      exact ⟨by have := hle x; omega, by simp [hid]⟩
theorem many_graph {F G t : Nat → Nat} {n : Nat} (hF : ∀ b, F b ≤ b) (hF2 : ∀ b, F (F b) = F b) (hG : ∀ b, G b ≤ b) (hG2 : ∀ b, G (G b) = G b) (qt : Perm t n) (h : ∀ x y, x < n → y < n → (F x = F y ↔ G (t x) = G (t y))) (k : Nat) :
    many (graphL F n) k = many (graphL G n) k := by
  rw [many_lens (graphN_lens F n) k, many_lens (graphN_lens G n) k]
  have sz : ∀ (F : Nat → Nat), ∀ r ∈ graphN F n, ∀ x ∈ r, (membN F n (F x)).length = r.length := fun F r hr x hx => by
    obtain ⟨l, _, rfl⟩ := List.mem_map.1 hr
    rw [(mem_membN.1 hx).2]
  have ne : ∀ (F : Nat → Nat), ∀ r ∈ graphN F n, r ≠ [] := fun F r hr e => by
    obtain ⟨l, hl, rfl⟩ := List.mem_map.1 hr
    obtain ⟨h1, h2⟩ := roots_lt hl
    have : l ∈ membN F n l := mem_membN.2 ⟨h1, h2⟩
    rw [e] at this; cases this
  refine rows_alike (t := t) (sz := fun x => (membN F n (F x)).length) (sz' := fun x => (membN G n (G x)).length) (sz F) (sz G) ((graphN_flat hG hG2).trans (qt.range.symm.trans ((graphN_flat hF hF2).symm.map t))) (fun x hx => ?_) (ne F) (ne G) k
  have hxn : x < n := by have := (graphN_flat hF hF2).mem_iff.1 hx; simpa using this
  show (membN G n (G (t x))).length = (membN F n (F x)).length
  have h1 := filter_map_perm qt (p := fun b => F b == F x) (p' := fun b => G b == G (t x)) fun y hy => by
    rw [Bool.eq_iff_iff]
    simp only [beq_iff_eq]
    exact (h y x hy hxn).symm
  have := h1.length_eq
  rw [List.length_map] at this
  exact this

end Go.Proofs.Ytdamfoobnbjojaa

/- Plain mathematics: an order of the crossings, its inverse, the lists of the renumbered diagram. -/
namespace Go.Proofs.Ytdamfoobnbjojaa

def ordN (o : List Int) : Nat → Nat := fun i => (o.getD i 0).toNat
/-- The first k numbers lie in the range and differ. -/
structure OrdK (o : List Int) (n k : Nat) : Prop where
  rg : ∀ i, i < k → 0 ≤ o.getD i 0 ∧ o.getD i 0 < n
  ne : ∀ i j, i < j → j < k → o.getD i 0 ≠ o.getD j 0
def IsOrd (o : List Int) (n : Nat) : Prop := o.length = n ∧ OrdK o n n
theorem OrdK.zero (o : List Int) (n : Nat) : OrdK o n 0 := ⟨fun i hi => absurd hi (by omega), fun i j _ hj => absurd hj (by omega)⟩
theorem OrdK.succ {o : List Int} {n k : Nat} (h : OrdK o n k) (h1 : 0 ≤ o.getD k 0) (h2 : o.getD k 0 < n) (h3 : ∀ i, i < k → o.getD i 0 ≠ o.getD k 0) : OrdK o n (k + 1) :=
  ⟨fun i hi => by
    by_cases e : i = k
    · subst e; exact ⟨h1, h2⟩
    · exact h.rg i (by omega), fun i j hij hj => by
    by_cases e : j = k
    · subst e; exact h3 i hij
    · exact h.ne i j hij (by omega)⟩
theorem ordN_cast {o : List Int} {n k i : Nat} (h : OrdK o n k) (hi : i < k) : (ordN o i : Int) = o.getD i 0 ∧ ordN o i < n := by
  have := h.rg i hi
  unfold ordN; omega
theorem IsOrd.perm {o : List Int} {n : Nat} (h : IsOrd o n) : Perm (ordN o) n :=
  ⟨fun i hi => (ordN_cast h.2 hi).2, fun i j hi hj e => by
    have h1 := (ordN_cast h.2 hi).1
    have h2 := (ordN_cast h.2 hj).1
    rw [e] at h1
    rcases Nat.lt_trichotomy i j with k | k | k
    · exact absurd (h1.symm.trans h2) (h.2.ne i j k hj)
    · exact k
    · exact absurd (h2.symm.trans h1) (h.2.ne j i k hi)⟩

/-- The place of c among the first k. -/
def plcK (o : List Int) : Nat → Nat → Int
  | 0 => fun _ => -1
  | k + 1 => fun c => if c = ordN o k then (k : Int) else plcK o k c
theorem plcK_in {o : List Int} {n k i : Nat} (h : OrdK o n k) (hi : i < k) : plcK o k (ordN o i) = i := by
  induction k with
  | zero => omega
  | succ k ih =>
    show (if ordN o i = ordN o k then (k : Int) else plcK o k (ordN o i)) = i
    by_cases e : i = k
    · subst e; simp
    · have h1 := (ordN_cast h (i := i) (by omega)).1
      have h2 := (ordN_cast h (i := k) (by omega)).1
      have h3 := h.ne i k (by omega) (by omega)
      rw [if_neg (by omega)]
      exact ih ⟨fun j hj => h.rg j (by omega), fun a b hab hb => h.ne a b hab (by omega)⟩ (by omega)
theorem plcK_out {o : List Int} {k c : Nat} (h : ∀ i, i < k → ordN o i ≠ c) : plcK o k c = -1 := by
  induction k with
  | zero => rfl
  | succ k ih =>
    show (if c = ordN o k then (k : Int) else plcK o k c) = -1
    rw [if_neg fun e => h k (by omega) e.symm]
    exact ih fun i hi => h i (by omega)
theorem plcK_cases (o : List Int) (k c : Nat) : plcK o k c = -1 ∧ (∀ i, i < k → ordN o i ≠ c) ∨ ∃ i, i < k ∧ plcK o k c = i ∧ ordN o i = c := by
  induction k with
  | zero => exact .inl ⟨rfl, fun i hi => absurd hi (by omega)⟩
  | succ k ih =>
    by_cases e : c = ordN o k
    · refine .inr ⟨k, by omega, ?_, e.symm⟩
      show (if c = ordN o k then (k : Int) else plcK o k c) = k
      rw [if_pos e]
    · have e2 : plcK o (k + 1) c = plcK o k c := by
        show (if c = ordN o k then (k : Int) else plcK o k c) = plcK o k c
        rw [if_neg e]
      rw [e2]
      rcases ih with ⟨h1, h2⟩ | ⟨i, h1, h2, h3⟩
      · refine .inl ⟨h1, fun i hi => ?_⟩
        by_cases ei : i = k
        · subst ei; exact fun q => e q.symm
        · exact h2 i (by omega)
      · exact .inr ⟨i, by omega, h2, h3⟩

/-- The inverse. -/
def invN (o : List Int) (n c : Nat) : Nat := (plcK o n c).toNat
theorem invN_ord {o : List Int} {n i : Nat} (h : IsOrd o n) (hi : i < n) : invN o n (ordN o i) = i := by
  unfold invN; rw [plcK_in h.2 hi]; simp
theorem ord_invN {o : List Int} {n c : Nat} (h : IsOrd o n) (hc : c < n) : ordN o (invN o n c) = c ∧ invN o n c < n := by
  obtain ⟨i, hi, e⟩ := h.perm.onto hc
  rw [← e, invN_ord h hi]; exact ⟨rfl, hi⟩
theorem invN_cast {o : List Int} {n c : Nat} (h : IsOrd o n) (hc : c < n) : (invN o n c : Int) = plcK o n c := by
  obtain ⟨i, hi, e⟩ := h.perm.onto hc
  rw [← e, invN_ord h hi, plcK_in h.2 hi]
theorem invN_perm {o : List Int} {n : Nat} (h : IsOrd o n) : Perm (invN o n) n :=
  ⟨fun c hc => (ord_invN h hc).2, fun c d hc hd e => by rw [← (ord_invN h hc).1, ← (ord_invN h hd).1, e]⟩

/-- A list of n numbers that holds each below n is an order. -/
theorem isOrd_of_all {o : List Int} {n : Nat} (hl : o.length = n) (h : ∀ i, i < n → (i : Int) ∈ o) : IsOrd o n := by
  have hex : ∀ i, i < n → ∃ j, j < n ∧ o.getD j 0 = i := fun i hi => by
    obtain ⟨j, hj, e⟩ := List.getElem_of_mem (h i hi)
    exact ⟨j, by omega, by simp [List.getD, hj, e]⟩
  obtain ⟨t, ht⟩ : ∃ t : Nat → Nat, ∀ i, i < n → t i < n ∧ o.getD (t i) 0 = i := by
    refine ⟨fun i => if hi : i < n then (hex i hi).choose else 0, fun i hi => ?_⟩
    simp only [hi, dif_pos]
    exact (hex i hi).choose_spec
  have q : Perm t n := ⟨fun i hi => (ht i hi).1, fun i j hi hj e => by
    have h1 := (ht i hi).2
    have h2 := (ht j hj).2
    rw [e] at h1; omega⟩
  refine ⟨hl, ⟨fun j hj => ?_, fun i j hij hj e => ?_⟩⟩
  · obtain ⟨i, hi, e⟩ := q.onto hj
    have := (ht i hi).2
    rw [e] at this; omega
  · obtain ⟨a, ha, ea⟩ := q.onto (show i < n by omega)
    obtain ⟨b, hb, eb⟩ := q.onto hj
    have h1 := (ht a ha).2
    have h2 := (ht b hb).2
    rw [ea] at h1; rw [eb] at h2
    have : a = b := by omega
    rw [this] at ea; omega
theorem IsOrd.all {o : List Int} {n : Nat} (h : IsOrd o n) {i : Nat} (hi : i < n) : (i : Int) ∈ o := by
  obtain ⟨j, hj, e⟩ := h.perm.onto hi
  have h1 := (ordN_cast h.2 hj).1
  rw [e] at h1
  have hjl : j < o.length := by rw [h.1]; exact hj
  rw [h1]; exact getD_mem_int hjl

/-- The half-edge that the new half-edge x was. -/
def wasH (o : List Int) (x : Nat) : Nat := 4 * ordN o (x / 4) + x % 4
/-- The new half-edge that x becomes. -/
def newH (o : List Int) (n x : Nat) : Nat := 4 * invN o n (x / 4) + x % 4
def renS (s o : List Int) (n : Nat) : List Int := (List.range n).map fun i => s.getD (ordN o i) 0
def renM (m : Nat → Nat) (o : List Int) (n : Nat) : List Int := (List.range (4 * n)).map fun x => (newH o n (m (wasH o x)) : Int)
theorem renS_length (s o : List Int) (n : Nat) : (renS s o n).length = n := by simp [renS]
theorem renM_length (m : Nat → Nat) (o : List Int) (n : Nat) : (renM m o n).length = 4 * n := by simp [renM]
theorem renS_get {s o : List Int} {n i : Nat} (hi : i < n) : (renS s o n).getD i 0 = s.getD (ordN o i) 0 := by simp [renS, List.getD, hi]
theorem renM_get {m : Nat → Nat} {o : List Int} {n x : Nat} (hx : x < 4 * n) : (renM m o n).getD x 0 = (newH o n (m (wasH o x)) : Int) := by simp [renM, List.getD, hx]
theorem wasH_lt {o : List Int} {n x : Nat} (h : IsOrd o n) (hx : x < 4 * n) : wasH o x < 4 * n := by
  have := (ordN_cast h.2 (i := x / 4) (by omega)).2
  unfold wasH; omega
theorem newH_lt {o : List Int} {n x : Nat} (h : IsOrd o n) (hx : x < 4 * n) : newH o n x < 4 * n := by
  have := (ord_invN h (c := x / 4) (by omega)).2
  unfold newH; omega
theorem newH_was {o : List Int} {n x : Nat} (h : IsOrd o n) (hx : x < 4 * n) : newH o n (wasH o x) = x := by
  have h1 : wasH o x / 4 = ordN o (x / 4) := by unfold wasH; omega
  have h2 : wasH o x % 4 = x % 4 := by unfold wasH; omega
  unfold newH
  rw [h1, h2, invN_ord h (by omega)]; omega
theorem wasH_new {o : List Int} {n x : Nat} (h : IsOrd o n) (hx : x < 4 * n) : wasH o (newH o n x) = x := by
  have h1 : newH o n x / 4 = invN o n (x / 4) := by unfold newH; omega
  have h2 : newH o n x % 4 = x % 4 := by unfold newH; omega
  unfold wasH
  rw [h1, h2, (ord_invN h (c := x / 4) (by omega)).1]; omega
theorem newH_perm {o : List Int} {n : Nat} (h : IsOrd o n) : Perm (newH o n) (4 * n) :=
  ⟨fun x hx => newH_lt h hx, fun x y hx hy e => by rw [← wasH_new h hx, ← wasH_new h hy, e]⟩

end Go.Proofs.Ytdamfoobnbjojaa

/- Plain mathematics: a renumbered diagram is drawn on spheres as the given one is. -/
namespace Go.Proofs.Ytdamfoobnbjojaa

theorem conn_conj {m m' T t : Nat → Nat} {N : Nat} (hT : ∀ x, x < N → T x < N ∧ m' (T x) = T (m x) ∧ T x / 4 = t (x / 4)) (hm : ∀ x, x < N → m x < N) {a b : Nat} (h : Conn m N a b) : Conn m' N (t a) (t b) := by
  induction h with
  | refl => exact .refl _
  | step x hx _ ih =>
    obtain ⟨h1, h2, h3⟩ := hT x hx
    have h4 := (hT (m x) (hm x hx)).2.2
    rw [← h3] at ih
    have := Conn.step (m := m') (T x) h1 ih
    rw [h2, h4] at this
    exact this
  | back x hx _ ih =>
    obtain ⟨h1, h2, h3⟩ := hT x hx
    have h4 := (hT (m x) (hm x hx)).2.2
    rw [← h4, ← h2] at ih
    have := Conn.back (m := m') (T x) h1 ih
    rw [h3] at this
    exact this
theorem IsLab.iff {m : Nat → Nat} {N n : Nat} {F : Nat → Nat} (h : IsLab m N n F) {a b : Nat} (ha : a < n) (hb : b < n) : F a = F b ↔ Conn m N a b :=
  ⟨fun e => by
    have h1 := (h.1 a ha).2
    rw [e] at h1
    exact h1.trans (h.1 b hb).2.symm, h.conn⟩
theorem sel_closed {f : Nat → Nat} {N : Nat} {p : Nat → Bool} (q : Perm f N) (c : ClosedN f N p) {h : Nat} (hh : h < N) : sel f N p h = (fst f N h && p h) := by
  rw [Bool.eq_iff_iff, Bool.and_eq_true, q.sel_iff p hh, q.fst_iff hh]
  constructor
  · rintro ⟨h1, h2⟩
    refine ⟨fun h' hlt o => h2 h' hlt ?_ o, h1⟩
    obtain ⟨i, e⟩ := q.orb_symm (by omega) o
    rw [← e]; exact c.it q hh h1 i
  · rintro ⟨h1, h2⟩
    exact ⟨h2, fun h' hlt _ o => h1 h' hlt o⟩
theorem cntF_reprs {f F : Nat → Nat} {N l : Nat} (q : Perm f N) (c : ClosedN f N (fun h => F (h / 4) == l)) : cntF F f N N l = (reprs f N (fun h => F (h / 4) == l)).length := by
  unfold cntF reprs
  rw [List.countP_eq_length_filter]
  congr 1
  exact (List.filter_congr fun x hx => by rw [sel_closed q c (by simpa using hx)]).symm

section
variable {o : List Int} {n : Nat} {m m' : Nat → Nat}
/-- The mates of the renumbered diagram. -/
structure Ren (o : List Int) (n : Nat) (m m' : Nat → Nat) : Prop where
  ord : IsOrd o n
  inv : Invol m (4 * n)
  eq : ∀ x, x < 4 * n → m' x = newH o n (m (wasH o x))
theorem Ren.at (r : Ren o n m m') {x : Nat} (hx : x < 4 * n) : m' (newH o n x) = newH o n (m x) := by rw [r.eq _ (newH_lt r.ord hx), wasH_new r.ord hx]
theorem Ren.inv' (r : Ren o n m m') : Invol m' (4 * n) :=
  ⟨fun x hx => by rw [r.eq x hx]; exact newH_lt r.ord (r.inv.lt _ (wasH_lt r.ord hx)), fun x hx => by
    have h1 := r.inv.lt _ (wasH_lt r.ord hx)
    rw [r.eq x hx, r.at h1, r.inv.inv _ (wasH_lt r.ord hx), newH_was r.ord hx]⟩
theorem newH_trn (s x : Nat) : newH o n (trn x s) = trn (newH o n x) s := by
  have h1 : trn x s / 4 = x / 4 := trn_div x s
  have h2 : trn x s % 4 = (x % 4 + s) % 4 := by unfold trn; omega
  have h3 : newH o n x % 4 = x % 4 := by unfold newH; omega
  unfold newH at *
  rw [h1, h2]
  unfold trn
  rw [h3]; omega
theorem Ren.step (r : Ren o n m m') (s : Nat) {x : Nat} (hx : x < 4 * n) : trn (m' (newH o n x)) s = newH o n (trn (m x) s) := by rw [r.at hx, newH_trn]
theorem Ren.lab (r : Ren o n m m') {a b : Nat} (ha : a < n) (hb : b < n) : ufLab m (4 * n) a = ufLab m (4 * n) b ↔ ufLab m' (4 * n) (invN o n a) = ufLab m' (4 * n) (invN o n b) := by
  have qa := (ord_invN r.ord ha)
  have qb := (ord_invN r.ord hb)
  rw [(ufLab_isLab m (4 * n) n).iff ha hb, (ufLab_isLab m' (4 * n) n).iff qa.2 qb.2]
  constructor
  · exact conn_conj (T := newH o n) (fun x hx => ⟨newH_lt r.ord hx, r.at hx, by unfold newH; omega⟩) (fun x hx => r.inv.lt x hx)
  · intro h
    have := conn_conj (m := m') (m' := m) (T := wasH o) (t := ordN o) (fun x hx => ⟨wasH_lt r.ord hx, by
      rw [r.eq x hx, wasH_new r.ord (r.inv.lt _ (wasH_lt r.ord hx))], by unfold wasH; omega⟩) (fun x hx => r.inv'.lt x hx) h
    rw [qa.1, qb.1] at this
    exact this
theorem closed_lab {m : Nat → Nat} {n : Nat} (s l : Nat) : ClosedN (fun x => trn (m x) s) (4 * n) (fun h => ufLab m (4 * n) (h / 4) == l) := fun h hh e => by
  have := (ufLab_isLab m (4 * n) n).2 h hh
  simp only [trn_div, ← this]
  exact e
theorem Ren.sph (r : Ren o n m m') (h : sphB (ufLab m (4 * n)) (fun x => trn (m x) 3) (4 * n) n = true) : sphB (ufLab m' (4 * n)) (fun x => trn (m' x) 3) (4 * n) n = true := by
  rw [sphB_iff] at h ⊢
  intro c hc
  obtain ⟨a, ha, rfl⟩ := (invN_perm r.ord).onto hc
  have h0 := h a ha
  rw [cntF_reprs (r.inv.perm 3) (closed_lab 3 _)] at h0
  rw [cntF_reprs (r.inv'.perm 3) (closed_lab 3 _)]
  have e1 := reprs_conj (r.inv.perm 3) (r.inv'.perm 3) (newH_perm r.ord) (fun x hx => r.step 3 hx) (p := fun h => ufLab m (4 * n) (h / 4) == ufLab m (4 * n) a) (p' := fun h => ufLab m' (4 * n) (h / 4) == ufLab m' (4 * n) (invN o n a)) (fun x hx => by
    have e : newH o n x / 4 = invN o n (x / 4) := by unfold newH; omega
    rw [Bool.eq_iff_iff, e]
    simp only [beq_iff_eq]
    exact (r.lab (by omega) ha).symm) (closed_lab 3 _) (closed_lab 3 _)
  have e2 : cntV (ufLab m' (4 * n)) n (ufLab m' (4 * n) (invN o n a)) = cntV (ufLab m (4 * n)) n (ufLab m (4 * n) a) := by
    unfold cntV
    rw [List.countP_eq_length_filter, List.countP_eq_length_filter]
    have := (filter_map_perm (invN_perm r.ord) (p := fun c => ufLab m (4 * n) c == ufLab m (4 * n) a) (p' := fun c => ufLab m' (4 * n) c == ufLab m' (4 * n) (invN o n a)) fun x hx => by
      rw [Bool.eq_iff_iff]
      simp only [beq_iff_eq]
      exact (r.lab hx ha).symm).length_eq
    rw [List.length_map] at this
    exact this
  rw [← e1, e2]; exact h0
end

end Go.Proofs.Ytdamfoobnbjojaa
