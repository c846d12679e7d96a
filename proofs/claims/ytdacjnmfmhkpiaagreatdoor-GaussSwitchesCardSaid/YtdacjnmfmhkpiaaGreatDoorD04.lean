import Derived.Test.YtdacjnmfmhkpiaaGreatDoorD02
import Derived.Test.YtdacjnmfmhkpiaaGreatDoorD03
/- Walk: cycle. -/
namespace Go.Proofs.YtdacjnmfmhkpiaaGreatDoor
open Go.RowKit

/-- The successor function 'func fid' (which captured the block gd) leads from x to f x, in every world after w. -/
def Next (w : World) (fid : FuncId) (gd : Nat) (f : Nat → Nat) (N : Nat) : Prop := ∀ (W : World) (x : Nat), Below w.heap.size w W → x < N →
  Calls Tryz.prog fid #[.int .i64 (x : Nat), .pointer (some ⟨gd, 0, none⟩)] W fun e W' => e = .returned (.int .i64 (f x : Nat)) ∧ Below W.heap.size W W'
theorem Next.keep {w w' : World} {fid : FuncId} {gd : Nat} {f : Nat → Nat} {N : Nat} (h : Next w fid gd f N) (hb : Below w.heap.size w w') : Next w' fid gd f N :=
  fun W x hW hx => h W x (below_step hb hW) hx

/-- A call of 'func fid' enters that function. -/
def Enters (fid : FuncId) : Prop := ∀ (args : Array Value) (W : World), (callFunc fid args).run Tryz.prog W = .ok (.enter fid args) W
theorem enters59 : Enters 66 := fun _ _ => by kernel_rfl
theorem enters58 : Enters 63 := fun _ _ => by kernel_rfl

def itl (f : Nat → Nat) (h k : Nat) : List Int := (List.range k).map fun i => (it f i h : Int)
theorem itl_succ (f : Nat → Nat) (h k : Nat) : itl f h (k + 1) = itl f h k ++ [(it f k h : Int)] := by simp [itl, List.range_succ]
theorem itl_length (f : Nat → Nat) (h k : Nat) : (itl f h k).length = k := by simp [itl]
theorem itl_getD (f : Nat → Nat) (h k j : Nat) (hj : j < k) : (itl f h k).getD j 0 = (it f j h : Int) := by simp [itl, List.getD, hj]

def CycPost (w : World) (xs : List Int) (e : Ending) (w' : World) : Prop := ∃ v, e = .returned v ∧ OI w' w.heap.size v xs ∧ Below w.heap.size w w'

set_option maxHeartbeats 1600000 in
set_option maxRecDepth 100000 in
theorem cycle_any (fid : FuncId) (gd h N : Nat) (f : Nat → Nat) (w : World) (hcall : Enters fid) (hn : Next w fid gd f N) (hp : Perm f N) (hh : h < N) (hN : N ≤ 256) :
    Calls Tryz.prog 89 #[.int .i64 (h : Nat), .func (.func fid) #[] #[.pointer (some ⟨gd, 0, none⟩)]] w (CycPost w (itl f h (per f N h))) := by
  have h1 := OI.one w w.heap.size h (Nat.le_refl _)
  have hb1 := below_alloc w (.cells #[.int .i64 (h : Int)] 3)
  have hcf : ∀ (args : Array Value) (W : World), (callFunc fid args).run Tryz.prog W = .ok (.enter fid args) W := hcall
  clear hcall
  have C0 := Lib.hid (hn _ h hb1 hh)
  have HN := Lib.hid hn
  have HP := Lib.hid hp
  clear hn hp
  go_enter Tryz.func89, Tryz.ntmps89
  go_wp2_with ((with_reducible refine C0.out.mono ?_); rintro e w1 ⟨rfl, hbn⟩)
  go_loopg [5, 6] (per f N h - 1) (fun n v g wr => ∃ i : Nat, 0 < i ∧ n + i = per f N h ∧ g = .int .i64 (it f i h : Nat) ∧ Below w.heap.size w wr ∧ OI wr w.heap.size v (itl f h i))
  case atStart => exact ⟨1, by omega, by have := per_pos f N h; omega, rfl, below_step hb1 hbn, h1.keep hbn⟩
  case round =>
    obtain ⟨i, hi0, hi, rfl, hbr, hown⟩ := hrel
    have hgl := HP.out.it_lt hh i
    by_cases hil : i < per f N h
    · have hne : ((it f i h : Int) != (h : Int)) = true := by
        have := (HP.out.per_spec hh).2.2 i hi0 hil
        simp only [bne_iff_ne, ne_eq]; omega
      have HI := Lib.hid hi
      have hlen := itl_length f h i
      have hsucc := itl_succ f h i
      have hil' : (itl f h i).length ≤ 1000000000 := by have := (HP.out.per_spec hh).2.1; omega
      have hit : it f (i + 1) h = f (it f i h) := rfl
      have HIT := Lib.hid hit
      have HSU := Lib.hid hsucc
      clear hi hlen hsucc hit
      generalize itl f h i = xs at *
      generalize it f i h = x at *
      go_wp2_with (first
        | (at_builtin
           refine wpList_append_int rfl (.tmp 18) (.tmp 20) rfl w.heap.size _ xs rfl (hown.alloc _) wr.heap.size (x : Int) rfl (by rw [World.cell?_alloc_at _ _ _ _ rfl]; rfl) hil' (Nat.le_trans hbr.size (by simp)) ?_
           intro v2 w2 hown2 hg2
           have hb2 : Below w.heap.size w w2 := (below_step hbr (below_alloc wr _)).grown hg2 (Nat.le_trans hbr.size (by simp)) (fun k hk => (World.ownsRow.lt hown k hk).1)
           have C1 := Lib.hid (HN.out w2 x hb2 hgl))
        | ((with_reducible refine C1.out.mono ?_); rintro e w3 ⟨rfl, hb3⟩))
      go_roundg (gk - 1)
      case measure => have := HI.out; omega
      case rel => exact ⟨i + 1, by omega, by have := HI.out; omega, by rw [HIT.out], below_step hb2 hb3, by rw [HSU.out]; exact hown2.keep hb3⟩
    · have hip : i = per f N h := by omega
      have hret : it f i h = h := by rw [hip]; exact (HP.out.per_spec hh).1
      rw [hret]
      rw [hip] at hown
      clear hret hip hil hi
      go_wp2
      go_ret
      exact ⟨_, rfl, hown, hbr⟩

end Go.Proofs.YtdacjnmfmhkpiaaGreatDoor

/- Words for memory: a slice of slices of the call's own; make. -/
namespace Go.Proofs.YtdacjnmfmhkpiaaGreatDoor
open Go.RowKit

theorem Tryz.infoSlice : (Tryz.prog.info? 22).map (fun i => (i.zero, i.size, i.bytes)) = some (some (.slice none 0 0), 1, 24) := by kernel_rfl
theorem Tryz.infoBool : (Tryz.prog.info? 4).map (fun i => (i.zero, i.size, i.bytes)) = some (some (.bool false), 1, 1) := by kernel_rfl

theorem made_one (z : Value) (n : Nat) : madeCells #[z] n = cellsN n (fun _ => z) := by
  apply Array.ext'
  rw [toList_madeCells_one]
  simp [cellsN]
  apply List.ext_getElem <;> simp
theorem make_one {P : Program} {t e : TypeId} {z : Value} {bytes : Nat} (ht : P.underlying t = some (.slice e)) (hi : (P.info? e).map (fun i => (i.zero, i.size, i.bytes)) = some (some z, 1, bytes)) (hz : z.cells = #[z])
    (n : Nat) (hb : bytes * n ≤ 281474976710656) (h63 : n ≤ 9223372036854775807) (w : World) :
    (Instr.makeSlice t (.int .i64 (n : Int)) (.int .i64 (n : Int))).run P w = .ok (.slice (some ⟨w.heap.size, 0, none⟩) n n) (w.alloc (.cells (cellsN n fun _ => z) e)) := by
  obtain ⟨i0, hi0, hz0, hz1, hz2⟩ := info_parts hi
  have hb' : (i0.bytes : Int) * (n : Int) ≤ 281474976710656 := by
    have h1 : ((bytes * n : Nat) : Int) ≤ 281474976710656 := by omega
    rw [hz2]; rwa [Int.natCast_mul] at h1
  have := run_make (P := P) w t e i0 z ht hi0 hz0 .i64 .i64 n n (by omega) (Int.le_refl _) hb' (by omega)
  simp only [Int.toNat_natCast, hz1, hz, Nat.mul_one] at this
  rw [this, made_one]

/-- A row whose elements are one cell each. -/
def ownRow (w : World) (B : Nat) (e : TypeId) (v : Value) (vs : List Value) : Prop := w.ownsRow B e 1 v vs.length vs
theorem OI.type {w : World} {B : Nat} {v : Value} {xs : List Int} (h : OI w B v xs) {g : Nat} (hg : v.ownBlock = some g) : ∃ cur, w.heap[g]? = some (.cells cur 3 (0, 0)) := by
  rcases h.2 with ⟨rfl, _⟩ | ⟨g', cap, cur, rfl, _, h3, _⟩
  · cases hg
  · simp [Value.ownBlock] at hg; subst hg; exact ⟨cur, h3⟩
theorem ownRow.type {w : World} {B : Nat} {e : TypeId} {v : Value} {vs : List Value} (h : ownRow w B e v vs) {g : Nat} (hg : v.ownBlock = some g) : ∃ cur, w.heap[g]? = some (.cells cur e (0, 0)) := by
  rcases h.2 with ⟨rfl, _⟩ | ⟨g', cap, cur, rfl, _, h3, _⟩
  · cases hg
  · simp [Value.ownBlock] at hg; subst hg; exact ⟨cur, h3⟩
theorem ownRow.keep {w w' : World} {B : Nat} {e : TypeId} {v : Value} {vs : List Value} (h : ownRow w B e v vs) (hb : Below w.heap.size w w') : ownRow w' B e v vs :=
  World.ownsRow.kept h (grown_of_below hb) (by cases e : v.ownBlock <;> simp)
theorem OI.ne_row {w : World} {B B' : Nat} {e : TypeId} {v v' : Value} {xs : List Int} {vs : List Value} (h : OI w B v xs) (k : ownRow w B' e v' vs) (he : e ≠ 3) : v.ownBlock = none ∨ v.ownBlock ≠ v'.ownBlock := by
  cases hg : v.ownBlock with
  | none => exact .inl rfl
  | some g =>
    refine .inr fun e' => ?_
    obtain ⟨c1, h1⟩ := h.type hg
    obtain ⟨c2, h2⟩ := k.type e'.symm
    rw [h1] at h2; injection h2 with h2; injection h2 with _ h3 _; exact he h3.symm
theorem OI.ne_arr {w : World} {B g n : Nat} {e : TypeId} {v : Value} {xs : List Int} {V : Nat → Value} (h : OI w B v xs) (k : Arr w g e n V) (he : e ≠ 3) : v.ownBlock ≠ some g := fun hg => by
  obtain ⟨c1, h1⟩ := h.type hg
  unfold Arr at k
  rw [h1] at k; injection k with k; injection k with _ h3 _; exact he h3.symm
theorem ownRow.ne_arr {w : World} {B g n : Nat} {e e' : TypeId} {v : Value} {vs : List Value} {V : Nat → Value} (h : ownRow w B e' v vs) (k : Arr w g e n V) (he : e ≠ e') : v.ownBlock ≠ some g := fun hg => by
  obtain ⟨c1, h1⟩ := h.type hg
  unfold Arr at k
  rw [h1] at k; injection k with k; injection k with _ h3 _; exact he h3.symm
theorem ownRow.far {w : World} {B : Nat} {e : TypeId} {v : Value} {vs : List Value} (h : ownRow w B e v vs) {p : Addr} (hp : v.ownBlock ≠ some p.block) (u : Value) : ownRow (w.setCell p u) B e v vs := by
  refine ⟨h.1, h.2.imp id ?_⟩
  rintro ⟨g, cap, cur, rfl, h2, h3, h4⟩
  exact ⟨g, cap, cur, rfl, h2, (Below.heap_setCell w p u g (by rintro rfl; exact hp rfl)).trans h3, h4⟩

/-- v is a slice of slices of ints of the call's own that reads as xss. -/
def OO (w : World) (B : Nat) (v : Value) (xss : List (List Int)) : Prop :=
  ∃ vs : List Value, ownRow w B 22 v vs ∧ vs.length = xss.length ∧ ∀ i, i < xss.length → OI w B (vs.getD i undef) (xss.getD i [])
theorem OO.nil (w : World) (B : Nat) : OO w B (.slice none 0 0) [] := ⟨[], World.ownsRow_nil w B _ _, rfl, fun i hi => absurd hi (by simp)⟩
theorem OO.keep {w w' : World} {B : Nat} {v : Value} {xss : List (List Int)} (h : OO w B v xss) (hb : Below w.heap.size w w') : OO w' B v xss := by
  obtain ⟨vs, h1, h2, h3⟩ := h
  exact ⟨vs, h1.keep hb, h2, fun i hi => (h3 i hi).keep hb⟩
theorem OO.far {w : World} {B g n : Nat} {e : TypeId} {v : Value} {xss : List (List Int)} {V : Nat → Value} (h : OO w B v xss) (k : Arr w g e n V) (he : e ≠ 3) (he' : e ≠ 22) (j : Nat) (u : Value) : OO (w.setCell ⟨g, j, none⟩ u) B v xss := by
  obtain ⟨vs, h1, h2, h3⟩ := h
  exact ⟨vs, h1.far (h1.ne_arr k he') u, h2, fun i hi => (h3 i hi).far ((h3 i hi).ne_arr k he) u⟩
theorem OO.form {w : World} {B : Nat} {v : Value} {xss : List (List Int)} (h : OO w B v xss) : ∃ A c, v = .slice A xss.length c := by
  obtain ⟨vs, h1, h2, _⟩ := h
  rcases h1.2 with ⟨h3, h4⟩ | ⟨g, cap, cur, h3, _⟩
  · exact ⟨none, 0, by rw [h3, ← h2, h4]⟩
  · exact ⟨_, cap, by rw [h3, h2]⟩
theorem ownRow.mono {w : World} {B B' : Nat} {e : TypeId} {v : Value} {vs : List Value} (h : ownRow w B e v vs) (hB : B' ≤ B) : ownRow w B' e v vs := by
  refine ⟨h.1, h.2.imp id ?_⟩
  rintro ⟨g, cap, cur, h1, h2, h3⟩
  exact ⟨g, cap, cur, h1, by omega, h3⟩
theorem OO.mono {w : World} {B B' : Nat} {v : Value} {xss : List (List Int)} (h : OO w B v xss) (hB : B' ≤ B) : OO w B' v xss := by
  obtain ⟨vs, h1, h2, h3⟩ := h
  exact ⟨vs, h1.mono hB, h2, fun i hi => (h3 i hi).mono hB⟩
theorem OO.ne_arr {w : World} {B g n : Nat} {e : TypeId} {v : Value} {xss : List (List Int)} {V : Nat → Value} (h : OO w B v xss) (k : Arr w g e n V) (he' : e ≠ 22) : v.ownBlock ≠ some g := by
  obtain ⟨vs, h1, _⟩ := h; exact h1.ne_arr k he'
theorem Arr.grown {w w' : World} {g n : Nat} {t : TypeId} {V : Nat → Value} (h : Arr w g t n V) {row : Option Nat} (hg : w.grownBy w' row) (hne : row ≠ some g) : Arr w' g t n V :=
  (hg.block g h.lt (fun e => hne e.symm)).trans h
theorem OO.lt {w : World} {B : Nat} {v : Value} {xss : List (List Int)} (h : OO w B v xss) : ∀ k, v.ownBlock = some k → B ≤ k ∧ k < w.heap.size := by
  obtain ⟨vs, h1, _⟩ := h; exact World.ownsRow.lt h1

/-- append of one slice to a slice of slices of the call's own. -/
theorem wpList_append_row {ops : Array Oper} {rest : List Oper} {o : Oper} {a : Act} {w : World} {Q : Exit → Act → World → Prop} (hgd : o.guard = none) (s x : Operand)
    (ho : o.op = .call { callee := .builtin .append, args := #[s, x], argTypes := #[66, 66] }) (B : Nat) (v : Value) (xss : List (List Int)) (hs : a.eval s = v) (hown : OO w B v xss)
    (g : Nat) (y : Value) (ys : List Int) (hx : a.eval x = .slice (some ⟨g, 0, none⟩) 1 1) (hc : w.cell? ⟨g, 0, none⟩ = some y) (hy : OI w B y ys) (hlen : xss.length ≤ 1000000000) (hbase : B ≤ w.heap.size)
    (h : ∀ v' w', OO w' B v' (xss ++ [ys]) → w.grownBy w' v.ownBlock → wpList Tryz.prog ops Q rest (a.put o.dst v') w') : wpList Tryz.prog ops Q (o :: rest) a w := by
  obtain ⟨i0, hi, hz0, hz1, hz2⟩ := info_parts Tryz.infoSlice
  obtain ⟨vs, h1, h2, h3⟩ := hown
  have hone : y.oneCell' = true := by
    rcases hy.form with ⟨rfl, _⟩ | ⟨_, _, rfl, _⟩ <;> rfl
  refine wpList_append_own w hgd s x 66 ho B 22 i0 (.slice none 0 0) 1 24 Tryz.underlying66 hi hz0 hz1 hz2 rfl (by decide) v vs.length vs hs h1 ⟨g, 0, none⟩ 1 1 [y] hx rfl ?_ ?_ (by unfold maxLen; omega) (by omega) hbase ?_
  · intro j u hj
    match j, hj with
    | 0, hj => simp at hj; subst hj; simpa [Addr.add] using hc
  · intro u hu; simp at hu; subst hu; exact hone
  · intro v' w' k1 k2 _
    refine h v' w' ⟨vs ++ [y], by unfold ownRow; simpa using k1, by simp [h2], fun i hi => ?_⟩ k2
    simp only [List.length_append, List.length_cons, List.length_nil] at hi
    by_cases e : i < xss.length
    · have e1 : (vs ++ [y]).getD i undef = vs.getD i undef := by simp [List.getD, List.getElem?_append_left (show i < vs.length by omega)]
      have e2 : (xss ++ [ys]).getD i [] = xss.getD i [] := by simp [List.getD, List.getElem?_append_left e]
      rw [e1, e2]
      exact (h3 i e).grown k2 ((h3 i e).ne_row h1 (by decide))
    · have ei : i = xss.length := by omega
      subst ei
      have e1 : (vs ++ [y]).getD xss.length undef = y := by simp [List.getD, ← h2]
      have e2 : (xss ++ [ys]).getD xss.length [] = ys := by simp [List.getD]
      rw [e1, e2]
      exact hy.grown k2 (hy.ne_row h1 (by decide))

end Go.Proofs.YtdacjnmfmhkpiaaGreatDoor

/- Walk: cycles. -/
namespace Go.Proofs.YtdacjnmfmhkpiaaGreatDoor
open Go.RowKit

/-- The test function 'func fid' answers P x, in every world after w. -/
def Asks (w : World) (fid : FuncId) (caps : Array Value) (p : Nat → Bool) (N : Nat) : Prop := ∀ (W : World) (x : Nat), Below w.heap.size w W → x < N →
  Calls Tryz.prog fid (#[.int .i64 (x : Nat)] ++ caps) W fun e W' => e = .returned (.bool (p x)) ∧ Below W.heap.size W W'

/-- Is h the first wanted one of its cycle? -/
def sel (f : Nat → Nat) (N : Nat) (p : Nat → Bool) (h : Nat) : Bool := p h && (cyc f N h).all (fun g => !(p g) || decide (h ≤ g))
def cycL (f : Nat → Nat) (N : Nat) (p : Nat → Bool) (k : Nat) : List (List Int) := ((List.range k).filter (sel f N p)).map (fun h => itl f h (per f N h))
theorem cycL_succ (f : Nat → Nat) (N : Nat) (p : Nat → Bool) (k : Nat) : cycL f N p (k + 1) = cycL f N p k ++ if sel f N p k then [itl f k (per f N k)] else [] := by
  unfold cycL; rw [List.range_succ, List.filter_append, List.map_append]
  cases h : sel f N p k <;> simp [h]
theorem cycL_length (f : Nat → Nat) (N : Nat) (p : Nat → Bool) (k : Nat) : (cycL f N p k).length ≤ k := by
  unfold cycL; rw [List.length_map]; exact Nat.le_trans (List.length_filter_le _ _) (by simp)
theorem Perm.sel_iff {f : Nat → Nat} {N : Nat} (q : Perm f N) (p : Nat → Bool) {h : Nat} (hh : h < N) : sel f N p h = true ↔ p h = true ∧ ∀ h', h' < h → p h' = true → ¬ Orb f h' h := by
  unfold sel
  rw [Bool.and_eq_true, List.all_eq_true]
  constructor
  · rintro ⟨h1, h2⟩
    refine ⟨h1, fun h' hlt hp o => ?_⟩
    have := h2 h' ((q.mem_cyc hh h').2 (q.orb_symm (by omega) o))
    rw [hp] at this; simp at this; omega
  · rintro ⟨h1, h2⟩
    refine ⟨h1, fun g hg => ?_⟩
    have o := (q.mem_cyc hh g).1 hg
    cases hp : p g with
    | false => rfl
    | true =>
      simp only [Bool.not_true, Bool.false_or, decide_eq_true_eq]
      by_cases hlt : g < h
      · exact absurd (q.orb_symm hh o) (h2 g hlt hp)
      · omega

/-- Block g tells which numbers are on the cycle of a wanted number below k. -/
def SeenP (f : Nat → Nat) (p : Nat → Bool) (N k : Nat) (g : Nat) (w : World) : Prop := ∃ S : Nat → Bool, Arr w g 4 N (bv S) ∧ ∀ x, x < N → (S x = true ↔ ∃ h, h < k ∧ p h = true ∧ Orb f h x)

/-- And those that the first j steps from k reach. -/
def SeenI (f : Nat → Nat) (N k j : Nat) (S : Nat → Bool) (g : Nat) (w : World) : Prop := ∃ S' : Nat → Bool, Arr w g 4 N (bv S') ∧ ∀ x, x < N → (S' x = true ↔ S x = true ∨ ∃ i, i < j ∧ it f i k = x)

def CycsPost (w : World) (xss : List (List Int)) (e : Ending) (w' : World) : Prop := ∃ v, e = .returned v ∧ OO w' w.heap.size v xss ∧ Below w.heap.size w w'

set_option maxHeartbeats 3200000 in
set_option maxRecDepth 100000 in
theorem cycles_any (fid fidp : FuncId) (gd N : Nat) (caps : Array Value) (f : Nat → Nat) (p : Nat → Bool) (w : World) (hcall : Enters fid) (hcallp : Enters fidp) (hn : Next w fid gd f N) (ha : Asks w fidp caps p N) (hp : Perm f N) (hN : N ≤ 256) :
    Calls Tryz.prog 65 #[.int .i64 (N : Nat), .func (.func fidp) #[] caps, .func (.func fid) #[] #[.pointer (some ⟨gd, 0, none⟩)]] w (CycsPost w (cycL f N p N)) := by
  have hcf : ∀ (args : Array Value) (W : World), (callFunc fidp args).run Tryz.prog W = .ok (.enter fidp args) W := hcallp
  clear hcallp
  have hmk := fun W => make_one (P := Tryz.prog) Tryz.underlying124 Tryz.infoBool rfl N (by omega) (by omega) W
  have HCE := Lib.hid hcall
  have HN := Lib.hid hn
  have HA := Lib.hid ha
  have HP := Lib.hid hp
  clear hn ha hp hcall
  have hs0 : SeenP f p N 0 w.heap.size (w.alloc (.cells (cellsN N fun _ => .bool false) 4)) := ⟨fun _ => false, Arr.new w N _ _, fun x _ => ⟨fun h => Bool.noConfusion h, fun ⟨_, h, _⟩ => absurd h (by omega)⟩⟩
  have hb0 := below_alloc w (.cells (cellsN N fun _ => .bool false) 4)
  go_enter Tryz.func65, Tryz.ntmps65
  go_wp2
  generalize w.alloc (.cells (cellsN N fun _ => .bool false) 4) = wA at hs0 hb0
  go_loopw [7, 9, 10, 12, 16] (fun v _ _ _ i wr => ∃ k : Nat, k ≤ N ∧ i = .int .i64 k ∧ Below w.heap.size w wr ∧ SeenP f p N k w.heap.size wr ∧ OO wr w.heap.size v (cycL f N p k)) (fun _ _ _ _ i _ => N - (intOf i).toNat)
  case atStart => exact ⟨0, by omega, rfl, hb0, hs0, OO.nil _ _⟩
  case round =>
    obtain ⟨k, hk, rfl, hbr, hsr, hown⟩ := hrel
    by_cases hlt : k < N
    · obtain ⟨S, hA, hS⟩ := hsr
      have hcS : wr.cell? ⟨w.heap.size, k, none⟩ = some (.bool (S k)) := hA.cell k hlt
      have hk0 : (0 : Int) ≤ (k : Int) := Int.natCast_nonneg _
      have hk1 : (k : Int) < (N : Int) := by omega
      cases hSk : S k with
      | true =>
        obtain ⟨h', h1, h2, h3⟩ := (hS k hlt).1 hSk
        have hsel : sel f N p k = false := by
          cases e : sel f N p k with
          | false => rfl
          | true => exact absurd h3 (((HP.out.sel_iff p hlt).1 e).2 h' h1 h2)
        have hsn : SeenP f p N (k + 1) w.heap.size wr := ⟨S, hA, fun x hx => (hS x hx).trans ⟨fun ⟨a, b, c⟩ => ⟨a, by omega, c⟩, fun ⟨a, b, c, d⟩ => by
          by_cases e : a = k
          · subst e; exact ⟨h', h1, h2, h3.trans d⟩
          · exact ⟨a, by omega, c, d⟩⟩⟩
        have hcy : cycL f N p (k + 1) = cycL f N p k := by rw [cycL_succ, hsel]; simp
        rw [← hcy] at hown
        rw [hSk] at hcS
        clear hS hA hSk hsel hcy
        go_wp2
        go_roundw
        case rel => exact ⟨k + 1, by omega, by go_num, hbr, hsn, hown⟩
        case measure => simp [intOf]; omega
      | false =>
        have CA := Lib.hid (HA.out wr k hbr hlt)
        cases hpk : p k with
        | false =>
          have hsel : sel f N p k = false := by simp [sel, hpk]
          have hcy : cycL f N p (k + 1) = cycL f N p k := by rw [cycL_succ, hsel]; simp
          have hsn : SeenP f p N (k + 1) w.heap.size wr := ⟨S, hA, fun x hx => (hS x hx).trans ⟨fun ⟨a, b, c⟩ => ⟨a, by omega, c⟩, fun ⟨a, b, c, d⟩ => by
            by_cases e : a = k
            · subst e; rw [hpk] at c; cases c
            · exact ⟨a, by omega, c, d⟩⟩⟩
          rw [← hcy] at hown
          rw [hSk] at hcS
          rw [hpk] at CA
          clear hS hA hSk hsel hcy hpk
          go_wp2_with ((with_reducible refine CA.out.mono ?_); rintro e w1 ⟨rfl, hb1⟩)
          go_roundw
          case rel => exact ⟨k + 1, by omega, by go_num, below_step hbr hb1, by
            obtain ⟨S', hA', hS'⟩ := hsn
            exact ⟨S', hA'.keep hb1, hS'⟩, hown.keep hb1⟩
          case measure => simp [intOf]; omega
        | true =>
          have hsel : sel f N p k = true := (HP.out.sel_iff p hlt).2 ⟨hpk, fun h' h1 h2 h3 => by
            rw [(hS k hlt).2 ⟨h', h1, h2, h3⟩] at hSk; cases hSk⟩
          have hcy : cycL f N p (k + 1) = cycL f N p k ++ [itl f k (per f N k)] := by rw [cycL_succ, hsel]; simp
          have HCY := Lib.hid hcy
          rw [hSk] at hcS
          rw [hpk] at CA
          have HSS := Lib.hid hS
          have HPK := Lib.hid hpk
          clear hS hSk hsel hcy hpk
          go_wp2_with (first
            | ((with_reducible refine CA.out.mono ?_); rintro e w1 ⟨rfl, hb1⟩
               have hbw1 := below_step hbr hb1
               have CC := Lib.hid (cycle_any fid gd k N f w1 HCE.out (Next.keep HN.out hbw1) HP.out hlt hN))
            | (go_at_call 89; ((with_reducible refine CC.out.mono ?_); rintro e w2 ⟨vm, rfl, hom, hb2⟩; obtain ⟨gm, cpm, rfl⟩ := hom.form_pos (itl_length f k (per f N k)) (per_pos f N k))))
          have hbw2 := below_step hbw1 hb2
          have hpl := (HP.out.per_spec hlt).2.1
          have hom' := hom.mono (B' := w.heap.size) hbw1.size
          have hown2 := (hown.keep hb1).keep hb2
          have hst : SeenI f N k 0 S w.heap.size w2 :=
            ⟨S, (hA.keep hb1).keep hb2, fun x _ => ⟨.inl, fun h => h.elim id fun ⟨i, hi, _⟩ => absurd hi (by omega)⟩⟩
          clear hom hb2 hb1 hbw1 hbr hown hA CC CA hcS
          go_loopw [12, 34] (fun _ i wr => ∃ j : Nat, j ≤ per f N k ∧ i = .int .i64 j ∧ Below w.heap.size w wr ∧ OI wr w.heap.size (.slice (some ⟨gm, 0, none⟩) (per f N k) cpm) (itl f k (per f N k)) ∧ OO wr w.heap.size u7 (cycL f N p k) ∧
            SeenI f N k j S w.heap.size wr) (fun _ i _ => per f N k - (intOf i).toNat)
          case atStart => exact ⟨0, by omega, rfl, hbw2, hom', hown2, hst⟩
          case round =>
            obtain ⟨j, hj, rfl, hbj, homj, hownj, hsj⟩ := hrel
            by_cases hjl : j < per f N k
            · obtain ⟨S', hA', hS'⟩ := hsj
              have hx : it f j k < N := HP.out.it_lt hlt j
              have hcm : wr.cell? ⟨gm, j, none⟩ = some (.int .i64 (it f j k : Nat)) := by
                have := homj.cell j (by rw [itl_length]; exact hjl)
                rwa [itl_getD _ _ _ _ hjl] at this
              have hcS : wr.cell? ⟨w.heap.size, it f j k, none⟩ = some (.bool (S' (it f j k))) := hA'.cell _ hx
              have hfS := hA'.frozen (it f j k)
              have hs2 : SeenI f N k (j + 1) S w.heap.size (wr.setCell ⟨w.heap.size, it f j k, none⟩ (.bool true)) := by
                refine ⟨_, hA'.setb _ _, fun x hx => ?_⟩
                by_cases e : x = it f j k
                · subst e; simp only [if_pos]
                  exact ⟨fun _ => .inr ⟨j, by omega, rfl⟩, fun _ => trivial⟩
                · simp only [if_neg e]
                  refine (hS' x hx).trans ⟨fun h => h.imp id fun ⟨i, hi, e'⟩ => ⟨i, by omega, e'⟩, fun h => h.imp id fun ⟨i, hi, e'⟩ => ⟨i, ?_, e'⟩⟩
                  by_cases ej : i = j
                  · subst ej; exact absurd e'.symm e
                  · omega
              have hom2 : OI (wr.setCell ⟨w.heap.size, it f j k, none⟩ (.bool true)) w.heap.size (.slice (some ⟨gm, 0, none⟩) (per f N k) cpm) (itl f k (per f N k)) := homj.far (homj.ne_arr hA' (by decide)) _
              have hown2 := hownj.far hA' (by decide) (by decide) (it f j k) (.bool true)
              have H1 := Lib.hid hs2
              have H2 := Lib.hid hom2
              have H3 := Lib.hid hown2
              clear hs2 hom2 hown2 hS' hA' homj hownj hst hom'
              generalize it f j k = x at *
              have hx0 : (0 : Int) ≤ (x : Int) := Int.natCast_nonneg _
              have hx1 : (x : Int) < (N : Int) := by omega
              have hj0 : (0 : Int) ≤ (j : Int) := Int.natCast_nonneg _
              have hj1 : (j : Int) < (per f N k : Int) := by omega
              go_wp2
              go_roundw
              case rel => exact ⟨j + 1, by omega, by go_num, below_set hbj (Nat.le_refl _) _, H2.out, H3.out, H1.out⟩
              case measure => simp [intOf]; omega
            · obtain rfl : j = per f N k := by omega
              have hsz := hbj.size
              have hlen := cycL_length f N p k
              have hseen : ∃ S' : Nat → Bool, Arr wr w.heap.size 4 N (bv S') ∧ ∀ x, x < N → (S' x = true ↔ ∃ h, h < k + 1 ∧ p h = true ∧ Orb f h x) := by
                obtain ⟨S', hA', hS'⟩ := hsj
                refine ⟨S', hA', fun x hx => (hS' x hx).trans ⟨?_, ?_⟩⟩
                · rintro (h | ⟨i, _, e⟩)
                  · obtain ⟨a, b, c⟩ := (HSS.out x hx).1 h
                    exact ⟨a, by omega, c⟩
                  · exact ⟨k, by omega, HPK.out, i, e⟩
                · rintro ⟨a, b, c, d⟩
                  by_cases e : a = k
                  · subst e; exact .inr (HP.out.orb_lt hlt d)
                  · exact .inl ((HSS.out x hx).2 ⟨a, by omega, c, d⟩)
              have HSE := Lib.hid hseen
              clear hseen hsj hj hjl hpl hst hown2 hom'
              go_wp2_with (at_builtin
                           refine wpList_append_row rfl (.tmp 42) (.tmp 44) rfl w.heap.size u7 (cycL f N p k) rfl (hownj.keep (below_alloc _ _)) wr.heap.size (.slice (some ⟨gm, 0, none⟩) (per f N k) cpm) (itl f k (per f N k)) rfl (by rw [World.cell?_alloc_at _ _ _ _ rfl]; rfl) (homj.alloc _) (by omega) (Nat.le_trans hsz (by simp)) ?_
                           intro v2 w3 ho2 hg2)
              go_roundw
              case rel =>
                refine ⟨k + 1, by omega, by go_num, (below_step hbj (below_alloc wr _)).grown hg2 (Nat.le_trans hsz (by simp)) (fun q hq => (hownj.lt q hq).1), ?_, by rw [HCY.out]; exact ho2⟩
                obtain ⟨S', hA', hS'⟩ := HSE.out
                exact ⟨S', (hA'.alloc _).grown hg2 (hownj.ne_arr hA' (by decide)), hS'⟩
              case measure => simp [intOf]; omega
    · obtain rfl : k = N := by omega
      clear hlt hk hmk hcf
      go_wp2
      go_ret
      exact ⟨_, rfl, hown, hbr⟩

end Go.Proofs.YtdacjnmfmhkpiaaGreatDoor

/- Walk: Valid. -/
namespace Go.Proofs.YtdacjnmfmhkpiaaGreatDoor
open Go.RowKit

def matesOf (mate : List Int) : Nat → Nat := fun h => (mt mate h).toNat
theorem matesOf_mates {signs mate : List Int} {nm : Nat} (h : pairB signs mate = true) (hl : mate.length = nm) : Mates mate nm (matesOf mate) := fun j hj => by
  obtain ⟨m, h1, h2, _⟩ := pOK_out ((pairB_iff _ _).1 h j (by omega)) hl
  have e : matesOf mate j = m := by unfold matesOf; rw [h1]; simp
  rw [e]; exact ⟨h1, h2⟩
theorem matesOf_invol {signs mate : List Int} {nm : Nat} (h : pairB signs mate = true) (hl : mate.length = nm) : Invol (matesOf mate) nm :=
  ⟨fun j hj => (matesOf_mates h hl j hj).2, fun j hj => by
    obtain ⟨m, h1, h2, h3, _⟩ := pOK_out ((pairB_iff _ _).1 h j (by omega)) hl
    have e : matesOf mate j = m := by unfold matesOf; rw [h1]; simp
    have e2 : matesOf mate m = j := by unfold matesOf; rw [h3]; simp
    rw [e, e2]⟩

/-- The mates and their labels. -/
def sphM (mate : List Int) (n : Nat) : Bool := sphB (ufLab (matesOf mate) mate.length) (ff (matesOf mate)) mate.length n
def validB (signs mate : List Int) (lp : Int) : Bool := limB signs.length mate.length lp && sgnsB signs && pairB signs mate && sphM mate signs.length
theorem limB_out {ns nm : Nat} {lp : Int} (h : limB ns nm lp = true) : ns ≤ 64 ∧ nm = 4 * ns ∧ 0 ≤ lp ∧ lp ≤ 64 := by
  unfold limB at h; simp only [Bool.and_eq_true, decide_eq_true_eq] at h; omega

set_option maxHeartbeats 1600000 in
theorem valid_any (A B : Option Addr) (ns cs nm cm : Nat) (lp : Int) (signs mate : List Int) (w : World) (hs : RI w A ns signs) (hm : RI w B nm mate) (hns : ns ≤ 100000000000000) (hnm : nm ≤ 100000000000000)
    (hrange : ∀ j, j < nm → -9223372036854775808 ≤ mt mate j ∧ mt mate j ≤ 9223372036854775807) :
    Calls Tryz.prog 18 #[dval A ns cs B nm cm lp] w fun e w' => e = .returned (.bool (validB signs mate lp)) ∧ Below w.heap.size w w' := by
  have hd := DB.new w A ns cs B nm cm lp
  obtain ⟨d0, d1, d2, dlt⟩ := hd
  have hb0 := below_alloc w (dbox A ns cs B nm cm lp)
  have hs1 := hs.alloc (dbox A ns cs B nm cm lp)
  have hm1 := hm.alloc (dbox A ns cs B nm cm lp)
  have hls := hs.1
  have hlm := hm.1
  have HC1 := Lib.hid (limits_any A B ns cs nm cm lp (w.alloc (dbox A ns cs B nm cm lp)) (by omega) (by omega))
  have hv : validB signs mate lp = (limB ns nm lp && sgnsB signs && pairB signs mate && sphM mate ns) := by unfold validB; rw [hls, hlm]
  rw [hv]
  clear hv
  cases h1 : limB ns nm lp with
  | false =>
    simp only [Bool.false_and]
    rw [h1] at HC1
    clear hrange hls hlm h1
    go_enter Tryz.func18, Tryz.ntmps18
    go_wp2_with (go_at_call 42; ((with_reducible refine HC1.out.mono ?_); rintro e w1 ⟨rfl, hb1⟩))
    go_ret
    exact ⟨rfl, below_step hb0 hb1⟩
  | true =>
    obtain ⟨hns64, hnm4, hlp0, hlp1⟩ := limB_out h1
    rw [h1] at HC1
    have HC2 : ∀ w1 : World, Below (w.alloc (dbox A ns cs B nm cm lp)).heap.size (w.alloc (dbox A ns cs B nm cm lp)) w1 → Hid (Calls Tryz.prog 43 #[.slice A ns cs] w1 fun e w' => e = .returned (.bool (sgnsB signs)) ∧ w1 = w') :=
      fun w1 hb => signs_any A ns cs signs w1 (hs1.keep hb) (by omega)
    simp only [Bool.true_and]
    cases h2 : sgnsB signs with
    | false =>
      simp only [Bool.false_and]
      rw [h2] at HC2
      clear hrange hls hlm h1 hnm4
      go_enter Tryz.func18, Tryz.ntmps18
      go_wp2_with (first
        | (go_at_call 42; ((with_reducible refine HC1.out.mono ?_); rintro e w1 ⟨rfl, hb1⟩; have hc0 := (hb1.cell (p := ⟨w.heap.size, 0, none⟩) dlt).trans d0; have hc1 := (hb1.cell (p := ⟨w.heap.size, 1, none⟩) dlt).trans d1; have hc2 := (hb1.cell (p := ⟨w.heap.size, 2, none⟩) dlt).trans d2))
        | (go_at_call 43; ((with_reducible refine (HC2 _ hb1).out.mono ?_); rintro e w2 ⟨rfl, rfl⟩)))
      go_ret
      exact ⟨rfl, below_step hb0 hb1⟩
    | true =>
      rw [h2] at HC2
      have HC3 : ∀ w1 : World, Below (w.alloc (dbox A ns cs B nm cm lp)).heap.size (w.alloc (dbox A ns cs B nm cm lp)) w1 → Hid (Calls Tryz.prog 44 #[dval A ns cs B nm cm lp] w1 fun e w' => e = .returned (.bool (pairB signs mate)) ∧ Below w1.heap.size w1 w') :=
        fun w1 hb => paired_any A B ns cs nm cm lp signs mate w1 (hs1.keep hb) (hm1.keep hb) hnm4 hns64 hrange
      simp only [Bool.true_and]
      cases h3 : pairB signs mate with
      | false =>
        simp only [Bool.false_and]
        rw [h3] at HC3
        clear hrange hls hlm h1 hnm4
        go_enter Tryz.func18, Tryz.ntmps18
        go_wp2_with (first
          | (go_at_call 42; ((with_reducible refine HC1.out.mono ?_); rintro e w1 ⟨rfl, hb1⟩; have hc0 := (hb1.cell (p := ⟨w.heap.size, 0, none⟩) dlt).trans d0; have hc1 := (hb1.cell (p := ⟨w.heap.size, 1, none⟩) dlt).trans d1; have hc2 := (hb1.cell (p := ⟨w.heap.size, 2, none⟩) dlt).trans d2))
          | (go_at_call 43; ((with_reducible refine (HC2 _ hb1).out.mono ?_); rintro e w2 ⟨rfl, rfl⟩))
          | (go_at_call 44; ((with_reducible refine (HC3 _ hb1).out.mono ?_); rintro e w3 ⟨rfl, hb3⟩)))
        go_ret
        exact ⟨rfl, below_step hb0 (below_step hb1 hb3)⟩
      | true =>
        have HC4 : ∀ w1 : World, Below (w.alloc (dbox A ns cs B nm cm lp)).heap.size (w.alloc (dbox A ns cs B nm cm lp)) w1 → Hid (Calls Tryz.prog 45 #[dval A ns cs B nm cm lp] w1 fun e w' => e = .returned (.bool (sphM mate ns)) ∧ Below w1.heap.size w1 w') :=
          fun w1 hb => by
            have := sph_any A B ns cs nm cm lp mate (matesOf mate) w1 (hm1.keep hb) hns64 hnm4 (matesOf_mates h3 hlm) (matesOf_invol h3 hlm)
            rw [← hlm] at this ⊢
            exact this
        simp only [Bool.true_and]
        rw [h3] at HC3
        clear hrange hls hlm h1 hnm4 h2 h3
        go_enter Tryz.func18, Tryz.ntmps18
        go_wp2_with (first
          | (go_at_call 42; ((with_reducible refine HC1.out.mono ?_); rintro e w1 ⟨rfl, hb1⟩; have hc0 := (hb1.cell (p := ⟨w.heap.size, 0, none⟩) dlt).trans d0; have hc1 := (hb1.cell (p := ⟨w.heap.size, 1, none⟩) dlt).trans d1; have hc2 := (hb1.cell (p := ⟨w.heap.size, 2, none⟩) dlt).trans d2))
          | (go_at_call 43; ((with_reducible refine (HC2 _ hb1).out.mono ?_); rintro e w2 ⟨rfl, rfl⟩))
          | (go_at_call 44; ((with_reducible refine (HC3 _ hb1).out.mono ?_); rintro e w3 ⟨rfl, hb3⟩; have hb13 := below_step hb1 hb3; have hc0 := (hb13.cell (p := ⟨w.heap.size, 0, none⟩) dlt).trans d0; have hc1 := (hb13.cell (p := ⟨w.heap.size, 1, none⟩) dlt).trans d1; have hc2 := (hb13.cell (p := ⟨w.heap.size, 2, none⟩) dlt).trans d2))
          | (go_at_call 45; ((with_reducible refine (HC4 _ hb13).out.mono ?_); rintro e w4 ⟨rfl, hb4⟩)))
        go_ret
        exact ⟨rfl, below_step hb0 (below_step hb13 hb4)⟩

end Go.Proofs.YtdacjnmfmhkpiaaGreatDoor

/- Plain mathematics: the list of the components. -/
namespace Go.Proofs.YtdacjnmfmhkpiaaGreatDoor

/-- The members below c of the component l. -/
def memb (F : Nat → Nat) (c l : Nat) : List Int := ((List.range c).filter (fun b => F b == l)).map (fun (b : Nat) => (b : Int))
/-- The least members below c. -/
def roots (F : Nat → Nat) (c : Nat) : List Nat := (List.range c).filter (fun l => F l == l)
def graphL (F : Nat → Nat) (c : Nat) : List (List Int) := (roots F c).map (memb F c)

theorem memb_succ (F : Nat → Nat) (c l : Nat) : memb F (c + 1) l = memb F c l ++ if F c == l then [(c : Int)] else [] := by
  unfold memb
  rw [List.range_succ, List.filter_append, List.map_append]
  cases h : F c == l <;> simp [h]
theorem roots_succ (F : Nat → Nat) (c : Nat) : roots F (c + 1) = roots F c ++ if F c == c then [c] else [] := by
  unfold roots
  rw [List.range_succ, List.filter_append]
  cases h : F c == c <;> simp [h]
theorem roots_lt {F : Nat → Nat} {c l : Nat} (h : l ∈ roots F c) : l < c ∧ F l = l := by
  unfold roots at h
  have := List.mem_filter.1 h
  exact ⟨List.mem_range.1 this.1, by simpa using this.2⟩
theorem memb_none {F : Nat → Nat} {c l : Nat} (hF : ∀ b, F b ≤ b) (hl : c ≤ l) : memb F c l = [] := by
  unfold memb
  have : (List.range c).filter (fun b => F b == l) = [] := List.filter_eq_nil_iff.2 fun b hb => by
    have := hF b
    have := List.mem_range.1 hb
    simp; omega
  rw [this]; rfl
/-- The place of the root l. -/
def plc (F : Nat → Nat) (l : Nat) : Nat := (roots F l).length
theorem graphL_new {F : Nat → Nat} {c : Nat} (hF : ∀ b, F b ≤ b) (h : F c = c) : graphL F (c + 1) = graphL F c ++ [[(c : Int)]] := by
  have hm : (roots F c).map (memb F (c + 1)) = (roots F c).map (memb F c) := List.map_congr_left fun l hl => by
    have := roots_lt hl
    rw [memb_succ, h]
    have hne : (c == l) = false := by simp; omega
    simp [hne]
  have hn : memb F (c + 1) c = [(c : Int)] := by rw [memb_succ, h, memb_none hF (Nat.le_refl _)]; simp
  unfold graphL
  rw [roots_succ, h]
  simp only [beq_self_eq_true, if_true, List.map_append, List.map_cons, List.map_nil]
  rw [hm, hn]
theorem roots_split {F : Nat → Nat} {c l : Nat} (hl : l < c) (h : F l = l) : ∃ r, roots F c = roots F l ++ l :: r ∧ ∀ x ∈ r, x ≠ l := by
  induction c with
  | zero => omega
  | succ c ih =>
    by_cases e : l = c
    · subst e
      exact ⟨[], by rw [roots_succ, h]; simp, fun x hx => by cases hx⟩
    · obtain ⟨r, h1, h2⟩ := ih (by omega)
      rw [roots_succ, h1]
      refine ⟨r ++ if F c == c then [c] else [], by simp, fun x hx => ?_⟩
      rcases List.mem_append.1 hx with h3 | h3
      · exact h2 x h3
      · split at h3
        · simp at h3; omega
        · cases h3
theorem graphL_old {F : Nat → Nat} {c : Nat} (hlt : F c < c) (hid : F (F c) = F c) :
    plc F (F c) < (graphL F c).length ∧ (graphL F c).getD (plc F (F c)) [] = memb F c (F c) ∧ graphL F (c + 1) = (graphL F c).set (plc F (F c)) (memb F c (F c) ++ [(c : Int)]) := by
  obtain ⟨r, h1, h2⟩ := roots_split hlt hid
  have hp : plc F (F c) = ((roots F (F c)).map (memb F c)).length := by simp [plc]
  have hg : graphL F c = (roots F (F c)).map (memb F c) ++ memb F c (F c) :: r.map (memb F c) := by unfold graphL; rw [h1]; simp
  refine ⟨by rw [hg, hp]; simp, by rw [hg, hp]; simp [List.getD], ?_⟩
  rw [hg, hp, List.set_append_right _ _ (Nat.le_refl _)]
  simp only [Nat.sub_self, List.set_cons_zero]
  have hne : (F c == c) = false := by simp; omega
  unfold graphL
  rw [roots_succ, hne, h1]
  simp only [Bool.false_eq_true, if_false, List.append_nil, List.map_append, List.map_cons]
  have e1 : ∀ x, x ≠ F c → memb F (c + 1) x = memb F c x := fun x hx => by
    rw [memb_succ]
    have : (F c == x) = false := by simp; exact fun e => hx e.symm
    simp [this]
  have e2 : (roots F (F c)).map (memb F (c + 1)) = (roots F (F c)).map (memb F c) := List.map_congr_left fun x hx => e1 x (by have := roots_lt hx; omega)
  have e3 : r.map (memb F (c + 1)) = r.map (memb F c) := List.map_congr_left fun x hx => e1 x (h2 x hx)
  have e4 : memb F (c + 1) (F c) = memb F c (F c) ++ [(c : Int)] := by rw [memb_succ]; simp
  rw [e2, e3, e4]
theorem graphL_length (F : Nat → Nat) (c : Nat) : (graphL F c).length = (roots F c).length := by simp [graphL]
theorem roots_length (F : Nat → Nat) (c : Nat) : (roots F c).length ≤ c := by
  unfold roots; exact Nat.le_trans (List.length_filter_le _ _) (by simp)
theorem memb_length (F : Nat → Nat) (c l : Nat) : (memb F c l).length ≤ c := by
  unfold memb; rw [List.length_map]; exact Nat.le_trans (List.length_filter_le _ _) (by simp)

end Go.Proofs.YtdacjnmfmhkpiaaGreatDoor
