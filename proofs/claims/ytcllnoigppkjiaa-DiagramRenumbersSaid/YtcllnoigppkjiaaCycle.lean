/- Walk: cycle. -/
import Derived.Test.YtcllnoigppkjiaaOwn
import Derived.Test.YtcllnoigppkjiaaSph
namespace Go.Proofs.Ytcllnoigppkjiaa
open Go.RowKit

/-- The successor function 'func fid' (which captured the block gd) leads from x to f x, in every world after w. -/
def Next (w : World) (fid : FuncId) (gd : Nat) (f : Nat → Nat) (N : Nat) : Prop := ∀ (W : World) (x : Nat), Below w.heap.size w W → x < N →
  Calls Try.prog fid #[.int .i64 (x : Nat), .pointer (some ⟨gd, 0, none⟩)] W fun e W' => e = .returned (.int .i64 (f x : Nat)) ∧ Below W.heap.size W W'
theorem Next.keep {w w' : World} {fid : FuncId} {gd : Nat} {f : Nat → Nat} {N : Nat} (h : Next w fid gd f N) (hb : Below w.heap.size w w') : Next w' fid gd f N :=
  fun W x hW hx => h W x (below_step hb hW) hx

/-- A call of 'func fid' enters that function. -/
def Enters (fid : FuncId) : Prop := ∀ (args : Array Value) (W : World), (callFunc fid args).run Try.prog W = .ok (.enter fid args) W
theorem enters52 : Enters 52 := fun _ _ => rfl
theorem enters56 : Enters 56 := fun _ _ => rfl
theorem enters59 : Enters 59 := fun _ _ => rfl
theorem enters54 : Enters 54 := fun _ _ => rfl
theorem enters58 : Enters 58 := fun _ _ => rfl

def itl (f : Nat → Nat) (h k : Nat) : List Int := (List.range k).map fun i => (it f i h : Int)
theorem itl_succ (f : Nat → Nat) (h k : Nat) : itl f h (k + 1) = itl f h k ++ [(it f k h : Int)] := by simp [itl, List.range_succ]
theorem itl_length (f : Nat → Nat) (h k : Nat) : (itl f h k).length = k := by simp [itl]
theorem itl_getD (f : Nat → Nat) (h k j : Nat) (hj : j < k) : (itl f h k).getD j 0 = (it f j h : Int) := by simp [itl, List.getD, hj]

def CycPost (w : World) (xs : List Int) (e : Ending) (w' : World) : Prop := ∃ v, e = .returned v ∧ OI w' w.heap.size v xs ∧ Below w.heap.size w w'

set_option maxHeartbeats 1600000 in
set_option maxRecDepth 100000 in
theorem cycle_any (fid : FuncId) (gd h N : Nat) (f : Nat → Nat) (w : World) (hcall : Enters fid) (hn : Next w fid gd f N) (hp : Perm f N) (hh : h < N) (hN : N ≤ 256) :
    Calls Try.prog 51 #[.int .i64 (h : Nat), .func (.func fid) #[] #[.pointer (some ⟨gd, 0, none⟩)]] w (CycPost w (itl f h (per f N h))) := by
  have h1 := OI.one w w.heap.size h (Nat.le_refl _)
  have hb1 := below_alloc w (.cells #[.int .i64 (h : Int)] 3)
  have hcf : ∀ (args : Array Value) (W : World), (callFunc fid args).run Try.prog W = .ok (.enter fid args) W := hcall
  clear hcall
  have C0 := Lib.hid (hn _ h hb1 hh)
  have HN := Lib.hid hn
  have HP := Lib.hid hp
  clear hn hp
  go_enter Try.func51, Try.ntmps51
  go_wp2_with ((with_reducible refine C0.out.mono ?_); rintro e w1 ⟨rfl, hbn⟩)
  go_loopg [5, 6] (per f N h - 1) (fun n v g wr => ∃ i : Nat, 0 < i ∧ n + i = per f N h ∧ g = .int .i64 (it f i h : Nat) ∧ Below w.heap.size w wr ∧ OI wr w.heap.size v (itl f h i))
  case atStart => exact ⟨1, by omega, by have := per_pos f N h; omega, rfl, below_step hb1 hbn, h1.keep hbn⟩
  case round =>
    obtain ⟨i, hi0, hi, rfl, hbr, hown⟩ := hrel
    have hgl := HP.out.it_lt hh i
    by_cases hil : i < per f N h
    · have hne : ((it f i h : Int) != (h : Int)) = true := by
        have := (HP.out.per_spec hh).2.2 i hi0 hil
        simp only [bne_iff_ne, ne_eq]; omega
      have HI := Lib.hid hi
      have hlen := itl_length f h i
      have hsucc := itl_succ f h i
      have hil' : (itl f h i).length ≤ 1000000000 := by have := (HP.out.per_spec hh).2.1; omega
      have hit : it f (i + 1) h = f (it f i h) := rfl
      have HIT := Lib.hid hit
      have HSU := Lib.hid hsucc
      clear hi hlen hsucc hit
      generalize itl f h i = xs at *
      generalize it f i h = x at *
      go_wp2_with (first
        | (at_builtin
           refine wpList_append_int rfl (.tmp 18) (.tmp 20) rfl w.heap.size _ xs rfl (hown.alloc _) wr.heap.size (x : Int) rfl (by rw [World.cell?_alloc_at _ _ _ _ rfl]; rfl) hil' (Nat.le_trans hbr.size (by simp)) ?_
           intro v2 w2 hown2 hg2
           have hb2 : Below w.heap.size w w2 := (below_step hbr (below_alloc wr _)).grown hg2 (Nat.le_trans hbr.size (by simp)) (fun k hk => (World.ownsRow.lt hown k hk).1)
           have C1 := Lib.hid (HN.out w2 x hb2 hgl))
        | ((with_reducible refine C1.out.mono ?_); rintro e w3 ⟨rfl, hb3⟩))
      go_roundg (gk - 1)
      case measure => have := HI.out; omega
      case rel => exact ⟨i + 1, by omega, by have := HI.out; omega, by rw [HIT.out], below_step hb2 hb3, by rw [HSU.out]; exact hown2.keep hb3⟩
    · have hip : i = per f N h := by omega
      have hret : it f i h = h := by rw [hip]; exact (HP.out.per_spec hh).1
      rw [hret]
      rw [hip] at hown
      clear hret hip hil hi
      go_wp2
      go_ret
      exact ⟨_, rfl, hown, hbr⟩

end Go.Proofs.Ytcllnoigppkjiaa
