import Derived.Test.YtebliaclleplgaaDoorB09
/- Walk: the law PlanarFormats. -/
namespace Go.Proofs.YtebliaclleplgaaDoor
open Go.ChangeShapes Go.WideShapes Go.ChangeAt Go.RowKit Go.Joins

set_option maxHeartbeats 6400000 in
set_option maxRecDepth 100000 in
theorem pformats_walk (A B : Option Addr) (ns cs nm cm : Nat) (lp : Int) (s m : List Int) (w : World) (hs : RI w A ns s) (hm : RI w B nm m) (hmI : ∀ z ∈ m, inI z) (hP : PW w) :
    Calls Tryd.prog 3 #[dval A ns cs B nm cm lp] w fun e w' => e = .returned (.bool true) ∧ Below w.heap.size w w' := by
  have hb0 := below_alloc w (dbox A ns cs B nm cm lp)
  have HD := Lib.hid (DB.new w A ns cs B nm cm lp)
  have CA := Lib.hid (pawake_any (w.alloc (dbox A ns cs B nm cm lp)) (PW.keep hP hb0))
  cases hv : validB s m lp with
  | false =>
    have CE : ∀ W, Below w.heap.size w W → Hid (Calls Tryd.prog 10 #[dval A ns cs B nm cm lp] W fun e w' => e = .returned (.tuple #[.string ⟨#[]⟩, .int .i64 1]) ∧ Below W.heap.size W w') := fun W hb => format_no A B ns cs nm cm lp s m W (hs.keep hb) (hm.keep hb) hmI hv
    have CR : ∀ W, Below w.heap.size w W → Hid (Calls Tryd.prog 11 #[dval A ns cs B nm cm lp] W fun e w' => e = .returned (.bool false) ∧ Below W.heap.size W w') := fun W hb => rvalid_all cs cm (hs.keep hb) (hm.keep hb) hmI false hv
    clear hs hm hmI hv hP
    go_enter Tryd.func3, Tryd.ntmps3
    go_wp2_with (first
      | (go_at_call 9; ((with_reducible refine CA.out.mono ?_); rintro e w1 ⟨rfl, hb1'⟩; have hb1 := below_step hb0 hb1'; have HD1 := Lib.hid (HD.out.keep hb1'); obtain ⟨a0, a1, a2, alt⟩ := HD1.out))
      | (go_at_call 10; ((with_reducible refine (CE _ hb1).out.mono ?_); rintro e w2 ⟨rfl, hb2'⟩; have hb2 := below_step hb1 hb2'; have HD2 := Lib.hid (HD1.out.keep hb2'); obtain ⟨b0, b1, b2, blt⟩ := HD2.out))
      | (go_at_call 11; ((with_reducible refine (CR _ hb2).out.mono ?_); rintro e w3 ⟨rfl, hb3⟩)))
    go_ret
    exact ⟨rfl, below_step hb2 hb3⟩
  | true =>
    have hdv := dv_valid hs hm hmI hv
    have CE : ∀ W, Below w.heap.size w W → Hid (Calls Tryd.prog 10 #[dval A ns cs B nm cm lp] W fun e w' => e = .returned (.tuple #[.string ⟨(pnT s (lbM s m lp) lp).toArray⟩, .int .i64 0]) ∧ Below W.heap.size W w') := fun W hb => by
      refine (format_yes A B ns cs nm cm lp s m W (hdv.keep hb) hv (PW.keep hP hb)).mono ?_
      rintro e w' ⟨b, rfl, h1, h2⟩
      exact ⟨by rw [← h1], h2⟩
    have CB : ∀ W, Below w.heap.size w W → Hid (Calls Tryd.prog 12 #[dval A ns cs B nm cm lp] W fun e w' => e = .returned (.string ⟨(pnT s (lbM s m lp) lp).toArray⟩) ∧ Below W.heap.size W w') := fun W hb => by
      refine (rtext_any A B ns cs nm cm lp s m W (hdv.keep hb) hv).mono ?_
      rintro e w' ⟨b, rfl, h1, h2⟩
      exact ⟨by rw [← h1], h2⟩
    have CR : ∀ W, Below w.heap.size w W → Hid (Calls Tryd.prog 11 #[dval A ns cs B nm cm lp] W fun e w' => e = .returned (.bool true) ∧ Below W.heap.size W w') := fun W hb => rvalid_all cs cm (hs.keep hb) (hm.keep hb) hmI true hv
    obtain ⟨str, hstr⟩ : ∃ str : ByteArray, ⟨(pnT s (lbM s m lp) lp).toArray⟩ = str := ⟨_, rfl⟩
    simp only [hstr] at CE CB
    have hself : (str.data.toList == str.data.toList) = true := beq_self_eq_true _
    have hself2 : (str.toList == str.toList) = true := beq_self_eq_true _
    clear hs hm hmI hv hP hdv hstr
    go_enter Tryd.func3, Tryd.ntmps3
    go_wp2_with (first
      | (go_at_call 9; ((with_reducible refine CA.out.mono ?_); rintro e w1 ⟨rfl, hb1'⟩; have hb1 := below_step hb0 hb1'; have HD1 := Lib.hid (HD.out.keep hb1'); obtain ⟨a0, a1, a2, alt⟩ := HD1.out))
      | (go_at_call 10; ((with_reducible refine (CE _ hb1).out.mono ?_); rintro e w2 ⟨rfl, hb2'⟩; have hb2 := below_step hb1 hb2'; have HD2 := Lib.hid (HD1.out.keep hb2'); obtain ⟨b0, b1, b2, blt⟩ := HD2.out))
      | (go_at_call 11; ((with_reducible refine (CR _ hb2).out.mono ?_); rintro e w3 ⟨rfl, hb3'⟩; have hb3 := below_step hb2 hb3'; obtain ⟨c0, c1, c2, clt⟩ := HD2.out.keep hb3'))
      | (go_at_call 12; ((with_reducible refine (CB _ hb3).out.mono ?_); rintro e w4 ⟨rfl, hb4⟩)))
    go_ret
    exact ⟨rfl, below_step hb3 hb4⟩

end Go.Proofs.YtebliaclleplgaaDoor
