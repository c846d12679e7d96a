import Derived.Test.YtdacjnmfmhkpiaaGreatDoorD14
import Derived.Test.YtdacjnmfmhkpiaaGreatDoorD05
import Derived.Test.YtdacjnmfmhkpiaaGreatDoorD09
import Derived.Test.YtdacjnmfmhkpiaaGreatDoorD15
import Derived.Maps.OwnOps
import Derived.Lib.Fields
import Derived.Test.YtdacjnmfmhkpiaaGreatDoorD10
import Derived.Test.YtdacjnmfmhkpiaaGreatDoorD06
/- Walk: readVisits of a word of a code's text. -/
namespace Go.Proofs.YtdacjnmfmhkpiaaGreatDoor
open Go.ChangeShapes Go.WideShapes Go.ChangeAt Go.RowKit Go.Maps

theorem lawInt : Keyed Tryz.prog 3 := int_keyed Tryz.underlying3
/-- The crossings in the order of their first visits. -/
def dsK (F : List Vis) : List Int := F.foldl (fun K v => if v.1 ∈ K then K else K ++ [v.1]) []
theorem dsK_snoc (F : List Vis) (v : Vis) : dsK (F ++ [v]) = if v.1 ∈ dsK F then dsK F else dsK F ++ [v.1] := by unfold dsK; rw [List.foldl_append]; rfl
/-- The map reads as the signs of the visits F. -/
def DS (s : List Int) (D : DataW Unit) (F : List Vis) : Prop := (∀ x : Int, D.atKey (.int .i64 x) (.lit (.int .i64 0)) = .lit (.int .i64 (if x ∈ dsK F then s.getD x.toNat 0 else 0))) ∧ (∀ x : Int, has D (.int .i64 x) = decide (x ∈ dsK F)) ∧ Maps.size D = (dsK F).length
theorem DS.empty (s : List Int) : DS s (.map []) [] := ⟨fun x => by simp [DataW.atKey, dsK], fun x => by simp [has, dsK], rfl⟩
theorem DS.put {s : List Int} {D : DataW Unit} {F : List Vis} (h : DS s D F) (hT : Tidy D) (v : Vis) : DS s (D.put (.int .i64 v.1) (.lit (.int .i64 (s.getD v.1.toNat 0)))) (F ++ [v]) := by
  have hk : WideAt.IsKeyLit (.int .i64 v.1) := trivial
  have hm : ∀ x : Int, x ∈ dsK (F ++ [v]) ↔ x ∈ dsK F ∨ x = v.1 := fun x => by
    rw [dsK_snoc]
    split
    · constructor
      · exact .inl
      · rintro (h | rfl) <;> assumption
    · simp
  refine ⟨fun x => ?_, fun x => ?_, ?_⟩
  · by_cases e : x = v.1
    · subst e
      rw [atKey_put_same hT.isMap hk, if_pos ((hm _).2 (.inr rfl))]
    · rw [atKey_put_other (fun e' => e (by injection e')), h.1 x]
      have : (x ∈ dsK (F ++ [v])) ↔ x ∈ dsK F := by rw [hm]; simp [e]
      simp only [this]
  · by_cases e : x = v.1
    · subst e
      rw [has_put_same hT.isMap hk, decide_eq_true ((hm _).2 (.inr rfl))]
    · rw [has_put_other (fun e' => e (by injection e')), h.2.1 x]
      have : (x ∈ dsK (F ++ [v])) ↔ x ∈ dsK F := by rw [hm]; simp [e]
      simp only [this]
  · rw [size_put hT, h.2.1 v.1, h.2.2, dsK_snoc]
    by_cases e : v.1 ∈ dsK F <;> simp [e]

theorem one_cellsV (W : World) (x y : Value) (t : TypeId) : ∀ j u, [x, y][j]? = some u → (W.alloc (.cells #[x, y] t)).cell? ((⟨W.heap.size, 0, none⟩ : Addr).add j) = some u := fun j u h => by
  have h0 : ∀ i, (W.alloc (.cells #[x, y] t)).cell? ⟨W.heap.size, i, none⟩ = #[x, y][i]? := fun i => by rw [World.cell?_alloc_at _ _ _ _ rfl]
  rw [add_plain, Nat.zero_add, h0]
  match j, h with
  | 0, h => exact h
  | 1, h => exact h
theorem drop_cons (l : List Vis) (q : Nat) (h : q < l.length) : l.drop q = l.getD q v0 :: l.drop (q + 1) := by
  rw [List.drop_eq_getElem_cons h]
  have e : l.getD q v0 = l[q] := by simp [List.getD, h]
  rw [e]
theorem getD_mem (l : List Vis) (q : Nat) (h : q < l.length) : l.getD q v0 ∈ l := by
  have e : l.getD q v0 = l[q] := by simp [List.getD, h]
  rw [e]; exact List.getElem_mem h
theorem signOf_any (x : UInt8) (hx : x = 43 ∨ x = 45) (c : Int) (hc : c = (x.toNat : Int)) (w : World) :
    Calls Tryz.prog 103 #[.int .u8 c] w fun e w' => e = .returned (.int .i64 (if x = 43 then 1 else -1)) ∧ w = w' := by
  subst hc
  rcases hx with rfl | rfl
  · go_enter Tryz.func103, Tryz.ntmps103
    go_wp2
    go_ret
    exact ⟨rfl, rfl⟩
  · go_enter Tryz.func103, Tryz.ntmps103
    go_wp2
    go_ret
    exact ⟨rfl, rfl⟩
def wdSize : Value → Nat
  | .string b => b.size
  | _ => 0
def RdPost (s : List Int) (gM n0 : Nat) (F0 l : List Vis) (w : World) (e : Ending) (w' : World) : Prop :=
  ∃ A c, e = .returned (.tuple #[.slice A l.length c, .bool true]) ∧ VEl w' w.heap.size 51 A l.length l ∧ w.grownBy w' (some gM) ∧ ∃ D, w'.ownsMap Tryz.prog 3 (plainElem Tryz.prog 3) gM (n0 + l.length) D ∧ DS s D (F0 ++ l)

set_option maxHeartbeats 3200000 in
set_option maxRecDepth 100000 in
theorem readVisits_any (gM n0 : Nat) (D0 : DataW Unit) (F0 l : List Vis) (s : List Int) (w : World) (hown : w.ownsMap Tryz.prog 3 (plainElem Tryz.prog 3) gM n0 D0) (hD : DS s D0 F0) (hn0 : n0 + l.length ≤ 100000)
    (hl : ∀ v ∈ l, 0 ≤ v.1 ∧ v.1 < 64) (hsg : ∀ v ∈ l, s.getD v.1.toNat 0 = 1 ∨ s.getD v.1.toNat 0 = -1) :
    Calls Tryz.prog 85 #[.string ⟨(lTxt s l).toArray⟩, .map (some gM)] w (RdPost s gM n0 F0 l w) := by
  have hgM := hown.lt
  have HL := Lib.hid hl
  have HSG := Lib.hid hsg
  have hD0 : DS s D0 (F0 ++ l.take 0) := by simpa using hD
  have hv0 : w.ownsRow w.heap.size 51 2 (.slice none 0 0) 0 (vcells (l.take 0)) := World.ownsRow_nil w _ _ _
  have hwd0 : (ByteArray.mk (lTxt s l).toArray) = ⟨(lTxt s (l.drop 0)).toArray⟩ := rfl
  obtain ⟨wd0, hwd⟩ : ∃ wd0 : ByteArray, wd0 = ⟨(lTxt s l).toArray⟩ := ⟨_, rfl⟩
  rw [← hwd] at hwd0 ⊢
  clear hwd hl hsg hD
  obtain ⟨i0, hi, hz0, hz1, hz2⟩ := info_parts Tryz.infoVis
  go_enter Tryz.func85, Tryz.ntmps85
  go_wp2
  go_loopw [0, 6, 7, 8, 9] (fun wdv v _ _ _ wr => ∃ (q : Nat) (wd : ByteArray), q ≤ l.length ∧ wdv = .string wd ∧ wd = ⟨(lTxt s (l.drop q)).toArray⟩ ∧ w.grownBy wr (some gM) ∧ wr.ownsRow w.heap.size 51 2 v q (vcells (l.take q)) ∧ ∃ D, wr.ownsMap Tryz.prog 3 (plainElem Tryz.prog 3) gM (n0 + q) D ∧ DS s D (F0 ++ l.take q)) (fun wdv _ _ _ _ _ => wdSize wdv)
  case atStart => exact ⟨0, wd0, by omega, rfl, hwd0, World.grownBy.refl _ _, hv0, D0, hown, hD0⟩
  case round =>
    obtain ⟨q, wd, hq, rfl, hwdq, hgr, hrow, D, hmap, hDS⟩ := hrel
    by_cases hql : q < l.length
    · have hmem := getD_mem l q hql
      have hdr := drop_cons l q hql
      have htk := take_succ_getD l v0 q hql
      obtain ⟨v, hv⟩ : ∃ v, l.getD q v0 = v := ⟨_, rfl⟩
      rw [hv] at hmem hdr htk
      obtain ⟨iu0, iu1⟩ := HL.out v hmem
      have hs1 := HSG.out v hmem
      obtain ⟨vc, vo⟩ := v
      simp only at iu0 iu1 hs1
      obtain ⟨cu, rfl⟩ := Int.eq_ofNat_of_zero_le iu0
      have hcu : cu < 64 := by omega
      rw [show ((cu : Int)).toNat = cu by omega] at hs1
      obtain ⟨R, hR⟩ : ∃ R, lTxt s (l.drop (q + 1)) = R := ⟨_, rfl⟩
      obtain ⟨x, hx⟩ : ∃ x : UInt8, (if vo then 79 else 85) = x := ⟨_, rfl⟩
      obtain ⟨sg, hsg⟩ : ∃ sg : UInt8, (if s.getD cu 0 = 1 then 43 else 45) = sg := ⟨_, rfl⟩
      have hx2 : x = 79 ∨ x = 85 := by rw [← hx]; cases vo <;> simp
      have hsg2 : sg = 43 ∨ sg = 45 := by rw [← hsg]; split <;> simp
      have hW : lTxt s (l.drop q) = x :: (Lib.decDigits (cu + 1) ++ sg :: R) := by
        rw [hdr, lTxt_cons, hR]
        unfold vTxt
        simp only
        rw [show ((cu : Int)).toNat = cu by omega, hx, hsg]
        simp
      have hlen : (lTxt s (l.drop q)).length ≤ 400000 := by
        have h1 := lTxt_len s (l.drop q) fun u hu => by have := HL.out u (List.mem_of_mem_drop hu); omega
        rw [List.length_drop] at h1
        omega
      have hasc : ∀ b ∈ lTxt s (l.drop q), b.toNat < 128 := fun b hb => lTxt_ascii s _ (fun u hu => by have := HL.out u (List.mem_of_mem_drop hu); omega) hb
      rw [hW] at hlen hasc hwdq
      obtain ⟨d, hd⟩ : ∃ d, Lib.decDigits (cu + 1) = d := ⟨_, rfl⟩
      have hdi := index_vis (c := cu) (by omega) x sg hx2 hsg2 R
      have hda := atoi_dec (i := cu + 1) (by omega)
      have hdl := dec_small (cu + 1) (by omega)
      rw [hd] at hlen hasc hwdq hdi hda hdl
      obtain ⟨E, hE⟩ : ∃ E, E = 1 + d.length := ⟨_, rfl⟩
      have hwB : wd = wdB x d sg R := hwdq
      have hsz : wd.size = 1 + d.length + 1 + R.length := by rw [hwB]; exact wdB_size _ _ _ _
      have hpos : 0 < wd.size := by omega
      have hElt : E < wd.size := by omega
      have hw0 : (wd[0]'hpos).toNat = x.toNat := by subst hwB; rw [wdB_zero]
      have hwE : (wd[E]'hElt).toNat = sg.toNat := by subst hwB; rw [wdB_sign _ _ _ _ _ hE]
      have hex : wd.extract 1 E = ⟨d.toArray⟩ := by rw [hwB]; exact wdB_digits _ _ _ _ _ hE
      have hrs : wd.extract (E + 1) wd.size = ⟨R.toArray⟩ := by rw [hwB]; exact wdB_rest _ _ _ _ _ hE
      have hne := bytes_ne hpos
      have hxv : ((x.toNat : Int) == 79) = vo := by rw [← hx]; cases vo <;> rfl
      have hsv : (if sg = 43 then (1 : Int) else -1) = s.getD cu 0 := by
        rw [← hsg]
        rcases hs1 with h | h <;> rw [h] <;> simp
      have hds : wd.data.toList = x :: (d ++ sg :: R) := by rw [hwdq]
      have hwsz : wd.size < 4294967281 := by simp only [List.length_cons, List.length_append] at hlen; omega
      have CI : ∀ W, Hid (Calls Tryz.prog 101 #[.string wd, .string ⟨#[43, 45]⟩] W fun e w' => e = .returned (.int .i64 (E : Nat)) ∧ Below W.heap.size W w') := fun W => by
        have h := Tryz.strings_IndexAny_laid wd ⟨#[43, 45]⟩ W hwsz (by decide) (fun j b hb => hasc b (by rw [hds] at hb; exact List.mem_of_getElem? hb)) (fun j b hb => by
          have hb2 := List.mem_of_getElem? hb
          simp at hb2
          rcases hb2 with rfl | rfl <;> decide)
        rw [hds] at h
        have h2 : Lib.indexAny (x :: (d ++ sg :: R)) (ByteArray.mk #[43, 45]).data.toList = (E : Nat) := by rw [hE]; push_cast; exact hdi
        rw [h2] at h
        exact h
      have CA : ∀ W, Hid (Calls Tryz.prog 102 #[.string (wd.extract 1 E)] W fun e w' => e = .returned (.tuple #[.int .i64 ((cu : Int) + 1), .nilIface]) ∧ Below W.heap.size W w') := fun W => by
        rw [hex]
        have h := Tryz.strconv_Atoi ⟨d.toArray⟩ ((cu : Int) + 1) (by simp [ByteArray.size]; omega) (by simpa using hda) W
        refine h.mono ?_
        rintro e w' ⟨h1, t, rfl⟩
        exact ⟨h1, Lib.bytesWorld_below W _ t⟩
      have CS : ∀ W, Hid (Calls Tryz.prog 103 #[.int .u8 (sg.toNat : Nat)] W fun e w' => e = .returned (.int .i64 (s.getD cu 0)) ∧ W = w') := fun W => by
        have := signOf_any sg hsg2 _ rfl W
        rw [hsv] at this
        exact this
      have hE3 : (1 : Int) ≤ (E : Int) := by omega
      have hEn : ¬ (E : Int) < 1 := by omega
      have hE4 : (E : Int) < (wd.size : Int) := by omega
      have hE6 : (E : Int) ≤ 3 := by omega
      have hwC : wdSize (.string ⟨R.toArray⟩) < wdSize (.string wd) := by
        have hRs : (ByteArray.mk R.toArray).size = R.length := by simp [ByteArray.size]
        show (ByteArray.mk R.toArray).size < wd.size
        omega
      have hvc : vcells (l.take (q + 1)) = vcells (l.take q) ++ [.int .i64 (cu : Nat), .bool vo] := by rw [htk, vcells_snoc]
      have hft : F0 ++ l.take (q + 1) = (F0 ++ l.take q) ++ [((cu : Int), vo)] := by rw [htk, List.append_assoc]
      have HVC := Lib.hid hvc
      have HFT := Lib.hid hft
      have HROW := Lib.hid hrow
      have HMAP := Lib.hid hmap
      have HDS := Lib.hid hDS
      have HRS := Lib.hid hrs
      have HR := Lib.hid hR
      have HWC := Lib.hid hwC
      have hwf : (Lit.int .i64 (cu : Int)).wf = true := WalkArith.wf_i64 (by omega)
      have hwfs : (Lit.int .i64 (s.getD cu 0)).wf = true := WalkArith.wf_i64 (by rcases hs1 with h | h <;> rw [h] <;> omega)
      have hcu0 : (0 : Int) ≤ (cu : Int) := Int.natCast_nonneg _
      have hcu1 : (cu : Int) < 64 := by omega
      have hsr := hgr.size
      have HSZ := Lib.hid hsz
      obtain ⟨sv, hsve⟩ : ∃ sv, s.getD cu 0 = sv := ⟨_, rfl⟩
      rw [hsve] at hwfs CS
      have HSV := Lib.hid hsve
      clear hsve
      have hql2 : q ≤ 100000 := by omega
      have HQL := Lib.hid hql
      clear hrow hmap hDS hW hasc hdi hda hwdq hwB hds hex hvc hft hdr htk hmem hv hR hrs hwC hsz hlen hd hx hsg hE hsv hs1 hwsz hdl iu0 iu1 hx2 hsg2 hql hq hwd0 hD0 hv0
      go_wp2_with (first
        | (go_at_call 101; ((with_reducible refine (CI _).out.mono ?_); rintro e w1 ⟨rfl, hb1⟩))
        | (go_at_call 102; ((with_reducible refine (CA _).out.mono ?_); rintro e w2 ⟨rfl, hb2⟩; have hb12 := below_step hb1 hb2))
        | (go_at_call 103; ((with_reducible refine (CS _).out.mono ?_); rintro e w4 ⟨rfl, rfl⟩))
        | (at_builtin
           refine wpList_append_own _ rfl (.tmp 25) (.tmp 32) 49 rfl w.heap.size 51 i0 (.agg #[.int .i64 0, .bool false]) 2 16 Tryz.underlying49 hi hz0 hz1 hz2 rfl (by decide) _ q (vcells (l.take q)) rfl ((World.ownsRow.kept HROW.out (grown_of_below hb12) (by cases u6.ownBlock <;> simp)).alloc _) ⟨w2.heap.size, 0, none⟩ 1 1 [.int .i64 (cu : Nat), .bool vo] rfl rfl (one_cellsV w2 _ _ _) ?c2 ?c3 ?c4 ?c5 ?_
           case c2 => (intro u hu; simp at hu; rcases hu with rfl | rfl <;> rfl)
           case c3 => (unfold maxLen; omega)
           case c4 => omega
           case c5 => (have := hb12.size; simp; omega)
           intro v3 w3 hrow3 hg3 _
           have hno : ∀ j, u6.ownBlock = some j → w.heap.size ≤ j := fun j hj => (World.ownsRow.lt HROW.out j hj).1
           have hmap3 := World.ownsMap.kept (World.ownsMap.alloc (World.ownsMap.kept HMAP.out (grown_of_below hb12) (by simp)) (.cells #[.int .i64 (cu : Nat), .bool vo] 51)) hg3 (fun e => by have := hno _ e.symm; omega)
           have hgr3 := ((hgr.andThen (grown_of_below hb12) (fun j hj => by cases hj)).andThen (World.grownBy_alloc w2 (.cells #[.int .i64 (cu : Nat), .bool vo] 51) none) (fun j hj => by cases hj)).andThen hg3 (fun j hj => .inl (hno j hj)))
        | (at_mapUpdate; refine wpList_mapUpdate_own _ rfl _ _ _ 118 rfl 3 3 lawInt Tryz.underlying118 _ gM (n0 + q) _ rfl hmap3 (by unfold maxLen; omega) _ _ _ rfl rfl (keyOf_int_mk Tryz.underlying3 hwf) _ [] (plainElem_int Tryz.underlying3 hwfs) ?_; intro w5 hmap5 hg5))
      have hown5 : w5.ownsRow w.heap.size 51 2 v3 (q + 1) (vcells (l.take (q + 1))) := by
        rw [HVC.out]
        refine World.ownsRow.kept hrow3 hg5 ?_
        cases hv3 : v3.ownBlock with
        | none => exact .inl rfl
        | some j =>
          refine .inr fun e => ?_
          have e1 := Option.some.inj e
          have := (World.ownsRow.lt hrow3 j hv3).1
          omega
      have hgr5 := hgr3.andThen hg5 (fun j hj => .inr hj)
      have hDS5 : DS s (D.put (.int .i64 (cu : Int)) (.lit (.int .i64 sv))) (F0 ++ l.take (q + 1)) := by
        have h5 := HDS.out.put (HMAP.out.tidy lawInt) ((cu : Int), vo)
        simp only at h5
        rw [Int.toNat_natCast, HSV.out] at h5
        rw [HFT.out]
        exact h5
      refine ⟨⟨q + 1, _, by have := HQL.out; omega, rfl, by rw [HRS.out, HR.out], hgr5, hown5, _, hmap5, hDS5⟩, ?_⟩
      rw [HRS.out]
      exact HWC.out
    · obtain rfl : q = l.length := by omega
      have hwe : wd = ⟨#[]⟩ := by rw [hwdq, List.drop_length]; rfl
      have hne : wd.toList.isEmpty = true := by
        rw [hwe]
        unfold ByteArray.toList ByteArray.toList.loop
        rw [if_neg (by decide)]
        rfl
      rw [List.take_length] at hrow hDS
      obtain ⟨A, c, rfl, hvel⟩ := vel_of_own (B := w.heap.size) hrow (Nat.le_refl _)
      have HP := Lib.hid (show RdPost s gM n0 F0 l w (.returned (.tuple #[.slice A l.length c, .bool true])) wr from ⟨A, c, rfl, hvel, hgr, D, hmap, hDS⟩)
      clear hrow hDS hvel hmap hwe hwdq hql hq hD0 hwd0 hv0 hgr
      go_wp2
      go_ret2
      exact HP.out

end Go.Proofs.YtdacjnmfmhkpiaaGreatDoor

/- Reading a code's text: its words, its crossings; plain. -/
namespace Go.Proofs.YtdacjnmfmhkpiaaGreatDoor
open Go.RowKit

theorem fieldsGo_word (w : List UInt8) (h : ∀ b ∈ w, Lib.isSp b = false) (cur rest : List UInt8) : Lib.fieldsGo cur (w ++ rest) = Lib.fieldsGo (cur ++ w) rest := by
  induction w generalizing cur with
  | nil => simp
  | cons b w ih =>
    rw [List.cons_append, Lib.fieldsGo_more _ _ _ (h b (by simp)), ih (fun x hx => h x (by simp [hx])), List.append_assoc]; rfl
theorem fieldsGo_tail (r : List (List UInt8)) (h : ∀ x ∈ r, x ≠ [] ∧ ∀ b ∈ x, Lib.isSp b = false) (cur : List UInt8) (hc : cur ≠ []) : Lib.fieldsGo cur (Lib.joinTail [32] r) = cur :: r := by
  induction r generalizing cur with
  | nil =>
    have : Lib.joinTail [32] [] = [] := rfl
    rw [this]
    unfold Lib.fieldsGo
    cases cur with
    | nil => exact absurd rfl hc
    | cons a t => rfl
  | cons x r ih =>
    obtain ⟨h1, h2⟩ := h x (by simp)
    have e : Lib.joinTail [32] (x :: r) = 32 :: (x ++ Lib.joinTail [32] r) := rfl
    rw [e, Lib.fieldsGo_end _ _ _ (by decide) hc, fieldsGo_word x h2, List.nil_append, ih (fun y hy => h y (by simp [hy])) x h1]
/-- The words of a text of words. -/
theorem fields_join (ws : List (List UInt8)) (h : ∀ x ∈ ws, x ≠ [] ∧ ∀ b ∈ x, Lib.isSp b = false) : Lib.fields (Lib.join ws [32]) = ws := by
  cases ws with
  | nil => rw [Lib.join_nil]; rfl
  | cons x r =>
    obtain ⟨h1, h2⟩ := h x (by simp)
    rw [Lib.join_cons]
    unfold Lib.fields
    rw [fieldsGo_word x h2, List.nil_append, fieldsGo_tail r (fun y hy => h y (by simp [hy])) x h1]
theorem digit_plain {b : UInt8} (h : 48 ≤ b.toNat ∧ b.toNat ≤ 57) : Lib.isSp b = false := by
  unfold Lib.isSp
  have hb : ∀ k : UInt8, k.toNat < 48 → (b == k) = false := fun k hk => by
    simp only [beq_eq_false_iff_ne, ne_eq]
    intro e; subst e; omega
  rw [hb 9 (by decide), hb 10 (by decide), hb 11 (by decide), hb 12 (by decide), hb 13 (by decide), hb 32 (by decide)]
  rfl
theorem vTxt_nosp (s : List Int) (v : Vis) (h : v.1.toNat + 1 < 100) {b : UInt8} (hb : b ∈ vTxt s v) : Lib.isSp b = false := by
  unfold vTxt at hb
  rcases List.mem_cons.1 hb with e | hb
  · subst e; split <;> decide
  · rcases List.mem_append.1 hb with hb | hb
    · exact digit_plain (dec_byte h hb)
    · simp at hb; subst hb; split <;> decide
theorem lTxt_nosp (s : List Int) (l : List Vis) (h : ∀ v ∈ l, v.1.toNat + 1 < 100) {b : UInt8} (hb : b ∈ lTxt s l) : Lib.isSp b = false := by
  obtain ⟨v, hv, hb⟩ := List.mem_flatMap.1 hb
  exact vTxt_nosp s v (h v hv) hb
theorem lTxt_first (s : List Int) (l : List Vis) (h : l ≠ []) : ∃ x r, lTxt s l = x :: r ∧ (x = 79 ∨ x = 85) := by
  cases l with
  | nil => exact absurd rfl h
  | cons v l =>
    refine ⟨if v.2 then 79 else 85, _, rfl, ?_⟩
    cases v.2 <;> simp
structure GvF (vss : List (List Vis)) (s : List Int) (lp : Int) : Prop where
  le : s.length ≤ 64
  lp0 : 0 ≤ lp
  lp1 : lp ≤ 64
  sg : sgnsB s = true
  vb : visB vss s.length = true
  ne : ∀ l ∈ vss, l ≠ []
  rng : ∀ v ∈ vss.flatten, 0 ≤ v.1 ∧ v.1 < s.length
  nd : vss.flatten.Nodup
  len : vss.flatten.length = 2 * s.length
theorem gv_facts {vss : List (List Vis)} {s : List Int} {lp : Int} (hv : gvalB vss s lp = true) : GvF vss s lp := by
  unfold gvalB at hv
  simp only [Bool.and_eq_true] at hv
  obtain ⟨⟨h1, h2⟩, h3⟩ := hv
  have h64 := glimB_out h1
  obtain ⟨q1, q3, q2⟩ := (visB_iff _ _).1 h3
  exact ⟨h64.1, h64.2.1, h64.2.2, h2, h3, q1, q3.2, q3.1, q2⟩
theorem mem_flat {vss : List (List Vis)} {l : List Vis} {v : Vis} (hl : l ∈ vss) (hv : v ∈ l) : v ∈ vss.flatten := List.mem_flatten.2 ⟨l, hl, hv⟩
theorem GvF.small {vss : List (List Vis)} {s : List Int} {lp : Int} (G : GvF vss s lp) {l : List Vis} (hl : l ∈ vss) {v : Vis} (hv : v ∈ l) : v.1.toNat + 1 < 100 := by
  have := G.rng v (mem_flat hl hv)
  have := G.le
  omega
theorem words_plain {vss : List (List Vis)} {s : List Int} {lp : Int} (G : GvF vss s lp) (m : Nat) : ∀ x ∈ gWords vss s m, x ≠ [] ∧ ∀ b ∈ x, Lib.isSp b = false := by
  intro x hx
  unfold gWords at hx
  rcases List.mem_append.1 hx with hx | hx
  · obtain ⟨l, hl, rfl⟩ := List.mem_map.1 hx
    refine ⟨?_, fun b hb => lTxt_nosp s l (fun v hv => G.small hl hv) hb⟩
    obtain ⟨y, r, e, _⟩ := lTxt_first s l (G.ne l hl)
    rw [e]; simp
  · rw [List.eq_of_mem_replicate hx]
    refine ⟨by simp, fun b hb => ?_⟩
    simp at hb; subst hb; decide
/-- The words of a code's text. -/
theorem gTxt_fields {vss : List (List Vis)} {s : List Int} {lp : Int} (hv : gvalB vss s lp = true) : Lib.fields (gTxt vss s lp) = gWords vss s lp.toNat := by
  unfold gTxt
  exact fields_join _ (words_plain (gv_facts hv) _)
theorem join_mem {ws : List (List UInt8)} {b : UInt8} (h : b ∈ Lib.join ws [32]) : b = 32 ∨ ∃ x ∈ ws, b ∈ x := by
  cases ws with
  | nil => rw [Lib.join_nil] at h; cases h
  | cons x r =>
    rw [Lib.join_cons] at h
    rcases List.mem_append.1 h with h | h
    · exact .inr ⟨x, by simp, h⟩
    · unfold Lib.joinTail at h
      obtain ⟨l, hl, hb⟩ := List.mem_flatten.1 h
      obtain ⟨y, hy, rfl⟩ := List.mem_map.1 hl
      rcases List.mem_append.1 hb with hb | hb
      · simp at hb; exact .inl hb
      · exact .inr ⟨y, by simp [hy], hb⟩
theorem gTxt_ascii {vss : List (List Vis)} {s : List Int} {lp : Int} (hv : gvalB vss s lp = true) {b : UInt8} (hb : b ∈ gTxt vss s lp) : b.toNat < 128 := by
  have G := gv_facts hv
  unfold gTxt at hb
  rcases join_mem hb with e | ⟨x, hx, hb⟩
  · subst e; decide
  · unfold gWords at hx
    rcases List.mem_append.1 hx with hx | hx
    · obtain ⟨l, hl, rfl⟩ := List.mem_map.1 hx
      exact lTxt_ascii s l (fun v hv => G.small hl hv) hb
    · rw [List.eq_of_mem_replicate hx] at hb
      simp at hb; subst hb; decide

theorem mem_dsK (F : List Vis) (x : Int) : x ∈ dsK F ↔ ∃ v ∈ F, v.1 = x := by
  have key : ∀ F G : List Vis, (∀ x, x ∈ dsK G ↔ ∃ v ∈ G, v.1 = x) → ∀ x, x ∈ dsK (G ++ F) ↔ ∃ v ∈ G ++ F, v.1 = x := by
    intro F
    induction F with
    | nil => intro G h x; simpa using h x
    | cons v F ih =>
      intro G h x
      have e : G ++ v :: F = (G ++ [v]) ++ F := by simp
      rw [e]
      refine ih (G ++ [v]) (fun y => ?_) x
      rw [dsK_snoc]
      by_cases hm : v.1 ∈ dsK G
      · rw [if_pos hm, h y]
        constructor
        · rintro ⟨u, hu, q⟩; exact ⟨u, by simp [hu], q⟩
        · rintro ⟨u, hu, q⟩
          rcases List.mem_append.1 hu with hu | hu
          · exact ⟨u, hu, q⟩
          · simp at hu; subst hu; subst q; exact (h _).1 hm
      · rw [if_neg hm, List.mem_append, h y]
        constructor
        · rintro (⟨u, hu, q⟩ | hy)
          · exact ⟨u, by simp [hu], q⟩
          · simp at hy; exact ⟨v, by simp, hy.symm⟩
        · rintro ⟨u, hu, q⟩
          rcases List.mem_append.1 hu with hu | hu
          · exact .inl ⟨u, hu, q⟩
          · simp at hu; subst hu; exact .inr (by simp [q])
  have := key F [] (fun x => by simp [dsK]) x
  simpa using this
theorem dsK_nodup (F : List Vis) : (dsK F).Nodup := by
  have key : ∀ F G : List Vis, (dsK G).Nodup → (dsK (G ++ F)).Nodup := by
    intro F
    induction F with
    | nil => intro G h; simpa using h
    | cons v F ih =>
      intro G h
      have e : G ++ v :: F = (G ++ [v]) ++ F := by simp
      rw [e]
      refine ih (G ++ [v]) ?_
      rw [dsK_snoc]
      by_cases hm : v.1 ∈ dsK G
      · rw [if_pos hm]; exact h
      · rw [if_neg hm]
        refine List.nodup_append.2 ⟨h, by simp, fun a ha b hb e => ?_⟩
        simp at hb; subst hb; subst e; exact hm ha
  have := key F [] (by simp [dsK])
  simpa using this
theorem outN_div (s : List Int) (c : Nat) (o : Bool) : outN s c o / 4 = c := by unfold outN; split <;> (try split) <;> omega
theorem inN_div (s : List Int) (c : Nat) (o : Bool) : inN s c o / 4 = c := by unfold inN; split <;> (try split) <;> omega
/-- Each crossing is visited. -/
theorem code_has {vss : List (List Vis)} {n : Nat} (hv : visB vss n = true) (c : Nat) (hc : c < n) : ∃ v ∈ vss.flatten, v.1 = (c : Int) := by
  obtain ⟨_, _, h3⟩ := all_keys [] hv
  have hr := ((visB_iff _ _).1 hv).2.1.2
  obtain ⟨p, hp, e⟩ := mem_keys (h3 (4 * c) (by omega))
  rcases e with e | e
  · have h1 : p.1 ∈ (vss.flatMap (pairsRow [])).map Prod.fst := List.mem_map_of_mem hp
    rw [all_fst] at h1
    obtain ⟨v, hv, e2⟩ := List.mem_map.1 h1
    have h2 := outN_div [] v.1.toNat v.2
    have h4 := hr v hv
    unfold outV at e2
    rw [e2] at h2
    exact ⟨v, hv, by omega⟩
  · have h1 : p.2 ∈ (vss.flatMap (pairsRow [])).map Prod.snd := List.mem_map_of_mem hp
    obtain ⟨v, hv, e2⟩ := List.mem_map.1 ((all_snd [] vss).mem_iff.1 h1)
    have h2 := inN_div [] v.1.toNat v.2
    have h4 := hr v hv
    unfold inV at e2
    rw [e2] at h2
    exact ⟨v, hv, by omega⟩
theorem dsK_code {vss : List (List Vis)} {n : Nat} (hv : visB vss n = true) : (dsK vss.flatten).length = n ∧ ∀ c : Nat, c < n → (c : Int) ∈ dsK vss.flatten := by
  have hr := ((visB_iff _ _).1 hv).2.1.2
  have hin : ∀ c : Nat, c < n → (c : Int) ∈ dsK vss.flatten := fun c hc => (mem_dsK _ _).2 (code_has hv c hc)
  refine ⟨?_, hin⟩
  have hp : (dsK vss.flatten).Perm ((List.range n).map fun (i : Nat) => (i : Int)) := (List.perm_ext_iff_of_nodup (dsK_nodup _) (by
    refine List.pairwise_map.2 (List.Pairwise.imp (fun {a b} hab e => hab ?_) List.nodup_range)
    omega)).2 fun x => by
    constructor
    · intro hx
      obtain ⟨v, hv, e⟩ := (mem_dsK _ _).1 hx
      have := hr v hv
      exact List.mem_map.2 ⟨x.toNat, List.mem_range.2 (by omega), by omega⟩
    · intro hx
      obtain ⟨c, hc, rfl⟩ := List.mem_map.1 hx
      exact hin c (by simpa using hc)
  have := hp.length_eq
  simpa using this

end Go.Proofs.YtdacjnmfmhkpiaaGreatDoor

/- Walk: the law's plain. -/
namespace Go.Proofs.YtdacjnmfmhkpiaaGreatDoor
open Go.ChangeShapes Go.WideShapes Go.ChangeAt Go.RowKit

theorem Tryz.infoVisR : (Tryz.prog.info? 73).map (fun i => (i.zero, i.size, i.bytes)) = some (some (.agg #[.int .i64 0, .bool false]), 2, 16) := by kernel_rfl
theorem Tryz.infoVisRL : (Tryz.prog.info? 72).map (fun i => (i.zero, i.size, i.bytes)) = some (some (.slice none 0 0), 1, 24) := by kernel_rfl
def PlainPost (vss : List (List Vis)) (S : Option Addr) (nc ns cs : Nat) (lp : Int) (w : World) (e : Ending) (w' : World) : Prop :=
  ∃ A c, e = .returned (dval A nc c S ns cs lp) ∧ RVV w' A nc vss ∧ Below w.heap.size w w'
theorem two_cells (W : World) (o : Obj) (x y : Value) (t : TypeId) : ∀ j u, [x, y][j]? = some u → ((W.alloc o).alloc (.cells #[x, y] t)).cell? ((⟨W.heap.size + 1, 0, none⟩ : Addr).add j) = some u := fun j u h => by
  have h0 : ∀ i, ((W.alloc o).alloc (.cells #[x, y] t)).cell? ⟨W.heap.size + 1, i, none⟩ = #[x, y][i]? := fun i => by rw [World.cell?_alloc_at _ _ _ _ (by simp)]
  rw [add_plain, Nat.zero_add, h0]
  match j, h with
  | 0, h => exact h
  | 1, h => exact h
theorem plain_round {wr w5 : World} {Ak A5 S Av : Option Addr} {k ck c5 ns sc gB nv cv : Nat} {lp : Int} {vals : List Value} {vss : List (List Vis)} {l : List Vis} {o : Obj}
    (hfr : ∀ i, wr.frozen? ⟨gB, i, none⟩ = false) (hdb : DB wr gB Ak k ck S ns sc lp) (hrow : VR wr (gB + 1) 72 73 (.slice Ak k ck) vals (vss.take k)) (hk : k < vss.length) (hl : vss.getD k [] = l)
    (hv : VEl wr (gB + 1) 73 Av nv l)
    (hrow5 : ownRow w5 (gB + 1) 72 (.slice A5 (k + 1) c5) (vals ++ [.slice Av nv cv])) (hg5 : (wr.alloc o).grownBy w5 (Value.slice Ak k ck).ownBlock) :
    (∀ i, (w5.setCell ⟨gB, 0, none⟩ (.slice A5 (k + 1) c5)).frozen? ⟨gB, i, none⟩ = false) ∧
    ∃ Ak ck vals, DB (w5.setCell ⟨gB, 0, none⟩ (.slice A5 (k + 1) c5)) gB Ak (k + 1) ck S ns sc lp ∧ VR (w5.setCell ⟨gB, 0, none⟩ (.slice A5 (k + 1) c5)) (gB + 1) 72 73 (.slice Ak (k + 1) ck) vals (vss.take (k + 1)) := by
  obtain ⟨y0, y1, y2, ylt⟩ := hdb
  have hb4 := Below.refl wr.heap.size wr
  have h45 := hgrown5 hb4 hg5
  have hlt5 : gB < w5.heap.size := Nat.lt_of_lt_of_le ylt h45.size
  refine ⟨fun i => ?_, A5, c5, vals ++ [.slice Av nv cv], ⟨?_, ?_, ?_, by simp [World.setCell]; exact hlt5⟩, ?_⟩
  · simp [hfroz5 hb4 hg5 ylt (hfr i) hrow.1 (Nat.lt_succ_self _) (by omega)]
  · exact World.cell?_setCell_same _ _ _ (hcell5i hb4 hg5 y0 hrow.1 (Nat.lt_succ_self _))
  · rw [World.cell?_setCell_other _ _ _ _ (by simp)]; exact hcell5i hb4 hg5 y1 hrow.1 (Nat.lt_succ_self _)
  · rw [World.cell?_setCell_other _ _ _ _ (by simp)]; exact hcell5i hb4 hg5 y2 hrow.1 (Nat.lt_succ_self _)
  · rw [take_succ_getD vss [] k hk, hl]
    exact (hrow.snoc hv hrow5 hg5 (by decide)).set (Nat.lt_succ_self _) _
theorem VR.set3 {w : World} {B g1 : Nat} {tr te : TypeId} {v : Value} {vals : List Value} {vss : List (List Vis)} (h : VR w B tr te v vals vss) (hg : g1 < B) (a b c : Value) : VR (set3 w g1 a b c) B tr te v vals vss :=
  ((h.set (p := ⟨g1, 0, none⟩) hg a).set (p := ⟨g1, 1, none⟩) hg b).set (p := ⟨g1, 2, none⟩) hg c

set_option maxHeartbeats 3200000 in
set_option maxRecDepth 100000 in
theorem plain_any (C S : Option Addr) (nc cc ns cs : Nat) (lp : Int) (vss : List (List Vis)) (w : World) (hC : RVV w C nc vss) (hnc : nc ≤ 1000000) (hll : ∀ j, (vss.getD j []).length ≤ 1000000) :
    Calls Tryz.prog 16 #[dval C nc cc S ns cs lp] w (PlainPost vss S nc ns cs lp w) := by
  have hd := (DB.newT w C nc cc S ns cs lp 28).keep (below_alloc _ (.cells #[.slice none 0 0, .slice none 0 0, .int .i64 0] 36))
  have hb0 := below_step (below_alloc w (.cells #[.slice C nc cc, .slice S ns cs, .int .i64 lp] 28)) (below_alloc _ (.cells #[.slice none 0 0, .slice none 0 0, .int .i64 0] 36))
  have hr := DB.newT (w.alloc (.cells #[.slice C nc cc, .slice S ns cs, .int .i64 lp] 28)) none 0 0 none 0 0 0 36
  have hrf : ∀ i, ((w.alloc (.cells #[.slice C nc cc, .slice S ns cs, .int .i64 lp] 28)).alloc (.cells #[.slice none 0 0, .slice none 0 0, .int .i64 0] 36)).frozen? ⟨w.heap.size + 1, i, none⟩ = false := fun i => World.frozen?_alloc_at _ _ _ _ (by simp)
  have hsz : ((w.alloc (.cells #[.slice C nc cc, .slice S ns cs, .int .i64 lp] 28)).alloc (.cells #[.slice none 0 0, .slice none 0 0, .int .i64 0] 36)).heap.size = w.heap.size + 2 := by simp
  have hsz1 : (w.alloc (.cells #[.slice C nc cc, .slice S ns cs, .int .i64 lp] 28)).heap.size = w.heap.size + 1 := by simp
  rw [hsz1] at hr
  have HC := Lib.hid hC
  have HCL := Lib.hid hC.1
  have HLL := Lib.hid hll
  clear hC hll
  go_enter Tryz.func16, Tryz.ntmps16
  go_upto_region 1 with fail
  generalize (w.alloc (.cells #[.slice C nc cc, .slice S ns cs, .int .i64 lp] 28)).alloc (.cells #[.slice none 0 0, .slice none 0 0, .int .i64 0] 36) = wA at hd hb0 hr hrf hsz ⊢
  obtain ⟨g1, hg1⟩ : ∃ g1, w.heap.size + 1 = g1 := ⟨_, rfl⟩
  rw [hg1] at hr hrf ⊢
  have hlt1 : w.heap.size < g1 := by omega
  obtain ⟨gB, hgB⟩ : ∃ gB, wA.heap.size = gB := ⟨_, rfl⟩
  have hg1B : g1 < gB := by omega
  clear hg1 hsz hsz1
  obtain ⟨r0, r1, r2, rlt⟩ := hr
  obtain ⟨d0, d1, d2, dlt⟩ := hd
  have hn := DB.newT wA none 0 0 S ns cs lp 36
  have hnf : ∀ i, (wA.alloc (.cells #[.slice none 0 0, .slice S ns cs, .int .i64 lp] 36)).frozen? ⟨wA.heap.size, i, none⟩ = false := fun i => World.frozen?_alloc_at _ _ _ _ rfl
  have hbn := below_alloc wA (.cells #[.slice none 0 0, .slice S ns cs, .int .i64 lp] 36)
  have c0 := (hbn.cell (p := ⟨w.heap.size, 0, none⟩) dlt).trans d0
  have HG := Lib.hid hgB
  rw [hgB] at hn hnf hbn
  have HRF := Lib.hid hrf
  clear hrf hgB
  go_upto_region 2 with fail
  rw [HG.out]
  generalize wA.alloc (.cells #[.slice none 0 0, .slice S ns cs, .int .i64 lp] 36) = wB at *
  have hv0 : VR wB (gB + 1) 72 73 (.slice none 0 0) [] (vss.take 0) := ⟨World.ownsRow_nil wB _ _ _, rfl, fun i hi => absurd hi (by simp)⟩
  have HN := Lib.hid hn
  have HNF := Lib.hid hnf
  clear hn hnf
  go_wp2
  go_loopw [5, 6, 8, 17] (fun _ _ _ i wr => ∃ k : Nat, k ≤ nc ∧ i = .int .i64 k ∧ Below gB wA wr ∧ (∀ i, wr.frozen? ⟨gB, i, none⟩ = false) ∧ ∃ Ak ck vals, DB wr gB Ak k ck S ns cs lp ∧ VR wr (gB + 1) 72 73 (.slice Ak k ck) vals (vss.take k)) (fun _ _ _ i _ => nc - (intOf i).toNat)
  case atStart => exact ⟨0, by omega, rfl, hbn, HNF.out, none, 0, [], HN.out, hv0⟩
  case round =>
    obtain ⟨k, hk, rfl, hbr, hfr, Ak, ck, vals, hdb, hrow⟩ := hrel
    have hk0 : (0 : Int) ≤ (k : Int) := Int.natCast_nonneg _
    have hbr' : Below wA.heap.size wA wr := by rw [HG.out]; exact hbr
    by_cases hlt : k < nc
    · obtain ⟨bC, oC, hCe, hbC, hcc⟩ := HC.out.2 (by omega)
      subst hCe
      obtain ⟨A1, n1, c1, hcel0, hrv⟩ := hcc k hlt
      have hcel := ((below_step hb0 hbr').cell (p := ⟨bC, oC + k, none⟩) hbC).trans hcel0
      have hk1 : (k : Int) < (nc : Int) := by omega
      have hkl : k < vss.length := by rw [HCL.out]; exact hlt
      have hl1 := HLL.out k
      obtain ⟨l, hl⟩ : ∃ l, vss.getD k [] = l := ⟨_, rfl⟩
      rw [hl] at hrv hl1
      have hln := hrv.1
      rw [hln] at hl1
      have HRV := Lib.hid (hrv.keep (below_step hb0 hbr'))
      have HLN := Lib.hid hln
      have HFR := Lib.hid hfr
      have HDB := Lib.hid hdb
      have HROW := Lib.hid hrow
      have HL := Lib.hid hl
      have hwB : gB < wr.heap.size := hdb.2.2.2
      obtain ⟨Bi, hBi⟩ : ∃ Bi, wr.heap.size = Bi := ⟨_, rfl⟩
      have hBr : Below Bi wr wr := Below.refl _ _
      obtain ⟨wC, hwC⟩ : ∃ wC : World, wC = wr := ⟨_, rfl⟩
      subst hwC
      have hv1 : wC.ownsRow Bi 73 2 (.slice none 0 0) 0 (vcells (l.take 0)) := World.ownsRow_nil wC _ _ _
      obtain ⟨i0, hi, hz0, hz1, hz2⟩ := info_parts Tryz.infoVisR
      have HBI := Lib.hid hBi
      clear hcc hrv hcel0 hln hfr hdb hrow hl hBi
      go_wp2
      go_loopw [6, 8, 23] (fun v _ i wr => ∃ q : Nat, q ≤ n1 ∧ i = .int .i64 q ∧ Below Bi wC wr ∧ wr.ownsRow Bi 73 2 v q (vcells (l.take q))) (fun _ _ i _ => n1 - (intOf i).toNat)
      case atStart => exact ⟨0, by omega, rfl, hBr, hv1⟩
      case round =>
        obtain ⟨q, hq, rfl, hbq, hown⟩ := hrel
        have hq0 : (0 : Int) ≤ (q : Int) := Int.natCast_nonneg _
        have hbq' : Below wC.heap.size wC wr := by rw [HBI.out]; exact hbq
        by_cases hql : q < n1
        · obtain ⟨b1, o1, hAe, hb1, hcv⟩ := (HRV.out.keep hbq').2 (by omega)
          subst hAe
          obtain ⟨z0, z1⟩ := hcv q hql
          have hq1 : (q : Int) < (n1 : Int) := by omega
          have htk := take_succ_getD l v0 q (by rw [HLN.out]; exact hql)
          have hvc : vcells (l.take (q + 1)) = vcells (l.take q) ++ [.int .i64 (l.getD q v0).1, .bool (l.getD q v0).2] := by rw [htk, vcells_snoc]
          obtain ⟨v, hv⟩ : ∃ v, l.getD q v0 = v := ⟨_, rfl⟩
          rw [hv] at z0 z1 hvc
          obtain ⟨vc, vo⟩ := v
          simp only at z0 z1
          have HVC := Lib.hid hvc
          have HOWN := Lib.hid hown
          have hsq : Bi ≤ wr.heap.size := by have := hbq'.size; have := HBI.out; omega
          clear hcv hv htk hvc hown
          go_wp2_with (
                         at_builtin
                         refine wpList_append_own _ rfl (.tmp 27) (.tmp 29) 72 rfl Bi 73 i0 (.agg #[.int .i64 0, .bool false]) 2 16 Tryz.underlying72 hi hz0 hz1 hz2 rfl (by decide) _ _ (vcells (l.take q)) rfl ((HOWN.out.alloc (.cells #[.int .i64 vc, .bool vo] 51)).alloc (.cells #[.int .i64 vc, .bool vo] 73)) _ 1 1 [.int .i64 vc, .bool vo] rfl rfl (two_cells _ _ _ _ _) ?c2 ?c3 ?c4 ?c5 ?_
                         case c2 => (intro u hu; simp at hu; rcases hu with rfl | rfl <;> rfl)
                         case c3 => (unfold maxLen; omega)
                         case c4 => omega
                         case c5 => (simp; omega)
                         intro v3 w3 hown3 hg3 _
                         have hb4 : Below Bi wC w3 := ((hbq.alloc hsq _).alloc (by simp; omega) _).grown hg3 (by simp; omega) (fun k hk => (World.ownsRow.lt HOWN.out k hk).1))
          have HO3 : Hid (w3.ownsRow Bi 73 2 v3 (q + 1) (vcells (l.take (q + 1)))) := by rw [HVC.out]; exact hown3
          clear hown3 hg3
          go_roundw
          case rel => exact ⟨q + 1, by omega, by go_num, hb4, HO3.out⟩
          case measure => simp [intOf]; omega
        · obtain rfl : q = n1 := by omega
          have htl : l.take q = l := by rw [← HLN.out, List.take_length]
          have hown' : wr.ownsRow Bi 73 2 u6 l.length (vcells l) := by rw [HLN.out]; rw [htl] at hown; exact hown
          have hBiB : gB + 1 ≤ Bi := by have := HBI.out; omega
          obtain ⟨Av, cv, rfl, hvel⟩ := vel_of_own (B := gB + 1) hown' hBiB
          rw [HLN.out] at hvel ⊢
          have hdb' := HDB.out.keep hbq'
          have hrow' := HROW.out.keep hbq'
          have hfr' : ∀ i, wr.frozen? ⟨gB, i, none⟩ = false := fun i => (hbq'.frozen (p := ⟨gB, i, none⟩) hwB).trans (HFR.out i)
          have hvl : vals.length = k := by rw [hrow'.2.1, List.length_take]; omega
          have y0 := hdb'.1
          have hwr : Below gB wA wr := hbr.trans (hbq.mono (by omega))
          have hsr : Bi ≤ wr.heap.size := by have := hbq'.size; have := HBI.out; omega
          have HVL := Lib.hid hvl
          have HROW' := Lib.hid hrow'
          have HDB' := Lib.hid hdb'
          have HFR' := Lib.hid hfr'
          have HVEL := Lib.hid hvel
          clear hown hown' htl hdb' hrow' hfr' hvl hvel hql hq
          go_wp2_with (
            at_builtin
            refine wpList_append_row1 rfl (.tmp 33) (.tmp 35) 34 72 (.slice none 0 0) 24 rfl Tryz.underlying34 Tryz.infoVisRL rfl (by omega) (gB + 1) _ vals rfl (World.ownsRow.alloc HROW'.out.1 _) wr.heap.size (.slice Av q cv) rfl (by rw [World.cell?_alloc_at _ _ _ _ rfl]; rfl) rfl (by rw [HVL.out]; omega) (by simp; omega) ?_
            rw [HVL.out]
            intro A5 c5 w5 hrow5 hg5
            have q5 : w5.cell? ⟨gB, 0, none⟩ = some (.slice Ak k ck) := hcell5i (Below.refl _ _) hg5 HDB'.out.1 HROW'.out.1 (Nat.lt_succ_self _)
            have f5 : w5.frozen? ⟨gB, 0, none⟩ = false := hfroz5 (Below.refl _ _) hg5 HDB'.out.2.2.2 (HFR'.out 0) HROW'.out.1 (Nat.lt_succ_self _) (by have := HDB'.out.2.2.2; omega))
          have HPR := Lib.hid (plain_round HFR'.out HDB'.out HROW'.out hkl HL.out HVEL.out hrow5 hg5)
          have hb5 : Below gB wA (w5.setCell ⟨gB, 0, none⟩ (.slice A5 (k + 1) c5)) := below_set ((hwr.alloc (by omega) _).grown hg5 (by simp; omega) (fun j hj => by have := (World.ownsRow.lt HROW'.out.1 j hj).1; omega)) (Nat.le_refl _) _
          clear hrow5 hg5 q5 f5
          go_roundw
          case rel => exact ⟨k + 1, by omega, by go_num, hb5, HPR.out.1, HPR.out.2⟩
          case measure => simp [intOf]; omega
    · obtain rfl : k = nc := by omega
      have htk : vss.take k = vss := by rw [← HCL.out, List.take_length]
      rw [htk] at hrow
      obtain ⟨y0, y1, y2, ylt⟩ := hdb
      have q0 := (hbr'.cell (p := ⟨g1, 0, none⟩) rlt).trans r0
      have q1 := (hbr'.cell (p := ⟨g1, 1, none⟩) rlt).trans r1
      have q2 := (hbr'.cell (p := ⟨g1, 2, none⟩) rlt).trans r2
      have f0 := (hbr'.frozen (p := ⟨g1, 0, none⟩) rlt).trans (HRF.out 0)
      have f1 := (hbr'.frozen (p := ⟨g1, 1, none⟩) rlt).trans (HRF.out 1)
      have f2 := (hbr'.frozen (p := ⟨g1, 2, none⟩) rlt).trans (HRF.out 2)
      obtain ⟨k0, k1, k2⟩ := set3_cells wr g1 (.slice Ak k ck) (.slice S ns cs) (.int .i64 lp) q0 q1 q2
      have hR := (hrow.set3 (g1 := g1) (by omega) (.slice Ak k ck) (.slice S ns cs) (.int .i64 lp)).rvv
      have hbF := set3_below (below_step hb0 hbr') (Nat.le_of_lt hlt1) (.slice Ak k ck) (.slice S ns cs) (.int .i64 lp)
      have HF := Lib.hid (show PlainPost vss S k ns cs lp w (.returned (dval Ak k ck S ns cs lp)) (set3 wr g1 (.slice Ak k ck) (.slice S ns cs) (.int .i64 lp)) from ⟨Ak, ck, rfl, hR, hbF⟩)
      clear hR hbF hrow hfr htk hlt hk
      go_wp2
      exact bodyPost_ret (v := dval Ak k ck S ns cs lp) (by simp [results, Tryz.results16, go_sem, k0, k1, k2]) rfl HF.out

end Go.Proofs.YtdacjnmfmhkpiaaGreatDoor
