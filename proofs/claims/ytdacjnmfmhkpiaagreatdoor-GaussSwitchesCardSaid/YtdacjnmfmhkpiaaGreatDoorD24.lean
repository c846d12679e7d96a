import Derived.Test.YtdacjnmfmhkpiaaGreatDoorD23
import Derived.Test.YtdacjnmfmhkpiaaGreatDoorD12
import Derived.Test.YtdacjnmfmhkpiaaGreatDoorD22
/- Walks: the reference's Graph and Components; Components, Face. -/
namespace Go.Proofs.YtdacjnmfmhkpiaaGreatDoor
open Go.RowKit

theorem memb_congr {F G : Nat → Nat} {n c : Nat} (h : ∀ b, b < n → F b = G b) (hc : c ≤ n) (l : Nat) : memb F c l = memb G c l := by
  induction c with
  | zero => rfl
  | succ c ih => rw [memb_succ, memb_succ, ih (by omega), h c (by omega)]
theorem roots_congr {F G : Nat → Nat} {n c : Nat} (h : ∀ b, b < n → F b = G b) (hc : c ≤ n) : roots F c = roots G c := by
  induction c with
  | zero => rfl
  | succ c ih => rw [roots_succ, roots_succ, ih (by omega), h c (by omega)]
theorem graphL_congr {F G : Nat → Nat} {n : Nat} (h : ∀ b, b < n → F b = G b) : graphL F n = graphL G n := by
  unfold graphL
  rw [roots_congr h (Nat.le_refl _)]
  exact List.map_congr_left fun l _ => memb_congr h (Nat.le_refl _) l

def rootsL (F : Nat → Nat) (n c : Nat) : List (List Int) := (roots F c).map (memb F n)
theorem rootsL_succ (F : Nat → Nat) (n c : Nat) : rootsL F n (c + 1) = rootsL F n c ++ if F c = c then [memb F n c] else [] := by
  unfold rootsL; rw [roots_succ, List.map_append]
  by_cases h : F c = c <;> simp [h]

set_option maxHeartbeats 3200000 in
set_option maxRecDepth 100000 in
theorem rgraph_any (B : Option Addr) (nm cm n : Nat) (mate : List Int) (m : Nat → Nat) (w : World) (hm : RI w B nm mate) (hmm : Mates mate nm m) (hn : nm = 4 * n) (hN : nm ≤ 256) :
    Calls Tryz.prog 53 #[.slice B nm cm] w (CycsPost w (graphL (ufLab m nm) n)) := by
  have CL := Lib.hid (label_any B nm cm n mate m w hm hmm hn hN)
  have FL : ∀ c, c < n → labAt m nm n c = ufLab m nm c := fun c hc => labAt_eq (m := m) (F := ufLab m nm) hn (fun h hh => (hmm h hh).2) (ufLab_isLab m nm n) c hc
  rw [← graphL_congr FL]
  have hn64 : n ≤ 64 := by omega
  have hlenI : ((List.range n).map fun i => (labAt m nm n i : Int)).length = n := by simp
  have hgetI : ∀ c, c < n → ((List.range n).map fun i => (labAt m nm n i : Int)).getD c 0 = (labAt m nm n c : Int) := fun c hc => by simp [List.getD, hc]
  have HG := Lib.hid hgetI
  have HLI := Lib.hid hlenI
  clear hgetI hlenI hm hmm hn FL
  generalize labAt m nm n = F at *
  have HF := Lib.hid (show graphL F n = rootsL F n n from rfl)
  rw [HF.out]
  go_enter Tryz.func53, Tryz.ntmps53
  go_wp2_with (go_at_call 38; ((with_reducible refine CL.out.mono ?_); rintro e w1 ⟨vl, rfl, hol, hb1⟩))
  obtain ⟨Al, cl, hvl⟩ : ∃ Al cl, vl = .slice Al n cl := by
    rcases hol.form with ⟨e, he⟩ | ⟨g, cap, e, _⟩
    · refine ⟨none, 0, ?_⟩
      have h0 : n = 0 := by have := HLI.out; rw [he] at this; simpa using this.symm
      rw [e, h0]
    · exact ⟨_, cap, by rw [e, HLI.out]⟩
  subst hvl
  go_loopw [4, 5, 6, 7] (fun v i _ _ wr => ∃ c : Nat, c ≤ n ∧ i = .int .i64 c ∧ Below w1.heap.size w1 wr ∧ OO wr w1.heap.size v (rootsL F n c)) (fun _ i _ _ _ => n - (intOf i).toNat)
  case atStart => exact ⟨0, by omega, rfl, Below.refl _ _, OO.nil _ _⟩
  case round =>
    obtain ⟨c, hc, rfl, hbr, hown⟩ := hrel
    have holr := hol.keep hbr
    have hc0 : (0 : Int) ≤ (c : Int) := Int.natCast_nonneg _
    have hsz := hbr.size
    by_cases hlt : c < n
    · obtain ⟨gl, cl', hsl⟩ := holr.form_pos HLI.out (by omega)
      injection hsl with hsl1 hsl2 hsl3
      subst hsl1; subst hsl3
      have hlt' := (World.ownsRow.lt holr gl rfl).2
      have hcell : ∀ b, b < n → wr.cell? ⟨gl, b, none⟩ = some (.int .i64 (F b : Nat)) := fun b hb => by
        rw [holr.cell b (by rw [HLI.out]; exact hb), HG.out b hb]
      have HCE := Lib.hid hcell
      have hcc := hcell c hlt
      have hc1 : (c : Int) < (n : Int) := by omega
      have hsucc := rootsL_succ F n c
      by_cases hFc : F c = c
      · rw [hFc] at hcc
        rw [if_pos hFc] at hsucc
        have HS := Lib.hid hsucc
        have HFC := Lib.hid hFc
        clear hcell hsucc hFc
        obtain ⟨wO, hwO⟩ : ∃ wO : World, wO = wr := ⟨_, rfl⟩
        subst hwO
        go_wp2
        go_loopw [6, 7] (fun x i wx => ∃ b : Nat, b ≤ n ∧ i = .int .i64 b ∧ Below wO.heap.size wO wx ∧ OI wx wO.heap.size x (memb F b c)) (fun _ i _ => n - (intOf i).toNat)
        case atStart => exact ⟨0, by omega, rfl, Below.refl _ _, OI.nil _ _⟩
        case round =>
          obtain ⟨b, hb, rfl, hbx, hox⟩ := hrel
          have hb0 : (0 : Int) ≤ (b : Int) := Int.natCast_nonneg _
          have hszx := hbx.size
          by_cases hbl : b < n
          · have hcb := (hbx.cell (p := ⟨gl, b, none⟩) hlt').trans (HCE.out b hbl)
            have hb1' : (b : Int) < (n : Int) := by omega
            have hsb := memb_succ F b c
            have hml := memb_length F b c
            by_cases hFb : F b = c
            · rw [hFb] at hcb
              have HSB := Lib.hid (show memb F (b + 1) c = memb F b c ++ [(b : Int)] from by rw [hsb, hFb]; simp)
              clear hsb hFb
              generalize memb F b c = ml at *
              go_wp2_with (at_builtin
                           refine wpList_append_int rfl (.tmp 34) (.tmp 36) rfl wO.heap.size _ ml rfl (hox.alloc _) wr.heap.size (b : Int) rfl (by rw [World.cell?_alloc_at _ _ _ _ rfl]; rfl) (by omega) (by simp; omega) ?_
                           intro v2 w2 hown2 hg2)
              go_roundw
              case rel => exact ⟨b + 1, by omega, by go_num, (hbx.alloc hszx _).grown hg2 (by simp; omega) (fun q hq => (World.ownsRow.lt hox q hq).1), by rw [HSB.out]; exact hown2⟩
              case measure => simp [intOf]; omega
            · have hne : ((F b : Int) == (c : Int)) = false := by simp only [beq_eq_false_iff_ne, ne_eq]; omega
              have HSB := Lib.hid (show memb F (b + 1) c = memb F b c from by rw [hsb]; simp [hFb])
              clear hsb hFb
              generalize F b = y at *
              go_wp2
              go_roundw
              case rel => exact ⟨b + 1, by omega, by go_num, hbx, by rw [HSB.out]; exact hox⟩
              case measure => simp [intOf]; omega
          · obtain rfl : b = n := by omega
            have HH := Lib.hid hown
            have hox' := hox.mono (B' := w1.heap.size) hsz
            have hown2 := hown.keep hbx
            have hbw2 := below_step hbr hbx
            obtain ⟨Ax, cx, hx6⟩ : ∃ Ax cx, u6 = .slice Ax (memb F b c).length cx := by
              rcases hox.form with ⟨e, he⟩ | ⟨g, cap, e, _⟩
              · exact ⟨none, 0, by rw [e, he]; rfl⟩
              · exact ⟨_, cap, e⟩
            subst hx6
            clear hown hox hcc hlt' HCE holr HG HLI
            go_wp2_with (at_builtin
                         refine wpList_append_row rfl (.tmp 38) (.tmp 40) rfl w1.heap.size u4 (rootsL F b c) rfl (hown2.keep (below_alloc _ _)) wr.heap.size (.slice Ax (memb F b c).length cx) (memb F b c) rfl (by rw [World.cell?_alloc_at _ _ _ _ rfl]; rfl) (hox'.alloc _) (by have := roots_length F c; simp [rootsL, roots] at *; omega) (by have := hbw2.size; simp; omega) ?_
                         intro v2 w2 ho2 hg2)
            go_roundw
            case rel => exact ⟨c + 1, by omega, by go_num, (below_step hbw2 (below_alloc wr _)).grown hg2 (by have := hbw2.size; simp; omega) (fun q hq => (hown2.lt q hq).1), by rw [HS.out]; exact ho2⟩
            case measure => simp [intOf]; omega
      · have hne : ((F c : Int) != (c : Int)) = true := by simp only [bne_iff_ne, ne_eq]; omega
        rw [if_neg hFc, List.append_nil] at hsucc
        rw [← hsucc] at hown
        clear hsucc hFc hcell
        generalize F c = y at *
        go_wp2
        go_roundw
        case rel => exact ⟨c + 1, by omega, by go_num, hbr, hown⟩
        case measure => simp [intOf]; omega
    · obtain rfl : c = n := by omega
      have HO := Lib.hid (hown.mono (B' := w.heap.size) hb1.size)
      have HB := Lib.hid (below_step hb1 hbr)
      clear hown hlt hc holr
      go_wp2
      go_ret
      exact ⟨_, rfl, HO.out, HB.out⟩

end Go.Proofs.YtdacjnmfmhkpiaaGreatDoor

/- Plain mathematics: where all faces together are as many as on spheres, each component is drawn on a sphere. -/
namespace Go.Proofs.YtdacjnmfmhkpiaaGreatDoor

theorem Cnt.or {p q : Nat → Prop} {n a b : Nat} (h : Cnt p n a) (g : Cnt q n b) (hd : ∀ x, x < n → p x → ¬ q x) : Cnt (fun x => p x ∨ q x) n (a + b) := by
  induction h generalizing b with
  | zero => cases g; exact .zero
  | @yes n k hp h ih =>
    cases g with
    | yes hq _ => exact absurd hq (hd n (by omega) hp)
    | @no _ j hq g =>
      have := ih g fun x hx => hd x (by omega)
      rw [show k + 1 + b = (k + b) + 1 by omega]
      exact .yes (.inl hp) this
  | @no n k hp h ih =>
    cases g with
    | @yes _ j hq g =>
      have := ih g fun x hx => hd x (by omega)
      exact .yes (.inr hq) this
    | @no _ j hq g =>
      have := ih g fun x hx => hd x (by omega)
      exact .no (fun e => e.elim hp hq) this
theorem Cnt.le {p q : Nat → Prop} {n a b : Nat} (h : Cnt p n a) (g : Cnt q n b) (hs : ∀ x, x < n → p x → q x) : a ≤ b := by
  induction h generalizing b with
  | zero => omega
  | @yes n k hp h ih =>
    cases g with
    | yes hq g => have := ih g fun x hx => hs x (by omega); omega
    | no hq _ => exact absurd (hs n (by omega) hp) hq
  | @no n k hp h ih =>
    cases g with
    | yes hq g => have := ih g fun x hx => hs x (by omega); omega
    | no hq g => exact ih g fun x hx => hs x (by omega)
theorem Cnt.quad {q : Nat → Prop} {n k : Nat} (h : Cnt q n k) : Cnt (fun x => q (x / 4)) (4 * n) (4 * k) := by
  induction h with
  | zero => exact .zero
  | @yes n k hq _ ih =>
    have e : 4 * (n + 1) = 4 * n + 1 + 1 + 1 + 1 := by omega
    have e2 : 4 * (k + 1) = 4 * k + 1 + 1 + 1 + 1 := by omega
    rw [e, e2]
    exact .yes (by show q ((4 * n + 1 + 1 + 1) / 4); rw [show (4 * n + 1 + 1 + 1) / 4 = n by omega]; exact hq) (.yes (by show q ((4 * n + 1 + 1) / 4); rw [show (4 * n + 1 + 1) / 4 = n by omega]; exact hq) (.yes (by show q ((4 * n + 1) / 4); rw [show (4 * n + 1) / 4 = n by omega]; exact hq) (.yes (by show q (4 * n / 4); rw [show 4 * n / 4 = n by omega]; exact hq) ih)))
  | @no n k hq _ ih =>
    have e : 4 * (n + 1) = 4 * n + 1 + 1 + 1 + 1 := by omega
    rw [e]
    exact .no (by show ¬ q ((4 * n + 1 + 1 + 1) / 4); rw [show (4 * n + 1 + 1 + 1) / 4 = n by omega]; exact hq) (.no (by show ¬ q ((4 * n + 1 + 1) / 4); rw [show (4 * n + 1 + 1) / 4 = n by omega]; exact hq) (.no (by show ¬ q ((4 * n + 1) / 4); rw [show (4 * n + 1) / 4 = n by omega]; exact hq) (.no (by show ¬ q (4 * n / 4); rw [show 4 * n / 4 = n by omega]; exact hq) ih)))
theorem Cnt.one {N c : Nat} (hc : c < N) : Cnt (fun x => x = c) N 1 := by
  obtain ⟨k, hk⟩ := Cnt.ex (fun x => x = c) N
  have h0 : Cnt (fun _ => False) N 0 := Cnt.none fun x _ h => h
  have := hk.drop h0 hc rfl (fun h => h) (fun x _ hne => ⟨fun e => hne e, fun h => h.elim⟩)
  subst this
  exact hk
theorem min_edge {m : Nat → Nat} {N x : Nat} : min x (mmx m N x) = x ∨ min x (mmx m N x) = mmx m N x := by omega
theorem trn3_first {N x : Nat} (hx : x < 4 * N) : (∀ g, g < x → ¬ (g < 4 * N ∧ Orb (fun y => trn y 3) g x)) ↔ x % 4 = 0 := by
  constructor
  · intro h
    by_cases h0 : x % 4 = 0
    · exact h0
    · refine absurd ⟨by omega, ?_⟩ (h (x - x % 4) (by omega))
      have hr : x % 4 = 3 ∨ x % 4 = 2 ∨ x % 4 = 1 := by omega
      rcases hr with e | e | e
      · exact ⟨1, by show trn (x - x % 4) 3 = x; unfold trn; omega⟩
      · exact ⟨2, by show trn (trn (x - x % 4) 3) 3 = x; unfold trn; omega⟩
      · exact ⟨3, by show trn (trn (trn (x - x % 4) 3) 3) 3 = x; unfold trn; omega⟩
  · intro h0 g hg o
    have := orb_trn3 o.2
    omega

/-- No component has more faces than on a sphere. -/
theorem comp_face_le {m : Nat → Nat} {n L : Nat} {F : Nat → Nat} (i : Invol m (4 * n)) (hfix : ∀ x, x < 4 * n → m x ≠ x) (hlab : IsLab m (4 * n) n F) (hle : ∀ c, F c ≤ c) (hL : L < n) (hLL : F L = L) :
    cntF F (fun x => trn (m x) 3) (4 * n) (4 * n) L ≤ cntV F n L + 2 := by
  obtain ⟨E, hE⟩ : ∃ E : Nat → Bool, ∀ x, E x = false ↔ F (x / 4) = L := ⟨fun x => !(F (x / 4) == L), fun x => by simp⟩
  obtain ⟨C, Fc, c, t, g⟩ := grown_all E i hfix (4 * n)
  have pf : Perm (fun x => trn (m x) 3) (4 * n) := i.perm 3
  have hmin : ∀ x, x < 4 * n → F (min x (mmx m (4 * n) x) / 4) = F (x / 4) := fun x hx => by
    rcases min_edge (m := m) (N := 4 * n) (x := x) with e | e
    · rw [e]
    · rw [e, mmx_lt hx]; exact (hlab.2 x hx).symm
  have hphi : ∀ x, x < 4 * n → phi m (4 * n) E (4 * n) x = if F (x / 4) = L then trn (m x) 3 else trn x 3 := fun x hx => by
    have h1 : min x (mmx m (4 * n) x) < 4 * n := by omega
    unfold phi mk
    by_cases h : F (x / 4) = L
    · rw [if_pos ⟨h1, (hE _).2 (by rw [hmin x hx]; exact h)⟩, if_pos h, mmx_lt hx]
    · rw [if_neg (fun q => h (by rw [← hmin x hx]; exact (hE _).1 q.2)), if_neg h]
  have hlabphi : ∀ x, x < 4 * n → F (phi m (4 * n) E (4 * n) x / 4) = F (x / 4) := fun x hx => by
    rw [hphi x hx]
    split
    · rw [trn_div]; exact (hlab.2 x hx).symm
    · rw [trn_div]
  have hlabit : ∀ x j, x < 4 * n → F (it (phi m (4 * n) E (4 * n)) j x / 4) = F (x / 4) := fun x j hx => by
    induction j with
    | zero => rfl
    | succ j ih => show F (phi m (4 * n) E (4 * n) (it _ j x) / 4) = _; rw [hlabphi _ (g.perm.it_lt hx j), ih]
  have hitL : ∀ x j, x < 4 * n → F (x / 4) = L → it (phi m (4 * n) E (4 * n)) j x = it (fun x => trn (m x) 3) j x := fun x j hx h => by
    induction j with
    | zero => rfl
    | succ j ih =>
      show phi m (4 * n) E (4 * n) (it _ j x) = trn (m (it _ j x)) 3
      rw [hphi _ (g.perm.it_lt hx j), if_pos (by rw [hlabit x j hx]; exact h), ih]
  have hitN : ∀ x j, x < 4 * n → F (x / 4) ≠ L → it (phi m (4 * n) E (4 * n)) j x = it (fun x => trn x 3) j x := fun x j hx h => by
    induction j with
    | zero => rfl
    | succ j ih =>
      show phi m (4 * n) E (4 * n) (it _ j x) = trn (it _ j x) 3
      rw [hphi _ (g.perm.it_lt hx j), if_neg (by rw [hlabit x j hx]; exact h), ih]
  have hlabff : ∀ x j, x < 4 * n → F (it (fun x => trn (m x) 3) j x / 4) = F (x / 4) := fun x j hx => by
    induction j with
    | zero => rfl
    | succ j ih => show F (trn (m (it _ j x)) 3 / 4) = _; rw [trn_div, ← hlab.2 _ (pf.it_lt hx j), ih]
  -- the faces
  have hV : Cnt (fun c => (!(F c == L)) = true) n ((List.range n).countP fun c => !(F c == L)) := Cnt.countP _ _
  have hVV : Cnt (fun c => (F c == L) = true) n (cntV F n L) := Cnt.countP _ _
  have hsum : cntV F n L + ((List.range n).countP fun c => !(F c == L)) = n := by
    have h1 := hVV.or hV (fun x _ h k => by rw [h] at k; cases k)
    have h2 : Cnt (fun c => (F c == L) = true ∨ (!(F c == L)) = true) n n := Cnt.all n _ fun x _ => by cases F x == L <;> simp
    exact h1.uniq h2
  generalize ((List.range n).countP fun c => !(F c == L)) = U at hV hsum
  have hq := hV.firsts
  have hp : Cnt (fun h => (fst (fun x => trn (m x) 3) (4 * n) h && F (h / 4) == L) = true) (4 * n) (cntF F (fun x => trn (m x) 3) (4 * n) (4 * n) L) := Cnt.countP _ _
  have hFc : Fc = cntF F (fun x => trn (m x) 3) (4 * n) (4 * n) L + U := by
    refine g.faces.uniq ((hp.or hq fun x hx h k => ?_).congr fun x hx => ?_)
    · simp only [Bool.and_eq_true, Bool.not_eq_true'] at h k
      rw [h.2] at k
      exact absurd k.2 (by simp)
    · simp only [Bool.and_eq_true, beq_iff_eq, Bool.not_eq_true', beq_eq_false_iff_ne, ne_eq]
      by_cases hl : F (x / 4) = L
      · constructor
        · rintro (⟨h1, _⟩ | ⟨_, h2⟩)
          · intro y hy ⟨hyN, j, e⟩
            have h3 : F (y / 4) = L := by rw [← hl, ← e, hlabit y j hyN]
            exact (pf.fst_iff hx).1 h1 y hy ⟨j, by rw [← hitL y j hyN h3]; exact e⟩
          · exact absurd hl h2
        · intro h
          refine .inl ⟨(pf.fst_iff hx).2 fun y hy ⟨j, e⟩ => ?_, hl⟩
          have h3 : F (y / 4) = L := by rw [← hl, ← e, hlabff y j (by omega)]
          exact h y hy ⟨by omega, j, by rw [hitL y j (by omega) h3]; exact e⟩
      · constructor
        · rintro (⟨_, h1⟩ | ⟨h0, _⟩)
          · exact absurd h1 hl
          · intro y hy ⟨hyN, j, e⟩
            have h3 : F (y / 4) ≠ L := by rw [← hlabit y j hyN, e]; exact hl
            rw [hitN y j hyN h3] at e
            exact (trn3_first hx).2 h0 y hy ⟨hyN, j, e⟩
        · intro h
          refine .inr ⟨(trn3_first hx).1 fun y hy ⟨hyN, j, e⟩ => ?_, hl⟩
          have h3 : F (y / 4) ≠ L := by
            have h4 := orb_trn3 ⟨j, e⟩
            rw [h4]; exact hl
          exact h y hy ⟨hyN, j, by rw [hitN y j hyN h3]; exact e⟩
  -- the parts
  have key : ∀ {a b : Nat}, Conn m (4 * n) a b → a < n → F a = L → b < n ∧ C (4 * a) (4 * b) := by
    intro a b hc ha hFa
    induction hc with
    | refl => exact ⟨ha, g.eqv.refl _ (by omega)⟩
    | step z hz hcz ih =>
      have hm := i.lt z hz
      have hFz : F (z / 4) = L := by rw [← hlab.conn hcz]; exact hFa
      have he := g.edge z hz (by omega) ((hE _).2 (by rw [hmin z hz]; exact hFz))
      rw [mmx_lt hz] at he
      exact ⟨by omega, g.eqv.trans _ _ _ ih.2 (g.eqv.trans _ _ _ (g.cross _ z (by omega) hz (by omega)) (g.eqv.trans _ _ _ he (g.cross _ _ hm (by omega) (by omega))))⟩
    | back z hz hcz ih =>
      have hm := i.lt z hz
      have hFz : F (z / 4) = L := by rw [hlab.2 z hz, ← hlab.conn hcz]; exact hFa
      have he := g.edge z hz (by omega) ((hE _).2 (by rw [hmin z hz]; exact hFz))
      rw [mmx_lt hz] at he
      exact ⟨by omega, g.eqv.trans _ _ _ ih.2 (g.eqv.trans _ _ _ (g.cross _ (m z) (by omega) hm (by omega)) (g.eqv.trans _ _ _ (g.eqv.symm _ _ he) (g.cross _ _ hz (by omega) (by omega))))⟩
  have hc : c ≤ U + 1 := by
    refine Cnt.le g.parts (hq.or (Cnt.one (c := 4 * L) (N := 4 * n) (by omega)) fun x hx h e => ?_) fun x hx h => ?_
    · simp only [Bool.not_eq_true', beq_eq_false_iff_ne, ne_eq] at h
      subst e
      rw [show 4 * L / 4 = L by omega] at h
      exact h.2 hLL
    · simp only [Bool.not_eq_true', beq_eq_false_iff_ne, ne_eq]
      by_cases hl : F (x / 4) = L
      · right
        have h1 := (hlab.1 (x / 4) (by omega)).2
        rw [hl] at h1
        have h2 := key h1.symm hL hLL
        by_cases e : x = 4 * L
        · exact e
        · have h3 := hle (x / 4)
          exact absurd (g.eqv.trans _ _ _ h2.2 (g.cross _ _ (by omega) hx (by omega))) (h (4 * L) (by omega))
      · left
        refine ⟨?_, hl⟩
        by_cases h0 : x % 4 = 0
        · exact h0
        · exact absurd (g.cross (x - x % 4) x (by omega) hx (by omega)) (h (x - x % 4) (by omega))
  -- the edges
  have ht : 4 * cntV F n L = 2 * t := by
    have h1 := hVV.quad
    refine Cnt.pairs (4 * n) m _ (fun x => (F (x / 4) == L) = true) t h1 (g.edges.congr fun x hx => ?_) fun x hx hpx => ?_
    · rw [mmx_lt hx, hE]; simp only [beq_iff_eq]; exact ⟨fun h => ⟨h.2, h.1⟩, fun h => ⟨h.2, h.1⟩⟩
    · refine ⟨i.lt x hx, ?_, i.inv x hx, hfix x hx⟩
      rw [← hlab.2 x hx]; exact hpx
  have := g.euler
  omega

theorem sumN_le {a b : Nat → Nat} (n : Nat) (h : ∀ l, l < n → a l ≤ b l) : sumN a n ≤ sumN b n := by
  induction n with
  | zero => exact Nat.le_refl _
  | succ n ih =>
    have h1 := ih fun l hl => h l (by omega)
    have h2 := h n (by omega)
    show sumN a n + a n ≤ sumN b n + b n
    omega
theorem sumN_eq {a b : Nat → Nat} (n : Nat) (h : ∀ l, l < n → a l ≤ b l) (e : sumN a n = sumN b n) : ∀ l, l < n → a l = b l := by
  induction n with
  | zero => intro l hl; omega
  | succ n ih =>
    intro l hl
    have h1 := sumN_le n fun l hl => h l (show l < n + 1 by omega)
    have h2 := h n (by omega)
    have e2 : sumN a n + a n = sumN b n + b n := e
    by_cases hln : l = n
    · subst hln; omega
    · exact ih (fun l hl => h l (by omega)) (by omega) l (by omega)
theorem sph_of_total {m : Nat → Nat} {n : Nat} {F : Nat → Nat} (i : Invol m (4 * n)) (hfix : ∀ x, x < 4 * n → m x ≠ x) (hlab : IsLab m (4 * n) n F) (hle : ∀ c, F c ≤ c) (hid : ∀ c, F (F c) = F c)
    (htot : (List.range (4 * n)).countP (fst (fun x => trn (m x) 3) (4 * n)) = n + 2 * rootsN F n) : sphB F (fun x => trn (m x) 3) (4 * n) n = true := by
  have h1 := count_by (fst (fun x => trn (m x) 3) (4 * n)) (fun x => F (x / 4)) n (4 * n) (fun x hx => by have := hle (x / 4); omega)
  have h2 := count_by (fun _ => true) F n n (fun x hx => by have := hle x; omega)
  have h3 : (List.range n).countP (fun _ => true) = n := by simp
  rw [h3] at h2
  have h4 : sumN (fun l => if F l == l then 1 else 0) n = rootsN F n := by
    have : ∀ k, sumN (fun l => if F l == l then 1 else 0) k = rootsN F k := by
      intro k
      induction k with
      | zero => rfl
      | succ k ih =>
        show sumN _ k + _ = _
        rw [ih]
        unfold rootsN
        rw [List.range_succ, List.countP_append]
        cases h : F k == k <;> simp [h]
    exact this n
  have hroot : ∀ l, l < n → F l ≠ l → cntF F (fun x => trn (m x) 3) (4 * n) (4 * n) l = 0 := fun l _ hne => by
    unfold cntF
    rw [List.countP_eq_zero]
    intro x _ hx
    simp only [Bool.and_eq_true, beq_iff_eq] at hx
    exact hne (by rw [← hx.2, hid])
  have hall : ∀ l, l < n → cntF F (fun x => trn (m x) 3) (4 * n) (4 * n) l ≤ cntV F n l + ((if F l == l then 1 else 0) + (if F l == l then 1 else 0)) := fun l hl => by
    by_cases e : F l = l
    · have := comp_face_le i hfix hlab hle hl e
      simp [e]; omega
    · rw [hroot l hl e]; omega
  have hs : sumN (fun l => cntV F n l + ((if F l == l then 1 else 0) + (if F l == l then 1 else 0))) n = n + 2 * rootsN F n := by
    rw [sumN_add, sumN_add, h4]
    have e : sumN (fun l => (List.range n).countP fun x => true && F x == l) n = sumN (cntV F n) n := sumN_congr fun l _ => by unfold cntV; simp
    have e2 : sumN (cntV F n) n = n := by rw [← e]; exact h2
    omega
  have hf : sumN (fun l => cntF F (fun x => trn (m x) 3) (4 * n) (4 * n) l) n = n + 2 * rootsN F n := by
    rw [← htot, ← h1]; rfl
  have heq := sumN_eq n hall (hf.trans hs.symm)
  rw [sphB_iff]
  intro c hc
  have h5 := hle c
  have := heq (F c) (by omega)
  rw [this, hid c]
  simp

end Go.Proofs.YtdacjnmfmhkpiaaGreatDoor

/- The diagram of a valid code of genus 0 is valid: its faces are as many as on spheres; plain. -/
namespace Go.Proofs.YtdacjnmfmhkpiaaGreatDoor

/-- Faces and components of any mates: what lacks is twice the genus. -/
theorem total {m : Nat → Nat} {n : Nat} (i : Invol m (4 * n)) (hfix : ∀ x, x < 4 * n → m x ≠ x) : ∃ d, (List.range (4 * n)).countP (fst (fun x => trn (m x) 3) (4 * n)) + 2 * d = n + 2 * rootsN (ufLab m (4 * n)) n := by
  have hle : ∀ c, ufLab m (4 * n) c ≤ c := fun c => root_le _ _
  have hid : ∀ c, ufLab m (4 * n) (ufLab m (4 * n) c) = ufLab m (4 * n) c := fun c => root_root _ _
  have hlab := ufLab_isLab m (4 * n) n
  generalize ufLab m (4 * n) = F at *
  obtain ⟨C, Fc, c, t, g⟩ := grown_all (fun _ => false) i hfix (4 * n)
  have pf : Perm (fun x => trn (m x) 3) (4 * n) := i.perm 3
  have hphi : ∀ x, x < 4 * n → trn (m x) 3 = phi m (4 * n) (fun _ => false) (4 * n) x := fun x hx => by
    unfold phi mk
    rw [if_pos ⟨by omega, rfl⟩, mmx_lt hx]
  have hRO : ∀ x y, RO' (fun x => trn (m x) 3) (4 * n) x y ↔ RO' (phi m (4 * n) (fun _ => false) (4 * n)) (4 * n) x y := fun x y => by
    constructor
    · rintro ⟨hx, j, q⟩; exact ⟨hx, j, by rw [← it_congr pf hphi hx]; exact q⟩
    · rintro ⟨hx, j, q⟩; exact ⟨hx, j, by rw [it_congr pf hphi hx]; exact q⟩
  have e1 : (List.range (4 * n)).countP (fst (fun x => trn (m x) 3) (4 * n)) = Fc := Cnt.uniq (cls_orb pf) (cls_congr g.faces fun x y => (hRO x y).symm)
  have e2 : 4 * n = 2 * t := Cnt.pairs (4 * n) (mmx m (4 * n)) (4 * n) (fun x => x < 4 * n) t (Cnt.all _ _ fun x hx => hx) (g.edges.congr fun x hx => ⟨fun q => ⟨hx, q.1⟩, fun q => ⟨q.2, rfl⟩⟩) (fun x hx _ => ⟨mmx_N i hx, mmx_N i hx, mmx_mmx i x, by rw [mmx_lt hx]; exact hfix x hx⟩)
  have hedge : ∀ x, x < 4 * n → C x (m x) := fun x hx => by
    have := g.edge x hx (by omega) rfl
    rw [mmx_lt hx] at this; exact this
  have key : ∀ {a b : Nat}, Conn m (4 * n) a b → a < n → b < n ∧ C (4 * a) (4 * b) := by
    intro a b hc ha
    induction hc with
    | refl => exact ⟨ha, g.eqv.refl _ (by omega)⟩
    | step z hz _ ih =>
      have hm := i.lt z hz
      exact ⟨by omega, g.eqv.trans _ _ _ ih.2 (g.eqv.trans _ _ _ (g.cross _ z (by omega) hz (by omega)) (g.eqv.trans _ _ _ (hedge z hz) (g.cross _ _ hm (by omega) (by omega))))⟩
    | back z hz _ ih =>
      have hm := i.lt z hz
      exact ⟨by omega, g.eqv.trans _ _ _ ih.2 (g.eqv.trans _ _ _ (g.cross _ (m z) (by omega) hm (by omega)) (g.eqv.trans _ _ _ (g.eqv.symm _ _ (hedge z hz)) (g.cross _ _ hz (by omega) (by omega))))⟩
  have hCD : ∀ x y, C x y ↔ (x < 4 * n ∧ y < 4 * n ∧ F (x / 4) = F (y / 4)) := fun x y => by
    constructor
    · exact g.gen (fun x y => x < 4 * n ∧ y < 4 * n ∧ F (x / 4) = F (y / 4)) ⟨fun x y q => ⟨q.1, q.2.1⟩, fun x hx => ⟨hx, hx, rfl⟩, fun x y q => ⟨q.2.1, q.1, q.2.2.symm⟩, fun x y z q r => ⟨q.1, r.2.1, q.2.2.trans r.2.2⟩⟩
        (fun x y hx hy e => ⟨hx, hy, by rw [e]⟩) (fun x hx => by rw [mmx_lt hx]; exact ⟨hx, i.lt x hx, hlab.2 x hx⟩) x y
    · rintro ⟨hx, hy, e⟩
      have c1 := (hlab.1 (x / 4) (by omega)).2
      have c2 := (hlab.1 (y / 4) (by omega)).2
      rw [e] at c1
      have := (key (c1.trans c2.symm) (by omega)).2
      exact g.eqv.trans _ _ _ (g.cross x _ hx (by omega) (by omega)) (g.eqv.trans _ _ _ this (g.cross _ y (by omega) hy (by omega)))
  have e3 : c = rootsN F n := Cnt.uniq g.parts (cls_congr (cls_lab hle hid) fun x y => (hCD x y).symm)
  obtain ⟨d, hd⟩ := g.defect
  exact ⟨d, by omega⟩
/-- The genus of any mates is what lacks, halved. -/
theorem genM_total {m : Nat → Nat} {n : Nat} (i : Invol m (4 * n)) (hfix : ∀ x, x < 4 * n → m x ≠ x) : ∃ d : Nat, genM m n = d ∧ (List.range (4 * n)).countP (fst (fun x => trn (m x) 3) (4 * n)) + 2 * d = n + 2 * rootsN (ufLab m (4 * n)) n := by
  obtain ⟨d, hd⟩ := total i hfix
  refine ⟨d, ?_, hd⟩
  have h4 : cFst (ff m) (4 * n) (4 * n) = (List.range (4 * n)).countP (fst (fun x => trn (m x) 3) (4 * n)) := by
    unfold cFst; rw [List.countP_eq_length_filter]; rfl
  have h5 := nRoots_rootsN (ufAt m (4 * n)) (ufAt_below _ _) n
  unfold genM
  rw [h4, h5]
  have e2 : root (ufAt m (4 * n)) = ufLab m (4 * n) := rfl
  rw [e2]
  generalize rootsN (ufLab m (4 * n)) n = r at *
  generalize (List.range (4 * n)).countP (fst (fun x => trn (m x) 3) (4 * n)) = f at *
  rw [show 2 * (r : Int) + (n : Nat) - (f : Nat) = 2 * (d : Int) by omega]
  rw [Int.tdiv_eq_ediv_of_nonneg (by omega)]
  omega
theorem outB_outN {s : List Int} {c : Nat} (o : Bool) (hs : s.getD c 0 = 1 ∨ s.getD c 0 = -1) : outB s (outN s c o) = true := by
  unfold outN
  cases o with
  | false => simp only [if_true]; unfold outB; rw [show (4 * c + 2) % 4 = 2 by omega]; simp
  | true =>
    simp only [Bool.true_eq_false, if_false]
    rcases hs with e | e
    · rw [if_pos e]; unfold outB; rw [show (4 * c + 1) % 4 = 1 by omega, show (4 * c + 1) / 4 = c by omega, e]; simp
    · rw [if_neg (by rw [e]; decide)]; unfold outB; rw [show (4 * c + 3) % 4 = 3 by omega, show (4 * c + 3) / 4 = c by omega, e]; simp
theorem outB_inN {s : List Int} {c : Nat} (o : Bool) (hs : s.getD c 0 = 1 ∨ s.getD c 0 = -1) : outB s (inN s c o) = false := by
  unfold inN
  cases o with
  | false => simp only [if_true]; unfold outB; rw [show (4 * c) % 4 = 0 by omega]; simp
  | true =>
    simp only [Bool.true_eq_false, if_false]
    rcases hs with e | e
    · rw [if_pos e]; unfold outB; rw [show (4 * c + 3) % 4 = 3 by omega, show (4 * c + 3) / 4 = c by omega, e]; simp
    · rw [if_neg (by rw [e]; decide)]; unfold outB; rw [show (4 * c + 1) % 4 = 1 by omega, show (4 * c + 1) / 4 = c by omega, e]; simp
theorem mateL_length (s : List Int) (vss : List (List Vis)) : (mateL s vss).length = 4 * s.length := by unfold mateL; rw [List.length_map, List.length_range]
theorem mateL_mt {vss : List (List Vis)} {s : List Int} (hv : visB vss s.length = true) {h : Nat} (hh : h < 4 * s.length) : mt (mateL s vss) h = (mAll s vss vss.length h : Nat) := (mateL_mates s hv h hh).1
theorem matesOf_mateL {vss : List (List Vis)} {s : List Int} (hv : visB vss s.length = true) {h : Nat} (hh : h < 4 * s.length) : matesOf (mateL s vss) h = mAll s vss vss.length h := by
  unfold matesOf; rw [mateL_mt hv hh]; simp
/-- The mates of a valid code are well paired. -/
theorem mateL_pair {vss : List (List Vis)} {s : List Int} (hs : sgnsB s = true) (hv : visB vss s.length = true) : pairB s (mateL s vss) = true := by
  have i := mAll_invol s hv
  refine (pairB_iff _ _).2 fun j hj => ?_
  rw [mateL_length] at hj
  have hg : ∀ c, c < s.length → s.getD c 0 = 1 ∨ s.getD c 0 = -1 := fun c hc => by
    have := (sgnsB_iff _).1 hs c hc
    unfold sgB at this
    simpa using this
  have hj2 := i.lt j hj
  have e1 := mateL_mt hv hj
  have e2 := mateL_mt hv hj2
  rw [i.inv j hj] at e2
  have hne : outB s j ≠ outB s (mAll s vss vss.length j) := by
    obtain ⟨p, hp, e⟩ := mem_keys ((all_keys s hv).2.2 j hj)
    obtain ⟨q1, q2⟩ := mAll_pair s hv hp
    have ho : outB s p.1 = true ∧ outB s p.2 = false := by
      obtain ⟨l, hl, hpl⟩ := List.mem_flatMap.1 hp
      unfold pairsRow pairsTo at hpl
      obtain ⟨k, hk, rfl⟩ := List.mem_map.1 hpl
      have hk := List.mem_range.1 hk
      have hr := ((visB_iff _ _).1 hv).2.1.2
      have hin : ∀ q, q < l.length → 0 ≤ (l.getD q v0).1 ∧ (l.getD q v0).1 < (s.length : Int) := fun q hq => hr _ (List.mem_flatten.2 ⟨l, hl, by simp [List.getD, hq]⟩)
      have a1 := hin k hk
      have a2 := hin ((k + 1) % l.length) (Nat.mod_lt _ (by omega))
      exact ⟨outB_outN _ (hg _ (by omega)), outB_inN _ (hg _ (by omega))⟩
    rcases e with e | e
    · rw [e, q1, ho.1, ho.2]; decide
    · rw [e, q2, ho.1, ho.2]; decide
  unfold pOK
  rw [e1, mateL_length]
  simp only [Int.toNat_natCast]
  simp only [Bool.and_eq_true, decide_eq_true_eq, bne_iff_ne]
  exact ⟨⟨⟨by omega, by omega⟩, e2⟩, hne⟩
theorem mateL_fix {vss : List (List Vis)} {s : List Int} (hs : sgnsB s = true) (hv : visB vss s.length = true) (x : Nat) (hx : x < 4 * s.length) : mAll s vss vss.length x ≠ x := fun e => by
  obtain ⟨m, h1, h2, h3, h4⟩ := pOK_out ((pairB_iff _ _).1 (mateL_pair hs hv) x (by rw [mateL_length]; exact hx)) (mateL_length s vss)
  have e2 := mateL_mt hv hx
  rw [h1, e] at e2
  have : m = x := by omega
  rw [this] at h4
  exact h4 rfl
theorem gval_out {vss : List (List Vis)} {s : List Int} {lp : Int} (hv : gvalB vss s lp = true) : (s.length ≤ 64 ∧ 0 ≤ lp ∧ lp ≤ 64) ∧ sgnsB s = true ∧ visB vss s.length = true := by
  unfold gvalB glimB at hv
  simp only [Bool.and_eq_true, decide_eq_true_eq] at hv
  exact ⟨⟨hv.1.1.1.1, hv.1.1.1.2, hv.1.1.2⟩, hv.1.2, hv.2⟩
/-- The genus of a valid code is not negative. -/
theorem genC_nat {vss : List (List Vis)} {s : List Int} {lp : Int} (hv : gvalB vss s lp = true) : ∃ d : Nat, genC vss s = d ∧ (List.range (4 * s.length)).countP (fst (ff (mAll s vss vss.length)) (4 * s.length)) + 2 * d = s.length + 2 * rootsN (ufLab (mAll s vss vss.length) (4 * s.length)) s.length := by
  obtain ⟨_, h2, h3⟩ := gval_out hv
  exact genM_total (mAll_invol s h3) (mateL_fix h2 h3)
/-- The diagram of a valid code of genus 0 is valid. -/
theorem draw_valid {vss : List (List Vis)} {s : List Int} {lp : Int} (hv : gvalB vss s lp = true) (hg : genC vss s = 0) : validB s (mateL s vss) lp = true := by
  obtain ⟨⟨l1, l2, l3⟩, h2, h3⟩ := gval_out hv
  have hp := mateL_pair h2 h3
  have hl := mateL_length s vss
  have hi := matesOf_invol hp hl
  have hfix : ∀ x, x < 4 * s.length → matesOf (mateL s vss) x ≠ x := fun x hx => by rw [matesOf_mateL h3 hx]; exact mateL_fix h2 h3 x hx
  obtain ⟨d, hd1, hd2⟩ := genM_total hi hfix
  have hd0 : genM (matesOf (mateL s vss)) s.length = 0 := by
    rw [genM_congr hi (fun x hx => matesOf_mateL h3 hx)]; exact hg
  have hd : d = 0 := by omega
  subst hd
  have hsph : sphM (mateL s vss) s.length = true := by
    unfold sphM
    rw [hl]
    exact sph_of_total hi hfix (ufLab_isLab _ _ _) (fun c => root_le _ _) (fun c => root_root _ _) (by omega)
  unfold validB limB
  rw [h2, hp, hsph, hl]
  simp only [Bool.and_true, Bool.and_eq_true, decide_eq_true_eq]
  exact ⟨⟨⟨l1, trivial⟩, l2⟩, l3⟩

end Go.Proofs.YtdacjnmfmhkpiaaGreatDoor

/- Walk: the reference's Genus of a code. -/
namespace Go.Proofs.YtdacjnmfmhkpiaaGreatDoor
open Go.RowKit

theorem cycL_all (f : Nat → Nat) (N : Nat) : (cycL f N (fun _ => true) N).length = cFst f N N := by
  unfold cycL cFst
  rw [List.length_map]
  rw [List.filter_congr fun x _ => sel_true f N x]
theorem graphL_roots (F : Nat → Nat) (n : Nat) : (graphL F n).length = rootsN F n := by
  rw [graphL_length]
  unfold roots rootsN
  rw [List.countP_eq_length_filter]
/-- The genus, as the reference reckons it. -/
theorem genC_ref (vss : List (List Vis)) (s : List Int) : genC vss s = (2 * ((graphL (ufLab (mAll s vss vss.length) (4 * s.length)) s.length).length : Int) + (s.length : Nat) - ((cycL (ff (mAll s vss vss.length)) (4 * s.length) (fun _ => true) (4 * s.length)).length : Nat)).tdiv 2 := by
  unfold genC genM
  rw [cycL_all, graphL_roots, nRoots_rootsN _ (ufAt_below _ _)]
  rfl

set_option maxHeartbeats 3200000 in
set_option maxRecDepth 100000 in
theorem rgenus_any (C S : Option Addr) (nc cc ns cs : Nat) (lp : Int) (vss : List (List Vis)) (s : List Int) (w : World) (hC : RVV w C nc vss) (hS : RI w S ns s) (hv : gvalB vss s lp = true) :
    Calls Tryz.prog 26 #[dval C nc cc S ns cs lp] w fun e w' => e = .returned (.int .i64 (genC vss s)) ∧ Below w.heap.size w w' := by
  obtain ⟨⟨l1, l2, l3⟩, v2, v3⟩ := gval_out hv
  have hls := hS.1
  obtain ⟨p1, _, p2⟩ := (visB_iff _ _).1 v3
  have hlf := len_flat p1
  have hin := visB_inR v3
  have hcl := hC.1
  have hrl : ∀ j, (vss.getD j []).length ≤ 1000 := fun j => by have := row_flat (vss := vss) j; omega
  have hmm := mateL_mates s v3
  have hpm := (mAll_invol s v3).perm 3
  rw [hls] at hin hmm hpm
  have HG := genC_ref vss s
  rw [hls] at HG
  have hg1 := graphL_length (ufLab (mAll s vss vss.length) (4 * ns)) ns
  have hg2 := roots_length (ufLab (mAll s vss vss.length) (4 * ns)) ns
  have hf1 := cycL_length (ff (mAll s vss vss.length)) (4 * ns) (fun _ => true) (4 * ns)
  have CD : ∀ W : World, Below w.heap.size w W → Hid (Calls Tryz.prog 28 #[dval C nc cc S ns cs lp] W (RDPost vss s lp ns W)) := fun W hb => rdiagram_any C S nc cc ns cs lp vss s W (hC.keep hb) (hS.keep hb) (by omega) (by omega) hin hrl
  have CF : ∀ (R : Option Addr) (W : World), RI W R (4 * ns) (mateL s vss) → Hid (Calls Tryz.prog 39 #[.slice R (4 * ns) (4 * ns)] W (CycsPost W (cycL (ff (mAll s vss vss.length)) (4 * ns) (fun _ => true) (4 * ns)))) := fun R W h => rfaces_any R (4 * ns) (4 * ns) (mateL s vss) _ W h hmm hpm (by omega)
  have CG : ∀ (R : Option Addr) (W : World), RI W R (4 * ns) (mateL s vss) → Hid (Calls Tryz.prog 53 #[.slice R (4 * ns) (4 * ns)] W (CycsPost W (graphL (ufLab (mAll s vss vss.length) (4 * ns)) ns))) := fun R W h => rgraph_any R (4 * ns) (4 * ns) ns (mateL s vss) _ W h hmm rfl (by omega)
  rw [hg1] at HG
  generalize hxf : cycL (ff (mAll s vss vss.length)) (4 * ns) (fun _ => true) (4 * ns) = xf at *
  generalize hxg : graphL (ufLab (mAll s vss vss.length) (4 * ns)) ns = xg at *
  rw [← hg1] at HG hg2
  obtain ⟨fN, hfN⟩ : ∃ k, xf.length = k := ⟨_, rfl⟩
  obtain ⟨gN, hgN⟩ : ∃ k, xg.length = k := ⟨_, rfl⟩
  rw [hfN, hgN] at HG
  rw [hfN] at hf1
  rw [hgN] at hg2
  rw [HG]
  have HFN := Lib.hid hfN
  have HGN := Lib.hid hgN
  have u1 : IntKind.i64.wrap (2 * (gN : Int)) = 2 * (gN : Int) := IntWalk.i64_in _ (by omega)
  have u2 : IntKind.i64.wrap (2 * (gN : Int) + (ns : Int)) = 2 * (gN : Int) + (ns : Int) := IntWalk.i64_in _ (by omega)
  have u3 : IntKind.i64.wrap (2 * (gN : Int) + (ns : Int) - (fN : Int)) = 2 * (gN : Int) + (ns : Int) - (fN : Int) := IntWalk.i64_in _ (by omega)
  have hta : ((2 * (gN : Int) + (ns : Int) - (fN : Int)).tdiv 2).natAbs = (2 * (gN : Int) + (ns : Int) - (fN : Int)).natAbs / 2 := Int.natAbs_tdiv _ 2
  have u4 : IntKind.i64.wrap ((2 * (gN : Int) + (ns : Int) - (fN : Int)).tdiv 2) = (2 * (gN : Int) + (ns : Int) - (fN : Int)).tdiv 2 := IntWalk.i64_in _ (by omega)
  have hb0 := below_alloc w (.cells #[.slice C nc cc, .slice S ns cs, .int .i64 lp] 36)
  obtain ⟨d0, d1, d2, dlt⟩ := DB.newT w C nc cc S ns cs lp 36
  clear hta hxf hxg hg1 HG hfN hgN hv v2 v3 p1 p2 hlf hin hrl hmm hpm hC hS hls hcl l1 l2 l3
  go_enter Tryz.func26, Tryz.ntmps26
  go_upto_region 2 with (go_at_call 28; ((with_reducible refine (CD _ hb0).out.mono ?_); rintro e w1 ⟨P, pc, R, rfl, hP1, hR1, hb1⟩; have hb1' := below_step hb1 (below_alloc w1 (dbox P ns pc R (4 * ns) (4 * ns) lp)); have hb01 := below_step hb0 hb1'; have hR1' := hR1.alloc (dbox P ns pc R (4 * ns) (4 * ns) lp); have HX := DB.new w1 P ns pc R (4 * ns) (4 * ns) lp))
  obtain ⟨x0, x1, x2, xlt⟩ := HX
  obtain ⟨gX, hgX⟩ : ∃ gX, w1.heap.size = gX := ⟨_, rfl⟩
  rw [hgX] at x0 x1 x2 xlt ⊢
  generalize w1.alloc (dbox P ns pc R (4 * ns) (4 * ns) lp) = wX at *
  have hbD : Below wX.heap.size wX wX.drew := (Below.refl _ _).drew
  have HRX := Lib.hid hR1'
  have HZ : Hid (∀ W, Below wX.heap.size wX W → W.cell? ⟨gX, 0, none⟩ = some (.slice P ns pc) ∧ W.cell? ⟨gX, 1, none⟩ = some (.slice R (4 * ns) (4 * ns))) := fun W hb => ⟨(hb.cell (p := ⟨gX, 0, none⟩) xlt).trans x0, (hb.cell (p := ⟨gX, 1, none⟩) xlt).trans x1⟩
  clear hgX hP1 hR1 hR1' hb1 hb1' d0 d1 d2 dlt CD hb0
  go_region_held3 (fun w' => w'.cell? ⟨gX, 0, none⟩ = some (.slice P ns pc) ∧ w'.cell? ⟨gX, 1, none⟩ = some (.slice R (4 * ns) (4 * ns)))
    (first
      | with_reducible exact HZ.out _ zzB
      | with_reducible exact HZ.out _ zzA
      | with_reducible exact HZ.out _ hbD
      | go_keep)
    (first
      | (go_at_call 53; ((with_reducible refine (CG _ _ (HRX.out.keep zzA)).out.mono ?_); rintro e w3 ⟨v3, rfl, ho3, hb3⟩; obtain ⟨A3, c3, rfl⟩ := ho3.form; rw [HGN.out]; have zzB := below_step zzA hb3))
      | (go_at_call 39; ((with_reducible refine (CF _ _ (HRX.out.keep zzA)).out.mono ?_); rintro e w3 ⟨v3, rfl, ho3, hb3⟩; obtain ⟨A3, c3, rfl⟩ := ho3.form; rw [HFN.out]; have zzB := below_step zzA hb3))
      | (go_at_call 53; ((with_reducible refine (CG _ _ (HRX.out.keep hbD)).out.mono ?_); rintro e w2 ⟨v2, rfl, ho2, hb2⟩; obtain ⟨A2, c2, rfl⟩ := ho2.form; rw [HGN.out]; have zzA := below_step hbD hb2))
      | (go_at_call 39; ((with_reducible refine (CF _ _ (HRX.out.keep hbD)).out.mono ?_); rintro e w2 ⟨v2, rfl, ho2, hb2⟩; obtain ⟨A2, c2, rfl⟩ := ho2.form; rw [HFN.out]; have zzA := below_step hbD hb2)))
  all_goals
    go_wp2
    go_ret
    exact ⟨rfl, below_step hb01 zzB⟩

end Go.Proofs.YtdacjnmfmhkpiaaGreatDoor
