import Derived.Test.YtdamfoobnbjojaaM09
import Derived.Test.YtdamfoobnbjojaaM04
import Derived.Test.YtdamfoobnbjojaaM05
import Derived.Test.YtdamfoobnbjojaaM08
/- Plain mathematics: a strand that has been reversed is reversed back. -/
namespace Go.Proofs.Ytdamfoobnbjojaa
open Go.RowKit

section
variable {s m s1 m1 : List Int} {n : Nat} {lp : Int}
theorem unK_iff (L : Nat → Nat) (k c : Nat) : unK L k c = true ↔ ∃ i, i < k ∧ L i / 4 = c ∧ L i % 4 = 2 := by
  unfold unK; simp [List.any_eq_true]
theorem ovK_iff (L : Nat → Nat) (k c : Nat) : ovK L k c = true ↔ ∃ i, i < k ∧ L i / 4 = c ∧ L i % 4 ≠ 2 := by
  unfold ovK; simp [List.any_eq_true]
/-- The strand that begins at h. -/
theorem sd_of (D : Std s m n) {h : Nat} (hh : h < 4 * n) (ho : outB s h = true) : Sd s m n (Orb (fs (matesOf m)) h) (unK (fun k => it (fs (matesOf m)) k h) (per (fs (matesOf m)) (4 * n) h)) (ovK (fun k => it (fs (matesOf m)) k h) (per (fs (matesOf m)) (4 * n) h)) := by
  have co : ClosedN (fs (matesOf m)) (4 * n) (outB s) := fun x hx e => by rw [D.outf hx]; exact e
  refine ⟨fun y hy => ?_, fun y hy => ⟨fun o => o.trans ⟨1, rfl⟩, fun o => o.trans (D.perm.orb_symm hy ⟨1, rfl⟩)⟩, fun c => ?_, fun c => ?_⟩
  · obtain ⟨i, rfl⟩ := hy
    exact ⟨D.perm.it_lt hh i, co.it D.perm hh ho i⟩
  · rw [unK_iff]
    constructor
    · rintro ⟨i, _, h1, h2⟩; exact ⟨_, ⟨i, rfl⟩, h1, h2⟩
    · rintro ⟨y, hy, h1, h2⟩
      obtain ⟨i, hi, e⟩ := D.perm.orb_lt hh hy
      exact ⟨i, hi, by rw [e]; exact h1, by rw [e]; exact h2⟩
  · rw [ovK_iff]
    constructor
    · rintro ⟨i, _, h1, h2⟩; exact ⟨_, ⟨i, rfl⟩, h1, h2⟩
    · rintro ⟨y, hy, h1, h2⟩
      obtain ⟨i, hi, e⟩ := D.perm.orb_lt hh hy
      exact ⟨i, hi, by rw [e]; exact h1, by rw [e]; exact h2⟩
theorem back_it (D : Std s m n) {b : Nat} (hb : b < 4 * n) : ∀ i, it (fs (matesOf m)) i (matesOf m (it (fs (matesOf m)) i b)) = matesOf m b
  | 0 => rfl
  | i + 1 => by
    have h1 := D.perm.it_lt hb i
    have e1 : it (fs (matesOf m)) (i + 1) (matesOf m (it (fs (matesOf m)) (i + 1) b)) = it (fs (matesOf m)) i (fs (matesOf m) (matesOf m (it (fs (matesOf m)) (i + 1) b))) := it_add _ i 1 _
    have e2 : it (fs (matesOf m)) (i + 1) b = fs (matesOf m) (it (fs (matesOf m)) i b) := rfl
    have e3 : ∀ y, y < 4 * n → fs (matesOf m) (matesOf m (fs (matesOf m) y)) = matesOf m y := fun y hy => by
      unfold fs
      rw [D.inv.inv _ (trn_lt (D.inv.lt _ hy)), trn22]
    rw [e1, e2, e3 _ h1]
    exact back_it D hb i
theorem back_orb (D : Std s m n) {a b : Nat} (hb : b < 4 * n) (o : Orb (fs (matesOf m)) b a) : Orb (fs (matesOf m)) (matesOf m a) (matesOf m b) := by
  obtain ⟨i, rfl⟩ := o
  exact ⟨i, back_it D hb i⟩
variable {U V : Nat → Bool}
theorem rvT_lt {x : Nat} (hx : x < 4 * n) : rvT U x < 4 * n := (rot_perm _ n).lt x hx
theorem rvT_rvT (x : Nat) : rvT U (rvT U x) = x := by
  unfold rvT rot
  rw [trn_div]
  show trn (trn x (if U (x / 4) = true then 2 else 0)) (if U (x / 4) = true then 2 else 0) = x
  unfold trn; split <;> omega
theorem rvT_step (M : Moved (rvT U) (rvP U V) n s m s1 m1) {x : Nat} (hx : x < 4 * n) : fs (matesOf m1) (rvT U x) = rvT U (fs (matesOf m) x) := by
  unfold fs
  rw [M.at hx]
  exact (rot_trn _ _ _).symm
theorem rvT_it (D : Std s m n) (M : Moved (rvT U) (rvP U V) n s m s1 m1) {x : Nat} (hx : x < 4 * n) : ∀ i, it (fs (matesOf m1)) i (rvT U x) = rvT U (it (fs (matesOf m)) i x)
  | 0 => rfl
  | i + 1 => by
    show fs (matesOf m1) (it (fs (matesOf m1)) i (rvT U x)) = rvT U (fs (matesOf m) (it (fs (matesOf m)) i x))
    rw [rvT_it D M hx i, rvT_step M (D.perm.it_lt hx i)]
theorem rvT_orb (D : Std s m n) (M : Moved (rvT U) (rvP U V) n s m s1 m1) {a x : Nat} (ha : a < 4 * n) (hx : x < 4 * n) : Orb (fs (matesOf m1)) (rvT U a) (rvT U x) ↔ Orb (fs (matesOf m)) a x := by
  constructor
  · rintro ⟨i, e⟩
    rw [rvT_it D M ha] at e
    exact ⟨i, (rot_perm _ n).inj _ _ (D.perm.it_lt ha i) hx e⟩
  · rintro ⟨i, rfl⟩
    exact ⟨i, rvT_it D M ha i⟩

/-- Some strand of the result leads back. -/
theorem rev_back {h : Nat} (hv : validB s m lp = true) (hn : s.length = n) (hv1 : validB s1 m1 lp = true) (hh : h < 4 * n) (ho : outB s h = true)
    (hS : Sd s m n (Orb (fs (matesOf m)) h) U V) (M : Moved (rvT U) (rvP U V) n s m s1 m1) :
    ∃ r, r ∈ reprs (fs (matesOf m1)) (4 * n) (outB s1) ∧ ∀ s2 m2, Moved (rvT (unK (fun k => it (fs (matesOf m1)) k r) (per (fs (matesOf m1)) (4 * n) r))) (rvP (unK (fun k => it (fs (matesOf m1)) k r) (per (fs (matesOf m1)) (4 * n) r)) (ovK (fun k => it (fs (matesOf m1)) k r) (per (fs (matesOf m1)) (4 * n) r))) n s1 m1 s2 m2 → s2 = s ∧ m2 = m := by
  have D := std_of hv hn
  have D1 := std_of hv1 M.ls
  have hmh := D.inv.lt h hh
  have hy0 : rvT U (matesOf m h) < 4 * n := rvT_lt hmh
  have hEh : onE U V h = true := (hS.on D hh ho).2 (Orb.refl _ _)
  have ho1 : outB s1 (rvT U (matesOf m h)) = true := by
    rw [rv_out D M hmh, D.io h hh, ho, hS.mate D hh, hEh]; rfl
  obtain ⟨r, hr, or⟩ := reprs_ex D1.perm hy0 ho1
  obtain ⟨r1, r2⟩ := reprs_mem.1 hr
  have hro : outB s1 r = true := ((D1.perm.sel_iff _ r1).1 r2).1
  have hS' := sd_of D1 r1 hro
  refine ⟨r, hr, fun s2 m2 M' => ?_⟩
  generalize unK (fun k => it (fs (matesOf m1)) k r) (per (fs (matesOf m1)) (4 * n) r) = U' at hS' M' ⊢
  generalize ovK (fun k => it (fs (matesOf m1)) k r) (per (fs (matesOf m1)) (4 * n) r) = V' at hS' M' ⊢
  -- the members of the strand
  have mem : ∀ x, x < 4 * n → (Orb (fs (matesOf m1)) r (rvT U x) ↔ Orb (fs (matesOf m)) h (matesOf m x)) := fun x hx => by
    have h1 : Orb (fs (matesOf m1)) r (rvT U x) ↔ Orb (fs (matesOf m1)) (rvT U (matesOf m h)) (rvT U x) := ⟨fun o => (D1.perm.orb_symm r1 or).trans o, fun o => or.trans o⟩
    rw [h1, rvT_orb D M hmh hx]
    constructor
    · intro o
      have := back_orb D hmh o
      rw [D.inv.inv h hh] at this
      exact D.perm.orb_symm (D.inv.lt x hx) this
    · intro o
      have := back_orb D hh o
      rw [D.inv.inv x hx] at this
      exact D.perm.orb_symm hx this
  have onOut : ∀ x, x < 4 * n → outB s1 (rvT U x) = true → onE U' V' (rvT U x) = onE U V x := fun x hx hox => by
    rw [Bool.eq_iff_iff, hS'.on D1 (rvT_lt hx) hox, mem x hx]
    have hmx := D.inv.lt x hx
    rw [rv_out D M hx] at hox
    constructor
    · intro o
      have h1 := (hS.out _ o).2
      rw [← hS.mate D hx]
      exact (hS.on D hmx h1).2 o
    · intro e
      rw [e] at hox
      have h1 : outB s (matesOf m x) = true := by rw [D.io x hx]; cases hq : outB s x <;> simp [hq] at hox ⊢
      rw [← hS.mate D hx] at e
      exact (hS.on D hmx h1).1 e
  have on : ∀ x, x < 4 * n → onE U' V' (rvT U x) = onE U V x := fun x hx => by
    cases hox : outB s1 (rvT U x) with
    | true => exact onOut x hx hox
    | false =>
      have h1 := hS'.mate D1 (rvT_lt (U := U) hx)
      rw [M.at hx] at h1
      have h2 : outB s1 (rvT U (matesOf m x)) = true := by rw [← M.at hx, D1.io _ (rvT_lt hx), hox]; rfl
      rw [← h1, onOut _ (D.inv.lt x hx) h2, hS.mate D hx]
  have eU : ∀ c, c < n → U' c = U c := fun c hc => by
    have h1 := on (rvT U (4 * c)) (rvT_lt (by omega))
    rw [rvT_rvT] at h1
    have d : rvT U (4 * c) / 4 = c := by have := rot_div (fun c => if U c = true then 2 else 0) (4 * c); unfold rvT; rw [this]; omega
    have e : rvT U (4 * c) % 2 = 0 := by
      show trn (4 * c) (if U (4 * c / 4) = true then 2 else 0) % 2 = 0
      unfold trn; split <;> omega
    unfold onE at h1
    rw [if_pos (by omega), if_pos e, d, show 4 * c / 4 = c by omega] at h1
    exact h1
  have eV : ∀ c, c < n → V' c = V c := fun c hc => by
    have h1 := on (rvT U (4 * c + 1)) (rvT_lt (by omega))
    rw [rvT_rvT] at h1
    have d : rvT U (4 * c + 1) / 4 = c := by have := rot_div (fun c => if U c = true then 2 else 0) (4 * c + 1); unfold rvT; rw [this]; omega
    have e : rvT U (4 * c + 1) % 2 = 1 := by
      show trn (4 * c + 1) (if U ((4 * c + 1) / 4) = true then 2 else 0) % 2 = 1
      unfold trn; split <;> omega
    unfold onE at h1
    rw [if_neg (by omega), if_neg (by omega), d, show (4 * c + 1) / 4 = c by omega] at h1
    exact h1
  have hp := (validB_out hv).2.2.1
  refine (M.comp M' (rot_place _ _)).uniq (Moved.self hn D.hm hp) ⟨⟨fun x hx => rvT_lt (rvT_lt hx), fun x y hx hy e => (rot_perm _ n).inj _ _ hx hy ((rot_perm _ n).inj _ _ (rvT_lt hx) (rvT_lt hy) e)⟩, fun x => by
    show rvT U' (rvT U x) / 4 = x / 4
    unfold rvT; rw [rot_div, rot_div]⟩ (mates_lt D.hm hp) (fun x hx => ?_) (fun c hc => ?_)
  · have e1 : rvT U' (rvT U x) = rvT U (rvT U x) := by
      have hq : rvT U x / 4 < n := by have := rvT_lt (U := U) hx; omega
      show trn (rvT U x) (if U' (rvT U x / 4) = true then 2 else 0) = trn (rvT U x) (if U (rvT U x / 4) = true then 2 else 0)
      rw [eU _ hq]
    exact e1.trans (rvT_rvT x)
  · show xor (rvP U V c) (rvP U' V' c) = false
    unfold rvP
    rw [eU c hc, eV c hc]
    cases U c <;> cases V c <;> rfl
end

end Go.Proofs.Ytdamfoobnbjojaa

/- Walk: Strands. -/
namespace Go.Proofs.Ytdamfoobnbjojaa
open Go.RowKit

theorem next59 (A B : Option Addr) (ns cs nm cm gd : Nat) (lp : Int) (mate : List Int) (m : Nat → Nat) (w : World) (hd : DB w gd A ns cs B nm cm lp) (hm : RI w B nm mate) (hmm : Mates mate nm m) (hnm : nm ≤ 256) :
    Next w 74 gd (fs m) nm := fun W x hW hx => by
  have hb0 := hd.keep hW
  obtain ⟨d0, d1, d2, dlt⟩ := hb0
  have C := Lib.hid (nextstrand_nat A B ns cs nm cm lp mate m x W (hm.keep hW) hx hmm hnm _ rfl)
  clear hd hm hmm hW
  go_enter Try.func74, Try.ntmps74
  go_wp2_with (go_at_call 75; ((with_reducible refine C.out.mono ?_); rintro e w1 ⟨rfl, hb1⟩))
  go_ret
  exact ⟨rfl, hb1⟩
theorem asks58 (A B : Option Addr) (ns cs nm cm gd : Nat) (lp : Int) (signs : List Int) (w : World) (hd : DB w gd A ns cs B nm cm lp) (hs : RI w A ns signs) (hnm : nm = 4 * ns) (hns : ns ≤ 64) :
    Asks w 72 #[.pointer (some ⟨gd, 0, none⟩)] (outB signs) nm := fun W x hW hx => by
  show Calls Try.prog 72 #[.int .i64 (x : Nat), .pointer (some ⟨gd, 0, none⟩)] W _
  have hb0 := hd.keep hW
  obtain ⟨d0, d1, d2, dlt⟩ := hb0
  have C := Lib.hid (outgoing_any A B ns cs nm cm lp signs x W (hs.keep hW) (by omega) (by omega))
  clear hd hs hW hnm
  go_enter Try.func72, Try.ntmps72
  go_wp2_with (go_at_call 73; ((with_reducible refine C.out.mono ?_); rintro e w1 ⟨rfl, hb1⟩))
  go_ret
  exact ⟨rfl, hb1⟩


set_option maxHeartbeats 1600000 in
theorem strands_any (A B : Option Addr) (ns cs nm cm : Nat) (lp : Int) (signs mate : List Int) (w : World) (h : DV w A ns B nm signs mate) :
    Calls Try.prog 36 #[dval A ns cs B nm cm lp] w (CycsPost w (strandsM signs mate lp)) := by
  have hd := DB.new w A ns cs B nm cm lp
  obtain ⟨d0, d1, d2, dlt⟩ := hd
  have hb0 := below_alloc w (dbox A ns cs B nm cm lp)
  have hls := h.hs.1
  have hlm := h.hm.1
  cases hv : validB signs mate lp with
  | false =>
    have e : strandsM signs mate lp = [] := by simp [strandsM, hv]
    rw [e]
    have CV := Lib.hid ((h.keep hb0).valid cs cm lp false hv)
    clear e hv hls hlm
    go_enter Try.func36, Try.ntmps36
    go_wp2_with (go_at_call 29; ((with_reducible refine CV.out.mono ?_); rintro e w1 ⟨rfl, hb1⟩))
    go_ret
    exact ⟨_, rfl, OO.nil _ _, below_step hb0 hb1⟩
  | true =>
    have e : strandsM signs mate lp = cycL (fs (matesOf mate)) nm (outB signs) nm := by simp [strandsM, hv, hlm]
    rw [e]
    have CV := Lib.hid ((h.keep hb0).valid cs cm lp true hv)
    obtain ⟨v1, v2, v3, v4⟩ := validB_out hv
    rw [hls, hlm] at v1
    obtain ⟨l1, l2, l3, l4⟩ := limB_out v1
    have HM := Lib.hid (matesOf_mates v3 hlm)
    have HI := Lib.hid (matesOf_invol v3 hlm)
    have HL := Lib.hid l2
    have HD := Lib.hid (DB.new w A ns cs B nm cm lp)
    have CCf : ∀ w1 : World, Below (w.alloc (dbox A ns cs B nm cm lp)).heap.size (w.alloc (dbox A ns cs B nm cm lp)) w1 →
        Hid (Calls Try.prog 67 #[.int .i64 (nm : Nat), .func (.func 72) #[] #[.pointer (some ⟨w.heap.size, 0, none⟩)], .func (.func 74) #[] #[.pointer (some ⟨w.heap.size, 0, none⟩)]] w1 (CycsPost w1 (cycL (fs (matesOf mate)) nm (outB signs) nm))) := fun w1 hb1 =>
      cycles_any 74 72 w.heap.size nm #[.pointer (some ⟨w.heap.size, 0, none⟩)] (fs (matesOf mate)) (outB signs) w1 enters59 enters58
        (next59 A B ns cs nm cm w.heap.size lp mate (matesOf mate) w1 (HD.out.keep hb1) (h.hm.keep (below_step hb0 hb1)) HM.out (by have := HL.out; omega)) (asks58 A B ns cs nm cm w.heap.size lp signs w1 (HD.out.keep hb1) (h.hs.keep (below_step hb0 hb1)) HL.out l1) (by have := HI.out; rw [HL.out] at this ⊢; exact this.perm 2) (by have := HL.out; omega)
    clear e hv hls hlm v1 v2 v3 v4 l2
    go_enter Try.func36, Try.ntmps36
    have hmf : ∀ (fn : Fn) (first cap : Array Value) (w : World), (Instr.makeFunc fn first cap).run Try.prog w = .ok (.func fn first cap) w := fun _ _ _ _ => rfl
    go_wp2_with (first
      | (go_at_call 29; ((with_reducible refine CV.out.mono ?_); rintro e w1 ⟨rfl, hb1⟩; have d0' := (hb1.cell (p := ⟨w.heap.size, 0, none⟩) dlt).trans d0; have d1' := (hb1.cell (p := ⟨w.heap.size, 1, none⟩) dlt).trans d1; have d2' := (hb1.cell (p := ⟨w.heap.size, 2, none⟩) dlt).trans d2))
      | (go_at_call 67; ((with_reducible refine (CCf _ hb1).out.mono ?_); rintro e w2 ⟨v, rfl, hov, hb2⟩)))
    go_ret
    have hb01 := below_step hb0 hb1
    exact ⟨_, rfl, hov.mono hb01.size, below_step hb01 hb2⟩

end Go.Proofs.Ytdamfoobnbjojaa

/- Walk: ReverseOne, for a component that the diagram has. -/
namespace Go.Proofs.Ytdamfoobnbjojaa
open Go.RowKit

/-- What reversal moves and negates along strand k. -/
def roH (s m : List Int) (k : Nat) : Nat := (reprs (fs (matesOf m)) m.length (outB s)).getD k 0
def roU (s m : List Int) (k : Nat) : Nat → Bool := unK (fun i => it (fs (matesOf m)) i (roH s m k)) (per (fs (matesOf m)) m.length (roH s m k))
def roV (s m : List Int) (k : Nat) : Nat → Bool := ovK (fun i => it (fs (matesOf m)) i (roH s m k)) (per (fs (matesOf m)) m.length (roH s m k))
/-- The reversal of component k has been carried out. -/
def RoYes (w : World) (ns nm : Nat) (lp : Int) (s m : List Int) (k : Nat) (e : Ending) (w' : World) : Prop :=
  ∃ A cs B cm s' m', e = .returned (.tuple #[dval A ns cs B nm cm lp, .int .i64 0]) ∧ OI w' w.heap.size (.slice A ns cs) s' ∧ OI w' w.heap.size (.slice B nm cm) m' ∧
    (k < (strandsM s m lp).length → Moved (rvT (roU s m k)) (rvP (roU s m k) (roV s m k)) ns s m s' m') ∧ ((strandsM s m lp).length ≤ k → s' = s ∧ m' = m) ∧ Below w.heap.size w w'
theorem unK_congr {L L' : Nat → Nat} {k : Nat} (h : ∀ i, i < k → L i = L' i) (c : Nat) : unK L k c = unK L' k c := by
  rw [Bool.eq_iff_iff, unK_iff, unK_iff]
  constructor <;> rintro ⟨i, hi, h1, h2⟩ <;> exact ⟨i, hi, by rw [← h1]; simp only [h i hi], by rw [← h2]; simp only [h i hi]⟩
theorem ro_strand {s m : List Int} {lp : Int} {ns : Nat} (hv : validB s m lp = true) (_hn : s.length = ns) {k : Nat} (hk : k < (strandsM s m lp).length) :
    roH s m k ∈ reprs (fs (matesOf m)) m.length (outB s) ∧ (strandsM s m lp).getD k [] = itl (fs (matesOf m)) (roH s m k) (per (fs (matesOf m)) m.length (roH s m k)) := by
  have e1 : strandsM s m lp = cycL (fs (matesOf m)) m.length (outB s) m.length := by unfold strandsM; rw [if_pos hv]
  rw [e1] at hk ⊢
  exact cycL_get _ _ _ hk
theorem ro_per {s m : List Int} {lp : Int} {ns : Nat} (hv : validB s m lp = true) (hn : s.length = ns) {k : Nat} (hk : k < (strandsM s m lp).length) : per (fs (matesOf m)) m.length (roH s m k) ≤ 256 := by
  have D := std_of hv hn
  obtain ⟨h1, _⟩ := ro_strand hv hn hk
  obtain ⟨h2, _⟩ := reprs_mem.1 h1
  have := validB_out hv
  have hl := (limB_out this.1)
  have : per (fs (matesOf m)) m.length (roH s m k) ≤ m.length := by rw [D.hm] at h2 ⊢; exact (D.perm.per_spec h2).2.1
  omega

set_option maxHeartbeats 3200000 in
set_option maxRecDepth 100000 in
theorem ro_strands (A B : Option Addr) (ns cs nm cm : Nat) (lp : Int) (s m : List Int) (k : Nat) (w : World) (h : DV w A ns B nm s m) (hv : validB s m lp = true) (hk : k < (strandsM s m lp).length) :
    Calls Try.prog 22 #[dval A ns cs B nm cm lp, .int .i64 (k : Nat)] w (RoYes w ns nm lp s m k) := by
  have hb1 := below_alloc w (dbox A ns cs B nm cm lp)
  have hb2 := below_alloc (w.alloc (dbox A ns cs B nm cm lp)) (.cells #[.slice none 0 0, .slice none 0 0, .int .i64 0] 24)
  have hd := (DB.new w A ns cs B nm cm lp).keep hb2
  have hbx := bx0_new (w.alloc (dbox A ns cs B nm cm lp))
  have hb := below_step hb1 hb2
  have hsz : (w.alloc (dbox A ns cs B nm cm lp)).heap.size = w.heap.size + 1 := by simp
  rw [hsz] at hbx
  have hsz2 : ((w.alloc (dbox A ns cs B nm cm lp)).alloc (.cells #[.slice none 0 0, .slice none 0 0, .int .i64 0] 24)).heap.size = w.heap.size + 2 := by simp
  obtain ⟨v1, v2, v3, v4⟩ := validB_out hv
  rw [h.hs.1, h.hm.1] at v1
  obtain ⟨l1, l2, l3, l4⟩ := limB_out v1
  have hsl := strandsM_le (signs := s) (mate := m) (lp := lp)
  rw [h.hm.1] at hsl
  have HH := Lib.hid h
  have HV := Lib.hid hv
  have HK := Lib.hid hk
  have CS : ∀ W : World, Below w.heap.size w W → Hid (Calls Try.prog 36 #[dval A ns cs B nm cm lp] W (CycsPost W (strandsM s m lp))) := fun W hb =>
    Lib.hid (strands_any A B ns cs nm cm lp s m W (HH.out.keep hb))
  have HR := Lib.hid (ro_strand hv h.hs.1 hk)
  have HP := Lib.hid (ro_per hv h.hs.1 hk)
  obtain ⟨xss, hxss⟩ : ∃ xss, strandsM s m lp = xss := ⟨_, rfl⟩
  have HX := Lib.hid hxss
  rw [hxss] at hk hsl CS
  have hwr : IntKind.i64.wrap ((xss.length : Int) + lp) = (xss.length : Int) + lp := IntWalk.i64_in _ (by omega)
  have k0 : (0 : Int) ≤ (k : Int) := Int.natCast_nonneg _
  have kx : (k : Int) < (xss.length : Int) := by omega
  have kl : (k : Int) < (xss.length : Int) + lp := by omega
  have x1 : (xss.length : Int) ≤ 1000 := by omega
  clear hb1 hb2 h hv hsz v1 v2 v3 v4 l1 l2 l3 hxss hsl
  unfold dbox at hd hbx hb hsz2
  go_enter Try.func22, Try.ntmps22
  go_upto_region 1 with fail
  generalize (w.alloc (.cells #[.slice A ns cs, .slice B nm cm, .int .i64 lp] 24)).alloc (.cells #[.slice none 0 0, .slice none 0 0, .int .i64 0] 24) = w0 at hd hbx hb hsz2 ⊢
  obtain ⟨gd, hgd⟩ : ∃ gd, w.heap.size = gd := ⟨_, rfl⟩
  obtain ⟨gr, hgr⟩ : ∃ gr, gd + 1 = gr := ⟨_, rfl⟩
  rw [hgd] at hd hsz2 hbx ⊢
  rw [hgr] at hbx ⊢
  have HBX := Lib.hid hbx
  have HB := Lib.hid hb
  have HLT : Hid (gd < gr ∧ gr < w0.heap.size ∧ w.heap.size = gd) := Lib.hid ⟨by omega, by omega, hgd⟩
  obtain ⟨d0, d1, d2, dlt⟩ := hd
  have CV := Lib.hid ((HH.out.keep hb).valid cs cm lp true HV.out)
  clear hb hbx hgr hgd hsz2
  go_upto_region 4 with (first
    | (go_at_call 29; ((with_reducible refine CV.out.mono ?_); rintro e w1 ⟨rfl, hb1⟩; have x0 := (hb1.cell (p := ⟨gd, 0, none⟩) dlt).trans d0; have x1 := (hb1.cell (p := ⟨gd, 1, none⟩) dlt).trans d1; have x2 := (hb1.cell (p := ⟨gd, 2, none⟩) dlt).trans d2))
    | (go_at_call 36; ((with_reducible refine (CS _ (below_step HB.out hb1)).out.mono ?_); rintro e w2 ⟨v, rfl, hov, hb2⟩; obtain ⟨Av, cv, rfl⟩ := hov.form)))
  have hb12 := below_step hb1 hb2
  have y0 := (hb12.cell (p := ⟨gd, 0, none⟩) dlt).trans d0
  have y1 := (hb12.cell (p := ⟨gd, 1, none⟩) dlt).trans d1
  have y2 := (hb12.cell (p := ⟨gd, 2, none⟩) dlt).trans d2
  have ylt : gd < w2.heap.size := Nat.lt_of_lt_of_le dlt hb12.size
  obtain ⟨_, ga, A', n', c', rfl, ga1, ga2, cE, oE⟩ := hov.el k hk
  have flen : n' = (xss.getD k []).length := (OI.ri oE).1.symm
  have HBW := Lib.hid (below_step HB.out hb12)
  have HE := Lib.hid oE
  have HN : Hid (n' = per (fs (matesOf m)) m.length (roH s m k) ∧ ∀ i, i < n' → (xss.getD k []).getD i 0 = (it (fs (matesOf m)) i (roH s m k) : Int) ∧ it (fs (matesOf m)) i (roH s m k) < nm) := Lib.hid (by
    obtain ⟨r1, r2⟩ := HR.out
    rw [HX.out] at r2
    have D := std_of HV.out HH.out.hs.1
    have hlm := HH.out.hm.1
    obtain ⟨r3, _⟩ := reprs_mem.1 r1
    have e : n' = per (fs (matesOf m)) m.length (roH s m k) := by rw [flen, r2, itl_length]
    refine ⟨e, fun i hi => ?_⟩
    rw [r2, itl_getD _ _ _ _ (by omega)]
    refine ⟨rfl, ?_⟩
    have h9 := D.hm
    have := D.perm.it_lt (show roH s m k < 4 * ns by rw [← h9]; exact r3) i
    omega)
  have CA : ∀ W, Below w2.heap.size w2 W → Hid (Calls Try.prog 54 #[dval A ns cs B nm cm lp, .slice A' n' c'] W (MvPost W ns nm lp (fpK (rvP (roU s m k) (roV s m k)) s ns) (mvK (rvT (roU s m k)) m nm))) := fun W hW => Lib.hid (by
    obtain ⟨n1, n2⟩ := HN.out
    have hwW := below_step HBW.out hW
    have := along_any A B A' ns cs nm cm n' c' lp s m (xss.getD k []) (fun i => it (fs (matesOf m)) i (roH s m k)) W (HH.out.keep hwW).hs (HH.out.keep hwW).hm ((OI.ri HE.out).keep hW) HV.out n2 (by rw [n1]; exact HP.out)
    rw [n1] at this ⊢
    exact this)
  clear hov oE flen
  have hbD : Below w2.heap.size w2 w2.drew := (Below.refl _ _).drew
  have hsD : w2.drew.heap.size = w2.heap.size := rfl
  have cED : w2.drew.cell? ⟨ga, k, none⟩ = some (.slice A' n' c') := cE
  have z0 : w2.drew.cell? ⟨gd, 0, none⟩ = some (.slice A ns cs) := y0
  have z1 : w2.drew.cell? ⟨gd, 1, none⟩ = some (.slice B nm cm) := y1
  have z2 : w2.drew.cell? ⟨gd, 2, none⟩ = some (.int .i64 lp) := y2
  have HB12 := Lib.hid hb12
  have HFI : Hid (MvPost w2.drew ns nm lp (fpK (rvP (roU s m k) (roV s m k)) s ns) (mvK (rvT (roU s m k)) m nm) = MvPost w2.drew ns nm lp (fpK (rvP (roU s m k) (roV s m k)) s ns) (mvK (rvT (roU s m k)) m nm)) := Lib.hid rfl
  clear HFI x0 x1 x2 hb1 hb2 hb12
  go_upto_region 8 with fail
  have CD := CA w2.drew hbD
  clear CA
  go_region_with ((go_at_call 54; ((with_reducible refine CD.out.mono ?_); rintro e w3 ⟨A1, c1, B1, m1, rfl, oS, oM, hb3⟩; have hr := HBX.out.kp (below_step HB12.out (below_step hbD hb3)); have r0 := hr.1.1; have r1 := hr.1.2.1; have r2 := hr.1.2.2.1; have f0 := hr.2 0; have f1 := hr.2 1; have f2 := hr.2 2)))
  all_goals
    obtain ⟨k0, k1, k2⟩ := set3_cells w3 gr (.slice A1 ns c1) (.slice B1 nm m1) (.int .i64 lp) r0 r1 r2
    have HF : Hid (RoYes w ns nm lp s m k (.returned (.tuple #[dval A1 ns c1 B1 nm m1 lp, .int .i64 0])) (set3 w3 gr (.slice A1 ns c1) (.slice B1 nm m1) (.int .i64 lp))) := Lib.hid (by
      have hg := HLT.out
      have h0 := HB.out.size
      have h1 := HB12.out.size
      rw [hsD] at oS oM
      have hlm := HH.out.hm.1
      have D := std_of HV.out HH.out.hs.1
      have hnm : nm = 4 * ns := by rw [← hlm, D.hm]
      have hM : Moved (rvT (roU s m k)) (rvP (roU s m k) (roV s m k)) ns s m (fpK (rvP (roU s m k) (roV s m k)) s ns) (mvK (rvT (roU s m k)) m nm) := by
        rw [hnm]; exact moved_of _ _ HH.out.hs.1 D.hm (rot_place _ _)
      exact ⟨_, _, _, _, _, _, rfl, (oS.set3 (fun e => by have := World.ownsRow.lt oS _ e; omega) _ _ _).mono (by omega), (oM.set3 (fun e => by have := World.ownsRow.lt oM _ e; omega) _ _ _).mono (by omega), fun _ => hM, fun hh => absurd HK.out (by omega), set3_below (below_step HB.out (below_step HB12.out (below_step hbD hb3))) (by omega) _ _ _⟩)
    go_wp2
    exact bodyPost_ret (v := .tuple #[dval A1 ns c1 B1 nm m1 lp, .int .i64 0]) (by simp [results, Try.results22, go_sem, k0, k1, k2]) rfl HF.out

set_option maxHeartbeats 3200000 in
set_option maxRecDepth 100000 in
theorem ro_loops (A B : Option Addr) (ns cs nm cm : Nat) (lp : Int) (s m : List Int) (k : Nat) (w : World) (h : DV w A ns B nm s m) (hv : validB s m lp = true) (hk : (strandsM s m lp).length ≤ k) (hkl : (k : Int) < ((strandsM s m lp).length : Int) + lp) :
    Calls Try.prog 22 #[dval A ns cs B nm cm lp, .int .i64 (k : Nat)] w (RoYes w ns nm lp s m k) := by
  have hb1 := below_alloc w (dbox A ns cs B nm cm lp)
  have hb2 := below_alloc (w.alloc (dbox A ns cs B nm cm lp)) (.cells #[.slice none 0 0, .slice none 0 0, .int .i64 0] 24)
  have hd := (DB.new w A ns cs B nm cm lp).keep hb2
  have hbx := bx0_new (w.alloc (dbox A ns cs B nm cm lp))
  have hb := below_step hb1 hb2
  have hsz : (w.alloc (dbox A ns cs B nm cm lp)).heap.size = w.heap.size + 1 := by simp
  rw [hsz] at hbx
  have hsz2 : ((w.alloc (dbox A ns cs B nm cm lp)).alloc (.cells #[.slice none 0 0, .slice none 0 0, .int .i64 0] 24)).heap.size = w.heap.size + 2 := by simp
  obtain ⟨v1, v2, v3, v4⟩ := validB_out hv
  rw [h.hs.1, h.hm.1] at v1
  obtain ⟨l1, l2, l3, l4⟩ := limB_out v1
  have hsl := strandsM_le (signs := s) (mate := m) (lp := lp)
  rw [h.hm.1] at hsl
  have HH := Lib.hid h
  have HV := Lib.hid hv
  have HK := Lib.hid hk
  have CS : ∀ W : World, Below w.heap.size w W → Hid (Calls Try.prog 36 #[dval A ns cs B nm cm lp] W (CycsPost W (strandsM s m lp))) := fun W hb =>
    Lib.hid (strands_any A B ns cs nm cm lp s m W (HH.out.keep hb))
  have CL : ∀ W : World, Below w.heap.size w W → Hid (Calls Try.prog 53 #[dval A ns cs B nm cm lp] W (ClonePost W ns nm lp s m)) := fun W hb =>
    Lib.hid (clone_any A B ns cs nm cm lp s m W (HH.out.keep hb).hs (HH.out.keep hb).hm (by omega) (by omega))
  obtain ⟨xss, hxss⟩ : ∃ xss, strandsM s m lp = xss := ⟨_, rfl⟩
  have HX := Lib.hid hxss
  rw [hxss] at hk hkl hsl CS
  have hwr : IntKind.i64.wrap ((xss.length : Int) + lp) = (xss.length : Int) + lp := IntWalk.i64_in _ (by omega)
  have k0 : (0 : Int) ≤ (k : Int) := Int.natCast_nonneg _
  have kx : (xss.length : Int) ≤ (k : Int) := by omega
  have x1 : (xss.length : Int) ≤ 1000 := by omega
  clear hb1 hb2 h hv hsz v1 v2 v3 v4 l1 l2 l3 hxss hsl
  unfold dbox at hd hbx hb hsz2
  go_enter Try.func22, Try.ntmps22
  go_upto_region 1 with fail
  generalize (w.alloc (.cells #[.slice A ns cs, .slice B nm cm, .int .i64 lp] 24)).alloc (.cells #[.slice none 0 0, .slice none 0 0, .int .i64 0] 24) = w0 at hd hbx hb hsz2 ⊢
  obtain ⟨gd, hgd⟩ : ∃ gd, w.heap.size = gd := ⟨_, rfl⟩
  obtain ⟨gr, hgr⟩ : ∃ gr, gd + 1 = gr := ⟨_, rfl⟩
  rw [hgd] at hd hsz2 hbx ⊢
  rw [hgr] at hbx ⊢
  have HBX := Lib.hid hbx
  have HB := Lib.hid hb
  have HLT : Hid (gd < gr ∧ gr < w0.heap.size ∧ w.heap.size = gd) := Lib.hid ⟨by omega, by omega, hgd⟩
  obtain ⟨d0, d1, d2, dlt⟩ := hd
  have CV := Lib.hid ((HH.out.keep hb).valid cs cm lp true HV.out)
  clear hb hbx hgr hgd hsz2
  go_upto_region 4 with (first
    | (go_at_call 29; ((with_reducible refine CV.out.mono ?_); rintro e w1 ⟨rfl, hb1⟩; have x0 := (hb1.cell (p := ⟨gd, 0, none⟩) dlt).trans d0; have x1 := (hb1.cell (p := ⟨gd, 1, none⟩) dlt).trans d1; have x2 := (hb1.cell (p := ⟨gd, 2, none⟩) dlt).trans d2))
    | (go_at_call 36; ((with_reducible refine (CS _ (below_step HB.out hb1)).out.mono ?_); rintro e w2 ⟨v, rfl, hov, hb2⟩; obtain ⟨Av, cv, rfl⟩ := hov.form)))
  have hb12 := below_step hb1 hb2
  have y0 := (hb12.cell (p := ⟨gd, 0, none⟩) dlt).trans d0
  have y1 := (hb12.cell (p := ⟨gd, 1, none⟩) dlt).trans d1
  have y2 := (hb12.cell (p := ⟨gd, 2, none⟩) dlt).trans d2
  have ylt : gd < w2.heap.size := Nat.lt_of_lt_of_le dlt hb12.size
  have CW := CL w2 (below_step HB.out hb12)
  have HB12 := Lib.hid hb12
  clear hov CL x0 x1 x2 hb1 hb2 hb12
  go_wp2_with (go_at_call 53; ((with_reducible refine CW.out.mono ?_); rintro e w3 ⟨A1, c1, B1, m1, rfl, oS, oM, _, hb3⟩; have hr := HBX.out.kp (below_step HB12.out hb3); have r0 := hr.1.1; have r1 := hr.1.2.1; have r2 := hr.1.2.2.1; have f0 := hr.2 0; have f1 := hr.2 1; have f2 := hr.2 2))
  obtain ⟨k0, k1, k2⟩ := set3_cells w3 gr (.slice A1 ns c1) (.slice B1 nm m1) (.int .i64 lp) r0 r1 r2
  have HF : Hid (RoYes w ns nm lp s m k (.returned (.tuple #[dval A1 ns c1 B1 nm m1 lp, .int .i64 0])) (set3 w3 gr (.slice A1 ns c1) (.slice B1 nm m1) (.int .i64 lp))) := Lib.hid (by
    have hg := HLT.out
    have h0 := HB.out.size
    have h1 := HB12.out.size
    exact ⟨_, _, _, _, _, _, rfl, (oS.set3 (fun e => by have := World.ownsRow.lt oS _ e; omega) _ _ _).mono (by omega), (oM.set3 (fun e => by have := World.ownsRow.lt oM _ e; omega) _ _ _).mono (by omega), fun hh => absurd HK.out (by omega), fun _ => ⟨rfl, rfl⟩, set3_below (below_step HB.out (below_step HB12.out hb3)) (by omega) _ _ _⟩)
  exact bodyPost_ret (v := .tuple #[dval A1 ns c1 B1 nm m1 lp, .int .i64 0]) (by simp [results, Try.results22, go_sem, k0, k1, k2]) rfl HF.out
theorem ro_any (A B : Option Addr) (ns cs nm cm : Nat) (lp : Int) (s m : List Int) (k : Nat) (w : World) (h : DV w A ns B nm s m) (hv : validB s m lp = true) (hk : (k : Int) < ((strandsM s m lp).length : Int) + lp) :
    Calls Try.prog 22 #[dval A ns cs B nm cm lp, .int .i64 (k : Nat)] w (RoYes w ns nm lp s m k) := by
  rcases Nat.lt_or_ge k (strandsM s m lp).length with h1 | h1
  · exact ro_strands A B ns cs nm cm lp s m k w h hv h1
  · exact ro_loops A B ns cs nm cm lp s m k w h hv h1 hk

end Go.Proofs.Ytdamfoobnbjojaa

/- Walk: operate, whatever its second argument is. -/
namespace Go.Proofs.Ytdamfoobnbjojaa
open Go.RowKit

set_option maxHeartbeats 3200000 in
set_option maxRecDepth 100000 in
theorem operG0 (A B : Option Addr) (ns cs nm cm : Nat) (lp : Int) (s m : List Int) (op k : Nat) (hop : op % 5 = 0) (ho : op ≤ 255) (w : World) (h : DV w A ns B nm s m) (hv : validB s m lp = true) (_hk : k ≤ 255) :
    Calls Try.prog 30 #[dval A ns cs B nm cm lp, .int .i64 (op : Nat), .int .i64 (k : Nat)] w (OpeYes w ns nm lp s m 0 (k % ns)) := by
  have hb1 := below_alloc w (dbox A ns cs B nm cm lp)
  have hb2 := below_alloc (w.alloc (dbox A ns cs B nm cm lp)) (.cells #[.slice none 0 0, .slice none 0 0, .int .i64 0] 24)
  have hd := (DB.new w A ns cs B nm cm lp).keep hb2
  have hdf : ∀ i, ((w.alloc (dbox A ns cs B nm cm lp)).alloc (.cells #[.slice none 0 0, .slice none 0 0, .int .i64 0] 24)).frozen? ⟨w.heap.size, i, none⟩ = false := fun i => (hb2.frozen (p := ⟨w.heap.size, i, none⟩) (by simp)).trans (World.frozen?_alloc_at _ _ _ _ rfl)
  have hbx := bx0_new (w.alloc (dbox A ns cs B nm cm lp))
  have hb := below_step hb1 hb2
  have hsz : (w.alloc (dbox A ns cs B nm cm lp)).heap.size = w.heap.size + 1 := by simp
  rw [hsz] at hbx
  have hsz2 : ((w.alloc (dbox A ns cs B nm cm lp)).alloc (.cells #[.slice none 0 0, .slice none 0 0, .int .i64 0] 24)).heap.size = w.heap.size + 2 := by simp
  have HH := Lib.hid h
  have HV := Lib.hid hv
  have HL := Lib.hid (And.intro h.hs.1 h.hm.1)
  obtain ⟨hnm, hns, _⟩ := valid_data hv h.hs.1 h.hm.1
  have HNM := Lib.hid hnm
  clear hb1 hb2 h hv hsz hnm
  unfold dbox at hd hdf hbx hb hsz2
  have o0 : (0 : Int) ≤ (op : Int) := Int.natCast_nonneg _
  have o1 : (op : Int) ≤ 255 := by omega
  have t5 : (op : Int).tmod 5 = 0 := by rw [Int.tmod_eq_emod_of_nonneg o0]; omega
  have t5' : (op : Int) % 5 = 0 := by omega
  clear hop ho
  go_enter Try.func30, Try.ntmps30
  go_upto_region 1 with fail
  generalize (w.alloc (.cells #[.slice A ns cs, .slice B nm cm, .int .i64 lp] 24)).alloc (.cells #[.slice none 0 0, .slice none 0 0, .int .i64 0] 24) = w0 at hd hdf hbx hb hsz2 ⊢
  obtain ⟨gd, hgd⟩ : ∃ gd, w.heap.size = gd := ⟨_, rfl⟩
  obtain ⟨gr, hgr⟩ : ∃ gr, gd + 1 = gr := ⟨_, rfl⟩
  rw [hgd] at hd hdf hsz2 hbx ⊢
  rw [hgr] at hbx ⊢
  have HBX := Lib.hid hbx
  have HB := Lib.hid hb
  have HDF := Lib.hid hdf
  have HLT : Hid (gd < gr ∧ gr < w0.heap.size ∧ w.heap.size = gd) := Lib.hid ⟨by omega, by omega, hgd⟩
  obtain ⟨d0, d1, d2, dlt⟩ := hd
  have hne : gd ≠ gr := by omega
  clear hb hbx hgr hgd hsz2 hdf
  have CM := Lib.hid (mirror_yes A B ns cs nm cm lp s m w0 (HH.out.keep HB.out) HV.out)
  go_wp2_with (go_at_call 13; ((with_reducible refine CM.out.mono ?_); rintro e w1 ⟨A1, c1, B1, m1, s1, l1, rfl, oS, oM, hM, hb1⟩; have r0 := (hb1.cell (p := ⟨gd, 0, none⟩) dlt).trans d0; have r1 := (hb1.cell (p := ⟨gd, 1, none⟩) dlt).trans d1; have r2 := (hb1.cell (p := ⟨gd, 2, none⟩) dlt).trans d2; have f0 := (hb1.frozen (p := ⟨gd, 0, none⟩) dlt).trans (HDF.out 0); have f1 := (hb1.frozen (p := ⟨gd, 1, none⟩) dlt).trans (HDF.out 1); have f2 := (hb1.frozen (p := ⟨gd, 2, none⟩) dlt).trans (HDF.out 2); obtain ⟨k0, k1, k2⟩ := set3_cells w1 gd (.slice A1 ns c1) (.slice B1 nm m1) (.int .i64 lp) r0 r1 r2; have hr := HBX.out.kp hb1; have x0 := (set3_far w1 gd (.slice A1 ns c1) (.slice B1 nm m1) (.int .i64 lp) hne 0).trans hr.1.1; have x1 := (set3_far w1 gd (.slice A1 ns c1) (.slice B1 nm m1) (.int .i64 lp) hne 1).trans hr.1.2.1; have x2 := (set3_far w1 gd (.slice A1 ns c1) (.slice B1 nm m1) (.int .i64 lp) hne 2).trans hr.1.2.2.1; have y0 := hr.2 0; have y1 := hr.2 1; have y2 := hr.2 2))
  obtain ⟨q0, q1, q2⟩ := set3_cells (set3 w1 gd (.slice A1 ns c1) (.slice B1 nm m1) (.int .i64 lp)) gr (.slice A1 ns c1) (.slice B1 nm m1) (.int .i64 lp) x0 x1 x2
  have HF : Hid (OpeYes w ns nm lp s m 0 (k % ns) (.returned (.tuple #[dval A1 ns c1 B1 nm m1 lp, .bool true])) (set3 (set3 w1 gd (.slice A1 ns c1) (.slice B1 nm m1) (.int .i64 lp)) gr (.slice A1 ns c1) (.slice B1 nm m1) (.int .i64 lp))) := Lib.hid (by
    have hg := HLT.out
    have h0 := HB.out.size
    have hM2 : Moved (opT 0 (k % ns) s) (opP 0 (k % ns)) ns s m s1 l1 := by rw [opT_irr 0 (k % ns) 0 (by omega) s, opP_irr 0 (k % ns) 0 (by omega)]; exact hM
    have n1 : ∀ g, g < w0.heap.size → (Value.slice A1 ns c1).ownBlock ≠ some g := fun g hg e => by have := (World.ownsRow.lt oS g e).1; omega
    have n2 : ∀ g, g < w0.heap.size → (Value.slice B1 nm m1).ownBlock ≠ some g := fun g hg e => by have := (World.ownsRow.lt oM g e).1; omega
    exact ⟨A1, c1, B1, m1, s1, l1, rfl, ((oS.set3 (n1 _ (by omega)) _ _ _).set3 (n1 _ (by omega)) _ _ _).ri, ((oM.set3 (n2 _ (by omega)) _ _ _).set3 (n2 _ (by omega)) _ _ _).ri, fun b o hn e => by have := oS.frs b o hn e; omega, fun b o hn e => by have := oM.frs b o hn e; omega, hM2,
      set3_below (set3_below (below_step HB.out hb1) (by omega) _ _ _) (by omega) _ _ _⟩)
  exact bodyPost_ret (v := .tuple #[dval A1 ns c1 B1 nm m1 lp, .bool true]) (by simp [results, Try.results30, go_sem, q0, q1, q2]) rfl HF.out

set_option maxHeartbeats 3200000 in
set_option maxRecDepth 100000 in
theorem operG1 (A B : Option Addr) (ns cs nm cm : Nat) (lp : Int) (s m : List Int) (op k : Nat) (hop : op % 5 = 1) (ho : op ≤ 255) (w : World) (h : DV w A ns B nm s m) (hv : validB s m lp = true) (_hk : k ≤ 255) :
    Calls Try.prog 30 #[dval A ns cs B nm cm lp, .int .i64 (op : Nat), .int .i64 (k : Nat)] w (OpeYes w ns nm lp s m 1 (k % ns)) := by
  have hb1 := below_alloc w (dbox A ns cs B nm cm lp)
  have hb2 := below_alloc (w.alloc (dbox A ns cs B nm cm lp)) (.cells #[.slice none 0 0, .slice none 0 0, .int .i64 0] 24)
  have hd := (DB.new w A ns cs B nm cm lp).keep hb2
  have hdf : ∀ i, ((w.alloc (dbox A ns cs B nm cm lp)).alloc (.cells #[.slice none 0 0, .slice none 0 0, .int .i64 0] 24)).frozen? ⟨w.heap.size, i, none⟩ = false := fun i => (hb2.frozen (p := ⟨w.heap.size, i, none⟩) (by simp)).trans (World.frozen?_alloc_at _ _ _ _ rfl)
  have hbx := bx0_new (w.alloc (dbox A ns cs B nm cm lp))
  have hb := below_step hb1 hb2
  have hsz : (w.alloc (dbox A ns cs B nm cm lp)).heap.size = w.heap.size + 1 := by simp
  rw [hsz] at hbx
  have hsz2 : ((w.alloc (dbox A ns cs B nm cm lp)).alloc (.cells #[.slice none 0 0, .slice none 0 0, .int .i64 0] 24)).heap.size = w.heap.size + 2 := by simp
  have HH := Lib.hid h
  have HV := Lib.hid hv
  have HL := Lib.hid (And.intro h.hs.1 h.hm.1)
  obtain ⟨hnm, hns, _⟩ := valid_data hv h.hs.1 h.hm.1
  have HNM := Lib.hid hnm
  clear hb1 hb2 h hv hsz hnm
  unfold dbox at hd hdf hbx hb hsz2
  have o0 : (0 : Int) ≤ (op : Int) := Int.natCast_nonneg _
  have o1 : (op : Int) ≤ 255 := by omega
  have t5 : (op : Int).tmod 5 = 1 := by rw [Int.tmod_eq_emod_of_nonneg o0]; omega
  have t5' : (op : Int) % 5 = 1 := by omega
  clear hop ho
  go_enter Try.func30, Try.ntmps30
  go_upto_region 1 with fail
  generalize (w.alloc (.cells #[.slice A ns cs, .slice B nm cm, .int .i64 lp] 24)).alloc (.cells #[.slice none 0 0, .slice none 0 0, .int .i64 0] 24) = w0 at hd hdf hbx hb hsz2 ⊢
  obtain ⟨gd, hgd⟩ : ∃ gd, w.heap.size = gd := ⟨_, rfl⟩
  obtain ⟨gr, hgr⟩ : ∃ gr, gd + 1 = gr := ⟨_, rfl⟩
  rw [hgd] at hd hdf hsz2 hbx ⊢
  rw [hgr] at hbx ⊢
  have HBX := Lib.hid hbx
  have HB := Lib.hid hb
  have HDF := Lib.hid hdf
  have HLT : Hid (gd < gr ∧ gr < w0.heap.size ∧ w.heap.size = gd) := Lib.hid ⟨by omega, by omega, hgd⟩
  obtain ⟨d0, d1, d2, dlt⟩ := hd
  have hne : gd ≠ gr := by omega
  clear hb hbx hgr hgd hsz2 hdf
  have CM := Lib.hid (reflect_yes A B ns cs nm cm lp s m w0 (HH.out.keep HB.out) HV.out)
  go_wp2_with (go_at_call 14; ((with_reducible refine CM.out.mono ?_); rintro e w1 ⟨A1, c1, B1, m1, s1, l1, rfl, oS, oM, hM, hb1⟩; have r0 := (hb1.cell (p := ⟨gd, 0, none⟩) dlt).trans d0; have r1 := (hb1.cell (p := ⟨gd, 1, none⟩) dlt).trans d1; have r2 := (hb1.cell (p := ⟨gd, 2, none⟩) dlt).trans d2; have f0 := (hb1.frozen (p := ⟨gd, 0, none⟩) dlt).trans (HDF.out 0); have f1 := (hb1.frozen (p := ⟨gd, 1, none⟩) dlt).trans (HDF.out 1); have f2 := (hb1.frozen (p := ⟨gd, 2, none⟩) dlt).trans (HDF.out 2); obtain ⟨k0, k1, k2⟩ := set3_cells w1 gd (.slice A1 ns c1) (.slice B1 nm m1) (.int .i64 lp) r0 r1 r2; have hr := HBX.out.kp hb1; have x0 := (set3_far w1 gd (.slice A1 ns c1) (.slice B1 nm m1) (.int .i64 lp) hne 0).trans hr.1.1; have x1 := (set3_far w1 gd (.slice A1 ns c1) (.slice B1 nm m1) (.int .i64 lp) hne 1).trans hr.1.2.1; have x2 := (set3_far w1 gd (.slice A1 ns c1) (.slice B1 nm m1) (.int .i64 lp) hne 2).trans hr.1.2.2.1; have y0 := hr.2 0; have y1 := hr.2 1; have y2 := hr.2 2))
  obtain ⟨q0, q1, q2⟩ := set3_cells (set3 w1 gd (.slice A1 ns c1) (.slice B1 nm m1) (.int .i64 lp)) gr (.slice A1 ns c1) (.slice B1 nm m1) (.int .i64 lp) x0 x1 x2
  have HF : Hid (OpeYes w ns nm lp s m 1 (k % ns) (.returned (.tuple #[dval A1 ns c1 B1 nm m1 lp, .bool true])) (set3 (set3 w1 gd (.slice A1 ns c1) (.slice B1 nm m1) (.int .i64 lp)) gr (.slice A1 ns c1) (.slice B1 nm m1) (.int .i64 lp))) := Lib.hid (by
    have hg := HLT.out
    have h0 := HB.out.size
    have hM2 : Moved (opT 1 (k % ns) s) (opP 1 (k % ns)) ns s m s1 l1 := by rw [opT_irr 1 (k % ns) 0 (by omega) s, opP_irr 1 (k % ns) 0 (by omega)]; exact hM
    have n1 : ∀ g, g < w0.heap.size → (Value.slice A1 ns c1).ownBlock ≠ some g := fun g hg e => by have := (World.ownsRow.lt oS g e).1; omega
    have n2 : ∀ g, g < w0.heap.size → (Value.slice B1 nm m1).ownBlock ≠ some g := fun g hg e => by have := (World.ownsRow.lt oM g e).1; omega
    exact ⟨A1, c1, B1, m1, s1, l1, rfl, ((oS.set3 (n1 _ (by omega)) _ _ _).set3 (n1 _ (by omega)) _ _ _).ri, ((oM.set3 (n2 _ (by omega)) _ _ _).set3 (n2 _ (by omega)) _ _ _).ri, fun b o hn e => by have := oS.frs b o hn e; omega, fun b o hn e => by have := oM.frs b o hn e; omega, hM2,
      set3_below (set3_below (below_step HB.out hb1) (by omega) _ _ _) (by omega) _ _ _⟩)
  exact bodyPost_ret (v := .tuple #[dval A1 ns c1 B1 nm m1 lp, .bool true]) (by simp [results, Try.results30, go_sem, q0, q1, q2]) rfl HF.out

set_option maxHeartbeats 3200000 in
set_option maxRecDepth 100000 in
theorem operG2 (A B : Option Addr) (ns cs nm cm : Nat) (lp : Int) (s m : List Int) (op k : Nat) (hop : op % 5 = 2) (ho : op ≤ 255) (w : World) (h : DV w A ns B nm s m) (hv : validB s m lp = true) (_hk : k ≤ 255) :
    Calls Try.prog 30 #[dval A ns cs B nm cm lp, .int .i64 (op : Nat), .int .i64 (k : Nat)] w (OpeYes w ns nm lp s m 2 (k % ns)) := by
  have hb1 := below_alloc w (dbox A ns cs B nm cm lp)
  have hb2 := below_alloc (w.alloc (dbox A ns cs B nm cm lp)) (.cells #[.slice none 0 0, .slice none 0 0, .int .i64 0] 24)
  have hd := (DB.new w A ns cs B nm cm lp).keep hb2
  have hdf : ∀ i, ((w.alloc (dbox A ns cs B nm cm lp)).alloc (.cells #[.slice none 0 0, .slice none 0 0, .int .i64 0] 24)).frozen? ⟨w.heap.size, i, none⟩ = false := fun i => (hb2.frozen (p := ⟨w.heap.size, i, none⟩) (by simp)).trans (World.frozen?_alloc_at _ _ _ _ rfl)
  have hbx := bx0_new (w.alloc (dbox A ns cs B nm cm lp))
  have hb := below_step hb1 hb2
  have hsz : (w.alloc (dbox A ns cs B nm cm lp)).heap.size = w.heap.size + 1 := by simp
  rw [hsz] at hbx
  have hsz2 : ((w.alloc (dbox A ns cs B nm cm lp)).alloc (.cells #[.slice none 0 0, .slice none 0 0, .int .i64 0] 24)).heap.size = w.heap.size + 2 := by simp
  have HH := Lib.hid h
  have HV := Lib.hid hv
  have HL := Lib.hid (And.intro h.hs.1 h.hm.1)
  obtain ⟨hnm, hns, _⟩ := valid_data hv h.hs.1 h.hm.1
  have HNM := Lib.hid hnm
  clear hb1 hb2 h hv hsz hnm
  unfold dbox at hd hdf hbx hb hsz2
  have o0 : (0 : Int) ≤ (op : Int) := Int.natCast_nonneg _
  have o1 : (op : Int) ≤ 255 := by omega
  have t5 : (op : Int).tmod 5 = 2 := by rw [Int.tmod_eq_emod_of_nonneg o0]; omega
  have t5' : (op : Int) % 5 = 2 := by omega
  clear hop ho
  go_enter Try.func30, Try.ntmps30
  go_upto_region 1 with fail
  generalize (w.alloc (.cells #[.slice A ns cs, .slice B nm cm, .int .i64 lp] 24)).alloc (.cells #[.slice none 0 0, .slice none 0 0, .int .i64 0] 24) = w0 at hd hdf hbx hb hsz2 ⊢
  obtain ⟨gd, hgd⟩ : ∃ gd, w.heap.size = gd := ⟨_, rfl⟩
  obtain ⟨gr, hgr⟩ : ∃ gr, gd + 1 = gr := ⟨_, rfl⟩
  rw [hgd] at hd hdf hsz2 hbx ⊢
  rw [hgr] at hbx ⊢
  have HBX := Lib.hid hbx
  have HB := Lib.hid hb
  have HDF := Lib.hid hdf
  have HLT : Hid (gd < gr ∧ gr < w0.heap.size ∧ w.heap.size = gd) := Lib.hid ⟨by omega, by omega, hgd⟩
  obtain ⟨d0, d1, d2, dlt⟩ := hd
  have hne : gd ≠ gr := by omega
  clear hb hbx hgr hgd hsz2 hdf
  have CM := Lib.hid (reverse_yes A B ns cs nm cm lp s m w0 (HH.out.keep HB.out) HV.out)
  go_wp2_with (go_at_call 15; ((with_reducible refine CM.out.mono ?_); rintro e w1 ⟨A1, c1, B1, m1, s1, l1, rfl, oS, oM, hM, hb1⟩; have r0 := (hb1.cell (p := ⟨gd, 0, none⟩) dlt).trans d0; have r1 := (hb1.cell (p := ⟨gd, 1, none⟩) dlt).trans d1; have r2 := (hb1.cell (p := ⟨gd, 2, none⟩) dlt).trans d2; have f0 := (hb1.frozen (p := ⟨gd, 0, none⟩) dlt).trans (HDF.out 0); have f1 := (hb1.frozen (p := ⟨gd, 1, none⟩) dlt).trans (HDF.out 1); have f2 := (hb1.frozen (p := ⟨gd, 2, none⟩) dlt).trans (HDF.out 2); obtain ⟨k0, k1, k2⟩ := set3_cells w1 gd (.slice A1 ns c1) (.slice B1 nm m1) (.int .i64 lp) r0 r1 r2; have hr := HBX.out.kp hb1; have x0 := (set3_far w1 gd (.slice A1 ns c1) (.slice B1 nm m1) (.int .i64 lp) hne 0).trans hr.1.1; have x1 := (set3_far w1 gd (.slice A1 ns c1) (.slice B1 nm m1) (.int .i64 lp) hne 1).trans hr.1.2.1; have x2 := (set3_far w1 gd (.slice A1 ns c1) (.slice B1 nm m1) (.int .i64 lp) hne 2).trans hr.1.2.2.1; have y0 := hr.2 0; have y1 := hr.2 1; have y2 := hr.2 2))
  obtain ⟨q0, q1, q2⟩ := set3_cells (set3 w1 gd (.slice A1 ns c1) (.slice B1 nm m1) (.int .i64 lp)) gr (.slice A1 ns c1) (.slice B1 nm m1) (.int .i64 lp) x0 x1 x2
  have HF : Hid (OpeYes w ns nm lp s m 2 (k % ns) (.returned (.tuple #[dval A1 ns c1 B1 nm m1 lp, .bool true])) (set3 (set3 w1 gd (.slice A1 ns c1) (.slice B1 nm m1) (.int .i64 lp)) gr (.slice A1 ns c1) (.slice B1 nm m1) (.int .i64 lp))) := Lib.hid (by
    have hg := HLT.out
    have h0 := HB.out.size
    have hM2 : Moved (opT 2 (k % ns) s) (opP 2 (k % ns)) ns s m s1 l1 := by rw [opT_irr 2 (k % ns) 0 (by omega) s, opP_irr 2 (k % ns) 0 (by omega)]; exact hM
    have n1 : ∀ g, g < w0.heap.size → (Value.slice A1 ns c1).ownBlock ≠ some g := fun g hg e => by have := (World.ownsRow.lt oS g e).1; omega
    have n2 : ∀ g, g < w0.heap.size → (Value.slice B1 nm m1).ownBlock ≠ some g := fun g hg e => by have := (World.ownsRow.lt oM g e).1; omega
    exact ⟨A1, c1, B1, m1, s1, l1, rfl, ((oS.set3 (n1 _ (by omega)) _ _ _).set3 (n1 _ (by omega)) _ _ _).ri, ((oM.set3 (n2 _ (by omega)) _ _ _).set3 (n2 _ (by omega)) _ _ _).ri, fun b o hn e => by have := oS.frs b o hn e; omega, fun b o hn e => by have := oM.frs b o hn e; omega, hM2,
      set3_below (set3_below (below_step HB.out hb1) (by omega) _ _ _) (by omega) _ _ _⟩)
  exact bodyPost_ret (v := .tuple #[dval A1 ns c1 B1 nm m1 lp, .bool true]) (by simp [results, Try.results30, go_sem, q0, q1, q2]) rfl HF.out

set_option maxHeartbeats 3200000 in
set_option maxRecDepth 100000 in
theorem operG3z (A B : Option Addr) (cs nm cm : Nat) (lp : Int) (s m : List Int) (op k : Nat) (hop : op % 5 = 3) (ho : op ≤ 255) (w : World) (h : DV w A 0 B nm s m) (hv : validB s m lp = true) (_hk : k ≤ 255) :
    Calls Try.prog 30 #[dval A 0 cs B nm cm lp, .int .i64 (op : Nat), .int .i64 (k : Nat)] w (OpeYes w 0 nm lp s m 3 (k % 0)) := by
  have hb1 := below_alloc w (dbox A 0 cs B nm cm lp)
  have hb2 := below_alloc (w.alloc (dbox A 0 cs B nm cm lp)) (.cells #[.slice none 0 0, .slice none 0 0, .int .i64 0] 24)
  have hd := (DB.new w A 0 cs B nm cm lp).keep hb2
  have hdf : ∀ i, ((w.alloc (dbox A 0 cs B nm cm lp)).alloc (.cells #[.slice none 0 0, .slice none 0 0, .int .i64 0] 24)).frozen? ⟨w.heap.size, i, none⟩ = false := fun i => (hb2.frozen (p := ⟨w.heap.size, i, none⟩) (by simp)).trans (World.frozen?_alloc_at _ _ _ _ rfl)
  have hbx := bx0_new (w.alloc (dbox A 0 cs B nm cm lp))
  have hb := below_step hb1 hb2
  have hsz : (w.alloc (dbox A 0 cs B nm cm lp)).heap.size = w.heap.size + 1 := by simp
  rw [hsz] at hbx
  have hsz2 : ((w.alloc (dbox A 0 cs B nm cm lp)).alloc (.cells #[.slice none 0 0, .slice none 0 0, .int .i64 0] 24)).heap.size = w.heap.size + 2 := by simp
  have HH := Lib.hid h
  have HV := Lib.hid hv
  have HL := Lib.hid (And.intro h.hs.1 h.hm.1)
  obtain ⟨hnm, hns, _⟩ := valid_data hv h.hs.1 h.hm.1
  have HNM := Lib.hid hnm
  clear hb1 hb2 h hv hsz hnm
  unfold dbox at hd hdf hbx hb hsz2
  have o0 : (0 : Int) ≤ (op : Int) := Int.natCast_nonneg _
  have o1 : (op : Int) ≤ 255 := by omega
  have t5 : (op : Int).tmod 5 = 3 := by rw [Int.tmod_eq_emod_of_nonneg o0]; omega
  have t5' : (op : Int) % 5 = 3 := by omega
  clear hop ho
  go_enter Try.func30, Try.ntmps30
  go_upto_region 1 with fail
  generalize (w.alloc (.cells #[.slice A 0 cs, .slice B nm cm, .int .i64 lp] 24)).alloc (.cells #[.slice none 0 0, .slice none 0 0, .int .i64 0] 24) = w0 at hd hdf hbx hb hsz2 ⊢
  obtain ⟨gd, hgd⟩ : ∃ gd, w.heap.size = gd := ⟨_, rfl⟩
  obtain ⟨gr, hgr⟩ : ∃ gr, gd + 1 = gr := ⟨_, rfl⟩
  rw [hgd] at hd hdf hsz2 hbx ⊢
  rw [hgr] at hbx ⊢
  have HBX := Lib.hid hbx
  have HB := Lib.hid hb
  have HDF := Lib.hid hdf
  have HLT : Hid (gd < gr ∧ gr < w0.heap.size ∧ w.heap.size = gd) := Lib.hid ⟨by omega, by omega, hgd⟩
  obtain ⟨d0, d1, d2, dlt⟩ := hd
  have hne : gd ≠ gr := by omega
  clear hb hbx hgr hgd hsz2 hdf
  have hr := HBX.out
  obtain ⟨q0, q1, q2⟩ := set3_cells w0 gr (.slice A 0 cs) (.slice B nm cm) (.int .i64 lp) hr.1.1 hr.1.2.1 hr.1.2.2.1
  have x0 := hr.1.1
  have x1 := hr.1.2.1
  have x2 := hr.1.2.2.1
  have y0 := hr.2 0
  have y1 := hr.2 1
  have y2 := hr.2 2
  have HF : Hid (OpeYes w 0 nm lp s m 3 (k % 0) (.returned (.tuple #[dval A 0 cs B nm cm lp, .bool true])) (set3 w0 gr (.slice A 0 cs) (.slice B nm cm) (.int .i64 lp))) := Lib.hid (by
    have hg := HLT.out
    have hnm := HNM.out
    have hl := HL.out
    have e1 : RI (set3 w0 gr (.slice A 0 cs) (.slice B nm cm) (.int .i64 lp)) A 0 s := ⟨hl.1, fun hn => absurd hn (by omega)⟩
    have e2 : RI (set3 w0 gr (.slice A 0 cs) (.slice B nm cm) (.int .i64 lp)) B nm m := ⟨hl.2, fun hn => absurd hn (by omega)⟩
    exact ⟨A, cs, B, cm, s, m, rfl, e1, e2, fun b o hn => absurd hn (by omega), fun b o hn => absurd hn (by omega), ⟨hl.1, by omega, fun c hc => absurd hc (by omega), fun x hx => absurd hx (by omega)⟩, set3_below HB.out (by omega) _ _ _⟩)
  clear hr
  go_wp2
  exact bodyPost_ret (v := .tuple #[dval A 0 cs B nm cm lp, .bool true]) (by simp [results, Try.results30, go_sem, q0, q1, q2]) rfl HF.out

set_option maxHeartbeats 3200000 in
set_option maxRecDepth 100000 in
theorem operG3p (A B : Option Addr) (ns cs nm cm : Nat) (lp : Int) (s m : List Int) (op k : Nat) (hop : op % 5 = 3) (ho : op ≤ 255) (w : World) (h : DV w A ns B nm s m) (hv : validB s m lp = true) (hk : k ≤ 255) (hz : 0 < ns) :
    Calls Try.prog 30 #[dval A ns cs B nm cm lp, .int .i64 (op : Nat), .int .i64 (k : Nat)] w (OpeYes w ns nm lp s m 3 (k % ns)) := by
  have hb1 := below_alloc w (dbox A ns cs B nm cm lp)
  have hb2 := below_alloc (w.alloc (dbox A ns cs B nm cm lp)) (.cells #[.slice none 0 0, .slice none 0 0, .int .i64 0] 24)
  have hd := (DB.new w A ns cs B nm cm lp).keep hb2
  have hdf : ∀ i, ((w.alloc (dbox A ns cs B nm cm lp)).alloc (.cells #[.slice none 0 0, .slice none 0 0, .int .i64 0] 24)).frozen? ⟨w.heap.size, i, none⟩ = false := fun i => (hb2.frozen (p := ⟨w.heap.size, i, none⟩) (by simp)).trans (World.frozen?_alloc_at _ _ _ _ rfl)
  have hbx := bx0_new (w.alloc (dbox A ns cs B nm cm lp))
  have hb := below_step hb1 hb2
  have hsz : (w.alloc (dbox A ns cs B nm cm lp)).heap.size = w.heap.size + 1 := by simp
  rw [hsz] at hbx
  have hsz2 : ((w.alloc (dbox A ns cs B nm cm lp)).alloc (.cells #[.slice none 0 0, .slice none 0 0, .int .i64 0] 24)).heap.size = w.heap.size + 2 := by simp
  have HH := Lib.hid h
  have HV := Lib.hid hv
  have HL := Lib.hid (And.intro h.hs.1 h.hm.1)
  obtain ⟨hnm, hns, _⟩ := valid_data hv h.hs.1 h.hm.1
  have HNM := Lib.hid hnm
  clear hb1 hb2 h hv hsz hnm
  unfold dbox at hd hdf hbx hb hsz2
  have o0 : (0 : Int) ≤ (op : Int) := Int.natCast_nonneg _
  have o1 : (op : Int) ≤ 255 := by omega
  have t5 : (op : Int).tmod 5 = 3 := by rw [Int.tmod_eq_emod_of_nonneg o0]; omega
  have t5' : (op : Int) % 5 = 3 := by omega
  clear hop ho
  go_enter Try.func30, Try.ntmps30
  go_upto_region 1 with fail
  generalize (w.alloc (.cells #[.slice A ns cs, .slice B nm cm, .int .i64 lp] 24)).alloc (.cells #[.slice none 0 0, .slice none 0 0, .int .i64 0] 24) = w0 at hd hdf hbx hb hsz2 ⊢
  obtain ⟨gd, hgd⟩ : ∃ gd, w.heap.size = gd := ⟨_, rfl⟩
  obtain ⟨gr, hgr⟩ : ∃ gr, gd + 1 = gr := ⟨_, rfl⟩
  rw [hgd] at hd hdf hsz2 hbx ⊢
  rw [hgr] at hbx ⊢
  have HBX := Lib.hid hbx
  have HB := Lib.hid hb
  have HDF := Lib.hid hdf
  have HLT : Hid (gd < gr ∧ gr < w0.heap.size ∧ w.heap.size = gd) := Lib.hid ⟨by omega, by omega, hgd⟩
  obtain ⟨d0, d1, d2, dlt⟩ := hd
  have hne : gd ≠ gr := by omega
  clear hb hbx hgr hgd hsz2 hdf
  have hz2 : ((ns : Int) == 0) = false := by simp only [beq_eq_false_iff_ne, ne_eq]; omega
  have hnz : (ns : Int) ≠ 0 := by omega
  have hpos : (0 : Int) < (ns : Int) := by omega
  obtain ⟨j, hj⟩ : ∃ j, k % ns = j := ⟨_, rfl⟩
  have hjn : j < ns := by rw [← hj]; exact Nat.mod_lt _ hz
  have hk0 : (0 : Int) ≤ (k : Int) := Int.natCast_nonneg _
  have hk1 : (k : Int) ≤ 255 := by omega
  have hji : (k : Int).tmod (ns : Int) = (j : Int) := by rw [Int.tmod_eq_emod_of_nonneg (by omega), ← hj]; simp
  have hji' : (k : Int) % (ns : Int) = (j : Int) := by rw [← hj]; simp
  have hw3 : IntKind.i64.wrap (j : Int) = (j : Int) := IntWalk.i64_in _ (by omega)
  have HJ := Lib.hid hj
  have CM := Lib.hid (switch_yes A B ns cs nm cm lp s m j w0.drew (HH.out.keep HB.out.drew) HV.out hjn)
  have d0d : w0.drew.cell? ⟨gd, 0, none⟩ = some (.slice A ns cs) := d0
  have d1d : w0.drew.cell? ⟨gd, 1, none⟩ = some (.slice B nm cm) := d1
  have d2d : w0.drew.cell? ⟨gd, 2, none⟩ = some (.int .i64 lp) := d2
  have hbD : Below w0.heap.size w0 w0.drew := (Below.refl _ _).drew
  have hsD : w0.drew.heap.size = w0.heap.size := rfl
  clear hj
  go_upto_region 12 with fail
  go_region_with ((go_at_call 23; ((with_reducible refine CM.out.mono ?_); rintro e w1 ⟨A1, c1, B1, m1, s1, l1, rfl, oS, oM, hM, hb1'⟩; have hb1 := below_step hbD hb1'; have r0 := (hb1.cell (p := ⟨gd, 0, none⟩) dlt).trans d0; have r1 := (hb1.cell (p := ⟨gd, 1, none⟩) dlt).trans d1; have r2 := (hb1.cell (p := ⟨gd, 2, none⟩) dlt).trans d2; have f0 := (hb1.frozen (p := ⟨gd, 0, none⟩) dlt).trans (HDF.out 0); have f1 := (hb1.frozen (p := ⟨gd, 1, none⟩) dlt).trans (HDF.out 1); have f2 := (hb1.frozen (p := ⟨gd, 2, none⟩) dlt).trans (HDF.out 2); obtain ⟨k0, k1, k2⟩ := set3_cells w1 gd (.slice A1 ns c1) (.slice B1 nm m1) (.int .i64 lp) r0 r1 r2; have hr := HBX.out.kp hb1; have x0 := (set3_far w1 gd (.slice A1 ns c1) (.slice B1 nm m1) (.int .i64 lp) hne 0).trans hr.1.1; have x1 := (set3_far w1 gd (.slice A1 ns c1) (.slice B1 nm m1) (.int .i64 lp) hne 1).trans hr.1.2.1; have x2 := (set3_far w1 gd (.slice A1 ns c1) (.slice B1 nm m1) (.int .i64 lp) hne 2).trans hr.1.2.2.1; have y0 := hr.2 0; have y1 := hr.2 1; have y2 := hr.2 2)))
  all_goals
    obtain ⟨q0, q1, q2⟩ := set3_cells (set3 w1 gd (.slice A1 ns c1) (.slice B1 nm m1) (.int .i64 lp)) gr (.slice A1 ns c1) (.slice B1 nm m1) (.int .i64 lp) x0 x1 x2
    have HF : Hid (OpeYes w ns nm lp s m 3 (k % ns) (.returned (.tuple #[dval A1 ns c1 B1 nm m1 lp, .bool true])) (set3 (set3 w1 gd (.slice A1 ns c1) (.slice B1 nm m1) (.int .i64 lp)) gr (.slice A1 ns c1) (.slice B1 nm m1) (.int .i64 lp))) := Lib.hid (by
      have hg := HLT.out
      have h0 := HB.out.size
      have hM2 : Moved (opT 3 (k % ns) s) (opP 3 (k % ns)) ns s m s1 l1 := by rw [HJ.out]; exact hM
      rw [hsD] at oS oM
      have n1 : ∀ g, g < w0.heap.size → (Value.slice A1 ns c1).ownBlock ≠ some g := fun g hg e => by have := (World.ownsRow.lt oS g e).1; omega
      have n2 : ∀ g, g < w0.heap.size → (Value.slice B1 nm m1).ownBlock ≠ some g := fun g hg e => by have := (World.ownsRow.lt oM g e).1; omega
      exact ⟨A1, c1, B1, m1, s1, l1, rfl, ((oS.set3 (n1 _ (by omega)) _ _ _).set3 (n1 _ (by omega)) _ _ _).ri, ((oM.set3 (n2 _ (by omega)) _ _ _).set3 (n2 _ (by omega)) _ _ _).ri, fun b o hn e => by have := oS.frs b o hn e; omega, fun b o hn e => by have := oM.frs b o hn e; omega, hM2,
        set3_below (set3_below (below_step HB.out hb1) (by omega) _ _ _) (by omega) _ _ _⟩)
    go_wp2
    exact bodyPost_ret (v := .tuple #[dval A1 ns c1 B1 nm m1 lp, .bool true]) (by simp [results, Try.results30, go_sem, q0, q1, q2]) rfl HF.out

end Go.Proofs.Ytdamfoobnbjojaa
