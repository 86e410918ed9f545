/- FnWaterBook: the law. -/
import Derived.Test.YtjhoagbcfpbelaaXg
import Derived.Test.YtjhoagbcfpbelaaFsJ
import Derived.Test.YtjhoagbcfpbelaaWp
namespace Go.Proofs.Ytjhoagbcfpbelaa.Xa
open Go.ChangeShapes Go.WideShapes Go.ChangeAt Go.RowKit
open Go.Proofs.Ytjhoagbcfpbelaa.Lists Go.Proofs.Ytjhoagbcfpbelaa.Gd Go.Proofs.Ytjhoagbcfpbelaa.Rd
open Go.Proofs.Ytjhoagbcfpbelaa.Fs (sm wat wat_iff sm_bd sm_succ)

set_option maxHeartbeats 1000000 in
theorem sum_any (L : List Int) (v : Value) (w : World) (h : Lists.Reads w v L) (hl : L.length ≤ 1048576) (hw : wat L = true) :
    Calls Try.prog 8 #[v] w fun e w' => e = .returned (.int .i64 (sm L L.length)) ∧ w' = w := by
  obtain ⟨a, cap, rfl⟩ := h.form
  obtain ⟨n, hn⟩ : ∃ n, n = L.length := ⟨_, rfl⟩
  rw [← hn] at h hl ⊢
  have HC : Hid (∀ i, i < n → ∃ b o, a = some ⟨b, o, none⟩ ∧ w.cell? ⟨b, o + i, none⟩ = some (.int .i64 (L.getD i 0))) := Fs.reads_at h hn
  have HB : Hid (∀ k, k ≤ n → 0 ≤ sm L k ∧ sm L k ≤ 1000000000000 * k) := fun k hk => sm_bd L ((wat_iff L).1 hw) k (by omega)
  have HS : Hid (∀ k, k < n → sm L (k + 1) = sm L k + L.getD k 0) := fun k hk => sm_succ L k (by omega)
  have H0 : Hid (sm L 0 = 0) := (by show _ = _; simp [sm])
  clear h hn hw
  go_enter Try.func8, Try.ntmps8
  go_wp2_with fail
  go_loopw [3, 4] (fun s i wr => ∃ k : Nat, k ≤ n ∧ i = .int .i64 k ∧ s = .int .i64 (sm L k) ∧ wr = w) (fun _ i _ => n - (intOf i).toNat)
  case atStart => exact ⟨0, Nat.zero_le _, rfl, by rw [H0.out], rfl⟩
  case round =>
    obtain ⟨k, hk, rfl, rfl, hw'⟩ := hrel
    subst hw'
    by_cases hlt : k < n
    · obtain ⟨b, o, rfl, q0⟩ := HC.out k hlt
      have z0 : (0 : Int) ≤ (k : Int) := by omega
      have z1 : (k : Int) < (n : Int) := by omega
      have e1 := HS.out k hlt
      have b1 := HB.out (k + 1) (by omega)
      have NE : Hid (sm L (k + 1) = sm L k + L.getD k 0) := e1
      rw [e1] at b1
      generalize L.getD k 0 = x at *
      generalize sm L k = y at *
      have w1 : IntKind.i64.wrap (y + x) = y + x := IntWalk.i64_in _ (by omega)
      clear e1 b1
      go_wp2_with fail
      go_roundw
      case rel => exact ⟨k + 1, by omega, by go_num, by rw [NE.out], trivial⟩
      case measure => simp [intOf]; omega
    · have hkn : k = n := by omega
      subst hkn
      have jj : ¬ (k : Int) < (k : Int) := by omega
      go_wp2_with fail
      go_ret
      exact ⟨rfl, rfl⟩
/-- a list that lies elsewhere than A, its numbers said -/
def RX (A : Nat) (wx : World) (v : Value) (L : List Int) : Prop := Lists.Reads wx v L ∧ ∀ g o l c, v = .slice (some ⟨g, o, none⟩) l c → 0 < l → g ≠ A
theorem RX.of {A : Nat} {wx : World} {v : Value} {L : List Int} (h : Lists.Reads wx v L) (hA : wx.heap.size ≤ A) : RX A wx v L := by
  refine ⟨h, fun g o l c e h0 x => ?_⟩
  rcases h with ⟨e1, a, cap, e2⟩ | ⟨b, o', cap, e1, _, _, e3, _⟩
  · rw [e2] at e; simp at e <;> omega
  · rw [e1] at e; simp at e <;> omega
theorem RX.on {A : Nat} {wx wy : World} {v : Value} {L : List Int} (h : RX A wx v L) (hb : Below wx.heap.size wx wy) : RX A wy v L := ⟨h.1.on hb, h.2⟩
theorem RX.keep {A : Nat} {wx wy : World} {v : Value} {L : List Int} (h : RX A wx v L) (ho : Wn.Out (fun k => k = A) wx wy) : RX A wy v L := by
  obtain ⟨hr, hn⟩ := h
  refine ⟨?_, hn⟩
  rcases hr with h1 | ⟨g, o, cap, e, e1, e2, e3, e4⟩
  · exact .inl h1
  · refine .inr ⟨g, o, cap, e, e1, e2, Nat.lt_of_lt_of_le e3 ho.size, fun i hi => ?_⟩
    exact (World.cell?_of_block (ho.block g e3 (hn _ _ _ _ e (by omega)))).trans (e4 i hi)
/-- the law's state: the step's answer at A, the book that was drawn at C -/
structure LW (w : World) (A C : Nat) (nv xv dv rv v2 : Value) (N X D R : List Int) (ox zx o z : Int) (wr : World) : Prop where
  bl : Below w.heap.size w wr
  bx : Bk.Box wr A xv (.int .i64 ox) (.int .i64 zx)
  fz : ∀ j, wr.frozen? ⟨A, j, none⟩ = false
  cx : Bk.Box wr C v2 (.int .i64 o) (.int .i64 z)
  rn : RX A wr nv N
  rx : RX A wr xv X
  rd : RX A wr dv D
  rr : RX A wr rv R
  lt : w.heap.size ≤ A ∧ A < wr.heap.size ∧ C < A
theorem LW.up {w : World} {A C : Nat} {nv xv dv rv v2 : Value} {N X D R : List Int} {ox zx o z : Int} {wr wy : World} (h : LW w A C nv xv dv rv v2 N X D R ox zx o z wr) (hb : Below wr.heap.size wr wy) : LW w A C nv xv dv rv v2 N X D R ox zx o z wy :=
  have l := h.lt
  ⟨h.bl.trans (hb.mono h.bl.size), h.bx.on hb l.2.1, fun j => (hb.frozen (p := ⟨A, j, none⟩) l.2.1).trans (h.fz j), h.cx.on hb (by omega), h.rn.on hb, h.rx.on hb, h.rd.on hb, h.rr.on hb, ⟨l.1, Nat.lt_of_lt_of_le l.2.1 hb.size, l.2.2⟩⟩
theorem LW.put {w : World} {A C : Nat} {nv xv dv rv v2 yv : Value} {N X D R Y : List Int} {ox zx oy zy o z : Int} {wr : World} (h : LW w A C nv xv dv rv v2 N X D R ox zx o z wr) (hy : RX A wr yv Y) : LW w A C nv yv dv rv v2 N Y D R oy zy o z (put3 wr A yv (.int .i64 oy) (.int .i64 zy)) :=
  have l := h.lt
  have ho := put3_out wr A yv (.int .i64 oy) (.int .i64 zy)
  have eC := ho.block C (by omega) (by omega)
  ⟨h.bl.trans (put3_below l.1 _ _ _), put3_box h.bx _ _ _, fun j => by unfold put3; simp [h.fz], ⟨(World.cell?_of_block eC).trans h.cx.1, (World.cell?_of_block eC).trans h.cx.2.1, (World.cell?_of_block eC).trans h.cx.2.2⟩, h.rn.keep ho, hy.keep ho, h.rd.keep ho, h.rr.keep ho, ⟨l.1, by rw [put3_size]; exact l.2.1, l.2.2⟩⟩
theorem Bk_wat {N X : List Int} {o z : Int} (h : Wp.Bk N X o z) : wat X = true := by
  have g := Wp.sum_ge X (by rw [h.lw]; exact h.nn)
  have s := h.s
  have z1 := h.z1
  have o0 := h.o0
  exact (wat_iff X).2 fun i hi => ⟨h.nn i (by rw [← h.lw]; exact hi), by have := g.2 i hi; omega⟩
/-- a dry step of a right book -/
theorem Bk_dry {N X : List Int} {o z : Int} (h : Wp.Bk N X o z) : Fs.stp N X o z (Wp.dry N.length) = true ∧ Wp.Bk N (Fs.anL N X (Wp.dry N.length) o z) (Fs.anO N X (Wp.dry N.length) o z) z ∧ Fs.anR N X (Wp.dry N.length) o z = z ∧ o ≤ Fs.anO N X (Wp.dry N.length) o z := by
  have K := Wp.Bk.ok' h
  have q := Fs.stp_ok.2 K
  have n := Wp.Ok.next K
  unfold Fs.anL Fs.anO Fs.anR
  rw [q, if_pos rfl, if_pos rfl, if_pos rfl]
  rw [Wp.dry_sm] at n ⊢
  refine ⟨rfl, by simpa using n.1, by omega, n.2⟩
end Go.Proofs.Ytjhoagbcfpbelaa.Xa
