/- Flood: the model and the program at every book and list. -/
import Derived.Test.YtpenjblhnihjkaaBk
import Derived.Maps.AppendAt
namespace Go.Proofs.Ytpenjblhnihjkaa.Fd
open Go.ChangeShapes Go.WideShapes Go.ChangeAt Go.RowKit
open Go.Proofs.Ytpenjblhnihjkaa.Lists Go.Proofs.Ytpenjblhnihjkaa.Bk

def fl (W M : List Int) : Nat → List Int
  | 0 => []
  | k + 1 => if M.getD k 0 < W.getD k 0 then fl W M k ++ [(k : Int)] else fl W M k
theorem fl_len (W M : List Int) (k : Nat) : (fl W M k).length ≤ k := by
  induction k with
  | zero => simp [fl]
  | succ k ih =>
    unfold fl
    split
    · simp; omega
    · omega
def okF (W M : List Int) : Bool := decide (M.length = W.length) && decide (M.length ≤ 576)
def flood (W M : List Int) : List Int := if okF W M then fl W M M.length else []
theorem flood_len (W M : List Int) : (flood W M).length ≤ 1000 := by
  unfold flood
  cases h : okF W M
  · simp
  · unfold okF at h
    simp only [Bool.and_eq_true, decide_eq_true_eq] at h
    have := fl_len W M M.length
    simp
    omega

theorem reads_at {w : World} {v : Value} {L : List Int} (hL : Lists.Reads w v L) : ∃ b o, (∀ i, i < L.length → w.cell? ⟨b, o + i, none⟩ = some (.int .i64 (L.getD i 0))) ∧ (0 < L.length → b < w.heap.size ∧ ∃ cap, v = .slice (some ⟨b, o, none⟩) L.length cap) := by
  rcases hL with ⟨rfl, _⟩ | ⟨b, o, cap, h1, h2, h3, h4, h5⟩
  · exact ⟨0, 0, fun i hi => by simp at hi, fun hi => by simp at hi⟩
  · exact ⟨b, o, h5, fun _ => ⟨h4, cap, h1⟩⟩
theorem nil_row (w : World) (B : Nat) : w.ownsRow B 2 1 (.slice none 0 0) 0 [] := ⟨rfl, .inl ⟨rfl, rfl⟩⟩
theorem row_form {w : World} {B k : Nat} {v : Value} {xs : List Value} (R : w.ownsRow B 2 1 v k xs) : ∃ sa sc, v = .slice sa k sc := by
  rcases R.2 with ⟨h, h'⟩ | ⟨g, c, cur, h, _⟩
  · exact ⟨none, 0, by rw [h, h']⟩
  · exact ⟨_, _, h⟩

set_option maxHeartbeats 1000000 in
theorem sflood_no (z1 z2 : Int) (W M : List Int) (vw vm : Value) (w : World) (hW : Lists.Reads w vw W) (hM : Lists.Reads w vm M) (lM : M.length < 9223372036854775808) (h : okF W M = false) :
    Calls Try.prog 6 #[Bk.sv z1 z2 vw, vm] w fun e w' => ∃ v', e = .returned v' ∧ w'.ownsRow w.heap.size 2 1 v' 0 [] ∧ Below w.heap.size w w' := by
  obtain ⟨a1, c1, rfl⟩ := hW.form
  obtain ⟨a2, c2, rfl⟩ := hM.form
  obtain ⟨w0, hw0⟩ : ∃ w0, w0 = (w.alloc (Obj.cells #[.slice a1 W.length c1, .int .i64 z1, .int .i64 z2] 27)).alloc (Obj.cells #[] 2) := ⟨_, rfl⟩
  have HW0 : Hid (w0 = (w.alloc (Obj.cells #[.slice a1 W.length c1, .int .i64 z1, .int .i64 z2] 27)).alloc (Obj.cells #[] 2)) := hw0
  have B0 : Hid (Below w.heap.size w w0) := (by show Below _ _ _; rw [hw0]; exact ((Below.refl _ _).alloc (Nat.le_refl _) _).alloc (by simp) _)
  have R0 : Hid (w0.ownsRow (w.heap.size + 1) 2 1 (.slice (some ⟨w.heap.size + 1, 0, none⟩) 0 0) 0 []) := (by
    show World.ownsRow _ _ _ _ _ _ _
    rw [hw0]
    have := World.ownsRow_lit (e := 2) (w.alloc (Obj.cells #[.slice a1 W.length c1, .int .i64 z1, .int .i64 z2] 27)) #[] 0 (size := 1) (Nat.le_refl _) (Nat.zero_le _) rfl
    simp at this
    exact this)
  have X0 : Bk.Box w0 w.heap.size (.slice a1 W.length c1) (.int .i64 z1) (.int .i64 z2) := by rw [hw0]; unfold Bk.Box; simp [go_sem]
  have RE : Hid (w0.ownsRow w.heap.size 2 1 (.slice (some ⟨w.heap.size + 1, 0, none⟩) 0 0) 0 []) := own_down R0.out (Nat.le_succ _)
  obtain ⟨d0, d1, d2⟩ := X0
  have hh : M.length = W.length → 576 < M.length := by
    unfold okF at h
    simp at h
    exact h
  clear hW hM h R0 hw0
  generalize W.length = n at *
  generalize M.length = m at *
  by_cases m0 : m = 0
  · subst m0
    go_enter Try.func6, Try.ntmps6
    go_wp2_with fail
    rw [← HW0.out]
    go_loop [5, 6] (fun v i => v = .slice (some ⟨w.heap.size + 1, 0, none⟩) 0 0 ∧ i = .int .i64 0) (fun _ _ => 0)
    case atStart => exact ⟨rfl, rfl⟩
    case round =>
      obtain ⟨rfl, rfl⟩ := hrel
      go_wp2_with fail
      go_ret
      exact ⟨_, rfl, RE.out, B0.out⟩
  · have i1 : (0 : Int) < (m : Int) := by omega
    by_cases e : m = n
    · have i2 : ¬ (m : Int) ≤ 576 := by have := hh e; omega
      have i3 : ((m : Int) == (n : Int)) = true := by simp; omega
      go_enter Try.func6, Try.ntmps6
      go_wp2_with fail
      rw [← HW0.out]
      go_loop [5, 6] (fun v i => v = .slice (some ⟨w.heap.size + 1, 0, none⟩) 0 0 ∧ i = .int .i64 0) (fun _ _ => 0)
      case atStart => exact ⟨rfl, rfl⟩
      case round =>
        obtain ⟨rfl, rfl⟩ := hrel
        go_wp2_with fail
        go_ret
        exact ⟨_, rfl, RE.out, B0.out⟩
    · have i3 : ((m : Int) == (n : Int)) = false := by simp; omega
      go_enter Try.func6, Try.ntmps6
      go_wp2_with fail
      rw [← HW0.out]
      go_loop [5, 6] (fun v i => v = .slice (some ⟨w.heap.size + 1, 0, none⟩) 0 0 ∧ i = .int .i64 0) (fun _ _ => 0)
      case atStart => exact ⟨rfl, rfl⟩
      case round =>
        obtain ⟨rfl, rfl⟩ := hrel
        go_wp2_with fail
        go_ret
        exact ⟨_, rfl, RE.out, B0.out⟩

set_option maxHeartbeats 1000000 in
theorem sflood_yes (z1 z2 : Int) (W M : List Int) (vw vm : Value) (w : World) (hW : Lists.Reads w vw W) (hM : Lists.Reads w vm M) (hn : M.length = W.length) (hs : M.length ≤ 576) :
    Calls Try.prog 6 #[Bk.sv z1 z2 vw, vm] w fun e w' => ∃ v', e = .returned v' ∧ w'.ownsRow w.heap.size 2 1 v' (fl W M M.length).length (ints (fl W M M.length)) ∧ Below w.heap.size w w' := by
  obtain ⟨bw, ow, hcw, hvw⟩ := reads_at hW
  obtain ⟨bm, om, hcm, hvm⟩ := reads_at hM
  obtain ⟨a1, c1, rfl⟩ := hW.form
  obtain ⟨a2, c2, rfl⟩ := hM.form
  obtain ⟨w0, hw0⟩ : ∃ w0, w0 = (w.alloc (Obj.cells #[.slice a1 W.length c1, .int .i64 z1, .int .i64 z2] 27)).alloc (Obj.cells #[] 2) := ⟨_, rfl⟩
  have HW0 : Hid (w0 = (w.alloc (Obj.cells #[.slice a1 W.length c1, .int .i64 z1, .int .i64 z2] 27)).alloc (Obj.cells #[] 2)) := hw0
  have B0 : Hid (Below w.heap.size w w0) := (by show Below _ _ _; rw [hw0]; exact ((Below.refl _ _).alloc (Nat.le_refl _) _).alloc (by simp) _)
  have z0 : w0.heap.size = w.heap.size + 2 := by rw [hw0]; simp
  have R0 : Hid (w0.ownsRow (w.heap.size + 1) 2 1 (.slice (some ⟨w.heap.size + 1, 0, none⟩) 0 0) 0 (ints (fl W M 0))) := (by
    show World.ownsRow _ _ _ _ _ _ _
    rw [hw0]
    have := World.ownsRow_lit (e := 2) (w.alloc (Obj.cells #[.slice a1 W.length c1, .int .i64 z1, .int .i64 z2] 27)) #[] 0 (size := 1) (Nat.le_refl _) (Nat.zero_le _) rfl
    simp at this
    exact this)
  have X0 : Hid (Bk.Box w0 w.heap.size (.slice a1 W.length c1) (.int .i64 z1) (.int .i64 z2)) := (by show Bk.Box _ _ _ _ _; rw [hw0]; unfold Bk.Box; simp [go_sem])
  have HCW : Hid (∀ i, i < W.length → w.cell? ⟨bw, ow + i, none⟩ = some (.int .i64 (W.getD i 0))) := hcw
  have HCM : Hid (∀ i, i < M.length → w.cell? ⟨bm, om + i, none⟩ = some (.int .i64 (M.getD i 0))) := hcm
  have HVW : Hid (0 < W.length → bw < w.heap.size ∧ a1 = some ⟨bw, ow, none⟩) := fun hi => by
    obtain ⟨h1, c, h2⟩ := hvw hi
    simp at h2
    exact ⟨h1, h2.1⟩
  have HVM : Hid (0 < M.length → bm < w.heap.size ∧ a2 = some ⟨bm, om, none⟩) := fun hi => by
    obtain ⟨h1, c, h2⟩ := hvm hi
    simp at h2
    exact ⟨h1, h2.1⟩
  obtain ⟨i0, hi, hz0, hz1, hz2⟩ := info_parts Lists.Try.info2
  obtain ⟨n, hm⟩ : ∃ n, n = M.length := ⟨_, rfl⟩
  have HM : Hid (n = M.length) := hm
  have HW : Hid (n = W.length) := hm.trans hn
  rw [← hn, ← hm] at X0 HW0 ⊢
  rw [← hm] at hs
  clear hW hM hw0 hcw hvw hcm hvm hm hn
  go_enter Try.func6, Try.ntmps6
  go_wp2_with fail
  rw [← HW0.out]
  clear HW0
  go_loopw [5, 6] (fun v i wr => ∃ k : Nat, k ≤ n ∧ i = .int .i64 k ∧ Hid (wr.ownsRow (w.heap.size + 1) 2 1 v (fl W M k).length (ints (fl W M k))) ∧ Hid (Below (w.heap.size + 1) w0 wr)) (fun _ i _ => n - (intOf i).toNat)
  case atStart => exact ⟨0, Nat.zero_le _, rfl, R0, Below.refl _ _⟩
  case round =>
    obtain ⟨k, hk, rfl, R, BB⟩ := hrel
    obtain ⟨sa, sc, hv⟩ := row_form R.out
    subst hv
    have fk := fl_len W M k
    have zr := BB.out.size
    obtain ⟨d0, d1, d2⟩ := X0.out.on BB.out (Nat.lt_succ_self _)
    by_cases hlt : k < n
    · obtain ⟨hbw, hxw⟩ := HVW.out (by have := HW.out; omega)
      obtain ⟨hbm, hxm⟩ := HVM.out (by have := HM.out; omega)
      subst hxw hxm
      have qw : wr.cell? ⟨bw, ow + k, none⟩ = some (.int .i64 (W.getD k 0)) := (BB.out.cell (p := ⟨bw, ow + k, none⟩) (by show bw < _; omega)).trans ((B0.out.cell (p := ⟨bw, ow + k, none⟩) hbw).trans (HCW.out k (by have := HW.out; omega)))
      have qm : wr.cell? ⟨bm, om + k, none⟩ = some (.int .i64 (M.getD k 0)) := (BB.out.cell (p := ⟨bm, om + k, none⟩) (by show bm < _; omega)).trans ((B0.out.cell (p := ⟨bm, om + k, none⟩) hbm).trans (HCM.out k (by have := HM.out; omega)))
      have i1 : (0 : Int) ≤ (k : Int) := by omega
      have i2 : (k : Int) < (n : Int) := by omega
      have i3 : (n : Int) ≤ 576 := by omega
      have i4 : ((n : Int) == (n : Int)) = true := by simp
      have OL : Hid (∀ g, (Value.slice sa (fl W M k).length sc).ownBlock = some g → w.heap.size + 1 ≤ g ∧ g < wr.heap.size) := fun g hg => R.out.lt g hg
      by_cases hc : M.getD k 0 < W.getD k 0
      · have FN : Hid (fl W M (k + 1) = fl W M k ++ [(k : Int)]) := (by show _ = _; rw [fl, if_pos hc])
        have RD : Hid (wr.drew.ownsRow (w.heap.size + 1) 2 1 (.slice sa (fl W M k).length sc) (fl W M k).length (ints (fl W M k))) := R.out
        obtain ⟨m, hm⟩ : ∃ m, m = (fl W M k).length := ⟨_, rfl⟩
        have HL : Hid (m = (fl W M k).length) := hm
        rw [← hm] at R RD OL fk ⊢
        obtain ⟨F, hF⟩ : ∃ F, F = fl W M k := ⟨_, rfl⟩
        rw [← hF] at R RD HL FN
        clear hm hF
        generalize W.getD k 0 = p at *
        generalize M.getD k 0 = q at *
        go_wp2_with fail
        go_region
        go_wp2_with (at_builtin; refine wpList_append_own _ rfl _ _ 22 rfl (w.heap.size + 1) 2 i0 (.int .i64 0) 1 8 Try.underlying22 hi hz0 hz1 hz2 rfl (by decide) _ _ _ rfl (RD.out.alloc _) ⟨wr.heap.size, 0, none⟩ 1 1 [.int .i64 k] rfl rfl ?c1 ?c2 ?c3 ?c4 ?c5 ?_)
        case c1 =>
          intro j u hj
          match j, hj with
          | 0, hj => simp at hj; subst hj; simp [Addr.add]
        case c2 => intro u hu; simp at hu; subst hu; rfl
        case c3 => unfold maxLen; omega
        case c4 => omega
        case c5 => simp; omega
        · intro v' w2 hown hgrow _
          have R2 : Hid (w2.ownsRow (w.heap.size + 1) 2 1 v' (fl W M (k + 1)).length (ints (fl W M (k + 1)))) := (by
            show World.ownsRow _ _ _ _ _ _ _
            rw [FN.out, List.length_append, ← HL.out]
            simpa [ints] using hown)
          have B2 : Hid (Below (w.heap.size + 1) w0 w2) := ((below_drewN BB.out 1).alloc (by show _ ≤ wr.heap.size; omega) _).grown hgrow (by simp; omega) (fun b hb => (OL.out b hb).1)
          clear hown hgrow OL R RD BB
          go_wp2_with fail
          go_roundw
          case rel => exact ⟨k + 1, by omega, by go_num, R2, B2⟩
          case measure => simp [intOf]; omega
      · have FN : Hid (fl W M (k + 1) = fl W M k) := (by show _ = _; rw [fl, if_neg hc])
        have RD : Hid (wr.drew.ownsRow (w.heap.size + 1) 2 1 (.slice sa (fl W M k).length sc) (fl W M (k + 1)).length (ints (fl W M (k + 1)))) := (by show World.ownsRow _ _ _ _ _ _ _; rw [FN.out]; exact R.out)
        have BD : Hid (Below (w.heap.size + 1) w0 wr.drew) := below_drewN BB.out 1
        generalize W.getD k 0 = p at *
        generalize M.getD k 0 = q at *
        go_wp2_with fail
        go_region
        go_wp2_with fail
        go_roundw
        case rel => exact ⟨k + 1, by omega, by go_num, RD, BD⟩
        case measure => simp [intOf]; omega
    · have hkn : k = n := by omega
      subst hkn
      go_wp2_with fail
      go_ret
      exact ⟨_, rfl, own_down R.out (Nat.le_succ _), B0.out.trans (BB.out.mono (by omega))⟩

set_option maxHeartbeats 1000000 in
theorem iflood_no (z1 z2 : Int) (W M : List Int) (vw vm : Value) (w : World) (hW : Lists.Reads w vw W) (hM : Lists.Reads w vm M) (h : okF W M = false) :
    Calls Try.prog 9 #[Bk.sv z1 z2 vw, vm] w fun e w' => ∃ v', e = .returned v' ∧ w'.ownsRow w.heap.size 2 1 v' 0 [] ∧ Below w.heap.size w w' := by
  obtain ⟨a1, c1, rfl⟩ := hW.form
  obtain ⟨a2, c2, rfl⟩ := hM.form
  have B0 : Hid (Below w.heap.size w (w.alloc (Obj.cells #[.slice a1 W.length c1, .int .i64 z1, .int .i64 z2] 27))) := (Below.refl _ _).alloc (Nat.le_refl _) _
  have hh : M.length = W.length → 576 < M.length := by
    unfold okF at h
    simp at h
    exact h
  clear hW hM h
  generalize W.length = n at *
  generalize M.length = m at *
  by_cases hm : 576 < m
  · have i1 : (576 : Int) < (m : Int) := by omega
    go_enter Try.func9, Try.ntmps9
    go_wp2_with fail
    go_ret
    exact ⟨_, rfl, nil_row _ _, B0.out⟩
  · have i1 : ¬ (576 : Int) < (m : Int) := by omega
    have i2 : ((n : Int) != (m : Int)) = true := by
      have : n ≠ m := fun e => hm (hh e.symm)
      simp
      omega
    go_enter Try.func9, Try.ntmps9
    go_wp2_with fail
    go_ret
    exact ⟨_, rfl, nil_row _ _, B0.out⟩

set_option maxHeartbeats 1000000 in
theorem iflood_yes (z1 z2 : Int) (W M : List Int) (vw vm : Value) (w : World) (hW : Lists.Reads w vw W) (hM : Lists.Reads w vm M) (hn : M.length = W.length) (hs : M.length ≤ 576) :
    Calls Try.prog 9 #[Bk.sv z1 z2 vw, vm] w fun e w' => ∃ v', e = .returned v' ∧ w'.ownsRow w.heap.size 2 1 v' (fl W M M.length).length (ints (fl W M M.length)) ∧ Below w.heap.size w w' := by
  obtain ⟨bw, ow, hcw, hvw⟩ := reads_at hW
  obtain ⟨bm, om, hcm, hvm⟩ := reads_at hM
  obtain ⟨a1, c1, rfl⟩ := hW.form
  obtain ⟨a2, c2, rfl⟩ := hM.form
  obtain ⟨w0, hw0⟩ : ∃ w0, w0 = w.alloc (Obj.cells #[.slice a1 W.length c1, .int .i64 z1, .int .i64 z2] 27) := ⟨_, rfl⟩
  have HW0 : Hid (w0 = w.alloc (Obj.cells #[.slice a1 W.length c1, .int .i64 z1, .int .i64 z2] 27)) := hw0
  have B0 : Hid (Below w.heap.size w w0) := (by show Below _ _ _; rw [hw0]; exact (Below.refl _ _).alloc (Nat.le_refl _) _)
  have z0 : w0.heap.size = w.heap.size + 1 := by rw [hw0]; simp
  have R0 : Hid (w0.ownsRow (w.heap.size + 1) 2 1 (.slice none 0 0) 0 (ints (fl W M 0))) := nil_row _ _
  have X0 : Hid (Bk.Box w0 w.heap.size (.slice a1 W.length c1) (.int .i64 z1) (.int .i64 z2)) := (by show Bk.Box _ _ _ _ _; rw [hw0]; unfold Bk.Box; simp [go_sem])
  have HCW : Hid (∀ i, i < W.length → w.cell? ⟨bw, ow + i, none⟩ = some (.int .i64 (W.getD i 0))) := hcw
  have HCM : Hid (∀ i, i < M.length → w.cell? ⟨bm, om + i, none⟩ = some (.int .i64 (M.getD i 0))) := hcm
  have HVW : Hid (0 < W.length → bw < w.heap.size ∧ a1 = some ⟨bw, ow, none⟩) := fun hi => by
    obtain ⟨h1, c, h2⟩ := hvw hi
    simp at h2
    exact ⟨h1, h2.1⟩
  have HVM : Hid (0 < M.length → bm < w.heap.size ∧ a2 = some ⟨bm, om, none⟩) := fun hi => by
    obtain ⟨h1, c, h2⟩ := hvm hi
    simp at h2
    exact ⟨h1, h2.1⟩
  obtain ⟨i0, hi, hz0, hz1, hz2⟩ := info_parts Lists.Try.info2
  obtain ⟨n, hm⟩ : ∃ n, n = M.length := ⟨_, rfl⟩
  have HM : Hid (n = M.length) := hm
  have HW : Hid (n = W.length) := hm.trans hn
  rw [← hn, ← hm] at X0 HW0 ⊢
  rw [← hm] at hs
  have i5 : ¬ (576 : Int) < (n : Int) := by omega
  have i4 : ((n : Int) != (n : Int)) = false := by simp
  clear hW hM hw0 hcw hvw hcm hvm hm hn
  go_enter Try.func9, Try.ntmps9
  go_wp2_with fail
  rw [← HW0.out]
  clear HW0 i4 i5
  go_loopw [5, 22] (fun v i wr => ∃ k : Nat, k ≤ n ∧ i = .int .i64 k ∧ Hid (wr.ownsRow (w.heap.size + 1) 2 1 v (fl W M k).length (ints (fl W M k))) ∧ Hid (Below (w.heap.size + 1) w0 wr)) (fun _ i _ => n - (intOf i).toNat)
  case atStart => exact ⟨0, Nat.zero_le _, rfl, R0, Below.refl _ _⟩
  case round =>
    obtain ⟨k, hk, rfl, R, BB⟩ := hrel
    obtain ⟨sa, sc, hv⟩ := row_form R.out
    subst hv
    have fk := fl_len W M k
    have zr := BB.out.size
    by_cases hlt : k < n
    · obtain ⟨hbw, hxw⟩ := HVW.out (by have := HW.out; omega)
      obtain ⟨hbm, hxm⟩ := HVM.out (by have := HM.out; omega)
      subst hxw hxm
      have qw : wr.cell? ⟨bw, ow + k, none⟩ = some (.int .i64 (W.getD k 0)) := (BB.out.cell (p := ⟨bw, ow + k, none⟩) (by show bw < _; omega)).trans ((B0.out.cell (p := ⟨bw, ow + k, none⟩) hbw).trans (HCW.out k (by have := HW.out; omega)))
      have qm : wr.cell? ⟨bm, om + k, none⟩ = some (.int .i64 (M.getD k 0)) := (BB.out.cell (p := ⟨bm, om + k, none⟩) (by show bm < _; omega)).trans ((B0.out.cell (p := ⟨bm, om + k, none⟩) hbm).trans (HCM.out k (by have := HM.out; omega)))
      have i1 : (0 : Int) ≤ (k : Int) := by omega
      have i2 : (k : Int) < (n : Int) := by omega
      have OL : Hid (∀ g, (Value.slice sa (fl W M k).length sc).ownBlock = some g → w.heap.size + 1 ≤ g ∧ g < wr.heap.size) := fun g hg => R.out.lt g hg
      by_cases hc : M.getD k 0 < W.getD k 0
      · have FN : Hid (fl W M (k + 1) = fl W M k ++ [(k : Int)]) := (by show _ = _; rw [fl, if_pos hc])
        obtain ⟨m, hm⟩ : ∃ m, m = (fl W M k).length := ⟨_, rfl⟩
        have HL : Hid (m = (fl W M k).length) := hm
        rw [← hm] at R OL fk ⊢
        obtain ⟨F, hF⟩ : ∃ F, F = fl W M k := ⟨_, rfl⟩
        rw [← hF] at R HL FN
        clear hm hF
        generalize W.getD k 0 = p at *
        generalize M.getD k 0 = q at *
        go_wp2_with (at_builtin; refine wpList_append_own _ rfl _ _ 22 rfl (w.heap.size + 1) 2 i0 (.int .i64 0) 1 8 Try.underlying22 hi hz0 hz1 hz2 rfl (by decide) _ _ _ rfl (R.out.alloc _) ⟨wr.heap.size, 0, none⟩ 1 1 [.int .i64 k] rfl rfl ?c1 ?c2 ?c3 ?c4 ?c5 ?_)
        case c2 => rfl
        case c3 => unfold maxLen; omega
        case c4 => omega
        case c5 => omega
        · intro v' w2 hown hgrow _
          have R2 : Hid (w2.ownsRow (w.heap.size + 1) 2 1 v' (fl W M (k + 1)).length (ints (fl W M (k + 1)))) := (by
            show World.ownsRow _ _ _ _ _ _ _
            rw [FN.out, List.length_append, ← HL.out]
            simpa [ints] using hown)
          have B2 : Hid (Below (w.heap.size + 1) w0 w2) := (BB.out.alloc (by omega) _).grown hgrow (by simp; omega) (fun b hb => (OL.out b hb).1)
          clear hown hgrow OL R BB
          go_wp2_with fail
          go_roundw
          case rel => exact ⟨k + 1, by omega, by go_num, R2, B2⟩
          case measure => simp [intOf]; omega
      · have FN : Hid (fl W M (k + 1) = fl W M k) := (by show _ = _; rw [fl, if_neg hc])
        have RD : Hid (wr.ownsRow (w.heap.size + 1) 2 1 (.slice sa (fl W M k).length sc) (fl W M (k + 1)).length (ints (fl W M (k + 1)))) := (by show World.ownsRow _ _ _ _ _ _ _; rw [FN.out]; exact R.out)
        generalize W.getD k 0 = p at *
        generalize M.getD k 0 = q at *
        go_wp2_with fail
        go_roundw
        case rel => exact ⟨k + 1, by omega, by go_num, RD, BB⟩
        case measure => simp [intOf]; omega
    · have hkn : k = n := by omega
      subst hkn
      go_wp2_with fail
      go_ret
      exact ⟨_, rfl, own_down R.out (Nat.le_succ _), B0.out.trans (BB.out.mono (by omega))⟩

theorem ok_of {W M : List Int} (h : okF W M = true) : M.length = W.length ∧ M.length ≤ 576 := by
  unfold okF at h
  simpa only [Bool.and_eq_true, decide_eq_true_eq] using h
theorem sflood_any (z1 z2 : Int) (W M : List Int) (lM : M.length < 9223372036854775808) (w : World) (vw vm : Value) (hW : Lists.Reads w vw W) (hM : Lists.Reads w vm M) :
    Calls Try.prog 6 #[Bk.sv z1 z2 vw, vm] w fun e w' => ∃ v', e = .returned v' ∧ w'.ownsRow w.heap.size 2 1 v' (flood W M).length (ints (flood W M)) ∧ Below w.heap.size w w' := by
  unfold flood
  cases h : okF W M
  · exact sflood_no z1 z2 W M vw vm w hW hM lM h
  · exact sflood_yes z1 z2 W M vw vm w hW hM (ok_of h).1 (ok_of h).2
theorem iflood_any (z1 z2 : Int) (W M : List Int) (w : World) (vw vm : Value) (hW : Lists.Reads w vw W) (hM : Lists.Reads w vm M) :
    Calls Try.prog 9 #[Bk.sv z1 z2 vw, vm] w fun e w' => ∃ v', e = .returned v' ∧ w'.ownsRow w.heap.size 2 1 v' (flood W M).length (ints (flood W M)) ∧ Below w.heap.size w w' := by
  unfold flood
  cases h : okF W M
  · exact iflood_no z1 z2 W M vw vm w hW hM h
  · exact iflood_yes z1 z2 W M vw vm w hW hM (ok_of h).1 (ok_of h).2
end Go.Proofs.Ytpenjblhnihjkaa.Fd
