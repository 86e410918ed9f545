/- Longest: the model and the program at every list of tracks. -/
import Derived.Test.YtpenjblhnihjkaaTs
namespace Go.Proofs.Ytpenjblhnihjkaa.Lg
open Go.ChangeShapes Go.WideShapes Go.ChangeAt Go.RowKit
open Go.Proofs.Ytpenjblhnihjkaa.Ts

def bx (L : Ls) : Nat → Nat
  | 0 => 0
  | k + 1 => if (cl L (bx L k)).length < (cl L k).length then k else bx L k
theorem bx_lt (L : Ls) (k : Nat) (h : k < L.length) : bx L k < L.length := by
  induction k with
  | zero => exact h
  | succ k ih => unfold bx; split; omega; exact ih (by omega)
theorem bx_le (L : Ls) (k : Nat) (h : 0 < k) : bx L k < k := by
  induction k with
  | zero => omega
  | succ k ih =>
    unfold bx
    split
    · omega
    · by_cases e : k = 0
      · subst e; simp [bx]
      · have := ih (by omega); omega
def lo (L : Ls) : Int := if 0 < L.length ∧ L.length ≤ 1200 then cz L (bx L L.length) 0 else 0
def Rd (w : World) (L : Ls) (b o : Nat) : Prop := ∀ i, i < L.length → Cs w b o L i
theorem reads_at {w : World} {v : Value} {L : Ls} (h : Reads w v L) : ∃ b o, Rd w L b o ∧ (0 < L.length → b < w.heap.size ∧ ∃ cap, v = .slice (some ⟨b, o, none⟩) L.length cap) := by
  rcases h with ⟨rfl, _⟩ | ⟨b, o, cap, h1, h2, h3, h4, h5⟩
  · exact ⟨0, 0, fun i hi => by simp at hi, fun hi => by simp at hi⟩
  · exact ⟨b, o, h5, fun _ => ⟨h4, cap, h1⟩⟩

set_option maxHeartbeats 1000000 in
theorem slong_no (L : Ls) (v : Value) (w : World) (h : Reads w v L) (hn : ¬ (0 < L.length ∧ L.length ≤ 1200)) :
    Calls Try.prog 16 #[v] w fun e w' => e = .returned (.int .i64 0) ∧ Below w.heap.size w w' := by
  obtain ⟨a, cap, rfl⟩ := h.form
  have fit := h.fits
  generalize List.length L = n at *
  clear h
  by_cases n0 : n = 0
  · subst n0
    go_enter Try.func16, Try.ntmps16
    go_wp2_with fail
    go_loop [3, 5] (fun x i => x = .int .i64 0 ∧ i = .int .i64 0) (fun _ _ => 0)
    case atStart => exact ⟨rfl, rfl⟩
    case round =>
      obtain ⟨rfl, rfl⟩ := hrel
      go_wp2_with fail
      go_ret
      exact ⟨rfl, Below.refl _ _⟩
  · have i1 : (0 : Int) < (n : Int) := by omega
    have i2 : ¬ (n : Int) ≤ 1200 := by omega
    go_enter Try.func16, Try.ntmps16
    go_wp2_with fail
    go_loop [3, 5] (fun x i => x = .int .i64 0 ∧ i = .int .i64 0) (fun _ _ => 0)
    case atStart => exact ⟨rfl, rfl⟩
    case round =>
      obtain ⟨rfl, rfl⟩ := hrel
      go_wp2_with fail
      go_ret
      exact ⟨rfl, Below.refl _ _⟩

set_option maxHeartbeats 1000000 in
theorem slong_yes (L : Ls) (v : Value) (w : World) (h : Reads w v L) (h0 : 0 < L.length) (h1 : L.length ≤ 1200) :
    Calls Try.prog 16 #[v] w fun e w' => e = .returned (.int .i64 (cz L (bx L L.length) 0)) ∧ Below w.heap.size w w' := by
  obtain ⟨b, o, hc, hv⟩ := reads_at h
  obtain ⟨hb, cap, rfl⟩ := hv h0
  have HC : Hid (Rd w L b o) := hc
  obtain ⟨A, hA⟩ : ∃ A, cz L (bx L L.length) 0 = A := ⟨_, rfl⟩
  rw [hA]
  have HA : Hid (cz L (bx L L.length) 0 = A) := hA
  obtain ⟨n, hn⟩ : ∃ n, n = List.length L := ⟨_, rfl⟩
  rw [← hn] at h0 h1 ⊢
  have HN : Hid (n = List.length L) := hn
  have i9 : (n : Int) ≤ 1200 := by omega
  clear h hc hv hn hA
  go_enter Try.func16, Try.ntmps16
  go_wp2_with fail
  go_loop [3, 4, 5] (fun x m i => ∃ (k : Nat) (X M : Int), k ≤ n ∧ i = .int .i64 k ∧ x = .int .i64 X ∧ m = .int .i64 M ∧ Hid ((k = 0 ∧ M = -1) ∨ (0 < k ∧ X = cz L (bx L k) 0 ∧ M = (cl L (bx L k)).length))) (fun _ _ i => n - (intOf i).toNat)
  case atStart => exact ⟨0, 0, -1, by omega, rfl, rfl, rfl, .inl ⟨rfl, rfl⟩⟩
  case round =>
    obtain ⟨k, X, M, hk, rfl, rfl, rfl, ST⟩ := hrel
    by_cases hlt : k < n
    · have hkl : k < List.length L := by rw [← HN.out]; exact hlt
      obtain ⟨q0, q1, q3, q4, u, qu, ru⟩ := HC.out k hkl
      have lf := lfits ru
      obtain ⟨ua, uc, rfl⟩ := ru.form
      have i1 : (0 : Int) ≤ (k : Int) := by omega
      have i2 : (k : Int) < (n : Int) := by omega
      have BN : Hid (bx L (k + 1) = if (cl L (bx L k)).length < (cl L k).length then k else bx L k) := rfl
      have TK : Hid (M < (cl L k).length → bx L (k + 1) = k) := fun hm => by
        rw [BN.out]
        rcases ST.out with ⟨e, _⟩ | ⟨_, _, e⟩
        · subst e; simp [bx]
        · rw [if_pos (by omega)]
      have KP : Hid (¬ M < (cl L k).length → 0 < k ∧ bx L (k + 1) = bx L k ∧ X = cz L (bx L k) 0 ∧ M = (cl L (bx L k)).length) := fun hm => by
        rcases ST.out with ⟨_, e⟩ | ⟨e0, e1, e⟩
        · omega
        · exact ⟨e0, by rw [BN.out, if_neg (by omega)], e1, e⟩
      by_cases hm : M < ((cl L k).length : Int)
      · have S2 : Hid ((k + 1 = 0 ∧ ((cl L k).length : Int) = -1) ∨ (0 < k + 1 ∧ cz L k 0 = cz L (bx L (k + 1)) 0 ∧ ((cl L k).length : Int) = (cl L (bx L (k + 1))).length)) := .inr ⟨by omega, by rw [TK.out hm], by rw [TK.out hm]⟩
        clear TK KP ST BN ru
        generalize cz L k 0 = y0 at *
        generalize (cl L k).length = yl at *
        go_wp2_with fail
        go_round
        case rel => exact ⟨k + 1, y0, yl, by omega, by go_num, rfl, rfl, S2⟩
        case measure => simp [intOf]; omega
      · have S2 : Hid ((k + 1 = 0 ∧ M = -1) ∨ (0 < k + 1 ∧ X = cz L (bx L (k + 1)) 0 ∧ M = (cl L (bx L (k + 1))).length)) := (by
          obtain ⟨_, e1, e2, e3⟩ := KP.out hm
          exact .inr ⟨by omega, by rw [e1]; exact e2, by rw [e1]; exact e3⟩)
        clear TK KP ST BN ru
        generalize cz L k 0 = y0 at *
        generalize (cl L k).length = yl at *
        go_wp2_with fail
        go_round
        case rel => exact ⟨k + 1, X, M, by omega, by go_num, rfl, rfl, S2⟩
        case measure => simp [intOf]; omega
    · have ek : k = n := by omega
      subst ek
      have HX : Hid (X = A) := (by
        rcases ST.out with ⟨e, _⟩ | ⟨_, e, _⟩
        · omega
        · show X = A; rw [e, ← HA.out, ← HN.out])
      go_wp2_with fail
      go_ret
      exact ⟨by rw [← HX.out]; rfl, Below.refl _ _⟩

set_option maxHeartbeats 1000000 in
theorem ilong_no (L : Ls) (v : Value) (w : World) (h : Reads w v L) (hn : ¬ (0 < L.length ∧ L.length ≤ 1200)) :
    Calls Try.prog 18 #[v] w fun e w' => e = .returned (.int .i64 0) ∧ Below w.heap.size w w' := by
  obtain ⟨a, cap, rfl⟩ := h.form
  have fit := h.fits
  generalize List.length L = n at *
  clear h
  by_cases n0 : n = 0
  · subst n0
    go_enter Try.func18, Try.ntmps18
    go_wp2_with fail
    go_ret
    exact ⟨rfl, Below.refl _ _⟩
  · have i1 : ((n : Int) == 0) = false := by simp; omega
    have i2 : (1200 : Int) < (n : Int) := by omega
    go_enter Try.func18, Try.ntmps18
    go_wp2_with fail
    go_ret
    exact ⟨rfl, Below.refl _ _⟩

def Fz (w : World) (g : Nat) : Prop := w.frozen? ⟨g, 0, none⟩ = false ∧ w.frozen? ⟨g, 1, none⟩ = false ∧ w.frozen? ⟨g, 2, none⟩ = false ∧ w.frozen? ⟨g, 3, none⟩ = false ∧ w.frozen? ⟨g, 4, none⟩ = false

set_option maxHeartbeats 2000000 in
theorem ilong_yes (L : Ls) (v : Value) (w : World) (h : Reads w v L) (h0 : 0 < L.length) (h1 : L.length ≤ 1200) :
    Calls Try.prog 18 #[v] w fun e w' => e = .returned (.int .i64 (cz L (bx L L.length) 0)) ∧ Below w.heap.size w w' := by
  obtain ⟨b, o, hc, hv⟩ := reads_at h
  obtain ⟨hb, cap, rfl⟩ := hv h0
  have HC : Hid (Rd w L b o) := hc
  obtain ⟨A, hA⟩ : ∃ A, cz L (bx L L.length) 0 = A := ⟨_, rfl⟩
  rw [hA]
  have HA : Hid (cz L (bx L L.length) 0 = A) := hA
  obtain ⟨p0, p1, p3, p4, u, pu, ru⟩ := hc 0 h0
  obtain ⟨ua, uc, rfl⟩ := ru.form
  simp only [Nat.zero_mul, Nat.add_zero] at p0 p1 p3 p4 pu
  obtain ⟨n, hn⟩ : ∃ n, n = List.length L := ⟨_, rfl⟩
  rw [← hn] at h0 h1 ⊢
  have HN : Hid (n = List.length L) := hn
  have i9 : ¬ (1200 : Int) < (n : Int) := by omega
  have i8 : ((n : Int) == 0) = false := by simp; omega
  have i7 : (0 : Int) < (n : Int) := by omega
  obtain ⟨w0, hw0⟩ : ∃ w0, w0 = w.alloc (Obj.cells #[.int .i64 (cz L 0 0), .int .i64 (cz L 0 1), .slice ua (cl L 0).length uc, .int .i64 (cz L 0 3), .int .i64 (cz L 0 4)] 45) := ⟨_, rfl⟩
  have HW0 : Hid (w0 = w.alloc (Obj.cells #[.int .i64 (cz L 0 0), .int .i64 (cz L 0 1), .slice ua (cl L 0).length uc, .int .i64 (cz L 0 3), .int .i64 (cz L 0 4)] 45)) := hw0
  have B0 : Hid (Below w.heap.size w w0) := (by show Below _ _ _; rw [hw0]; exact (Below.refl _ _).alloc (Nat.le_refl _) _)
  have z0 : w0.heap.size = w.heap.size + 1 := by rw [hw0]; simp
  have X0 : Hid (Tk.Box w0 w.heap.size (.int .i64 (cz L (bx L 0) 0)) (.int .i64 (cz L 0 1)) (.slice ua (cl L (bx L 0)).length uc) (.int .i64 (cz L 0 3)) (.int .i64 (cz L 0 4))) := (by show Tk.Box _ _ _ _ _ _ _; rw [hw0]; unfold Tk.Box; simp [go_sem, bx])
  have F0 : Hid (Fz w0 w.heap.size) := (by show Fz _ _; rw [hw0]; unfold Fz; simp [go_sem])
  have Z0 : Hid (w.heap.size + 1 ≤ w0.heap.size) := (by show _ ≤ _; omega)
  clear h hc hv hn hA ru hw0 z0
  go_enter Try.func18, Try.ntmps18
  go_wp2_with fail
  rw [← HW0.out]
  clear HW0 p0 p1 p3 p4 pu i9 i8
  go_loopw [19] (fun i wr => ∃ (k : Nat) (ua : Option Addr) (uc : Nat) (y1 y3 y4 : Int), k ≤ n ∧ i = .int .i64 k ∧ Hid (Tk.Box wr w.heap.size (.int .i64 (cz L (bx L k) 0)) (.int .i64 y1) (.slice ua (cl L (bx L k)).length uc) (.int .i64 y3) (.int .i64 y4)) ∧ Hid (Fz wr w.heap.size) ∧ Hid (w.heap.size + 1 ≤ wr.heap.size) ∧ Hid (Below w.heap.size w wr)) (fun i _ => n - (intOf i).toNat)
  case atStart => exact ⟨0, ua, uc, _, _, _, by omega, rfl, X0, F0, Z0, B0⟩
  case round =>
    clear X0 F0 Z0 B0
    obtain ⟨k, sa, sc, y1, y3, y4, hk, rfl, XB, FB, ZB, BB⟩ := hrel
    by_cases hlt : k < n
    · have hkl : k < List.length L := by rw [← HN.out]; exact hlt
      obtain ⟨q0, q1, q3, q4, u, qu, ru⟩ := (HC.out k hkl).on BB.out hb
      have lf := lfits ru
      obtain ⟨va, vc, rfl⟩ := ru.form
      have i1 : (0 : Int) ≤ (k : Int) := by omega
      have i2 : (k : Int) < (n : Int) := by omega
      have BN : Hid (bx L (k + 1) = if (cl L (bx L k)).length < (cl L k).length then k else bx L k) := rfl
      obtain ⟨x0, x1, x2, x3, x4⟩ := XB.out
      obtain ⟨f0, f1, f2, f3, f4⟩ := FB.out
      have zb := ZB.out
      by_cases hm : (cl L (bx L k)).length < (cl L k).length
      · have hm' : ((cl L (bx L k)).length : Int) < ((cl L k).length : Int) := by omega
        obtain ⟨w6, hw6⟩ : ∃ w6, w6 = (((((wr.setCell ⟨w.heap.size, 0, none⟩ (.int .i64 (cz L k 0))).setCell ⟨w.heap.size, 1, none⟩ (.int .i64 (cz L k 1))).setCell ⟨w.heap.size, 2, none⟩ (.slice va (cl L k).length vc)).setCell ⟨w.heap.size, 3, none⟩ (.int .i64 (cz L k 3))).setCell ⟨w.heap.size, 4, none⟩ (.int .i64 (cz L k 4))).alloc (Obj.cells #[.int .i64 (cz L k 0), .int .i64 (cz L k 1), .slice va (cl L k).length vc, .int .i64 (cz L k 3), .int .i64 (cz L k 4)] 45) := ⟨_, rfl⟩
        have HW6 : Hid (w6 = (((((wr.setCell ⟨w.heap.size, 0, none⟩ (.int .i64 (cz L k 0))).setCell ⟨w.heap.size, 1, none⟩ (.int .i64 (cz L k 1))).setCell ⟨w.heap.size, 2, none⟩ (.slice va (cl L k).length vc)).setCell ⟨w.heap.size, 3, none⟩ (.int .i64 (cz L k 3))).setCell ⟨w.heap.size, 4, none⟩ (.int .i64 (cz L k 4))).alloc (Obj.cells #[.int .i64 (cz L k 0), .int .i64 (cz L k 1), .slice va (cl L k).length vc, .int .i64 (cz L k 3), .int .i64 (cz L k 4)] 45)) := hw6
        have zlt : w.heap.size < wr.heap.size := by omega
        have X6 : Hid (Tk.Box w6 w.heap.size (.int .i64 (cz L (bx L (k + 1)) 0)) (.int .i64 (cz L k 1)) (.slice va (cl L (bx L (k + 1))).length vc) (.int .i64 (cz L k 3)) (.int .i64 (cz L k 4))) := (by
          show Tk.Box _ _ _ _ _ _ _
          rw [BN.out, if_pos hm, hw6]
          unfold Tk.Box
          simp [go_sem, x0, x1, x2, x3, x4, zlt])
        have F6 : Hid (Fz w6 w.heap.size) := (by show Fz _ _; rw [hw6]; unfold Fz; simp [go_sem, f0, f1, f2, f3, f4, zlt])
        have Z6 : Hid (w.heap.size + 1 ≤ w6.heap.size) := (by show _ ≤ _; rw [hw6]; simp; omega)
        have B6 : Hid (Below w.heap.size w w6) := (by show Below _ _ _; rw [hw6]; exact (((((BB.out.setCell (p := ⟨w.heap.size, 0, none⟩) (Nat.le_refl _) _).setCell (p := ⟨w.heap.size, 1, none⟩) (Nat.le_refl _) _).setCell (p := ⟨w.heap.size, 2, none⟩) (Nat.le_refl _) _).setCell (p := ⟨w.heap.size, 3, none⟩) (Nat.le_refl _) _).setCell (p := ⟨w.heap.size, 4, none⟩) (Nat.le_refl _) _).alloc (by simp; omega) _)
        clear XB FB ZB BB BN hm hw6 ru
        generalize cz L k 0 = e0 at *
        generalize cz L k 1 = e1 at *
        generalize cz L k 3 = e3 at *
        generalize cz L k 4 = e4 at *
        generalize (cl L k).length = el at *
        generalize (cl L (bx L k)).length = eb at *
        go_wp2_with fail
        rw [← HW6.out]
        go_roundw
        case rel => exact ⟨k + 1, va, vc, e1, e3, e4, by omega, by go_num, X6, F6, Z6, B6⟩
        case measure => simp [intOf]; omega
      · have hm' : ¬ ((cl L (bx L k)).length : Int) < ((cl L k).length : Int) := by omega
        obtain ⟨w6, hw6⟩ : ∃ w6, w6 = wr.alloc (Obj.cells #[.int .i64 (cz L k 0), .int .i64 (cz L k 1), .slice va (cl L k).length vc, .int .i64 (cz L k 3), .int .i64 (cz L k 4)] 45) := ⟨_, rfl⟩
        have HW6 : Hid (w6 = wr.alloc (Obj.cells #[.int .i64 (cz L k 0), .int .i64 (cz L k 1), .slice va (cl L k).length vc, .int .i64 (cz L k 3), .int .i64 (cz L k 4)] 45)) := hw6
        have zlt : w.heap.size < wr.heap.size := by omega
        have bel : Below wr.heap.size wr w6 := by rw [hw6]; exact (Below.refl _ _).alloc (Nat.le_refl _) _
        have X6 : Hid (Tk.Box w6 w.heap.size (.int .i64 (cz L (bx L (k + 1)) 0)) (.int .i64 y1) (.slice sa (cl L (bx L (k + 1))).length sc) (.int .i64 y3) (.int .i64 y4)) := (by
          show Tk.Box _ _ _ _ _ _ _
          rw [BN.out, if_neg hm]
          exact XB.out.on bel zlt)
        have F6 : Hid (Fz w6 w.heap.size) := ⟨(bel.frozen (p := ⟨w.heap.size, 0, none⟩) zlt).trans f0, (bel.frozen (p := ⟨w.heap.size, 1, none⟩) zlt).trans f1, (bel.frozen (p := ⟨w.heap.size, 2, none⟩) zlt).trans f2, (bel.frozen (p := ⟨w.heap.size, 3, none⟩) zlt).trans f3, (bel.frozen (p := ⟨w.heap.size, 4, none⟩) zlt).trans f4⟩
        have Z6 : Hid (w.heap.size + 1 ≤ w6.heap.size) := Nat.le_trans ZB.out bel.size
        have B6 : Hid (Below w.heap.size w w6) := BB.out.trans (bel.mono BB.out.size)
        clear XB FB ZB BB BN hm hw6 ru bel
        generalize cz L k 0 = e0 at *
        generalize cz L k 1 = e1 at *
        generalize cz L k 3 = e3 at *
        generalize cz L k 4 = e4 at *
        generalize (cl L k).length = el at *
        generalize (cl L (bx L k)).length = eb at *
        go_wp2_with fail
        rw [← HW6.out]
        go_roundw
        case rel => exact ⟨k + 1, sa, sc, y1, y3, y4, by omega, by go_num, X6, F6, Z6, B6⟩
        case measure => simp [intOf]; omega
    · have ek : k = n := by omega
      subst ek
      have HX : Hid (cz L (bx L k) 0 = A) := (by show _ = A; rw [← HA.out, ← HN.out])
      obtain ⟨x0, x1, x2, x3, x4⟩ := XB.out
      rw [HX.out] at x0
      go_wp2_with fail
      go_ret
      exact ⟨rfl, BB.out⟩
theorem slong_any (L : Ls) (w : World) (v : Value) (h : Reads w v L) : Calls Try.prog 16 #[v] w fun e w' => e = .returned (.int .i64 (lo L)) ∧ Below w.heap.size w w' := by
  unfold lo
  by_cases hn : 0 < L.length ∧ L.length ≤ 1200
  · rw [if_pos hn]; exact slong_yes L v w h hn.1 hn.2
  · rw [if_neg hn]; exact slong_no L v w h hn
theorem ilong_any (L : Ls) (w : World) (v : Value) (h : Reads w v L) : Calls Try.prog 18 #[v] w fun e w' => e = .returned (.int .i64 (lo L)) ∧ Below w.heap.size w w' := by
  unfold lo
  by_cases hn : 0 < L.length ∧ L.length ≤ 1200
  · rw [if_pos hn]; exact ilong_yes L v w h hn.1 hn.2
  · rw [if_neg hn]; exact ilong_no L v w h hn
end Go.Proofs.Ytpenjblhnihjkaa.Lg
