/- Texts drawn, told as functions of the code. -/
import Derived.Test.YtpehoakdhbicfaaDoorFd
import Derived.Test.YtpehoakdhbicfaaDoorBy
import Derived.Lib.ConvBytes
import Derived.ArgAppend
import Derived.Maps.AppendAt
namespace Go.Proofs.YtpehoakdhbicfaaDoor.Fd
open Go.ChangeShapes Go.WideShapes Go.ChangeAt Go.RowKit

/-- a cell of a new row, behind a draw -/
theorem cell_new {r : Nat} {wr w2 : World} {C : Array Value} {T : TypeId} (hr : r < wr.heap.size) (t : Turn r (wr.alloc (.cells C T)) w2) (k : Nat) : w2.cell? ⟨wr.heap.size, k, none⟩ = C[k]? := by
  rw [t.cell k (by simp) (by omega)]
  simp [World.cell?_alloc_new]

def pcl : List (List UInt8) := [[114, 97, 105, 110], [119, 105, 110, 100, 32], [32], [10], [78, 101, 98, 101, 108], [195, 188, 98, 101, 114], [195, 169], [113], [128], [195],
  [115, 116, 111, 114, 109, 45, 102, 111, 114, 99, 101], [13], [9], [49, 50], [230, 151, 165], [97, 32, 98], [83, 116, 114, 97, 195, 159, 101], [237, 160, 128], [240, 159, 140, 167], [122]]
def pc (k : Nat) : ByteArray := ⟨(pcl.getD k []).toArray⟩
def strs (l : List (List UInt8)) : Array Value := (l.map fun x => Value.string ⟨x.toArray⟩).toArray
theorem strs_at {C : Array Value} {l : List (List UInt8)} (h : C = strs l) {k : Nat} (hk : k < l.length) : C[k]? = some (.string ⟨(l.getD k []).toArray⟩) := by
  subst h
  unfold strs
  simp [List.getD, hk]
theorem pc_size : ∀ k, k < 20 → (pc k).size ≤ 11 := by decide

/-- so many pieces, and the place behind them -/
def wz (B : List UInt8) (p : Nat) : Nat → ByteArray × Nat
  | 0 => (⟨#[]⟩, p)
  | i + 1 => ((wz B p i).1 ++ pc (bw B (wz B p i).2 20), bp B (wz B p i).2 20)
theorem wz_size (B : List UInt8) (p : Nat) : ∀ i, (wz B p i).1.size ≤ 11 * i := by
  intro i
  induction i with
  | zero => exact Nat.le_refl _
  | succ i ih =>
    show ((wz B p i).1 ++ pc (bw B (wz B p i).2 20)).size ≤ _
    have := pc_size (bw B (wz B p i).2 20) (bw_lt B _ 20 (by omega))
    rw [ByteArray.size_append]
    omega
def wn (B : List UInt8) (p : Nat) : Nat := 1 + bw B p (szm B 12 60)
def wtx (B : List UInt8) (p : Nat) : ByteArray := (wz B (bp B p (szm B 12 60)) (wn B p)).1
def wpl (B : List UInt8) (p : Nat) : Nat := (wz B (bp B p (szm B 12 60)) (wn B p)).2
theorem szm_le (B : List UInt8) (per most : Nat) : szm B per most ≤ most := by unfold szm; split <;> omega
theorem szm_pos (B : List UInt8) (per most : Nat) (h : 1 ≤ most) : 1 ≤ szm B per most := by
  unfold szm
  split
  · exact h
  · exact Nat.le_add_right _ _
theorem wn_le (B : List UInt8) (p : Nat) : wn B p ≤ 60 := by
  unfold wn
  have := szm_le B 12 60
  have := szm_pos B 12 60 (by omega)
  have := bw_lt B p (szm B 12 60) (by omega)
  omega
theorem wtx_size (B : List UInt8) (p : Nat) : (wtx B p).size ≤ 660 := by
  have := wz_size B (bp B p (szm B 12 60)) (wn B p)
  have := wn_le B p
  unfold wtx
  omega

set_option maxHeartbeats 2000000 in
set_option maxRecDepth 100000 in
theorem words_any (B : List UInt8) (p r : Nat) (w : World) (h : Rd B p r w) :
    Calls Tryd.prog 13 #[.pointer (some ⟨r, 0, none⟩), .int .i64 60] w (Gives B r w (.string (wtx B p)) (wpl B p)) := by
  have SZ : Hid (Calls Tryd.prog 26 #[.pointer (some ⟨r, 0, none⟩), .int .i64 12, .int .i64 60] w (Gives B r w (.int .i64 (wn B p : Nat)) (bp B p (szm B 12 60)))) := size_any B p r w h 12 60 (by omega) (by omega) (by omega) (by omega)
  have BL : Hid (∀ q w, Rd B q r w → Calls Tryd.prog 16 #[.pointer (some ⟨r, 0, none⟩), .int .i64 20] w (Gives B r w (.int .i64 (bw B q 20 : Nat)) (bp B q 20))) := fun q w h => below_any B q r w h 20 (by omega) (by omega)
  have hn := wn_le B p
  have E1 : Hid (wtx B p = (wz B (bp B p (szm B 12 60)) (wn B p)).1) := rfl
  have E2 : Hid (wpl B p = (wz B (bp B p (szm B 12 60)) (wn B p)).2) := rfl
  generalize wn B p = n at *
  generalize wtx B p = TX at *
  generalize wpl B p = PL at *
  generalize bp B p (szm B 12 60) = p1 at *
  clear h
  go_enter Tryd.func13, Tryd.ntmps13
  go_wp2_with fail
  refine (Calls.mono SZ.out) ?_
  rintro e w1 ⟨rfl, k1, t1⟩
  have K1 : Hid (Rd B p1 r w1) := k1
  have T1 : Hid (Turn r w w1) := t1
  clear k1 t1 SZ
  go_wp2_with fail
  go_loopw [6, 7] (fun s y wr => ∃ (i q : Nat) (t : ByteArray), i ≤ n ∧ y = .int .i64 (i : Nat) ∧ s = .string t ∧ t.size ≤ 11 * i ∧ Hid ((t, q) = wz B p1 i) ∧ Hid (Rd B q r wr) ∧ Hid (Turn r w wr)) (fun _ y _ => n - (intOf y).toNat)
  case atStart => exact ⟨0, p1, ⟨#[]⟩, Nat.zero_le _, rfl, rfl, Nat.le_refl _, rfl, K1, T1⟩
  case round =>
    clear K1 T1
    obtain ⟨i, q, t, hi, rfl, rfl, ht, HT, K, T⟩ := hrel
    by_cases hlt : i < n
    · have i1 : (i : Int) < (n : Int) := by omega
      have hr := K.out.lt
      have KA : Hid (∀ o, Rd B q r (wr.alloc o)) := fun o => K.out.kept ((Below.refl wr.heap.size wr).alloc (Nat.le_refl _) _) hr
      have TA : Hid (∀ o, Turn r w (wr.alloc o)) := fun o => T.out.trans (Turn.of ((Below.refl wr.heap.size wr).alloc (Nat.le_refl _) o) (Nat.le_refl _) (by omega))
      have B1 : Hid (∀ w, Rd B q r w → Calls Tryd.prog 16 #[.pointer (some ⟨r, 0, none⟩), .int .i64 20] w (Gives B r w (.int .i64 (bw B q 20 : Nat)) (bp B q 20))) := fun w h => BL.out q w h
      have hu := bw_lt B q 20 (by omega)
      have HN : Hid ((t ++ pc (bw B q 20), bp B q 20) = wz B p1 (i + 1)) := by
        show _ = ((wz B p1 i).1 ++ pc (bw B (wz B p1 i).2 20), bp B (wz B p1 i).2 20)
        rw [← HT.out]
      have hps := pc_size (bw B q 20) hu
      obtain ⟨x, hx0⟩ : ∃ x, pc (bw B q 20) = x := ⟨_, rfl⟩
      have HX : Hid (pc (bw B q 20) = x) := hx0
      rw [hx0] at HN hps
      clear hx0
      generalize bw B q 20 = u at *
      generalize bp B q 20 = q' at *
      go_wp2_with fail
      refine (B1.out _ (KA.out _)).mono ?_
      rintro e w2 ⟨rfl, k2, t2⟩
      have cn := cell_new hr t2 u
      have hx : w2.cell? ⟨wr.heap.size, u, none⟩ = some (.string x) := by
        rw [cn, ← HX.out]
        exact strs_at (l := pcl) (by kernel_rfl) hu
      have K2 : Hid (Rd B q' r w2) := k2
      have T2 : Hid (Turn r w w2) := (TA.out _).trans t2
      have u0 : (0 : Int) ≤ (u : Int) := by omega
      have u1 : (u : Int) < 20 := by omega
      have ts : t.size ≤ 660 := by omega
      clear cn k2 t2 KA TA K T hr HX B1
      go_wp2_with fail
      go_roundw
      case rel => exact ⟨i + 1, q', t ++ x, by omega, by go_num, rfl, by rw [ByteArray.size_append]; omega, HN, K2, T2⟩
      case measure => simp [intOf]; omega
    · have i1 : ¬ (i : Int) < (n : Int) := by omega
      have ei : i = n := by omega
      have F1 : Hid (TX = t) := by
        show TX = t
        rw [E1.out, ← ei, ← HT.out]
      have F2 : Hid (PL = q) := by
        show PL = q
        rw [E2.out, ← ei, ← HT.out]
      clear ei E1 E2 HT
      go_wp2_with fail
      go_ret
      have f1 := F1.out
      have f2 := F2.out
      subst f1 f2
      exact ⟨rfl, K.out, T.out⟩

/-- what stands behind a text in DrawUpper -/
def tails : List (List UInt8) := [[195, 132, 195, 150, 195, 156, 195, 159], [195, 184, 195, 152, 195, 165, 195, 133], [195, 169, 195, 168, 195, 170, 195, 137, 195, 136, 195, 138],
  [195, 161, 195, 160, 195, 162, 195, 129, 195, 128, 195, 130, 195, 177, 195, 145], [123, 124, 125, 126]]

set_option maxHeartbeats 2000000 in
set_option maxRecDepth 100000 in
theorem dupper_any (B : List UInt8) (a : Option Addr) (cap : Nat) (w : World) (h : Cod B a cap w w.heap.size) (hn : B.length ≤ 1048576) :
    Calls Tryd.prog 8 #[.slice a B.length cap] w fun e w' => (∃ t : ByteArray, t.size ≤ 20000 ∧ e = .returned (.string t)) ∧ Below w.heap.size w w' := by
  have OP : Hid (Calls Tryd.prog 12 #[.slice a B.length cap] w fun e w' => e = .returned (.pointer (some ⟨w.heap.size, 0, none⟩)) ∧ w' = w.alloc (.cells #[.slice a B.length cap, .int .i64 0] 52)) := open_any _ a B.length cap rfl w
  have RA : Hid (Rd B 0 w.heap.size (w.alloc (.cells #[.slice a B.length cap, .int .i64 0] 52))) := Rd.new h hn
  have BL : Hid (∀ q w', Rd B q w.heap.size w' → Calls Tryd.prog 16 #[.pointer (some ⟨w.heap.size, 0, none⟩), .int .i64 5] w' (Gives B w.heap.size w' (.int .i64 (bw B q 5 : Nat)) (bp B q 5))) := fun q w' h => below_any B q _ w' h 5 (by omega) (by omega)
  have WO : Hid (∀ q w', Rd B q w.heap.size w' → Calls Tryd.prog 13 #[.pointer (some ⟨w.heap.size, 0, none⟩), .int .i64 60] w' (Gives B w.heap.size w' (.string (wtx B q)) (wpl B q))) := fun q w' h => words_any B q _ w' h
  have ON : Hid (∀ q w', Rd B q w.heap.size w' → Calls Tryd.prog 14 #[.pointer (some ⟨w.heap.size, 0, none⟩), .int .i64 3] w' (Gives B w.heap.size w' (.bool (ow B q 3)) (bp B q 3))) := fun q w' h => once_any B q _ w' h 3 (by omega) (by omega)
  have B0 : Hid (Below w.heap.size w (w.alloc (.cells #[.slice a B.length cap, .int .i64 0] 52))) := (Below.refl _ _).alloc (Nat.le_refl _) _
  have hts := wtx_size B 0
  clear h hn
  generalize B.length = n at *
  go_enter Tryd.func8, Tryd.ntmps8
  go_wp2_with fail
  refine (Calls.mono OP.out) ?_
  rintro e w1 ⟨rfl, hw1⟩
  rw [← hw1] at RA B0
  have hr := RA.out.lt
  clear hw1 OP
  go_wp2_with fail
  refine (WO.out 0 _ RA.out).mono ?_
  rintro e w2 ⟨rfl, k2, t2⟩
  have K2 : Hid (Rd B (wpl B 0) w.heap.size w2) := k2
  have B2 : Hid (Below w.heap.size w w2) := B0.out.trans t2.bel
  clear k2 t2 RA B0 hr
  generalize wtx B 0 = t at *
  generalize wpl B 0 = p2 at *
  go_wp2_with fail
  refine (ON.out p2 _ K2.out).mono ?_
  rintro e w3 ⟨rfl, k3, t3⟩
  have K3 : Hid (Rd B (bp B p2 3) w.heap.size w3) := k3
  have B3 : Hid (Below w.heap.size w w3) := B2.out.trans t3.bel
  have hr := k3.lt
  clear k3 t3 K2 B2
  generalize ow B p2 3 = c at *
  generalize bp B p2 3 = p3 at *
  cases c
  · go_wp2_with fail
    go_ret
    exact ⟨⟨t, by omega, rfl⟩, B3.out⟩
  · have KA : Hid (∀ o, Rd B p3 w.heap.size (w3.alloc o)) := fun o => K3.out.kept ((Below.refl w3.heap.size w3).alloc (Nat.le_refl _) _) hr
    have BA : Hid (∀ o, Below w.heap.size w (w3.alloc o)) := fun o => B3.out.alloc B3.out.size _
    have hu := bw_lt B p3 5 (by omega)
    have B1 : Hid (∀ w', Rd B p3 w.heap.size w' → Calls Tryd.prog 16 #[.pointer (some ⟨w.heap.size, 0, none⟩), .int .i64 5] w' (Gives B w.heap.size w' (.int .i64 (bw B p3 5 : Nat)) (bp B p3 5))) := fun w' h => BL.out p3 w' h
    have hsz : ∀ k, k < 5 → (⟨(tails.getD k []).toArray⟩ : ByteArray).size ≤ 100 := by decide
    have hs := hsz _ hu
    generalize bw B p3 5 = u at *
    generalize bp B p3 5 = p4 at *
    clear hsz
    go_wp2_with fail
    refine (B1.out _ (KA.out _)).mono ?_
    rintro e w4 ⟨rfl, k4, t4⟩
    have cn := cell_new hr t4 u
    obtain ⟨x, hx0⟩ : ∃ x, (⟨(tails.getD u []).toArray⟩ : ByteArray) = x := ⟨_, rfl⟩
    have hx : w4.cell? ⟨w3.heap.size, u, none⟩ = some (.string x) := by
      rw [cn, ← hx0]
      exact strs_at (l := tails) (by kernel_rfl) hu
    rw [hx0] at hs
    have B4 : Hid (Below w.heap.size w w4) := (BA.out _).trans t4.bel
    have u0 : (0 : Int) ≤ (u : Int) := by omega
    have u1 : (u : Int) < 5 := by omega
    clear cn k4 t4 KA BA K3 B3 hx0 B1
    go_wp2_with fail
    go_ret
    exact ⟨⟨_, by rw [ByteArray.size_append]; omega, rfl⟩, B4.out⟩
end Go.Proofs.YtpehoakdhbicfaaDoor.Fd
