/- FnCleaned: the law. -/
import Derived.Test.YtpehoakdhbicfaaDoorFc
import Derived.Test.YtpehoakdhbicfaaDoorId
import Derived.Test.YtpehoakdhbicfaaDoorUpL
import Derived.Test.YtpehoakdhbicfaaDoorRunf
namespace Go.Proofs.YtpehoakdhbicfaaDoor.Ru
open Go.ChangeShapes Go.WideShapes Go.ChangeAt Go.RowKit

/-- what Clean answers -/
def cleanOf (L : List UInt8) (u : ByteArray) : Prop :=
  (∀ v w, Reads w v L → Calls Tryd.prog 7 #[v] w fun e w' => e = .returned (.string u) ∧ Below w.heap.size w w') ∧
  (∀ v w, Reads w v L → Lib.Utf8Tabs 0 1 w → Calls Tryd.prog 6 #[v] w fun e w' => e = .returned (.string u) ∧ Below w.heap.size w w')
theorem clean_small {L : List UInt8} (h : L.length ≤ 20000) {k : Nat} (hk : Ends ⟨L.toArray⟩ k) : cleanOf L ⟨(outs ⟨L.toArray⟩ k).toArray⟩ := by
  refine ⟨fun v w hR => ?_, fun v w hR hT => ?_⟩
  · refine (sclean v L ⟨L.toArray⟩ rfl w hR (by rw [size_mk]; exact h)).mono ?_
    rintro e w' ⟨m, hm, rfl, hb⟩
    rw [ends_one hk hm]
    exact ⟨rfl, hb⟩
  · refine (iclean v L ⟨L.toArray⟩ rfl w hR (by rw [size_mk]; exact h) hT).mono ?_
    rintro e w' ⟨m, hm, rfl, hb⟩
    rw [ends_one hk hm]
    exact ⟨rfl, hb⟩
theorem clean_all (L : List UInt8) : ∃ u, cleanOf L u ∧ cleanOf u.data.toList u ∧ u.size ≤ 20000 := by
  by_cases h : L.length ≤ 20000
  · obtain ⟨k, hk⟩ := ends_any ⟨L.toArray⟩
    have hle := outs_le hk.2
    have hp := (pos_ge hk.2).2
    rw [size_mk] at hp
    refine ⟨⟨(outs ⟨L.toArray⟩ k).toArray⟩, clean_small h hk, ?_, by rw [size_mk]; omega⟩
    obtain ⟨m, hm⟩ := ends_any ⟨(outs ⟨L.toArray⟩ k).toArray⟩
    have e := clean_again hk hm
    have c := clean_small (L := outs ⟨L.toArray⟩ k) (by omega) hm
    rw [e] at c
    simpa using c
  · refine ⟨⟨#[]⟩, ⟨fun v w hR => ?_, fun v w hR hT => ?_⟩, ?_, by decide⟩
    · refine (sclean_big v L w hR (by omega)).mono ?_
      rintro e w' ⟨rfl, rfl⟩
      exact ⟨rfl, Below.refl _ _⟩
    · refine (iclean_big v L w hR (by omega)).mono ?_
      rintro e w' ⟨rfl, rfl⟩
      exact ⟨rfl, Below.refl _ _⟩
    · have c := clean_small (L := []) (by simp) (k := 0) ⟨by rw [size_mk]; simp, lows_zero _⟩
      exact c
end Go.Proofs.YtpehoakdhbicfaaDoor.Ru
namespace Go.Proofs.YtpehoakdhbicfaaDoor.Uq
open Go.ChangeShapes Go.WideShapes Go.ChangeAt Go.RowKit
open Go.Proofs.YtpehoakdhbicfaaDoor.Ru

/-- what Upper answers -/
def upOf (s u : ByteArray) : Prop :=
  (∀ w, Calls Tryd.prog 10 #[.string s] w fun e w' => e = .returned (.string u) ∧ Below w.heap.size w w') ∧
  (∀ w, Calls Tryd.prog 9 #[.string s] w fun e w' => e = .returned (.string u) ∧ Below w.heap.size w w')
theorem ends_any (s : ByteArray) : ∃ k, Ends s k := by
  obtain ⟨k, hk⟩ : ∃ k, ¬ lows s k := ⟨s.size + 1, fun x => by have := pos_ge x; omega⟩
  induction k with
  | zero => exact absurd (lows_zero s) hk
  | succ k ih =>
    by_cases hl : lows s k
    · exact ⟨k, fun x => hk (lows_succ hl x), hl⟩
    · exact ih hl
theorem up_fits {s : ByteArray} (h : s.size ≤ 20000) {k : Nat} (hk : Ends s k) : upOf s ⟨(outs s k).toArray⟩ := by
  refine ⟨fun w => ?_, fun w => ?_⟩
  · refine (supper s w h fun p w hp => rune_any s p w (by omega) hp).mono ?_
    rintro e w' ⟨m, hm, rfl, hb⟩
    rw [ends_one hk hm]
    exact ⟨rfl, hb⟩
  · refine (iupper s w h).mono ?_
    rintro e w' ⟨m, hm, rfl, hb⟩
    rw [ends_one hk hm]
    exact ⟨rfl, hb⟩
theorem up_all (s : ByteArray) (h : s.size ≤ 20000) : ∃ l : List UInt8, upOf s ⟨l.toArray⟩ ∧ upOf ⟨l.toArray⟩ ⟨l.toArray⟩ ∧ l.length ≤ 20000 ∧ ∀ c, c ∈ l → up1 c := by
  obtain ⟨k, hk⟩ := ends_any s
  have hle := outs_le hk.2
  have hp := (pos_ge hk.2).2
  refine ⟨outs s k, up_fits h hk, ?_, by omega, outs_up s k⟩
  obtain ⟨m, hm⟩ := ends_any ⟨(outs s k).toArray⟩
  have c := up_fits (s := ⟨(outs s k).toArray⟩) (by rw [Ru.size_mk]; omega) hm
  rw [up_again hm] at c
  exact c
end Go.Proofs.YtpehoakdhbicfaaDoor.Uq
namespace Go.Proofs.YtpehoakdhbicfaaDoor.Cw
open Go.ChangeShapes Go.WideShapes Go.ChangeAt Go.RowKit
open Go.Proofs.YtpehoakdhbicfaaDoor.Ru (Reads cleanOf clean_all)
open Go.Proofs.YtpehoakdhbicfaaDoor.Uq (upOf up_all up1)
open Go.Proofs.YtpehoakdhbicfaaDoor.Fd (Cod dcl dclean_any dupper_any cb_new below_bytes)

set_option maxHeartbeats 1000000 in
theorem big_any (a : Option Addr) (n cap : Nat) (w : World) (hn : n < 9223372036854775808) : Calls Tryd.prog 4 #[.slice a n cap] w fun e w' => e = .returned (.bool (decide (1048576 < n))) ∧ w' = w := by
  have hd : Hid (decide (1048576 < n) = decide ((1048576 : Int) < (n : Int))) := by
    show _ = _
    rw [Bool.eq_iff_iff]; simp; omega
  generalize decide (1048576 < n) = q at *
  go_enter Tryd.func4, Tryd.ntmps4
  go_wp2_with fail
  go_ret
  refine ⟨?_, rfl⟩
  have := hd.out
  subst this
  rfl
set_option maxHeartbeats 1000000 in
theorem plain_any (l : List UInt8) (w : World) (hl : l.length ≤ 20000) (h : ∀ c, c ∈ l → up1 c) : Calls Tryd.prog 11 #[.string ⟨l.toArray⟩] w fun e w' => e = .returned (.bool true) ∧ w' = w := by
  obtain ⟨s, hs⟩ : ∃ s : ByteArray, s = ⟨l.toArray⟩ := ⟨_, rfl⟩
  have hz : s.size = l.length := by rw [hs, Ru.size_mk]
  have hb : ∀ k (hk : k < s.size), (s[k]'hk).toNat < 128 := by
    intro k hk
    rw [Ru.bt_at s k hk, hs, Ru.bt_mk l k (by omega)]
    exact (h _ (List.getElem_mem _)).1
  rw [← hs]
  rw [← hz] at hl
  clear hs hz h
  go_enter Tryd.func11, Tryd.ntmps11
  go_wp2_with fail
  go_loop [3] (fun i => ∃ k : Nat, k ≤ s.size ∧ i = .int .i64 k) (fun i => s.size - (intOf i).toNat)
  case atStart => exact ⟨0, Nat.zero_le _, rfl⟩
  case round =>
    obtain ⟨k, hk, rfl⟩ := hrel
    by_cases hlt : k < s.size
    · have hb1 := hb k hlt
      have hb2 : ¬ (128 : Int) ≤ ((s[k]'hlt).toNat : Int) := by omega
      have i1 : (k : Int) < (s.size : Int) := by omega
      go_wp2_with fail
      go_round
      case rel => exact ⟨k + 1, by omega, by go_num⟩
      case measure => simp [intOf]; omega
    · go_wp2_with fail
      go_ret
      exact ⟨rfl, rfl⟩

set_option maxHeartbeats 4000000 in
set_option maxRecDepth 100000 in
theorem cleanedLaw (B C : List UInt8) (a c : Option Addr) (cap capc : Nat) (w : World) (hT : Lib.Utf8Tabs 0 1 w) (hB : Cod B a cap w w.heap.size) (hC : Cod C c capc w w.heap.size) (hb : B.length < 9223372036854775808) (hc : C.length < 9223372036854775808) :
    Calls Tryd.prog 3 #[.slice a B.length cap, .slice c C.length capc] w fun e w' => e = .returned (.bool true) ∧ Below w.heap.size w w' := by
  have G1 : Hid (∀ w, Calls Tryd.prog 4 #[.slice a B.length cap] w fun e w' => e = .returned (.bool (decide (1048576 < B.length))) ∧ w' = w) := fun w => big_any a _ cap w hb
  have G2 : Hid (∀ w, Calls Tryd.prog 4 #[.slice c C.length capc] w fun e w' => e = .returned (.bool (decide (1048576 < C.length))) ∧ w' = w) := fun w => big_any c _ capc w hc
  by_cases b1 : 1048576 < B.length
  · rw [decide_eq_true b1] at G1
    go_enter Tryd.func3, Tryd.ntmps3
    go_wp2_with fail
    refine (G1.out _).mono ?_
    rintro e w1 ⟨rfl, hw1⟩
    subst w1
    go_wp2_with fail
    go_ret
    exact ⟨rfl, Below.refl _ _⟩
  by_cases b2 : 1048576 < C.length
  · rw [decide_eq_false b1] at G1
    rw [decide_eq_true b2] at G2
    go_enter Tryd.func3, Tryd.ntmps3
    go_wp2_with fail
    refine (G1.out _).mono ?_
    rintro e w1 ⟨rfl, hw1⟩
    subst w1
    go_wp2_with fail
    refine (G2.out _).mono ?_
    rintro e w1 ⟨rfl, hw1⟩
    subst w1
    go_wp2_with fail
    go_ret
    exact ⟨rfl, Below.refl _ _⟩
  rw [decide_eq_false b1] at G1
  rw [decide_eq_false b2] at G2
  have D1 : Hid (∀ w', Below w.heap.size w w' → Calls Tryd.prog 5 #[.slice a B.length cap] w' fun e w'' => ∃ v, e = .returned v ∧ Reads w'' v (dcl B) ∧ Below w'.heap.size w' w'') :=
    fun w' h => dclean_any B a cap w' ((hB.kept h (Nat.le_refl _)).up h.size) (by omega)
  have D2 : Hid (∀ w', Below w.heap.size w w' → Calls Tryd.prog 8 #[.slice c C.length capc] w' fun e w'' => (∃ t : ByteArray, t.size ≤ 20000 ∧ e = .returned (.string t)) ∧ Below w'.heap.size w' w'') :=
    fun w' h => dupper_any C c capc w' ((hC.kept h (Nat.le_refl _)).up h.size) (by omega)
  have HT : Hid (Lib.Utf8Tabs 0 1 w) := hT
  obtain ⟨u, c1, c2, hu⟩ := clean_all (dcl B)
  have C1 : Hid (∀ v w, Reads w v (dcl B) → Calls Tryd.prog 7 #[v] w fun e w' => e = .returned (.string u) ∧ Below w.heap.size w w') := c1.1
  have C2 : Hid (∀ v w, Reads w v (dcl B) → Lib.Utf8Tabs 0 1 w → Calls Tryd.prog 6 #[v] w fun e w' => e = .returned (.string u) ∧ Below w.heap.size w w') := c1.2
  have C3 : Hid (∀ v w, Reads w v u.data.toList → Lib.Utf8Tabs 0 1 w → Calls Tryd.prog 6 #[v] w fun e w' => e = .returned (.string u) ∧ Below w.heap.size w w') := c2.2
  clear c1 c2 hT hB hC hb hc b1 b2
  generalize B.length = nB at *
  generalize C.length = nC at *
  generalize dcl B = DL at *
  go_enter Tryd.func3, Tryd.ntmps3
  go_wp2_with fail
  refine (G1.out _).mono ?_
  rintro e w1 ⟨rfl, hw1⟩
  subst w1
  go_wp2_with fail
  refine (G2.out _).mono ?_
  rintro e w1 ⟨rfl, hw1⟩
  subst w1
  go_wp2_with fail
  refine (D1.out _ (Below.refl _ _)).mono ?_
  rintro e w2 ⟨v2, rfl, r2, k2⟩
  have B2 : Hid (Below w.heap.size w w2) := k2
  have R2 : Hid (Reads w2 v2 DL) := r2
  clear r2 k2
  go_wp2_with fail
  refine (D1.out _ B2.out).mono ?_
  rintro e w3 ⟨v3, rfl, r3, k3⟩
  have B3 : Hid (Below w.heap.size w w3) := B2.out.trans (k3.mono B2.out.size)
  have R3 : Hid (Reads w3 v3 DL) := r3
  have R2' : Hid (Reads w3 v2 DL) := R2.out.below k3 (Nat.le_refl _)
  clear r3 k3 R2
  go_wp2_with fail
  refine (C2.out _ _ R3.out (Utf8Tabs_below HT.out B3.out)).mono ?_
  rintro e w4 ⟨rfl, k4⟩
  have B4 : Hid (Below w.heap.size w w4) := B3.out.trans (k4.mono B3.out.size)
  have R4 : Hid (Reads w4 v2 DL) := R2'.out.below k4 (Nat.le_refl _)
  clear k4 R3 R2' B3 B2
  go_wp2_with fail
  refine (C1.out _ _ R4.out).mono ?_
  rintro e w5 ⟨rfl, k5⟩
  have B5 : Hid (Below w.heap.size w w5) := B4.out.trans (k5.mono B4.out.size)
  clear k5 R4 B4
  have hcv := Lib.run_convert_string_bytes (P := Tryd.prog) w5 9 22 5 u (u := .string) Tryd.underlying9 Tryd.underlying22 Tryd.underlying5
  have R6 : Hid (Reads (Lib.bytesWorld w5 5 u) (.slice (some ⟨w5.heap.size, 0, none⟩) u.size (grownCap w5 u.size 0 5)) u.data.toList) := (cb_new w5 u (by unfold maxLen; omega)).reads
  have B6 : Hid (Below w.heap.size w (Lib.bytesWorld w5 5 u)) := B5.out.trans ((below_bytes w5 u).mono B5.out.size)
  generalize Lib.bytesWorld w5 5 u = w6 at *
  generalize grownCap w5 u.size 0 5 = gc at *
  generalize w5.heap.size = g at *
  go_wp2_with fail
  refine (C3.out _ _ R6.out (Utf8Tabs_below HT.out B6.out)).mono ?_
  rintro e w7 ⟨rfl, k7⟩
  have B7 : Hid (Below w.heap.size w w7) := B6.out.trans (k7.mono B6.out.size)
  clear k7 B6 R6 hcv B5
  go_wp2_with fail
  refine (D2.out _ B7.out).mono ?_
  rintro e w8 ⟨⟨t, ht, rfl⟩, k8⟩
  have B8 : Hid (Below w.heap.size w w8) := B7.out.trans (k8.mono B7.out.size)
  clear k8 B7
  obtain ⟨l, u1, u2, hl, hup⟩ := up_all t ht
  have U1 : Hid (∀ w, Calls Tryd.prog 10 #[.string t] w fun e w' => e = .returned (.string ⟨l.toArray⟩) ∧ Below w.heap.size w w') := u1.1
  have U2 : Hid (∀ w, Calls Tryd.prog 9 #[.string t] w fun e w' => e = .returned (.string ⟨l.toArray⟩) ∧ Below w.heap.size w w') := u1.2
  have U3 : Hid (∀ w, Calls Tryd.prog 9 #[.string ⟨l.toArray⟩] w fun e w' => e = .returned (.string ⟨l.toArray⟩) ∧ Below w.heap.size w w') := u2.2
  have PL : Hid (∀ w, Calls Tryd.prog 11 #[.string ⟨l.toArray⟩] w fun e w' => e = .returned (.bool true) ∧ w' = w) := fun w => plain_any l w hl hup
  obtain ⟨s, hs⟩ : ∃ s : ByteArray, s = ⟨l.toArray⟩ := ⟨_, rfl⟩
  have hz : s.size ≤ 20000 := by rw [hs, Ru.size_mk]; exact hl
  have hbs : ∀ k (hk : k < s.size), ¬ (97 ≤ (s[k]'hk).toNat ∧ (s[k]'hk).toNat ≤ 122) := by
    intro k hk
    have hk2 : k < l.length := by rw [hs, Ru.size_mk] at hk; exact hk
    rw [Ru.bt_at s k hk, hs, Ru.bt_mk l k hk2]
    exact (hup _ (List.getElem_mem _)).2
  have HBS : Hid (∀ k (hk : k < s.size), ¬ (97 ≤ (s[k]'hk).toNat ∧ (s[k]'hk).toNat ≤ 122)) := hbs
  rw [← hs] at U1 U2 U3 PL
  clear u1 u2 hs hup hl hbs
  go_wp2_with fail
  refine (U2.out _).mono ?_
  rintro e w9 ⟨rfl, k9⟩
  have B9 : Hid (Below w.heap.size w w9) := B8.out.trans (k9.mono B8.out.size)
  clear k9 B8
  go_wp2_with fail
  refine (U1.out _).mono ?_
  rintro e w10 ⟨rfl, k10⟩
  have B10 : Hid (Below w.heap.size w w10) := B9.out.trans (k10.mono B9.out.size)
  clear k10 B9
  go_wp2_with fail
  refine (U3.out _).mono ?_
  rintro e w11 ⟨rfl, k11⟩
  have B11 : Hid (Below w.heap.size w w11) := B10.out.trans (k11.mono B10.out.size)
  clear k11 B10
  go_wp2_with fail
  refine (PL.out _).mono ?_
  rintro e w12 ⟨rfl, hw12⟩
  subst w12
  clear U1 U2 U3 PL C1 C2 C3 D1 D2 G1 G2
  go_wp2_with fail
  go_loop [9] (fun i => ∃ k : Nat, k ≤ s.size ∧ i = .int .i64 k) (fun i => s.size - (intOf i).toNat)
  case atStart => exact ⟨0, Nat.zero_le _, rfl⟩
  case round =>
    obtain ⟨k, hk, rfl⟩ := hrel
    by_cases hlt : k < s.size
    · have hb1 := HBS.out k hlt
      have i1 : (k : Int) < (s.size : Int) := by omega
      by_cases g1 : (97 : Int) ≤ ((s[k]'hlt).toNat : Int)
      · have g2 : ¬ ((s[k]'hlt).toNat : Int) ≤ 122 := by omega
        go_wp2_with fail
        go_round
        case rel => exact ⟨k + 1, by omega, by go_num⟩
        case measure => simp [intOf]; omega
      · go_wp2_with fail
        go_round
        case rel => exact ⟨k + 1, by omega, by go_num⟩
        case measure => simp [intOf]; omega
    · go_wp2_with fail
      go_ret
      exact ⟨rfl, B11.out⟩
end Go.Proofs.YtpehoakdhbicfaaDoor.Cw
