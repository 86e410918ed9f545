/- The area of a loop: the model. -/
import Derived.Test.YtaemldfeicjdnaaEgC
namespace Go.Proofs.Ytaemldfeicjdnaa.Lp
open Go.ChangeShapes Go.WideShapes Go.ChangeAt Go.RowKit
open Go.Proofs.Ytaemldfeicjdnaa.Lists

def wayL (x y : Int) (L : List Int) : Eg.Ls := if okL x y L then way x y L L.length else []
theorem way_any (x y : Int) (L : List Int) (v : Value) (w : World) (hL : Lists.Reads w v L) (hf : L.length < 9223372036854775808) :
    Calls Try.prog 30 #[sv x y v] w fun e w' => ∃ v', e = .returned v' ∧ Eg.Row w' w.heap.size v' (wayL x y L) ∧ Below w.heap.size w w' := by
  unfold wayL
  cases h : okL x y L
  · exact way_no x y L v w hL hf h
  · exact way_yes x y L v w hL h
theorem eg_at {w : World} {v : Value} {C : Eg.Ls} (h : Eg.Reads w v C) : ∃ b o, (∀ i, i < C.length → Eg.Cs w b o C i) ∧ (0 < C.length → b < w.heap.size ∧ ∃ cap, v = .slice (some ⟨b, o, none⟩) C.length cap) := by
  rcases h with ⟨rfl, _⟩ | ⟨b, o, cap, h1, h2, h3, h4, h5⟩
  · exact ⟨0, 0, fun i hi => by simp at hi, fun hi => by simp at hi⟩
  · exact ⟨b, o, h5, fun _ => ⟨h4, cap, h1⟩⟩
/-- Edges near one another: what the model's sums stay within. -/
def Near (C : Eg.Ls) : Prop := C.length ≤ 2000 ∧ ∀ i, i < C.length → -1002000 ≤ Eg.c0 C i ∧ Eg.c0 C i ≤ 1002000 ∧ -1002000 ≤ Eg.c1 C i ∧ Eg.c1 C i ≤ 1002000
theorem way_c {x y : Int} {L : List Int} {n i : Nat} (h : i < n) : Eg.c0 (way x y L n) i = px x L i ∧ Eg.c1 (way x y L n) i = py y L i ∧ Eg.c2 (way x y L n) i = L.getD i 0 := by
  simp [Eg.c0, Eg.c1, Eg.c2, way, List.getD_eq_getElem?_getD, h]
theorem wayL_near (x y : Int) (L : List Int) : Near (wayL x y L) := by
  unfold wayL
  cases h : okL x y L
  · exact ⟨by simp, fun i hi => by simp at hi⟩
  · obtain ⟨l1, hx, hy, _⟩ := ok_parts h
    refine ⟨by simpa [way_len] using l1, fun i hi => ?_⟩
    simp [way_len] at hi
    simp only [if_true]
    obtain ⟨e0, e1, _⟩ := way_c (x := x) (y := y) (L := L) hi
    rw [e0, e1]
    have a := px_le x L i hx
    have b := py_le y L i hy
    omega

def ar (C : Eg.Ls) : Nat → Int
  | 0 => 0
  | k + 1 => ar C k + if Eg.c2 C k = 1 then Eg.c0 C k else if Eg.c2 C k = 3 then - Eg.c0 C k else 0
theorem ar_le {C : Eg.Ls} (h : Near C) (k : Nat) (hk : k ≤ C.length) : -1002000 * (k : Int) ≤ ar C k ∧ ar C k ≤ 1002000 * (k : Int) := by
  induction k with
  | zero => simp [ar]
  | succ k ih =>
    have a := ih (by omega)
    have b := h.2 k (by omega)
    unfold ar
    split
    · omega
    · split <;> omega

set_option maxHeartbeats 1000000 in
theorem sarea_any (x y : Int) (L : List Int) (v : Value) (w : World) (hL : Lists.Reads w v L) (hf : L.length < 9223372036854775808) :
    Calls Try.prog 17 #[sv x y v] w fun e w' => e = .returned (.int .i64 (ar (wayL x y L) (wayL x y L).length)) ∧ Below w.heap.size w w' := by
  have HN : Hid (Near (wayL x y L)) := wayL_near x y L
  have B0 : Hid (Below w.heap.size w (w.alloc (Obj.cells #[.int .i64 x, .int .i64 y, v] 41))) := (Below.refl _ _).alloc (Nat.le_refl _) _
  have WA : Hid (Calls Try.prog 30 #[sv x y v] (w.alloc (Obj.cells #[.int .i64 x, .int .i64 y, v] 41)) fun e w' => ∃ v', e = .returned v' ∧ Eg.Row w' (w.alloc (Obj.cells #[.int .i64 x, .int .i64 y, v] 41)).heap.size v' (wayL x y L) ∧ Below (w.alloc (Obj.cells #[.int .i64 x, .int .i64 y, v] 41)).heap.size (w.alloc (Obj.cells #[.int .i64 x, .int .i64 y, v] 41)) w') := way_any x y L v _ (hL.on B0.out) hf
  generalize wayL x y L = C at *
  clear hL hf
  go_enter Try.func17, Try.ntmps17
  go_wp2_with fail
  refine WA.out.mono ?_
  rintro e w1 ⟨v1, rfl, r1, b1⟩
  have B1 : Hid (Below w.heap.size w w1) := B0.out.trans (b1.mono (by simp))
  obtain ⟨b, o, hc, hv⟩ := eg_at r1.reads
  obtain ⟨a, cap, rfl⟩ := r1.form
  have HC : Hid (∀ i, i < C.length → Eg.Cs w1 b o C i) := hc
  have HV : Hid (0 < C.length → a = some ⟨b, o, none⟩) := fun hi => by
    obtain ⟨h1, c, h2⟩ := hv hi
    simp at h2
    exact h2.1
  have hl := HN.out.1
  have HA : Hid (∀ k, k ≤ C.length → -1002000 * (k : Int) ≤ ar C k ∧ ar C k ≤ 1002000 * (k : Int)) := fun k hk => ar_le HN.out k hk
  clear r1 b1 hc hv WA B0
  obtain ⟨n, hn⟩ : ∃ n, n = C.length := ⟨_, rfl⟩
  rw [← hn] at hl ⊢
  have HNN : Hid (n = C.length) := hn
  clear hn
  go_wp2_with fail
  go_loop [3, 5] (fun s i => ∃ k : Nat, k ≤ n ∧ i = .int .i64 k ∧ s = .int .i64 (ar C k)) (fun _ i => n - (intOf i).toNat)
  case atStart => exact ⟨0, Nat.zero_le _, rfl, rfl⟩
  case round =>
    obtain ⟨k, hk, rfl, rfl⟩ := hrel
    obtain ⟨a1, a2⟩ := HA.out k (by have := HNN.out; omega)
    by_cases hlt : k < n
    · have hkl : k < C.length := by have := HNN.out; omega
      have hx := HV.out (by omega)
      subst hx
      obtain ⟨q0, q1, q2⟩ : Eg.Cs w1 b o C k := HC.out k hkl
      obtain ⟨m1, m2, m3, m4⟩ := HN.out.2 k hkl
      have AN : Hid (ar C (k + 1) = ar C k + if Eg.c2 C k = 1 then Eg.c0 C k else if Eg.c2 C k = 3 then - Eg.c0 C k else 0) := rfl
      have i2 : (0 : Int) ≤ (k : Int) := by omega
      have i3 : (k : Int) < (n : Int) := by omega
      generalize Eg.c0 C k = p at *
      generalize Eg.c1 C k = q at *
      generalize Eg.c2 C k = d at *
      generalize ar C k = s at *
      have j1 : IntKind.i64.wrap (s + p) = s + p := IntWalk.i64_in _ (by omega)
      have j2 : IntKind.i64.wrap (s - p) = s - p := IntWalk.i64_in _ (by omega)
      by_cases h1 : d = 1
      · have AE : Hid (ar C (k + 1) = s + p) := (by show _ = _; rw [AN.out, if_pos h1])
        subst h1
        go_wp2_with fail
        go_round
        case rel => exact ⟨k + 1, by omega, by go_num, by rw [AE.out]⟩
        case measure => simp [intOf]; omega
      · by_cases h3 : d = 3
        · have AE : Hid (ar C (k + 1) = s - p) := (by show _ = _; rw [AN.out, if_neg h1, if_pos h3]; omega)
          subst h3
          clear h1
          go_wp2_with fail
          go_round
          case rel => exact ⟨k + 1, by omega, by go_num, by rw [AE.out]⟩
          case measure => simp [intOf]; omega
        · have AE : Hid (ar C (k + 1) = s) := (by show _ = _; rw [AN.out, if_neg h1, if_neg h3]; omega)
          go_wp2_with fail
          go_round
          case rel => exact ⟨k + 1, by omega, by go_num, by rw [AE.out]⟩
          case measure => simp [intOf]; omega
    · have hkn : k = n := by omega
      subst hkn
      go_wp2_with fail
      go_ret
      exact ⟨by rw [← HNN.out]; rfl, B1.out⟩

/-- How often a loop goes round a cell. -/
def wd (C : Eg.Ls) (i j : Int) : Nat → Int
  | 0 => 0
  | k + 1 => wd C i j k + if Eg.c2 C k = 1 ∧ j < Eg.c0 C k ∧ Eg.c1 C k = i then 1 else if Eg.c2 C k = 3 ∧ j < Eg.c0 C k ∧ Eg.c1 C k - 1 = i then -1 else 0
theorem wd_le (C : Eg.Ls) (i j : Int) (k : Nat) : -(k : Int) ≤ wd C i j k ∧ wd C i j k ≤ (k : Int) := by
  induction k with
  | zero => simp [wd]
  | succ k ih =>
    unfold wd
    split
    · omega
    · split <;> omega

set_option maxHeartbeats 1000000 in
theorem swinds_any (x y : Int) (L : List Int) (v : Value) (ii jj : Int) (w : World) (hL : Lists.Reads w v L) (hf : L.length < 9223372036854775808) :
    Calls Try.prog 21 #[sv x y v, .int .i64 ii, .int .i64 jj] w fun e w' => e = .returned (.int .i64 (wd (wayL x y L) ii jj (wayL x y L).length)) ∧ Below w.heap.size w w' := by
  have HN : Hid (Near (wayL x y L)) := wayL_near x y L
  have B0 : Hid (Below w.heap.size w (w.alloc (Obj.cells #[.int .i64 x, .int .i64 y, v] 41))) := (Below.refl _ _).alloc (Nat.le_refl _) _
  have WA : Hid (Calls Try.prog 30 #[sv x y v] (w.alloc (Obj.cells #[.int .i64 x, .int .i64 y, v] 41)) fun e w' => ∃ v', e = .returned v' ∧ Eg.Row w' (w.alloc (Obj.cells #[.int .i64 x, .int .i64 y, v] 41)).heap.size v' (wayL x y L) ∧ Below (w.alloc (Obj.cells #[.int .i64 x, .int .i64 y, v] 41)).heap.size (w.alloc (Obj.cells #[.int .i64 x, .int .i64 y, v] 41)) w') := way_any x y L v _ (hL.on B0.out) hf
  generalize wayL x y L = C at *
  clear hL hf
  go_enter Try.func21, Try.ntmps21
  go_wp2_with fail
  refine WA.out.mono ?_
  rintro e w1 ⟨v1, rfl, r1, b1⟩
  have B1 : Hid (Below w.heap.size w w1) := B0.out.trans (b1.mono (by simp))
  obtain ⟨b, o, hc, hv⟩ := eg_at r1.reads
  obtain ⟨a, cap, rfl⟩ := r1.form
  have HC : Hid (∀ i, i < C.length → Eg.Cs w1 b o C i) := hc
  have HV : Hid (0 < C.length → a = some ⟨b, o, none⟩) := fun hi => by
    obtain ⟨h1, c, h2⟩ := hv hi
    simp at h2
    exact h2.1
  have hl := HN.out.1
  clear r1 b1 hc hv WA B0
  obtain ⟨n, hn⟩ : ∃ n, n = C.length := ⟨_, rfl⟩
  rw [← hn] at hl ⊢
  have HNN : Hid (n = C.length) := hn
  clear hn
  go_wp2_with fail
  go_loop [7, 9] (fun s i => ∃ k : Nat, k ≤ n ∧ i = .int .i64 k ∧ s = .int .i64 (wd C ii jj k)) (fun _ i => n - (intOf i).toNat)
  case atStart => exact ⟨0, Nat.zero_le _, rfl, rfl⟩
  case round =>
    obtain ⟨k, hk, rfl, rfl⟩ := hrel
    obtain ⟨a1, a2⟩ := wd_le C ii jj k
    by_cases hlt : k < n
    · have hkl : k < C.length := by have := HNN.out; omega
      have hx := HV.out (by omega)
      subst hx
      obtain ⟨q0, q1, q2⟩ : Eg.Cs w1 b o C k := HC.out k hkl
      obtain ⟨m1, m2, m3, m4⟩ := HN.out.2 k hkl
      have AN : Hid (wd C ii jj (k + 1) = wd C ii jj k + if Eg.c2 C k = 1 ∧ jj < Eg.c0 C k ∧ Eg.c1 C k = ii then 1 else if Eg.c2 C k = 3 ∧ jj < Eg.c0 C k ∧ Eg.c1 C k - 1 = ii then -1 else 0) := rfl
      have i2 : (0 : Int) ≤ (k : Int) := by omega
      have i3 : (k : Int) < (n : Int) := by omega
      generalize Eg.c0 C k = p at *
      generalize Eg.c1 C k = q at *
      generalize Eg.c2 C k = d at *
      generalize wd C ii jj k = s at *
      have j1 : IntKind.i64.wrap (s + 1) = s + 1 := IntWalk.i64_in _ (by omega)
      have j2 : IntKind.i64.wrap (s - 1) = s - 1 := IntWalk.i64_in _ (by omega)
      have j3 : IntKind.i64.wrap (q - 1) = q - 1 := IntWalk.i64_in _ (by omega)
      by_cases h1 : d = 1
      · subst h1
        by_cases h2 : jj < p
        · by_cases h3 : q = ii
          · have AE : Hid (wd C ii jj (k + 1) = s + 1) := (by show _ = _; rw [AN.out, if_pos ⟨rfl, h2, h3⟩]; try omega)
            subst h3
            go_wp2_with fail
            go_round
            case rel => exact ⟨k + 1, by omega, by go_num, by rw [AE.out]⟩
            case measure => simp [intOf]; omega
          · have AE : Hid (wd C ii jj (k + 1) = s) := (by show _ = _; rw [AN.out, if_neg (fun h => h3 h.2.2), if_neg (fun h => absurd h.1 (by decide))]; try omega)
            go_wp2_with fail
            go_round
            case rel => exact ⟨k + 1, by omega, by go_num, by rw [AE.out]⟩
            case measure => simp [intOf]; omega
        · have AE : Hid (wd C ii jj (k + 1) = s) := (by show _ = _; rw [AN.out, if_neg (fun h => h2 h.2.1), if_neg (fun h => absurd h.1 (by decide))]; try omega)
          go_wp2_with fail
          go_round
          case rel => exact ⟨k + 1, by omega, by go_num, by rw [AE.out]⟩
          case measure => simp [intOf]; omega
      · by_cases h4 : d = 3
        · subst h4
          by_cases h2 : jj < p
          · by_cases h3 : q - 1 = ii
            · have AE : Hid (wd C ii jj (k + 1) = s - 1) := (by show _ = _; rw [AN.out, if_neg (fun h => h1 h.1), if_pos ⟨rfl, h2, h3⟩]; try omega)
              subst h3
              clear h1
              go_wp2_with fail
              go_round
              case rel => exact ⟨k + 1, by omega, by go_num, by rw [AE.out]⟩
              case measure => simp [intOf]; omega
            · have AE : Hid (wd C ii jj (k + 1) = s) := (by show _ = _; rw [AN.out, if_neg (fun h => h1 h.1), if_neg (fun h => h3 h.2.2)]; try omega)
              clear h1
              go_wp2_with fail
              go_round
              case rel => exact ⟨k + 1, by omega, by go_num, by rw [AE.out]⟩
              case measure => simp [intOf]; omega
          · have AE : Hid (wd C ii jj (k + 1) = s) := (by show _ = _; rw [AN.out, if_neg (fun h => h1 h.1), if_neg (fun h => h2 h.2.1)]; try omega)
            clear h1
            go_wp2_with fail
            go_round
            case rel => exact ⟨k + 1, by omega, by go_num, by rw [AE.out]⟩
            case measure => simp [intOf]; omega
        · have AE : Hid (wd C ii jj (k + 1) = s) := (by show _ = _; rw [AN.out, if_neg (fun h => h1 h.1), if_neg (fun h => h4 h.1)]; try omega)
          go_wp2_with fail
          go_round
          case rel => exact ⟨k + 1, by omega, by go_num, by rw [AE.out]⟩
          case measure => simp [intOf]; omega
    · have hkn : k = n := by omega
      subst hkn
      go_wp2_with fail
      go_ret
      exact ⟨by rw [← HNN.out]; rfl, B1.out⟩
end Go.Proofs.Ytaemldfeicjdnaa.Lp
