/- Entries that are right: in the program and in its model. -/
import Derived.Test.YtniejbefkijenaaEn
namespace Go.Proofs.Ytniejbefkijenaa.Eo
open Go.ChangeShapes Go.WideShapes Go.ChangeAt Go.RowKit
open Al

def lw (b : UInt8) : Bool := decide (97 ≤ b.toNat) && decide (b.toNat ≤ 122)
def pok (s : ByteArray) : Bool := s.data.toList.all lw && (decide (1 ≤ s.size) && decide (s.size ≤ 4))
theorem byte_at (s : ByteArray) (k : Nat) (h : k < s.size) : s.data.toList[k]'(by simpa using h) = s[k] := by
  simp [ByteArray.getElem_eq_getElem_data]
theorem take_more (s : ByteArray) (k : Nat) (h : k < s.size) : (s.data.toList.take (k + 1)).all lw = ((s.data.toList.take k).all lw && lw s[k]) := by
  rw [List.take_succ_eq_append_getElem (by simpa using h), List.all_append]
  simp only [List.all_cons, List.all_nil, Bool.and_true]
  rw [byte_at]
theorem pok_at (s : ByteArray) (k : Nat) (h : k < s.size) (hf : lw s[k] = false) : pok s = false := by
  unfold pok
  have : s.data.toList.all lw = false := by
    rw [List.all_eq_false]
    refine ⟨s[k], ?_, by rw [hf]; simp⟩
    rw [← byte_at s k h]
    exact List.getElem_mem _
  rw [this]
  rfl

set_option maxHeartbeats 1000000 in
theorem sparam_any (s : ByteArray) (w : World) (hs : s.size ≤ 1048576) : Calls Try.prog 52 #[.string s] w fun e w' => e = .returned (.bool (pok s)) ∧ w' = w := by
  go_enter Try.func52, Try.ntmps52
  go_wp2
  go_loop [3] (fun i => ∃ k : Nat, k ≤ s.size ∧ i = .int .i64 k ∧ Hid ((s.data.toList.take k).all lw = true)) (fun i => s.size - (intOf i).toNat)
  case atStart => exact ⟨0, by omega, rfl, rfl⟩
  case round =>
    obtain ⟨k, hk, rfl, HA⟩ := hrel
    by_cases hlt : k < s.size
    · have i0 : (0 : Int) ≤ (k : Int) := by omega
      have i1 : (k : Int) < (s.size : Int) := by omega
      have T : Hid ((s.data.toList.take (k + 1)).all lw = lw s[k]) := (by show _ = _; rw [take_more s k hlt, HA.out]; rfl)
      cases hb : lw s[k]
      · have E : Hid (pok s = false) := pok_at s k hlt hb
        by_cases h1 : 97 ≤ s[k].toNat
        · have h2 : ¬ s[k].toNat ≤ 122 := fun h2 => by unfold lw at hb; rw [decide_eq_true h1, decide_eq_true h2] at hb; exact absurd hb (by simp)
          have j1 : (97 : Int) ≤ (s[k].toNat : Int) := by omega
          have j2 : (122 : Int) < (s[k].toNat : Int) := by omega
          clear T hb h1 h2
          go_wp2
          go_ret
          exact ⟨by rw [E.out]; rfl, rfl⟩
        · have j1 : (s[k].toNat : Int) < 97 := by omega
          clear T hb h1
          go_wp2
          go_ret
          exact ⟨by rw [E.out]; rfl, rfl⟩
      · have h1 : 97 ≤ s[k].toNat ∧ s[k].toNat ≤ 122 := by unfold lw at hb; simpa using hb
        have j1 : (97 : Int) ≤ (s[k].toNat : Int) := by omega
        have j2 : (s[k].toNat : Int) ≤ 122 := by omega
        rw [hb] at T
        clear hb h1
        go_wp2
        go_round
        case rel => exact ⟨k + 1, by omega, by go_num, T.out⟩
        case measure => simp [intOf]; omega
    · have AL : Hid (s.data.toList.all lw = true) := (by show _ = _; have := HA.out; rw [List.take_of_length_le (by simp; omega)] at this; exact this)
      by_cases h1 : 1 ≤ s.size
      · have j1 : (1 : Int) ≤ (s.size : Int) := by omega
        have E : Hid (pok s = decide ((s.size : Int) ≤ 4)) := (by show _ = _; unfold pok; rw [AL.out, decide_eq_true h1]; simp; omega)
        go_wp2
        go_ret
        exact ⟨by rw [E.out]; rfl, rfl⟩
      · have j1 : (s.size : Int) < 1 := by omega
        have E : Hid (pok s = false) := (by show _ = _; unfold pok; rw [decide_eq_false h1]; simp)
        go_wp2
        go_ret
        exact ⟨by rw [E.out]; rfl, rfl⟩

set_option maxHeartbeats 1000000 in
theorem iparam_any (s : ByteArray) (w : World) (hs : s.size ≤ 1048576) : Calls Try.prog 54 #[.string s] w fun e w' => e = .returned (.bool (pok s)) ∧ w' = w := by
  go_enter Try.func54, Try.ntmps54
  go_wp2
  go_loop [6] (fun i => ∃ k : Nat, k ≤ s.size ∧ i = .int .i64 k ∧ Hid ((s.data.toList.take k).all lw = true)) (fun i => s.size - (intOf i).toNat)
  case atStart => exact ⟨0, by omega, rfl, rfl⟩
  case round =>
    obtain ⟨k, hk, rfl, HA⟩ := hrel
    by_cases hlt : k < s.size
    · have i0 : (0 : Int) ≤ (k : Int) := by omega
      have i1 : (k : Int) < (s.size : Int) := by omega
      have T : Hid ((s.data.toList.take (k + 1)).all lw = lw s[k]) := (by show _ = _; rw [take_more s k hlt, HA.out]; rfl)
      cases hb : lw s[k]
      · have E : Hid (pok s = false) := pok_at s k hlt hb
        by_cases h1 : 97 ≤ s[k].toNat
        · have h2 : ¬ s[k].toNat ≤ 122 := fun h2 => by unfold lw at hb; rw [decide_eq_true h1, decide_eq_true h2] at hb; exact absurd hb (by simp)
          have j1 : (97 : Int) ≤ (s[k].toNat : Int) := by omega
          have j2 : (122 : Int) < (s[k].toNat : Int) := by omega
          clear T hb h1 h2
          go_wp2
          go_ret
          exact ⟨by rw [E.out]; rfl, rfl⟩
        · have j1 : (s[k].toNat : Int) < 97 := by omega
          clear T hb h1
          go_wp2
          go_ret
          exact ⟨by rw [E.out]; rfl, rfl⟩
      · have h1 : 97 ≤ s[k].toNat ∧ s[k].toNat ≤ 122 := by unfold lw at hb; simpa using hb
        have j1 : (97 : Int) ≤ (s[k].toNat : Int) := by omega
        have j2 : (s[k].toNat : Int) ≤ 122 := by omega
        rw [hb] at T
        clear hb h1
        go_wp2
        go_round
        case rel => exact ⟨k + 1, by omega, by go_num, T.out⟩
        case measure => simp [intOf]; omega
    · have AL : Hid (s.data.toList.all lw = true) := (by show _ = _; have := HA.out; rw [List.take_of_length_le (by simp; omega)] at this; exact this)
      have E : Hid (pok s = inn (s.size : Int) 1 4) := (by
        show _ = _
        unfold pok inn
        rw [AL.out]
        by_cases h1 : 1 ≤ s.size
        · rw [decide_eq_true h1, decide_eq_true (by omega : (1 : Int) ≤ (s.size : Int))]; simp; omega
        · rw [decide_eq_false h1, decide_eq_false (by omega : ¬ (1 : Int) ≤ (s.size : Int))]; simp)
      go_wp2_with fail
      refine (i_in (s.size : Int) 1 4 _).mono ?_
      rintro e w1 ⟨rfl, hw⟩
      subst hw
      go_wp2_with fail
      go_ret
      exact ⟨by rw [E.out]; rfl, rfl⟩

set_option maxHeartbeats 1000000 in
theorem stime_any (n : Int) (w : World) : Calls Try.prog 53 #[.int .i64 n] w fun e w' => e = .returned (.bool (inn n 0 52596000)) ∧ w' = w := by
  unfold inn
  by_cases h1 : 0 ≤ n
  · have e1 : decide (0 ≤ n) = true := by simpa using h1
    rw [e1]
    go_enter Try.func53, Try.ntmps53
    go_wp2_with fail
    go_ret
    exact ⟨rfl, rfl⟩
  · have e1 : decide (0 ≤ n) = false := by simpa using h1
    rw [e1]
    go_enter Try.func53, Try.ntmps53
    go_wp2_with fail
    go_ret
    exact ⟨rfl, rfl⟩

set_option maxHeartbeats 1000000 in
theorem itime_any (n : Int) (w : World) : Calls Try.prog 55 #[.int .i64 n] w fun e w' => e = .returned (.bool (inn n 0 52596000)) ∧ w' = w := by
  go_enter Try.func55, Try.ntmps55
  go_wp2_with fail
  refine (i_in n 0 52596000 w).mono ?_
  rintro e w1 ⟨rfl, hw⟩
  subst hw
  go_wp2_with fail
  go_ret
  exact ⟨rfl, rfl⟩

set_option maxHeartbeats 1000000 in
theorem iahead_any (n : Int) (w : World) : Calls Try.prog 56 #[.int .i64 n] w fun e w' => e = .returned (.bool (inn n 0 360)) ∧ w' = w := by
  go_enter Try.func56, Try.ntmps56
  go_wp2_with fail
  refine (i_in n 0 360 w).mono ?_
  rintro e w1 ⟨rfl, hw⟩
  subst hw
  go_wp2_with fail
  go_ret
  exact ⟨rfl, rfl⟩

set_option maxHeartbeats 1000000 in
theorem ilevel_any (n : Int) (w : World) : Calls Try.prog 57 #[.int .i64 n] w fun e w' => e = .returned (.bool (inn n 0 1100)) ∧ w' = w := by
  go_enter Try.func57, Try.ntmps57
  go_wp2_with fail
  refine (i_in n 0 1100 w).mono ?_
  rintro e w1 ⟨rfl, hw⟩
  subst hw
  go_wp2_with fail
  go_ret
  exact ⟨rfl, rfl⟩

def eok (p : ByteArray) (t s l z : Int) : Bool := pok p && (inn t 0 52596000 && (inn s 0 360 && (inn l 0 1100 && inn z 0 1000000000)))

set_option maxHeartbeats 1000000 in
theorem sentry_any (p : ByteArray) (t s l z : Int) (w : World) (hs : p.size ≤ 1048576) : Calls Try.prog 27 #[.agg #[.string p, .int .i64 t, .int .i64 s, .int .i64 l, .int .i64 z]] w fun e w' => e = .returned (.bool (eok p t s l z)) ∧ Below w.heap.size w w' := by
  unfold eok
  have BB : Hid (Below w.heap.size w (w.alloc (Obj.cells #[.string p, .int .i64 t, .int .i64 s, .int .i64 l, .int .i64 z] 31))) := (Below.refl _ _).alloc (Nat.le_refl _) _
  obtain ⟨q0, hq0⟩ : ∃ q, q = pok p := ⟨_, rfl⟩
  have C0 : Hid (∀ w : World, Calls Try.prog 52 #[.string p] w fun e w' => e = .returned (.bool q0) ∧ w' = w) := fun w => hq0 ▸ sparam_any p w hs
  rw [← hq0]
  obtain ⟨q1, hq1⟩ : ∃ q, q = inn t 0 52596000 := ⟨_, rfl⟩
  have C1 : Hid (∀ w : World, Calls Try.prog 53 #[.int .i64 t] w fun e w' => e = .returned (.bool q1) ∧ w' = w) := fun w => hq1 ▸ stime_any t w
  rw [← hq1]
  obtain ⟨q2, hq2⟩ : ∃ q, q = inn s 0 360 := ⟨_, rfl⟩
  have C2 : Hid (∀ w : World, Calls Try.prog 36 #[.int .i64 s, .int .i64 0, .int .i64 360] w fun e w' => e = .returned (.bool q2) ∧ w' = w) := fun w => hq2 ▸ s_in s 0 360 w
  rw [← hq2]
  obtain ⟨q3, hq3⟩ : ∃ q, q = inn l 0 1100 := ⟨_, rfl⟩
  have C3 : Hid (∀ w : World, Calls Try.prog 36 #[.int .i64 l, .int .i64 0, .int .i64 1100] w fun e w' => e = .returned (.bool q3) ∧ w' = w) := fun w => hq3 ▸ s_in l 0 1100 w
  rw [← hq3]
  obtain ⟨q4, hq4⟩ : ∃ q, q = inn z 0 1000000000 := ⟨_, rfl⟩
  have C4 : Hid (∀ w : World, Calls Try.prog 36 #[.int .i64 z, .int .i64 0, .int .i64 1000000000] w fun e w' => e = .returned (.bool q4) ∧ w' = w) := fun w => hq4 ▸ s_in z 0 1000000000 w
  rw [← hq4]
  clear hq0 hq1 hq2 hq3 hq4
  go_enter Try.func27, Try.ntmps27
  go_wp2_with fail
  refine (C0.out _).mono ?_
  rintro e w1 ⟨rfl, hw⟩
  subst hw
  cases q0
  · go_wp2_with fail
    go_ret
    exact ⟨rfl, BB.out⟩
  go_wp2_with fail
  refine (C1.out _).mono ?_
  rintro e w1 ⟨rfl, hw⟩
  subst hw
  cases q1
  · go_wp2_with fail
    go_ret
    exact ⟨rfl, BB.out⟩
  go_wp2_with fail
  refine (C2.out _).mono ?_
  rintro e w1 ⟨rfl, hw⟩
  subst hw
  cases q2
  · go_wp2_with fail
    go_ret
    exact ⟨rfl, BB.out⟩
  go_wp2_with fail
  refine (C3.out _).mono ?_
  rintro e w1 ⟨rfl, hw⟩
  subst hw
  cases q3
  · go_wp2_with fail
    go_ret
    exact ⟨rfl, BB.out⟩
  go_wp2_with fail
  refine (C4.out _).mono ?_
  rintro e w1 ⟨rfl, hw⟩
  subst hw
  go_wp2_with fail
  go_ret
  exact ⟨rfl, BB.out⟩

set_option maxHeartbeats 1000000 in
theorem ientry_any (p : ByteArray) (t s l z : Int) (w : World) (hs : p.size ≤ 1048576) : Calls Try.prog 30 #[.agg #[.string p, .int .i64 t, .int .i64 s, .int .i64 l, .int .i64 z]] w fun e w' => e = .returned (.bool (eok p t s l z)) ∧ Below w.heap.size w w' := by
  unfold eok
  have BB : Hid (Below w.heap.size w (w.alloc (Obj.cells #[.string p, .int .i64 t, .int .i64 s, .int .i64 l, .int .i64 z] 31))) := (Below.refl _ _).alloc (Nat.le_refl _) _
  obtain ⟨q0, hq0⟩ : ∃ q, q = pok p := ⟨_, rfl⟩
  have C0 : Hid (∀ w : World, Calls Try.prog 54 #[.string p] w fun e w' => e = .returned (.bool q0) ∧ w' = w) := fun w => hq0 ▸ iparam_any p w hs
  rw [← hq0]
  obtain ⟨q1, hq1⟩ : ∃ q, q = inn t 0 52596000 := ⟨_, rfl⟩
  have C1 : Hid (∀ w : World, Calls Try.prog 55 #[.int .i64 t] w fun e w' => e = .returned (.bool q1) ∧ w' = w) := fun w => hq1 ▸ itime_any t w
  rw [← hq1]
  obtain ⟨q2, hq2⟩ : ∃ q, q = inn s 0 360 := ⟨_, rfl⟩
  have C2 : Hid (∀ w : World, Calls Try.prog 56 #[.int .i64 s] w fun e w' => e = .returned (.bool q2) ∧ w' = w) := fun w => hq2 ▸ iahead_any s w
  rw [← hq2]
  obtain ⟨q3, hq3⟩ : ∃ q, q = inn l 0 1100 := ⟨_, rfl⟩
  have C3 : Hid (∀ w : World, Calls Try.prog 57 #[.int .i64 l] w fun e w' => e = .returned (.bool q3) ∧ w' = w) := fun w => hq3 ▸ ilevel_any l w
  rw [← hq3]
  obtain ⟨q4, hq4⟩ : ∃ q, q = inn z 0 1000000000 := ⟨_, rfl⟩
  have C4 : Hid (∀ w : World, Calls Try.prog 38 #[.int .i64 z, .int .i64 0, .int .i64 1000000000] w fun e w' => e = .returned (.bool q4) ∧ w' = w) := fun w => hq4 ▸ i_in z 0 1000000000 w
  rw [← hq4]
  clear hq0 hq1 hq2 hq3 hq4
  go_enter Try.func30, Try.ntmps30
  go_wp2_with fail
  refine (C0.out _).mono ?_
  rintro e w1 ⟨rfl, hw⟩
  subst hw
  cases q0
  · go_wp2_with fail
    go_ret
    exact ⟨rfl, BB.out⟩
  go_wp2_with fail
  refine (C1.out _).mono ?_
  rintro e w1 ⟨rfl, hw⟩
  subst hw
  cases q1
  · go_wp2_with fail
    go_ret
    exact ⟨rfl, BB.out⟩
  go_wp2_with fail
  refine (C2.out _).mono ?_
  rintro e w1 ⟨rfl, hw⟩
  subst hw
  cases q2
  · go_wp2_with fail
    go_ret
    exact ⟨rfl, BB.out⟩
  go_wp2_with fail
  refine (C3.out _).mono ?_
  rintro e w1 ⟨rfl, hw⟩
  subst hw
  cases q3
  · go_wp2_with fail
    go_ret
    exact ⟨rfl, BB.out⟩
  go_wp2_with fail
  refine (C4.out _).mono ?_
  rintro e w1 ⟨rfl, hw⟩
  subst hw
  go_wp2_with fail
  go_ret
  exact ⟨rfl, BB.out⟩

def ek (L : En.Ls) (i : Nat) : Bool := eok (En.c0 L i) (En.c1 L i) (En.c2 L i) (En.c3 L i) (En.c4 L i)
def alls (L : En.Ls) (n : Nat) : Bool := (List.range n).all (ek L)
theorem alls_succ (L : En.Ls) (n : Nat) : alls L (n + 1) = (alls L n && ek L n) := by
  unfold alls; rw [List.range_succ, List.all_append]; simp
theorem alls_at {L : En.Ls} {n k : Nat} (h : k < n) (hf : ek L k = false) : alls L n = false := by
  unfold alls
  rw [List.all_eq_false]
  exact ⟨k, by simpa using h, by simp [hf]⟩
def okE (L : En.Ls) : Bool := decide (L.length ≤ 300) && alls L L.length
def Ft (L : En.Ls) : Prop := ∀ i, i < L.length → (En.c0 L i).size ≤ 1048576

set_option maxHeartbeats 1000000 in
theorem ientries_any (w : World) (v : Value) (L : En.Ls) (h : En.Reads w v L) (hf : Ft L) :
    Calls Try.prog 37 #[v] w fun e w' => e = .returned (.bool (okE L)) ∧ Below w.heap.size w w' := by
  obtain ⟨a, cap, rfl⟩ := h.form
  by_cases h3 : L.length ≤ 300
  · have E : Hid (okE L = alls L L.length) := (by show _ = _; unfold okE; rw [decide_eq_true h3]; rfl)
    have j3 : ¬ (300 : Int) < (L.length : Int) := by omega
    have HC : Hid (∀ (w' : World) (i : Nat), Below w.heap.size w w' → i < L.length → ∃ b o, a = some ⟨b, o, none⟩ ∧ En.Cs w' b o L i) := fun w' i hb hi => (by
      rcases h with ⟨rfl, _⟩ | ⟨b, o, c, e, _, _, x, y⟩
      · simp at hi
      · simp at e; exact ⟨b, o, e.1, (y i hi).below hb x⟩)
    have HF : Hid (Ft L) := hf
    obtain ⟨n, hn⟩ : ∃ n, n = L.length := ⟨_, rfl⟩
    have HN : Hid (n = L.length) := hn
    rw [← hn] at j3 h3 ⊢
    clear h hf hn
    go_enter Try.func37, Try.ntmps37
    go_wp2_with fail
    go_loopw [10] (fun i wr => ∃ k : Nat, k ≤ n ∧ i = .int .i64 k ∧ Hid (alls L k = true) ∧ Hid (Below w.heap.size w wr)) (fun i _ => n - (intOf i).toNat)
    case atStart => exact ⟨0, Nat.zero_le _, rfl, rfl, Below.refl _ _⟩
    case round =>
      obtain ⟨k, hk, rfl, AK, BB⟩ := hrel
      by_cases hlt : k < n
      · have hlt' : k < L.length := by rw [← HN.out]; exact hlt
        have i0 : (0 : Int) ≤ (k : Int) := by omega
        have i1 : (k : Int) < (n : Int) := by omega
        obtain ⟨b, o, rfl, q0, q1, q2, q3, q4⟩ := HC.out wr k BB.out hlt'
        obtain ⟨qq, hqq⟩ : ∃ q, q = ek L k := ⟨_, rfl⟩
        have CK : Hid (∀ w : World, Calls Try.prog 30 #[.agg #[.string (En.c0 L k), .int .i64 (En.c1 L k), .int .i64 (En.c2 L k), .int .i64 (En.c3 L k), .int .i64 (En.c4 L k)]] w fun e w' => e = .returned (.bool qq) ∧ Below w.heap.size w w') := fun w => hqq ▸ ientry_any _ _ _ _ _ w (HF.out k hlt')
        have HQ : Hid (qq = ek L k) := hqq
        generalize En.c0 L k = x0 at *
        generalize En.c1 L k = x1 at *
        generalize En.c2 L k = x2 at *
        generalize En.c3 L k = x3 at *
        generalize En.c4 L k = x4 at *
        have BN : Hid (Below w.heap.size w (wr.alloc (Obj.cells #[.string x0, .int .i64 x1, .int .i64 x2, .int .i64 x3, .int .i64 x4] 31))) := BB.out.alloc BB.out.size _
        clear hqq
        go_wp2_with fail
        refine (CK.out _).mono ?_
        rintro e w1 ⟨rfl, hb⟩
        have B1 : Hid (Below w.heap.size w w1) := BN.out.trans (hb.mono BN.out.size)
        cases qq
        · go_wp2_with fail
          go_ret
          exact ⟨by rw [E.out, alls_at hlt' HQ.out.symm]; rfl, B1.out⟩
        · have AN : Hid (alls L (k + 1) = true) := (by show _ = _; rw [alls_succ, AK.out, ← HQ.out]; rfl)
          go_wp2_with fail
          go_roundw
          case rel => exact ⟨k + 1, by omega, by go_num, AN, B1⟩
          case measure => simp [intOf]; omega
      · have e : k = n := by omega
        have j1 : ¬ (k : Int) < (n : Int) := by omega
        have EA : Hid (okE L = true) := (by show _ = _; rw [E.out, ← HN.out, ← e]; exact AK.out)
        go_wp2_with fail
        go_ret
        exact ⟨by rw [EA.out]; rfl, BB.out⟩
  · have E : okE L = false := by unfold okE; rw [decide_eq_false h3]; rfl
    have j3 : (300 : Int) < (L.length : Int) := by omega
    rw [E]
    clear h hf E
    generalize L.length = n at *
    go_enter Try.func37, Try.ntmps37
    go_wp2_with fail
    go_ret
    exact ⟨rfl, Below.refl _ _⟩
end Go.Proofs.Ytniejbefkijenaa.Eo
