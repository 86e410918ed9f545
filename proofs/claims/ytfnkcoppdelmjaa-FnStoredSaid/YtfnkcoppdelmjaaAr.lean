/- An archive drawn of a code. -/
import Derived.Test.YtfnkcoppdelmjaaEb
import Derived.Test.YtfnkcoppdelmjaaKp
import Derived.Test.YtfnkcoppdelmjaaSs
import Derived.Deep.Onto
import Derived.Maps.AppendAt
import Derived.Deep.CutBlock
namespace Go.Proofs.Ytfnkcoppdelmjaa.Ed
open Go.ChangeShapes Go.WideShapes Go.ChangeAt Go.RowKit
open Go.Proofs.Ytfnkcoppdelmjaa.Rd Go.Proofs.Ytfnkcoppdelmjaa.Eo Go.Proofs.Ytfnkcoppdelmjaa.Ky
abbrev ev (p : ByteArray) (t s l z : Int) : Value := .agg #[.string p, .int .i64 t, .int .i64 s, .int .i64 l, .int .i64 z]
/-- what is said of an entry drawn -/
def EntryC : Prop := ∀ (r : Nat) (W : World), Rd r W → Calls Try.prog 16 #[.pointer (some ⟨r, 0, none⟩)] W fun e w' => (∃ p, ∃ t s l z : Int, e = .returned (.agg #[.string p, .int .i64 t, .int .i64 s, .int .i64 l, .int .i64 z]) ∧ pok p = true ∧ (0 ≤ t ∧ t ≤ 52596000) ∧ (0 ≤ s ∧ s ≤ 360) ∧ (0 ≤ l ∧ l ≤ 1100) ∧ (0 ≤ z ∧ z ≤ 89)) ∧ Rd r w' ∧ Turn r W w'
theorem rowE_turn {r B : Nat} {w w' : World} {v : Value} {L : En.Ls} (h : En.Row w B v L) (t : Turn r w w') (hr : r < B) : En.Row w' B v L := by
  obtain ⟨xs, h, g⟩ := h
  refine ⟨xs, h.kept (row := some r) ⟨t.bel.os, t.bel.tape, t.bel.output, t.bel.size, fun k hk hne => ?_⟩ ?_, g⟩
  · by_cases e : k < r
    · exact t.bel.block k e
    · have : k ≠ r := fun x => hne (by rw [x])
      exact t.abv k (by omega) hk
  · cases e : v.ownBlock with
    | none => exact Or.inl rfl
    | some k =>
      refine Or.inr fun x => ?_
      have := (h.lt k e).1
      simp at x
      omega
theorem rowE_mono {B B' : Nat} {w : World} {v : Value} {L : En.Ls} (h : En.Row w B v L) (hb : B' ≤ B) : En.Row w B' v L := by
  obtain ⟨xs, h, g⟩ := h
  exact ⟨xs, h.mono hb, g⟩
theorem turn_below {r : Nat} {w w2 w3 : World} (t : Turn r w w2) (hb : Below w.heap.size w2 w3) (hr : r < w.heap.size) : Turn r w w3 :=
  ⟨t.bel.trans (hb.mono (by omega)), fun i h1 h2 => (hb.block i h2).trans (t.abv i h1 h2)⟩
theorem pok_size {p : ByteArray} (h : pok p = true) : p.size ≤ 1048576 := by
  unfold pok at h
  simp only [Bool.and_eq_true, decide_eq_true_eq] at h
  omega
theorem ft_ok {L : En.Ls} (h : okA L = true) : Ft L := by
  intro i hi
  have := ((okA_iff L).1 h).2.1 _ (List.getElem_mem hi)
  have e : En.c0 L i = L[i].1 := by simp [En.c0, List.getD_eq_getElem?_getD, hi]
  rw [e]
  unfold eo eok at this
  simp only [Bool.and_eq_true] at this
  exact pok_size this.1
theorem eo_of {p : ByteArray} {t s l z : Int} (h : pok p = true ∧ (0 ≤ t ∧ t ≤ 52596000) ∧ (0 ≤ s ∧ s ≤ 360) ∧ (0 ≤ l ∧ l ≤ 1100) ∧ (0 ≤ z ∧ z ≤ 89)) : eo (p, t, s, l, z) = true := by
  obtain ⟨h1, h2, h3, h4, h5⟩ := h
  unfold eo eok Al.inn
  simp only [h1, Bool.true_and, Bool.and_eq_true, decide_eq_true_eq]
  omega

set_option maxHeartbeats 1000000 in
theorem size30 (r : Nat) (w : World) (h : Rd r w) : Calls Try.prog 53 #[.pointer (some ⟨r, 0, none⟩), .int .i64 4, .int .i64 30] w (Drawn r w fun u => 1 ≤ u ∧ u ≤ 30) := by
  have hh := h
  obtain ⟨a, n, cap, p, h1, h2, h3, h4, h5, h6, h7⟩ := hh
  have H : Hid (Rd r w) := h
  clear h h7
  obtain ⟨q, hq⟩ : ∃ q : Nat, q = n / 4 := ⟨_, rfl⟩
  have e1 : (n : Int).tdiv 4 = (q : Int) := by rw [Int.tdiv_eq_ediv_of_nonneg (by omega)]; omega
  have bq : q ≤ 400000 := by omega
  clear hq
  by_cases g : (30 : Int) < 1 + (q : Int)
  · go_enter Try.func53, Try.ntmps53
    go_wp2_with fail
    refine (below_all r _ H.out 30 (by omega) (by omega)).mono ?_
    rintro e w1 ⟨⟨u, ⟨hu1, hu2⟩, rfl⟩, k1, k2⟩
    have K : Hid (Rd r w1 ∧ Turn r w w1) := ⟨k1, k2⟩
    clear k1 k2
    go_wp2_with fail
    go_ret
    exact ⟨⟨1 + u, by omega, rfl⟩, K.out.1, K.out.2⟩
  · have C : Hid (Calls Try.prog 17 #[.pointer (some ⟨r, 0, none⟩), .int .i64 (1 + (q : Int))] w (Drawn r w fun u => 0 ≤ u ∧ u < 1 + (q : Int))) := (by
      have := below_all r w H.out (1 + q) (by omega) (by omega)
      rw [Int.natCast_add] at this
      exact this)
    go_enter Try.func53, Try.ntmps53
    go_wp2_with fail
    refine C.out.mono ?_
    rintro e w1 ⟨⟨u, ⟨hu1, hu2⟩, rfl⟩, k1, k2⟩
    have K : Hid (Rd r w1 ∧ Turn r w w1) := ⟨k1, k2⟩
    clear k1 k2
    go_wp2_with fail
    go_ret
    exact ⟨⟨1 + u, by omega, rfl⟩, K.out.1, K.out.2⟩

set_option maxHeartbeats 2000000 in
theorem archive_any (HE : EntryC) (r : Nat) (w : World) (h : Rd r w) : Calls Try.prog 35 #[.pointer (some ⟨r, 0, none⟩), .int .i64 30] w fun e w' => ∃ v L, e = .returned v ∧ En.Row w' w.heap.size v L ∧ (1 ≤ L.length ∧ L.length ≤ 30) ∧ okA L = true ∧ Rd r w' ∧ Turn r w w' := by
  have hr := h.lt
  have K0 : Hid (Rd r (w.alloc (Obj.cells #[] 26))) := h.kept ((Below.refl (r + 1) w).alloc (by omega) _) (by omega)
  have T0 : Hid (Turn r w (w.alloc (Obj.cells #[] 26))) := (Turn.refl r w).alloc hr _
  have R0 : Hid (En.Row (w.alloc (Obj.cells #[] 26)) w.heap.size (.slice (some ⟨w.heap.size, 0, none⟩) 0 0) []) := ⟨[], World.ownsRow_lit w #[] 0 (Nat.le_refl _) (Nat.zero_le _) rfl, fun i hi => by simp at hi⟩
  have E0 : Hid EntryC := HE
  clear h HE
  go_enter Try.func35, Try.ntmps35
  go_wp2_with fail
  refine (size30 r _ K0.out).mono ?_
  rintro e w1 ⟨⟨u, ⟨hu1, hu2⟩, rfl⟩, k1, k2⟩
  obtain ⟨n, hn⟩ : ∃ n : Nat, u = (n : Int) := ⟨u.toNat, by omega⟩
  subst hn
  have R1 : Hid (En.Row w1 w.heap.size (.slice (some ⟨w.heap.size, 0, none⟩) 0 0) []) := rowE_turn R0.out k2 hr
  have T1 : Hid (Turn r w w1) := T0.out.trans k2
  have K1 : Hid (Rd r w1) := k1
  clear k1 k2 R0 K0 T0
  go_wp2_with fail
  go_loopw [5, 7] (fun v i wr => ∃ (k : Nat) (L : En.Ls), k ≤ n ∧ i = .int .i64 k ∧ Hid (En.Row wr w.heap.size v L ∧ L.length ≤ k ∧ (0 < k → 0 < L.length) ∧ okA L = true) ∧ Hid (Rd r wr) ∧ Hid (Turn r w wr)) (fun _ i _ => n - (intOf i).toNat)
  case atStart => exact ⟨0, [], Nat.zero_le _, rfl, ⟨R1.out, Nat.le_refl _, fun h => absurd h (by omega), by decide⟩, K1, T1⟩
  case round =>
    clear R1 K1 T1
    obtain ⟨k, L, hk, rfl, R, K, TT⟩ := hrel
    obtain ⟨v, hv⟩ : ∃ v, v = u5 := ⟨_, rfl⟩
    subst hv
    obtain ⟨sa, sc, hv⟩ := R.out.1.form
    subst hv
    obtain ⟨m, hm⟩ : ∃ m, m = L.length := ⟨_, rfl⟩
    have HM : Hid (m = L.length) := hm
    rw [← hm]
    clear hm
    by_cases hlt : k < n
    · have i2 : (k : Int) < (n : Int) := by omega
      go_wp2_with fail
      refine (E0.out r _ K.out).mono ?_
      rintro e w3 ⟨⟨p, t, s, l, z, rfl, hp⟩, k3, k4⟩
      have R3 : Hid (En.Row w3 w.heap.size (.slice sa m sc) L) := (by have := rowE_turn R.out.1 k4 hr; rw [HM.out]; exact this)
      have K3 : Hid (Rd r w3) := k3
      have T3 : Hid (Turn r w w3) := TT.out.trans k4
      have OK : Hid (okS L (p, t, s, l, z) = true ∧ okA (stL L (p, t, s, l, z)) = true) := okA_st R.out.2.2.2 (eo_of hp) (by have := R.out.2.1; omega)
      have C : Hid (Calls Try.prog 7 #[.slice sa m sc, .agg #[.string p, .int .i64 t, .int .i64 s, .int .i64 l, .int .i64 z]] w3 fun e w' => ∃ u0, e = .returned (.tuple #[u0, .bool true]) ∧ En.Row w' w3.heap.size u0 (stL L (p, t, s, l, z)) ∧ Below w3.heap.size w3 w') := (by
        have := sstore_any w3 (.slice sa m sc) L p t s l z R3.out.reads (ft_ok R.out.2.2.2) (pok_size hp.1) _ rfl
        rw [OK.out.1] at this
        simp at this
        exact this)
      have LN : Hid ((stL L (p, t, s, l, z)).length ≤ k + 1) := (by have := st_le L (p, t, s, l, z); have := R.out.2.1; show _ ≤ _; omega)
      clear k3 k4 R K TT hp
      go_wp2_with fail
      refine C.out.mono ?_
      rintro e w4 ⟨u0, rfl, r4, b4⟩
      have z3 := T3.out.size
      have R4 : Hid (En.Row w4 w.heap.size u0 (stL L (p, t, s, l, z)) ∧ (stL L (p, t, s, l, z)).length ≤ k + 1 ∧ (0 < k + 1 → 0 < (stL L (p, t, s, l, z)).length) ∧ okA (stL L (p, t, s, l, z)) = true) := ⟨rowE_mono r4 z3, LN.out, fun _ => st_ne _ _, OK.out.2⟩
      have K4 : Hid (Rd r w4) := K3.out.kept b4 (K3.out.lt)
      have T4 : Hid (Turn r w w4) := turn_below T3.out (b4.mono z3) hr
      clear C r4 b4 R3 K3 T3 OK LN
      go_wp2_with fail
      go_roundw
      case rel => exact ⟨k + 1, _, by omega, by go_num, R4, K4, T4⟩
      case measure => simp [intOf]; omega
    · have hkn : k = n := by omega
      subst hkn
      go_wp2_with fail
      go_ret
      refine ⟨_, L, rfl, ?_, ⟨?_, ?_⟩, R.out.2.2.2, K.out, TT.out⟩
      · rw [HM.out]; exact R.out.1
      · have := R.out.2.2.1; omega
      · have := R.out.2.1; omega
end Go.Proofs.Ytfnkcoppdelmjaa.Ed
