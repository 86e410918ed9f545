/- Returns: plainly, the model, the program, the law. -/
import Derived.Test.YtlebcdjobgibgaaSe
import Derived.Test.YtlebcdjobgibgaaRtL
namespace Go.Proofs.Ytlebcdjobgibgaa.Rt
open Go.ChangeShapes Go.WideShapes Go.ChangeAt Go.RowKit
open Go.Proofs.Ytlebcdjobgibgaa.Lists Go.Proofs.Ytlebcdjobgibgaa.Al Go.Proofs.Ytlebcdjobgibgaa.Su Go.Proofs.Ytlebcdjobgibgaa.Se

theorem below_drewN {B : Nat} {a w : World} (h : Below B a w) (n : Nat) : Below B a (w.drewN n) := h.trans ⟨rfl, rfl, rfl, Nat.le_refl _, fun _ _ => rfl⟩
def hit (L : List Int) (lv : Int) (i : Nat) : Bool := decide (lv ≤ L.getD i 0) && (decide (i = 0) || decide (L.getD (i - 1) 0 < lv))
def cnt (L : List Int) (lv : Int) : Nat → Int
  | 0 => 0
  | k + 1 => cnt L lv k + if hit L lv k then 1 else 0
theorem cnt_bd (L : List Int) (lv : Int) (k : Nat) : 0 ≤ cnt L lv k ∧ cnt L lv k ≤ k := by
  induction k with
  | zero => simp [cnt]
  | succ k ih => unfold cnt; split <;> omega
def rea (L : List Int) (lv : Int) (k : Nat) : Bool := decide (0 < k) && decide (lv ≤ L.getD (k - 1) 0)
theorem rea_up (L : List Int) (lv : Int) (k : Nat) : rea L lv (k + 1) = decide (lv ≤ L.getD k 0) := by simp [rea]
theorem hit_rea (L : List Int) (lv : Int) (k : Nat) : hit L lv k = (decide (lv ≤ L.getD k 0) && !rea L lv k) := by
  unfold hit rea
  by_cases e : k = 0
  · subst e; simp
  · generalize L.getD (k - 1) 0 = y
    generalize L.getD k 0 = z
    by_cases h : lv ≤ y
    · have h' : ¬ y < lv := by omega
      simp [e, h, h', Nat.pos_of_ne_zero e]
    · have h' : y < lv := by omega
      simp [e, h, h', Nat.pos_of_ne_zero e]
def gc (L : List Int) (lv : Int) : Int := ((cnt L lv L.length).gcd (L.length : Int) : Int)
def r0 (L : List Int) (lv : Int) : Int := if okS L then (cnt L lv L.length).tdiv (gc L lv) else 0
def r1 (L : List Int) (lv : Int) : Int := if okS L then (L.length : Int).tdiv (gc L lv) else 0
theorem gcd_step {p q : Int} (hp : 0 ≤ p) (hq : 0 < q) : 0 ≤ p.tmod q ∧ p.tmod q < q ∧ (q.gcd (p.tmod q) : Int) = p.gcd q := by
  rw [Int.tmod_eq_emod_of_nonneg hp]
  refine ⟨Int.emod_nonneg _ (by omega), Int.emod_lt_of_pos _ hq, ?_⟩
  obtain ⟨m, rfl⟩ := Int.eq_ofNat_of_zero_le hp
  obtain ⟨n, rfl⟩ := Int.eq_ofNat_of_zero_le (Int.le_of_lt hq)
  show ((n.gcd (m % n) : Nat) : Int) = ((m.gcd n : Nat) : Int)
  rw [Nat.gcd_comm n, ← Nat.gcd_rec, Nat.gcd_comm]
theorem gc_pos (L : List Int) (lv : Int) (h : 1 ≤ L.length) : 1 ≤ gc L lv ∧ gc L lv ≤ L.length := by
  unfold gc
  have a : 0 < (cnt L lv L.length).gcd (L.length : Int) := Int.gcd_pos_of_ne_zero_right _ (by omega)
  have b : (cnt L lv L.length).gcd (L.length : Int) ∣ L.length := by
    have := Int.gcd_dvd_natAbs_right (cnt L lv L.length) (L.length : Int)
    simpa using this
  have c := Nat.le_of_dvd (by omega) b
  omega
theorem tdiv_bd {a g M : Int} (ha : 0 ≤ a ∧ a ≤ M) (hg : 1 ≤ g) : 0 ≤ a.tdiv g ∧ a.tdiv g ≤ M := by
  rw [Int.tdiv_eq_ediv_of_nonneg ha.1]
  have h1 := Int.ediv_nonneg ha.1 (by omega : 0 ≤ g)
  have h2 := Int.ediv_le_self g ha.1
  omega

set_option maxHeartbeats 1000000 in
theorem gcd_any (a b : Int) (w : World) (ha : 0 ≤ a) (ha' : a < 9223372036854775808) (hb : 0 ≤ b) (hb' : b < 9223372036854775808) :
    Calls Try.prog 33 #[.int .i64 a, .int .i64 b] w fun e w' => e = .returned (.int .i64 (a.gcd b : Int)) ∧ ∃ m, w' = w.drewN m := by
  obtain ⟨G, hG⟩ : ∃ G, (a.gcd b : Int) = G := ⟨_, rfl⟩
  have HG : Hid ((a.gcd b : Int) = G) := hG
  rw [hG]
  clear hG
  go_enter Try.func33, Try.ntmps33
  go_wp2_with fail
  go_loopw [0, 1] (fun x y wr => ∃ p q : Int, x = .int .i64 p ∧ y = .int .i64 q ∧ 0 ≤ p ∧ p < 9223372036854775808 ∧ 0 ≤ q ∧ q < 9223372036854775808 ∧ Hid ((p.gcd q : Int) = G) ∧ ∃ m, wr = w.drewN m) (fun _ y _ => (intOf y).toNat)
  case atStart => exact ⟨a, b, rfl, rfl, ha, ha', hb, hb', HG, 0, rfl⟩
  case round =>
    obtain ⟨p, q, rfl, rfl, hp, hp', hq, hq', HP, m, rfl⟩ := hrel
    by_cases hz : q = 0
    · subst hz
      have e1 : Hid (p = G) := by
        show _ = _
        rw [← HP.out, Int.gcd_zero_right]
        omega
      go_wp2_with fail
      go_ret
      exact ⟨by rw [← e1.out]; rfl, _, rfl⟩
    · obtain ⟨s1, s2, s3⟩ := gcd_step hp (by omega : 0 < q)
      rw [Int.tmod_eq_emod_of_nonneg hp] at s1 s2 s3
      have S3 : Hid ((q.gcd (p % q) : Int) = G) := (by show _ = _; rw [s3]; exact HP.out)
      have i3 : (q == 0) = false := by simp; omega
      have i4 : (q != 0) = true := by simp; omega
      have i5 : IntKind.i64.wrap (p % q) = p % q := IntWalk.i64_in _ (by omega)
      have S4 : Hid (0 ≤ p % q ∧ p % q < q) := ⟨s1, s2⟩
      clear s3 s1 s2
      go_wp2_with fail
      go_region
      go_wp2_with fail
      go_roundw
      case rel => exact ⟨q, p % q, rfl, rfl, hq, hq', S4.out.1, Int.lt_trans S4.out.2 hq', S3, m + 1, rfl⟩
      case measure => exact (by have := S4.out; show (p % q).toNat < q.toNat; omega)

theorem s_no (L : List Int) (lv : Int) (v : Value) (w : World) (hL : Lists.Reads w v L) (hf : L.length < 9223372036854775808) (hok : okS L = false) :
    Calls Try.prog 20 #[v, .int .i64 lv] w fun e w' => e = .returned (.tuple #[.int .i64 0, .int .i64 0]) ∧ ∃ m, w' = w.drewN m := by
  have C : Hid (Calls Try.prog 22 #[v] w fun e w' => e = .returned (.bool (okS L)) ∧ ∃ m, w' = w.drewN m) := sok_any L v w hL hf
  rw [hok] at C
  obtain ⟨a, cap, rfl⟩ := hL.form
  clear hL hok
  generalize L.length = n at *
  go_enter Try.func20, Try.ntmps20
  go_wp2_with fail
  refine C.out.mono ?_
  rintro e w1 ⟨rfl, m0, rfl⟩
  go_wp2_with fail
  go_ret2
  exact ⟨rfl, _, rfl⟩
theorem i_no (L : List Int) (lv : Int) (v : Value) (w : World) (hL : Lists.Reads w v L) (hf : L.length < 9223372036854775808) (hok : okS L = false) :
    Calls Try.prog 21 #[v, .int .i64 lv] w fun e w' => e = .returned (.tuple #[.int .i64 0, .int .i64 0]) ∧ w' = w := by
  have C : Hid (Calls Try.prog 24 #[v] w fun e w' => e = .returned (.bool (okS L)) ∧ w' = w) := iok_any L v w hL hf
  rw [hok] at C
  obtain ⟨a, cap, rfl⟩ := hL.form
  clear hL hok
  generalize L.length = n at *
  go_enter Try.func21, Try.ntmps21
  go_wp2_with fail
  refine C.out.mono ?_
  rintro e w1 ⟨rfl, hw⟩
  subst hw
  go_wp2_with fail
  go_ret2
  exact ⟨rfl, rfl⟩

set_option maxHeartbeats 1000000 in
theorem s_yes (L : List Int) (lv : Int) (v : Value) (w : World) (hL : Lists.Reads w v L) (hf : L.length < 9223372036854775808) (hok : okS L = true) :
    Calls Try.prog 20 #[v, .int .i64 lv] w fun e w' => e = .returned (.tuple #[.int .i64 ((cnt L lv L.length).tdiv (gc L lv)), .int .i64 ((L.length : Int).tdiv (gc L lv))]) ∧ ∃ m, w' = w.drewN m := by
  have C : Hid (Calls Try.prog 22 #[v] w fun e w' => e = .returned (.bool (okS L)) ∧ ∃ m, w' = w.drewN m) := sok_any L v w hL hf
  obtain ⟨l1, l2, hz⟩ := okS_parts hok
  rw [hok] at C
  have HG0 : Hid (((cnt L lv L.length).gcd (L.length : Int) : Int) = gc L lv ∧ 1 ≤ gc L lv ∧ gc L lv ≤ L.length) := ⟨rfl, gc_pos L lv l1⟩
  obtain ⟨b, o, hcell, hvv⟩ := reads_at hL
  obtain ⟨a, cap, rfl⟩ := hL.form
  have HC : Hid (∀ i, i < L.length → w.cell? ⟨b, o + i, none⟩ = some (.int .i64 (L.getD i 0))) := hcell
  have HB : Hid (0 < L.length → b < w.heap.size ∧ a = some ⟨b, o, none⟩) := fun hi => by
    obtain ⟨h1, c, h2⟩ := hvv hi
    simp at h2
    exact ⟨h1, h2.1⟩
  obtain ⟨n, hn⟩ : ∃ n, n = L.length := ⟨_, rfl⟩
  rw [← hn] at hf l1 l2 C HG0 ⊢
  have HN : Hid (n = L.length) := hn
  clear hL hcell hvv hn
  clear hz hok
  go_enter Try.func20, Try.ntmps20
  go_wp2_with fail
  refine C.out.mono ?_
  rintro e w1 ⟨rfl, m0, rfl⟩
  go_wp2_with fail
  go_loopw [6, 7] (fun s i wr => ∃ k : Nat, k ≤ n ∧ i = .int .i64 k ∧ s = .int .i64 (cnt L lv k) ∧ (∃ m, wr = w.drewN m)) (fun _ i _ => n - (intOf i).toNat)
  case atStart => exact ⟨0, by omega, rfl, rfl, ⟨_, rfl⟩⟩
  case round =>
    obtain ⟨k, hk, rfl, rfl, ⟨m, rfl⟩⟩ := hrel
    by_cases hlt : k < n
    · have hkl : k < L.length := by rw [← HN.out]; exact hlt
      obtain ⟨hb, hx⟩ := HB.out (by omega)
      subst hx
      have q : (w.drewN m).cell? ⟨b, o + k, none⟩ = some (.int .i64 (L.getD k 0)) := HC.out k hkl
      have i1 : (0 : Int) ≤ (k : Int) := by omega
      have i2 : (k : Int) < (n : Int) := by omega
      have E : Hid (cnt L lv (k + 1) = cnt L lv k + if hit L lv k then 1 else 0) := rfl
      have HH : Hid (hit L lv k = (decide (lv ≤ L.getD k 0) && (decide (k = 0) || decide (L.getD (k - 1) 0 < lv)))) := rfl
      have bd := cnt_bd L lv k
      by_cases hk0 : k = 0
      · subst hk0
        have q' : (w.drewN m).cell? ⟨b, o, none⟩ = some (.int .i64 (L.getD 0 0)) := q
        clear q i1
        generalize cnt L lv 0 = s at *
        generalize L.getD 0 0 = z at *
        by_cases hz : lv ≤ z
        · have E2 : Hid (cnt L lv (0 + 1) = s + 1) := (by show _ = _; rw [E.out, HH.out]; simp [hz])
          go_wp2_with fail
          go_roundw
          case rel => exact ⟨0 + 1, by omega, by go_num, by rw [E2.out], ⟨_, rfl⟩⟩
          case measure => simp [intOf]; omega
        · have E2 : Hid (cnt L lv (0 + 1) = s) := (by show _ = _; rw [E.out, HH.out]; simp [hz])
          go_wp2_with fail
          go_roundw
          case rel => exact ⟨0 + 1, by omega, by go_num, by rw [E2.out], ⟨_, rfl⟩⟩
          case measure => simp [intOf]; omega
      · have e1 : ((k : Int) == 0) = false := by simp; omega
        have q1 : (w.drewN m).cell? ⟨b, o + (k - 1), none⟩ = some (.int .i64 (L.getD (k - 1) 0)) := HC.out (k - 1) (by omega)
        have j1 : (0 : Int) ≤ (k : Int) - 1 := by omega
        have j2 : (k : Int) - 1 < (n : Int) := by omega
        have j3 : ((k : Int) - 1).toNat = k - 1 := by omega
        generalize cnt L lv k = s at *
        generalize L.getD k 0 = z at *
        generalize L.getD (k - 1) 0 = y at *
        by_cases hz : lv ≤ z
        · by_cases hy : y < lv
          · have E2 : Hid (cnt L lv (k + 1) = s + 1) := (by show _ = _; rw [E.out, HH.out]; simp [hz, hy])
            go_wp2_with fail
            go_roundw
            case rel => exact ⟨k + 1, by omega, by go_num, by rw [E2.out], ⟨_, rfl⟩⟩
            case measure => simp [intOf]; omega
          · have E2 : Hid (cnt L lv (k + 1) = s) := (by show _ = _; rw [E.out, HH.out]; simp [hy, hk0])
            go_wp2_with fail
            go_roundw
            case rel => exact ⟨k + 1, by omega, by go_num, by rw [E2.out], ⟨_, rfl⟩⟩
            case measure => simp [intOf]; omega
        · have E2 : Hid (cnt L lv (k + 1) = s) := (by show _ = _; rw [E.out, HH.out]; simp [hz])
          go_wp2_with fail
          go_roundw
          case rel => exact ⟨k + 1, by omega, by go_num, by rw [E2.out], ⟨_, rfl⟩⟩
          case measure => simp [intOf]; omega
    · have hkn : k = n := by omega
      subst hkn
      have bd := cnt_bd L lv k
      have g1 := HG0.out.2
      obtain ⟨G, hG⟩ : ∃ G, G = gc L lv := ⟨_, rfl⟩
      have HGG : Hid (G = gc L lv) := hG
      rw [← hG] at g1 HG0
      have T1 : Hid (0 ≤ (cnt L lv k).tdiv G ∧ (cnt L lv k).tdiv G ≤ k) := tdiv_bd bd g1.1
      have T2 : Hid (0 ≤ (k : Int).tdiv G ∧ (k : Int).tdiv G ≤ k) := tdiv_bd (by omega) g1.1
      obtain ⟨s, hs⟩ : ∃ s, s = cnt L lv k := ⟨_, rfl⟩
      have HSS : Hid (s = cnt L lv k) := hs
      rw [← hs] at HG0 T1 bd ⊢
      clear hs hG
      go_wp2_with fail
      go_loopw [8, 9] (fun x y wr => ∃ p q : Int, x = .int .i64 p ∧ y = .int .i64 q ∧ 0 ≤ p ∧ p < 9223372036854775808 ∧ 0 ≤ q ∧ q < 9223372036854775808 ∧ Hid ((p.gcd q : Int) = G) ∧ ∃ m, wr = w.drewN m) (fun _ y _ => (intOf y).toNat)
      case atStart => exact ⟨s, k, rfl, rfl, bd.1, by omega, by omega, by omega, HG0.out.1, _, rfl⟩
      case round =>
        obtain ⟨p, q, rfl, rfl, hp, hp', hq, hq', HP, m, rfl⟩ := hrel
        by_cases hz : q = 0
        · subst hz
          have e1 : p = G := by
            rw [← HP.out, Int.gcd_zero_right]
            omega
          subst e1
          have i3 : (p == 0) = false := by simp; omega
          have J1 : IntKind.i64.wrap (s.tdiv p) = s.tdiv p := IntWalk.i64_in _ (by have := T1.out; omega)
          have J2 : IntKind.i64.wrap ((k : Int).tdiv p) = (k : Int).tdiv p := IntWalk.i64_in _ (by have := T2.out; omega)
          have E6 : Hid ((k : Int).tdiv p = (k : Int) / p) := Int.tdiv_eq_ediv_of_nonneg (by omega)
          have J3 : IntKind.i64.wrap ((k : Int) / p) = (k : Int).tdiv p := by rw [← Int.tdiv_eq_ediv_of_nonneg (by omega)]; exact J2
          have J4 : wrap64 ((k : Int) / p) = (k : Int).tdiv p := by rw [← Int.tdiv_eq_ediv_of_nonneg (by omega)]; exact IntWalk.wrap64_in _ (by have := T2.out; omega)
          go_wp2_with fail
          go_region
          go_wp2_with fail
          go_ret2
          exact ⟨by rw [← HSS.out, ← HGG.out, E6.out]; rfl, m + 1, rfl⟩
        · obtain ⟨s1, s2, s3⟩ := gcd_step hp (by omega : 0 < q)
          rw [Int.tmod_eq_emod_of_nonneg hp] at s1 s2 s3
          have S3 : Hid ((q.gcd (p % q) : Int) = G) := (by show _ = _; rw [s3]; exact HP.out)
          have i3 : (q == 0) = false := by simp; omega
          have i4 : 0 < q := by omega
          have i5 : IntKind.i64.wrap (p % q) = p % q := IntWalk.i64_in _ (by omega)
          have S4 : Hid (0 ≤ p % q ∧ p % q < q) := ⟨s1, s2⟩
          clear s3 s1 s2
          go_wp2_with fail
          go_region
          go_wp2_with fail
          go_roundw
          case rel => exact ⟨q, p % q, rfl, rfl, hq, hq', S4.out.1, Int.lt_trans S4.out.2 hq', S3, m + 1, rfl⟩
          case measure => exact (by have := S4.out; show (p % q).toNat < q.toNat; omega)

set_option maxHeartbeats 1000000 in
theorem i_yes (L : List Int) (lv : Int) (v : Value) (w : World) (hL : Lists.Reads w v L) (hf : L.length < 9223372036854775808) (hok : okS L = true) :
    Calls Try.prog 21 #[v, .int .i64 lv] w fun e w' => e = .returned (.tuple #[.int .i64 ((cnt L lv L.length).tdiv (gc L lv)), .int .i64 ((L.length : Int).tdiv (gc L lv))]) ∧ ∃ m, w' = w.drewN m := by
  have C : Hid (Calls Try.prog 24 #[v] w fun e w' => e = .returned (.bool (okS L)) ∧ w' = w) := iok_any L v w hL hf
  obtain ⟨l1, l2, hz⟩ := okS_parts hok
  rw [hok] at C
  have bd := cnt_bd L lv L.length
  have HG0 : Hid (1 ≤ gc L lv ∧ gc L lv ≤ L.length) := gc_pos L lv l1
  have G0 : Hid (Calls Try.prog 33 #[.int .i64 (cnt L lv L.length), .int .i64 (L.length : Int)] w fun e w' => e = .returned (.int .i64 (gc L lv)) ∧ ∃ m, w' = w.drewN m) := gcd_any _ _ w bd.1 (by omega) (by omega) (by omega)
  obtain ⟨b, o, hcell, hvv⟩ := reads_at hL
  obtain ⟨a, cap, rfl⟩ := hL.form
  have HC : Hid (∀ i, i < L.length → w.cell? ⟨b, o + i, none⟩ = some (.int .i64 (L.getD i 0))) := hcell
  have HB : Hid (0 < L.length → b < w.heap.size ∧ a = some ⟨b, o, none⟩) := fun hi => by
    obtain ⟨h1, c, h2⟩ := hvv hi
    simp at h2
    exact ⟨h1, h2.1⟩
  obtain ⟨n, hn⟩ : ∃ n, n = L.length := ⟨_, rfl⟩
  rw [← hn] at hf l1 l2 C HG0 G0 bd ⊢
  have HN : Hid (n = L.length) := hn
  clear hL hcell hvv hn
  clear hz hok
  go_enter Try.func21, Try.ntmps21
  go_wp2_with fail
  refine C.out.mono ?_
  rintro e w1 ⟨rfl, hw⟩
  subst hw
  go_wp2_with fail
  go_loop [6, 7, 17] (fun s r i => ∃ k : Nat, k ≤ n ∧ i = .int .i64 k ∧ s = .int .i64 (cnt L lv k) ∧ r = .bool (rea L lv k)) (fun _ _ i => n - (intOf i).toNat)
  case atStart => exact ⟨0, by omega, rfl, rfl, rfl⟩
  case round =>
    obtain ⟨k, hk, rfl, rfl, rfl⟩ := hrel
    by_cases hlt : k < n
    · have hkl : k < L.length := by rw [← HN.out]; exact hlt
      obtain ⟨hb, hx⟩ := HB.out (by omega)
      subst hx
      have q : w1.cell? ⟨b, o + k, none⟩ = some (.int .i64 (L.getD k 0)) := HC.out k hkl
      have i1 : (0 : Int) ≤ (k : Int) := by omega
      have i2 : (k : Int) < (n : Int) := by omega
      have E : Hid (cnt L lv (k + 1) = cnt L lv k + if hit L lv k then 1 else 0) := rfl
      have HH : Hid (hit L lv k = (decide (lv ≤ L.getD k 0) && !rea L lv k)) := hit_rea L lv k
      have HE : Hid (rea L lv (k + 1) = decide (lv ≤ L.getD k 0)) := rea_up L lv k
      have bk := cnt_bd L lv k
      generalize cnt L lv k = s at *
      generalize L.getD k 0 = z at *
      generalize rea L lv k = re at *
      by_cases hz : lv ≤ z
      · have HE2 : Hid (rea L lv (k + 1) = true) := (by show _ = _; rw [HE.out]; simp [hz])
        cases re
        · have E2 : Hid (cnt L lv (k + 1) = s + 1) := (by show _ = _; rw [E.out, HH.out]; simp [hz])
          go_wp2_with fail
          go_round
          case rel => exact ⟨k + 1, by omega, by go_num, by rw [E2.out], by rw [HE2.out]⟩
          case measure => simp [intOf]; omega
        · have E2 : Hid (cnt L lv (k + 1) = s) := (by show _ = _; rw [E.out, HH.out]; simp)
          go_wp2_with fail
          go_round
          case rel => exact ⟨k + 1, by omega, by go_num, by rw [E2.out], by rw [HE2.out]⟩
          case measure => simp [intOf]; omega
      · have HE2 : Hid (rea L lv (k + 1) = false) := (by show _ = _; rw [HE.out]; simp [hz])
        have E2 : Hid (cnt L lv (k + 1) = s) := (by show _ = _; rw [E.out, HH.out]; simp [hz])
        go_wp2_with fail
        go_round
        case rel => exact ⟨k + 1, by omega, by go_num, by rw [E2.out], by rw [HE2.out]⟩
        case measure => simp [intOf]; omega
    · have hkn : k = n := by omega
      subst hkn
      have g1 := HG0.out
      obtain ⟨G, hG⟩ : ∃ G, G = gc L lv := ⟨_, rfl⟩
      have HGG : Hid (G = gc L lv) := hG
      rw [← hG] at g1 G0
      have J1 : IntKind.i64.wrap ((cnt L lv k).tdiv G) = (cnt L lv k).tdiv G := IntWalk.i64_in _ (by have := tdiv_bd bd g1.1; omega)
      have J2 : IntKind.i64.wrap ((k : Int).tdiv G) = (k : Int).tdiv G := IntWalk.i64_in _ (by have := tdiv_bd (a := (k : Int)) (g := G) (M := k) (by omega) g1.1; omega)
      have i3 : (G == 0) = false := by simp; omega
      obtain ⟨s, hs⟩ : ∃ s, s = cnt L lv k := ⟨_, rfl⟩
      have HSS : Hid (s = cnt L lv k) := hs
      rw [← hs] at G0 J1 ⊢
      clear hs hG bd
      go_wp2_with fail
      refine G0.out.mono ?_
      rintro e w2 ⟨rfl, m, rfl⟩
      have E6 : Hid ((k : Int).tdiv G = (k : Int) / G) := Int.tdiv_eq_ediv_of_nonneg (by omega)
      have J3 : IntKind.i64.wrap ((k : Int) / G) = (k : Int).tdiv G := by rw [← Int.tdiv_eq_ediv_of_nonneg (by omega)]; exact J2
      have J4 : wrap64 ((k : Int) / G) = (k : Int).tdiv G := by rw [← Int.tdiv_eq_ediv_of_nonneg (by omega)]; exact IntWalk.wrap64_in _ (by have := tdiv_bd (a := (k : Int)) (g := G) (M := k) (by omega) g1.1; omega)
      go_wp2_with fail
      go_region
      go_wp2_with fail
      go_ret2
      exact ⟨by rw [← HSS.out, ← HGG.out, E6.out]; rfl, m + 1, rfl⟩

theorem returnsAll (w : World) (v : Value) (L : List Int) (hL : Lists.Reads w v L) (hf : L.length < 9223372036854775808) (x : Int) :
    Calls Try.prog 7 #[v, .int .i64 x] w fun e w' => e = .returned (.bool true) ∧ Below w.heap.size w w' := by
  cases ho : okS L
  · exact LawRtL.rtLaw w v L hL hf x 0 0 (fun w t h => by
      refine (s_no L x t w h hf ho).mono ?_
      rintro e w' ⟨rfl, m, rfl⟩
      exact ⟨rfl, below_drewN (Below.refl _ _) m⟩) (fun w t h => by
      refine (i_no L x t w h hf ho).mono ?_
      rintro e w' ⟨rfl, rfl⟩
      exact ⟨rfl, Below.refl _ _⟩)
  · exact LawRtL.rtLaw w v L hL hf x _ _ (fun w t h => by
      refine (s_yes L x t w h hf ho).mono ?_
      rintro e w' ⟨rfl, m, rfl⟩
      exact ⟨rfl, below_drewN (Below.refl _ _) m⟩) (fun w t h => by
      refine (i_yes L x t w h hf ho).mono ?_
      rintro e w' ⟨rfl, m, rfl⟩
      exact ⟨rfl, below_drewN (Below.refl _ _) m⟩)
end Go.Proofs.Ytlebcdjobgibgaa.Rt
