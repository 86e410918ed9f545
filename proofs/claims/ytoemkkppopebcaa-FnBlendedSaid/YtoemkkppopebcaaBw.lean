/- The law of blends walked. -/
import Derived.Test.YtoemkkppopebcaaDb
import Derived.Deep.DeepCutAuto
namespace Go.Proofs.Ytoemkkppopebcaa.Db
open Go.ChangeShapes Go.WideShapes Go.ChangeAt Go.RowKit
open Go.Proofs.Ytoemkkppopebcaa.Lists Go.Proofs.Ytoemkkppopebcaa.Al Go.Proofs.Ytoemkkppopebcaa.Rd Go.Proofs.Ytoemkkppopebcaa.Bl

theorem sblend_any (V S : List Int) (lV : V.length < 9223372036854775808) (lS : S.length < 9223372036854775808) (w : World) (v s : Value) (hV : Lists.Reads w v V) (hS : Lists.Reads w s S) :
    Calls Try.prog 6 #[v, s] w fun e w' => e = .returned (.tuple #[.int .i64 (r0 V S), .int .i64 (r1 V S)]) ∧ Below w.heap.size w w' := by
  unfold r0 r1
  cases h : okB V S
  · refine (sblend_no V S v s w hV hS lV lS h).mono ?_
    rintro e w' ⟨rfl, m, rfl⟩
    exact ⟨rfl, Rd.below_drewN (Below.refl _ _) m⟩
  · refine (sblend_yes V S v s w hV hS h).mono ?_
    rintro e w' ⟨rfl, m, rfl⟩
    exact ⟨rfl, Rd.below_drewN (Below.refl _ _) m⟩
theorem iblend_any (V S : List Int) (lV : V.length < 9223372036854775808) (lS : S.length < 9223372036854775808) (w : World) (v s : Value) (hV : Lists.Reads w v V) (hS : Lists.Reads w s S) :
    Calls Try.prog 7 #[v, s] w fun e w' => e = .returned (.tuple #[.int .i64 (r0 V S), .int .i64 (r1 V S)]) ∧ Below w.heap.size w w' := by
  unfold r0 r1
  cases h : okB V S
  · exact iblend_no V S v s w hV hS lV lS h
  · exact iblend_yes V S v s w hV hS h

theorem sv_bd {V : List Int} (n : Nat) (h : ∀ j, j < n → -100000 ≤ V.getD j 0 ∧ V.getD j 0 ≤ 100000) (hn : n ≤ 5) (k : Nat) (hk : k ≤ n) : -500000 ≤ sv V k ∧ sv V k ≤ 500000 := by
  have := Su.sm_bound (n := n) (f := fun i => V.getD i 0) (M := 100000) h k hk
  unfold sv
  omega
set_option maxHeartbeats 1000000 in
theorem sum_any (L : List Int) (v : Value) (w : World) (hL : Lists.Reads w v L) (hn : L.length ≤ 5) (hb : ∀ j, j < L.length → -100000 ≤ L.getD j 0 ∧ L.getD j 0 ≤ 100000) :
    Calls Try.prog 8 #[v] w fun e w' => e = .returned (.int .i64 (sv L L.length)) ∧ w' = w := by
  obtain ⟨b, o, hcell, hvv⟩ := reads_at hL
  obtain ⟨a, cap, rfl⟩ := hL.form
  have HC : Hid (∀ i, i < L.length → w.cell? ⟨b, o + i, none⟩ = some (.int .i64 (L.getD i 0))) := hcell
  have HB : Hid (0 < L.length → a = some ⟨b, o, none⟩) := fun hi => by
    obtain ⟨h1, c, h2⟩ := hvv hi
    simp at h2
    exact h2.1
  have HD : Hid (∀ j, j < L.length → -100000 ≤ L.getD j 0 ∧ L.getD j 0 ≤ 100000) := hb
  obtain ⟨n, hn'⟩ : ∃ n, n = L.length := ⟨_, rfl⟩
  rw [← hn'] at hn HC HB HD ⊢
  clear hL hcell hvv hn' hb
  go_enter Try.func8, Try.ntmps8
  go_wp2_with fail
  go_loop [3, 4] (fun s i => ∃ k : Nat, k ≤ n ∧ i = .int .i64 k ∧ s = .int .i64 (sv L k)) (fun _ i => n - (intOf i).toNat)
  case atStart => exact ⟨0, by omega, rfl, rfl⟩
  case round =>
    obtain ⟨k, hk, rfl, rfl⟩ := hrel
    by_cases hlt : k < n
    · have hx := HB.out (by omega)
      subst hx
      have q : w.cell? ⟨b, o + k, none⟩ = some (.int .i64 (L.getD k 0)) := HC.out k hlt
      have i1 : (0 : Int) ≤ (k : Int) := by omega
      have i2 : (k : Int) < (n : Int) := by omega
      have E : Hid (sv L (k + 1) = sv L k + L.getD k 0) := rfl
      have bd := sv_bd n HD.out hn k (by omega)
      have bz := HD.out k hlt
      generalize sv L k = s at *
      generalize L.getD k 0 = z at *
      go_wp2_with fail
      go_round
      case rel => exact ⟨k + 1, by omega, by go_num, by rw [E.out]⟩
      case measure => simp [intOf]; omega
    · have hkn : k = n := by omega
      subst hkn
      go_wp2_with fail
      go_ret
      exact ⟨rfl, rfl⟩

/-- Three rows that are filled beside each other. -/
structure TS (B : Nat) (w1 wx : World) (x y z : Value) (k : Nat) (X Y Z : List Int) : Prop where
  ox : wx.ownsRow B 2 1 x k (ints X)
  oy : wx.ownsRow B 2 1 y k (ints Y)
  oz : wx.ownsRow B 2 1 z k (ints Z)
  xy : AP x y
  xz : AP x z
  yz : AP y z
  bl : Below B w1 wx
theorem mul_bd {a b A C : Int} (ha : -A ≤ a ∧ a ≤ A) (hb : 0 ≤ b ∧ b ≤ C) (hA : 0 ≤ A) : -(A * C) ≤ a * b ∧ a * b ≤ A * C := Bl.mul_abs ha hb hA

set_option maxHeartbeats 4000000 in
theorem blendLaw (a : Option Addr) (len cap : Nat) (w : World) (hc : Go.Proofs.Ytoemkkppopebcaa.Rd.Code w a len cap) (hn : len < 9223372036854775808) : Calls Try.prog 3 #[.slice a len cap] w fun e w' => e = .returned (.bool true) ∧ Below w.heap.size w w' := by
  by_cases hl : 1048576 < len
  · have C : Hid (Calls Try.prog 4 #[.slice a len cap] w fun e w' => e = .returned (.bool true) ∧ w' = w) := big_yes a len cap w hl hn
    clear hc
    go_enter Try.func3, Try.ntmps3
    go_wp2_with fail
    refine C.out.mono ?_
    rintro e w1 ⟨rfl, hw⟩
    subst hw
    go_wp2_with fail
    go_ret
    exact ⟨rfl, Below.refl _ _⟩
  have C : Hid (Calls Try.prog 4 #[.slice a len cap] w fun e w' => e = .returned (.bool false) ∧ w' = w) := big_no a len cap w (by omega)
  have D : Hid (Calls Try.prog 5 #[.slice a len cap] w fun e w' => ∃ v s V S, e = .returned (.tuple #[v, s]) ∧ Lists.Reads w' v V ∧ Lists.Reads w' s S ∧ V.length ≤ 5 ∧ S.length ≤ 6 ∧ Below w.heap.size w w') := draw_any a len cap w hc (by omega)
  obtain ⟨i0, hi, hz0, hz1, hz2⟩ := info_parts Lists.Try.info2
  clear hc
  go_enter Try.func3, Try.ntmps3
  go_wp2_with fail
  refine C.out.mono ?_
  rintro e w1 ⟨rfl, hw⟩
  have hw' := hw.symm
  subst hw'
  clear hw
  go_wp2_with fail
  refine D.out.mono ?_
  rintro e w1 ⟨v, s, V, S, rfl, hV, hS, lV, lS, hb1⟩
  have B1 : Hid (Below w.heap.size w w1) := hb1
  have SA : Hid (Calls Try.prog 6 #[v, s] w1 fun e w' => e = .returned (.tuple #[.int .i64 (r0 V S), .int .i64 (r1 V S)]) ∧ Below w1.heap.size w1 w') := sblend_any V S (by omega) (by omega) w1 v s hV hS
  have IA : Hid (∀ w', Below w1.heap.size w1 w' → Calls Try.prog 7 #[v, s] w' fun e w'' => e = .returned (.tuple #[.int .i64 (r0 V S), .int .i64 (r1 V S)]) ∧ Below w'.heap.size w' w'') := fun w' hb => iblend_any V S (by omega) (by omega) w' v s (hV.on hb) (hS.on hb)
  have hbb : ∀ b : Int, (b != b) = false := fun b => by simp
  have hii : ∀ b : Int, (b == b) = true := fun b => by simp
  cases ho : okB V S
  · have E0 : r0 V S = 0 := by unfold r0; rw [ho]; rfl
    have E1 : r1 V S = 0 := by unfold r1; rw [ho]; rfl
    rw [E0, E1] at SA IA
    obtain ⟨va, vc, ev⟩ := hV.form
    obtain ⟨sa, sc, es⟩ := hS.form
    subst ev es
    clear hV hS hb1 ho E0 E1
    generalize V.length = n at *
    generalize S.length = m at *
    go_wp2_with fail
    refine SA.out.mono ?_
    rintro e w2 ⟨rfl, b2⟩
    have B2 : Hid (Below w1.heap.size w1 w2) := b2
    clear b2
    go_wp2_with fail
    refine (IA.out w2 B2.out).mono ?_
    rintro e w3 ⟨rfl, b3⟩
    have B3 : Hid (Below w.heap.size w w3) := B1.out.trans ((B2.out.trans (b3.mono B2.out.size)).mono B1.out.size)
    clear b3
    go_wp2_with fail
    go_ret
    exact ⟨rfl, B3.out⟩
  have O := ok_of ho
  have n1 := O.n1
  have n5 := O.n5
  have eS := O.nS
  have DP := den_pos ho
  have NB := num_bd ho
  have MB := num_bd (ok_rep ho)
  have MD := den_pos (ok_rep ho)
  have ME : Hid (r0 V (List.replicate V.length (S.getD 0 0)) * (V.length : Int) = sv V V.length * r1 V (List.replicate V.length (S.getD 0 0))) := mean_is ho
  have BT : Hid (∀ lo hi : Int, (∀ i, i < V.length → lo ≤ V.getD i 0) → (∀ i, i < V.length → V.getD i 0 ≤ hi) → lo * r1 V S ≤ r0 V S ∧ r0 V S ≤ hi * r1 V S) := fun lo hi h1 h2 => between ho h1 h2
  have SVB := sv_bd V.length O.vb n5 V.length (Nat.le_refl _)
  have IR : Hid (∀ w' B x y, w'.ownsRow B 2 1 x V.length (ints V.reverse) → w'.ownsRow B 2 1 y V.length (ints S.reverse) → Calls Try.prog 7 #[x, y] w' fun e w'' => e = .returned (.tuple #[.int .i64 (r0 V S), .int .i64 (r1 V S)]) ∧ Below w'.heap.size w' w'') := fun w' B x y h1 h2 => by
    have := iblend_any V.reverse S.reverse (by rw [List.length_reverse]; omega) (by rw [List.length_reverse]; omega) w' x y (reads_of h1 (by rw [List.length_reverse])) (reads_of h2 (by rw [List.length_reverse]; exact eS))
    rw [(r_rev ho).1, (r_rev ho).2] at this
    exact this
  have IM : Hid (∀ w' B z, Below w1.heap.size w1 w' → w'.ownsRow B 2 1 z V.length (ints (List.replicate V.length (S.getD 0 0))) → Calls Try.prog 7 #[v, z] w' fun e w'' => e = .returned (.tuple #[.int .i64 (r0 V (List.replicate V.length (S.getD 0 0))), .int .i64 (r1 V (List.replicate V.length (S.getD 0 0)))]) ∧ Below w'.heap.size w' w'') := fun w' B z hb h => iblend_any V _ (by omega) (by rw [List.length_replicate]; omega) w' v z (hV.on hb) (reads_of h (by rw [List.length_replicate]))
  have IS : Hid (∀ w', Below w1.heap.size w1 w' → Calls Try.prog 8 #[v] w' fun e w'' => e = .returned (.int .i64 (sv V V.length)) ∧ w'' = w') := fun w' hb => sum_any V v w' (hV.on hb) n5 O.vb
  obtain ⟨b, ob, hcell, hvv⟩ := reads_at hV
  obtain ⟨bl, vc, ev⟩ := hvv (by omega)
  obtain ⟨d, od, hcel2, hvv2⟩ := reads_at hS
  obtain ⟨dl, sc, es⟩ := hvv2 (by omega)
  subst ev es
  obtain ⟨n, hn'⟩ : ∃ n, n = V.length := ⟨_, rfl⟩
  have VB : Hid (∀ j, j < n → -100000 ≤ V.getD j 0 ∧ V.getD j 0 ≤ 100000) := fun j hj => O.vb j (by omega)
  have HC : Hid (∀ i, i < n → ∀ w', Below w1.heap.size w1 w' → w'.cell? ⟨b, ob + i, none⟩ = some (.int .i64 (V.getD i 0))) := fun i hi w' hb => by
    rw [hb.cell (p := ⟨b, ob + i, none⟩) bl]
    exact hcell i (by omega)
  have HD : Hid (∀ i, i < n → ∀ w', Below w1.heap.size w1 w' → w'.cell? ⟨d, od + i, none⟩ = some (.int .i64 (S.getD i 0))) := fun i hi w' hb => by
    rw [hb.cell (p := ⟨d, od + i, none⟩) dl]
    exact hcel2 i (by omega)
  have TV : Hid (∀ k, k < n → V.reverse.take (k + 1) = V.reverse.take k ++ [V.getD (n - 1 - k) 0]) := fun k hk => by
    rw [hn']
    exact rev_take V k (by omega)
  have TSS : Hid (∀ k, k < n → S.reverse.take (k + 1) = S.reverse.take k ++ [S.getD (n - 1 - k) 0]) := fun k hk => by
    rw [hn', ← eS]
    exact rev_take S k (by omega)
  have FV : Hid (V.reverse.take n = V.reverse) := List.take_of_length_le (by rw [List.length_reverse]; omega)
  have FS : Hid (S.reverse.take n = S.reverse) := List.take_of_length_le (by rw [List.length_reverse]; omega)
  rw [eS] at SA IA
  rw [← hn'] at SA IA IR IM IS ME BT SVB MB MD n1 n5 eS ⊢
  rw [eS]
  have VL : Hid (n = V.length) := hn'
  clear hV hS hb1 hcell hvv hcel2 hvv2 ho O hn' lV lS
  have DPH : Hid (1 ≤ r1 V S ∧ r1 V S ≤ 50000000000) := DP
  generalize r0 V (List.replicate n (S.getD 0 0)) = p0 at *
  generalize r1 V (List.replicate n (S.getD 0 0)) = p1 at *
  generalize sv V n = sm0 at *
  obtain ⟨q0, hq0⟩ : ∃ q0, r0 V S = q0 := ⟨_, rfl⟩
  obtain ⟨q1, hq1⟩ : ∃ q1, r1 V S = q1 := ⟨_, rfl⟩
  rw [hq0, hq1] at SA IA IR
  rw [hq0] at NB
  rw [hq1] at DP
  have BT2 : Hid (∀ lo hi : Int, (∀ i, i < n → lo ≤ V.getD i 0) → (∀ i, i < n → V.getD i 0 ≤ hi) → lo * q1 ≤ q0 ∧ q0 ≤ hi * q1) := (by have := BT.out; rw [hq0, hq1] at this; exact this)
  clear BT hq0 hq1 DPH
  go_wp2_with fail
  refine SA.out.mono ?_
  rintro e w2 ⟨rfl, b2⟩
  have B2 : Hid (Below w1.heap.size w1 w2) := b2
  clear b2
  go_wp2_with fail
  refine (IA.out w2 B2.out).mono ?_
  rintro e w3 ⟨rfl, b3⟩
  have B3 : Hid (Below w1.heap.size w1 w3) := B2.out.trans (b3.mono B2.out.size)
  have Z3 : Hid (w1.heap.size ≤ w3.heap.size) := B3.out.size
  clear b3 SA IA
  have dz : (q1 == 0) = false := by simp; omega
  have T0 : Hid (TS w1.heap.size w1 (((w3.alloc (Obj.cells #[] 2)).alloc (Obj.cells #[] 2)).alloc (Obj.cells #[] 2)) (.slice (some ⟨w3.heap.size, 0, none⟩) 0 0) (.slice (some ⟨w3.heap.size + 1, 0, none⟩) 0 0) (.slice (some ⟨w3.heap.size + 1 + 1, 0, none⟩) 0 0) 0 (V.reverse.take 0) (S.reverse.take 0) (List.replicate 0 (S.getD 0 0))) := (by
    have z := Z3.out
    have o1 : (w3.alloc (Obj.cells #[] 2)).ownsRow w1.heap.size 2 1 (.slice (some ⟨w3.heap.size, 0, none⟩) 0 0) 0 (ints []) := World.ownsRow_lit w3 #[] 0 (by omega) (Nat.zero_le _) rfl
    have o2 : ((w3.alloc (Obj.cells #[] 2)).alloc (Obj.cells #[] 2)).ownsRow w1.heap.size 2 1 (.slice (some ⟨(w3.alloc (Obj.cells #[] 2)).heap.size, 0, none⟩) 0 0) 0 (ints []) := World.ownsRow_lit (w3.alloc (Obj.cells #[] 2)) #[] 0 (by simp; omega) (Nat.zero_le _) rfl
    have o3 : (((w3.alloc (Obj.cells #[] 2)).alloc (Obj.cells #[] 2)).alloc (Obj.cells #[] 2)).ownsRow w1.heap.size 2 1 (.slice (some ⟨((w3.alloc (Obj.cells #[] 2)).alloc (Obj.cells #[] 2)).heap.size, 0, none⟩) 0 0) 0 (ints []) := World.ownsRow_lit ((w3.alloc (Obj.cells #[] 2)).alloc (Obj.cells #[] 2)) #[] 0 (by simp; omega) (Nat.zero_le _) rfl
    refine ⟨(o1.alloc _).alloc _, by simpa using o2.alloc _, by simpa using o3, fun g h1 h2 => ?_, fun g h1 h2 => ?_, fun g h1 h2 => ?_, ((B3.out.alloc z _).alloc (by simp; omega) _).alloc (by simp; omega) _⟩
    · simp [Value.ownBlock] at h1 h2; omega
    · simp [Value.ownBlock] at h1 h2; omega
    · simp [Value.ownBlock] at h1 h2; omega)
  have v0 := VB.out 0 (by omega)
  obtain ⟨W, hW⟩ : ∃ W, W = ((w3.alloc (Obj.cells #[] 2)).alloc (Obj.cells #[] 2)).alloc (Obj.cells #[] 2) := ⟨_, rfl⟩
  have HW : Hid (W = ((w3.alloc (Obj.cells #[] 2)).alloc (Obj.cells #[] 2)).alloc (Obj.cells #[] 2)) := hW
  rw [← hW] at T0
  clear hW
  have c0 : W.cell? ⟨b, ob, none⟩ = some (.int .i64 (V.getD 0 0)) := (by have := HC.out 0 (by omega) W T0.out.bl; simpa using this)
  have n3 : (0 : Int) < (n : Int) := by omega
  have LH0 : Hid ((∀ i, n - 0 ≤ i → i < n → V.getD 0 0 ≤ V.getD i 0 ∧ V.getD i 0 ≤ V.getD 0 0) ∧ (-100000 ≤ V.getD 0 0 ∧ V.getD 0 0 ≤ V.getD 0 0 ∧ V.getD 0 0 ≤ 100000)) := ⟨fun i h1 h2 => by omega, by omega⟩
  go_upto_region 13 with fail
  rw [← HW.out]
  go_wp2_with fail
  go_loopw [9, 10, 11, 12, 13, 14] (fun x y z l h i wr => ∃ (k : Nat) (lo hi : Int), k ≤ n ∧ i = .int .i64 ((n : Int) - 1 - k) ∧ l = .int .i64 lo ∧ h = .int .i64 hi ∧ Hid (TS w1.heap.size w1 wr x y z k (V.reverse.take k) (S.reverse.take k) (List.replicate k (S.getD 0 0))) ∧ Hid ((∀ i, n - k ≤ i → i < n → lo ≤ V.getD i 0 ∧ V.getD i 0 ≤ hi) ∧ (-100000 ≤ lo ∧ lo ≤ hi ∧ hi ≤ 100000))) (fun _ _ _ _ _ i _ => ((intOf i) + 1).toNat)
  case atStart => exact ⟨0, _, _, Nat.zero_le _, by simp, rfl, rfl, T0, LH0⟩
  case round =>
    obtain ⟨k, lo, hi', hk, rfl, rfl, rfl, T, LH⟩ := hrel
    obtain ⟨x, hx⟩ : ∃ x, x = u9 := ⟨_, rfl⟩
    obtain ⟨y, hy⟩ : ∃ y, y = u10 := ⟨_, rfl⟩
    obtain ⟨z, hz⟩ : ∃ z, z = u11 := ⟨_, rfl⟩
    subst hx hy hz
    have lx : (V.reverse.take k).length = k := by rw [List.length_take, List.length_reverse]; have := VL.out; omega
    have ly : (S.reverse.take k).length = k := by rw [List.length_take, List.length_reverse]; omega
    have lz : (List.replicate k (S.getD 0 0)).length = k := List.length_replicate
    obtain ⟨xa, xc, ex⟩ := form_of T.out.ox lx
    obtain ⟨ya, yc, ey⟩ := form_of T.out.oy ly
    obtain ⟨za, zc, ez⟩ := form_of T.out.oz lz
    subst ex ey ez
    clear lx ly lz
    by_cases hlt : k < n
    · obtain ⟨j, hj⟩ : ∃ j : Nat, j = n - 1 - k := ⟨_, rfl⟩
      have ej : (n : Int) - 1 - (k : Int) = (j : Int) := by omega
      have EJ : Hid ((n : Int) - 1 - (k : Int) = (j : Int)) := ej
      obtain ⟨c, hcc⟩ : ∃ c, S.getD 0 0 = c := ⟨_, rfl⟩
      obtain ⟨yv, hyv⟩ : ∃ yv, V.getD j 0 = yv := ⟨_, rfl⟩
      obtain ⟨t, htt⟩ : ∃ t, S.getD j 0 = t := ⟨_, rfl⟩
      have EY : Hid (V.getD j 0 = yv) := hyv
      have TVK : Hid (V.reverse.take (k + 1) = V.reverse.take k ++ [yv]) := (by show _ = _; rw [← hyv, hj]; exact TV.out k hlt)
      have TSK : Hid (S.reverse.take (k + 1) = S.reverse.take k ++ [t]) := (by show _ = _; rw [← htt, hj]; exact TSS.out k hlt)
      have RK : Hid (List.replicate (k + 1) (S.getD 0 0) = List.replicate k c ++ [c]) := (by show _ = _; rw [hcc]; exact List.replicate_succ')
      have OX : Hid (wr.ownsRow w1.heap.size 2 1 (.slice xa k xc) k (ints (V.reverse.take k))) := T.out.ox
      have OY : Hid (wr.ownsRow w1.heap.size 2 1 (.slice ya k yc) k (ints (S.reverse.take k))) := T.out.oy
      have OZ : Hid (wr.ownsRow w1.heap.size 2 1 (.slice za k zc) k (ints (List.replicate k c))) := (by have := T.out.oz; rw [hcc] at this; exact this)
      have XY : Hid (AP (.slice xa k xc) (.slice ya k yc)) := T.out.xy
      have XZ : Hid (AP (.slice xa k xc) (.slice za k zc)) := T.out.xz
      have YZ : Hid (AP (.slice ya k yc) (.slice za k zc)) := T.out.yz
      have BL : Hid (Below w1.heap.size w1 wr) := T.out.bl
      have QV : Hid (∀ w', Below w1.heap.size w1 w' → w'.cell? ⟨b, ob + j, none⟩ = some (.int .i64 yv)) := fun w' hb => by rw [← hyv]; exact HC.out j (by omega) w' hb
      have QS : Hid (∀ w', Below w1.heap.size w1 w' → w'.cell? ⟨d, od + j, none⟩ = some (.int .i64 t)) := fun w' hb => by rw [← htt]; exact HD.out j (by omega) w' hb
      have QC : Hid (∀ w', Below w1.heap.size w1 w' → w'.cell? ⟨d, od, none⟩ = some (.int .i64 c)) := fun w' hb => by rw [← hcc]; have := HD.out 0 (by omega) w' hb; simpa using this
      have yb : -100000 ≤ yv ∧ yv ≤ 100000 := by rw [← hyv]; exact VB.out j (by omega)
      have q1' : wr.cell? ⟨b, ob + j, none⟩ = some (.int .i64 yv) := QV.out wr BL.out
      have j1 : (0 : Int) ≤ (j : Int) := by omega
      have j2 : (j : Int) < (n : Int) := by omega
      have zr := BL.out.size
      rw [ej]
      clear ej hj hcc hyv htt T
      by_cases hlo : yv < lo
      · have hhi : ¬ hi' < yv := by have := LH.out.2; omega
        go_wp2_with (at_builtin; refine wpList_append_own_at _ rfl _ _ 24 rfl w1.heap.size 2 i0 (.int .i64 0) 1 8 Try.underlying24 hi hz0 hz1 hz2 rfl (by decide) _ _ _ rfl (OX.out.alloc _) ⟨wr.heap.size, 0, none⟩ 1 1 [.int .i64 yv] rfl rfl (cell_one wr _ 2) (one_one _) (by unfold maxLen; omega) (by omega) (by simp; omega) ?_)
        · intro x' w4 hown hgrow _ hat
          have ox4 : Hid (w4.ownsRow w1.heap.size 2 1 x' (k + 1) (ints (V.reverse.take (k + 1)))) := (by show World.ownsRow _ _ _ _ _ _ _; rw [TVK.out, ints_snoc]; simpa [ints, List.map_take, List.map_reverse] using hown)
          have oy4 : Hid (w4.ownsRow w1.heap.size 2 1 (.slice ya k yc) k (ints (S.reverse.take k))) := row_off (OY.out.alloc _) hgrow XY.out
          have oz4 : Hid (w4.ownsRow w1.heap.size 2 1 (.slice za k zc) k (ints (List.replicate k c))) := row_off (OZ.out.alloc _) hgrow XZ.out
          have xy4 : Hid (AP x' (.slice ya k yc)) := XY.out.next OY.out (Nat.le_succ _) (by simpa using hat)
          have xz4 : Hid (AP x' (.slice za k zc)) := XZ.out.next OZ.out (Nat.le_succ _) (by simpa using hat)
          have B4 : Hid (Below w1.heap.size w1 w4) := (BL.out.alloc BL.out.size _).grown hgrow (by have := BL.out.size; simp; omega) (fun b hb => (OX.out.lt b hb).1)
          have q4 : w4.cell? ⟨d, od + j, none⟩ = some (.int .i64 t) := QS.out w4 B4.out
          have z4 := B4.out.size
          clear hown hgrow hat
          go_wp2_with (at_builtin; refine wpList_append_own_at _ rfl _ _ 24 rfl w1.heap.size 2 i0 (.int .i64 0) 1 8 Try.underlying24 hi hz0 hz1 hz2 rfl (by decide) _ _ _ rfl (oy4.out.alloc _) ⟨w4.heap.size, 0, none⟩ 1 1 [.int .i64 t] rfl rfl (cell_one w4 _ 2) (one_one _) (by unfold maxLen; omega) (by omega) (by simp; omega) ?_)
          · intro y' w5 hown hgrow _ hat
            have ox5 : Hid (w5.ownsRow w1.heap.size 2 1 x' (k + 1) (ints (V.reverse.take (k + 1)))) := row_off (ox4.out.alloc _) hgrow xy4.out.symm
            have oy5 : Hid (w5.ownsRow w1.heap.size 2 1 y' (k + 1) (ints (S.reverse.take (k + 1)))) := (by show World.ownsRow _ _ _ _ _ _ _; rw [TSK.out, ints_snoc]; simpa [ints, List.map_take, List.map_reverse] using hown)
            have oz5 : Hid (w5.ownsRow w1.heap.size 2 1 (.slice za k zc) k (ints (List.replicate k c))) := row_off (oz4.out.alloc _) hgrow YZ.out
            have xy5 : Hid (AP x' y') := (xy4.out.symm.next ox4.out (Nat.le_succ _) (by simpa using hat)).symm
            have yz5 : Hid (AP y' (.slice za k zc)) := YZ.out.next oz4.out (Nat.le_succ _) (by simpa using hat)
            have B5 : Hid (Below w1.heap.size w1 w5) := (B4.out.alloc z4 _).grown hgrow (by simp; omega) (fun b hb => (oy4.out.lt b hb).1)
            have q5 : w5.cell? ⟨d, od, none⟩ = some (.int .i64 c) := QC.out w5 B5.out
            have z5 := B5.out.size
            clear hown hgrow hat q4 ox4 oy4 oz4
            go_wp2_with (at_builtin; refine wpList_append_own_at _ rfl _ _ 24 rfl w1.heap.size 2 i0 (.int .i64 0) 1 8 Try.underlying24 hi hz0 hz1 hz2 rfl (by decide) _ _ _ rfl (oz5.out.alloc _) ⟨w5.heap.size, 0, none⟩ 1 1 [.int .i64 c] rfl rfl (cell_one w5 _ 2) (one_one _) (by unfold maxLen; omega) (by omega) (by simp; omega) ?_)
            · intro z' w6 hown hgrow _ hat
              have B6 : Hid (Below w1.heap.size w1 w6) := (B5.out.alloc z5 _).grown hgrow (by simp; omega) (fun b hb => (oz5.out.lt b hb).1)
              have T6 : Hid (TS w1.heap.size w1 w6 x' y' z' (k + 1) (V.reverse.take (k + 1)) (S.reverse.take (k + 1)) (List.replicate (k + 1) (S.getD 0 0))) := ⟨row_off (ox5.out.alloc _) hgrow xz4.out.symm, row_off (oy5.out.alloc _) hgrow yz5.out.symm, by rw [RK.out, ints_snoc]; simpa [ints] using hown, xy5.out, (xz4.out.symm.next ox5.out (Nat.le_succ _) (by simpa using hat)).symm, (yz5.out.symm.next oy5.out (Nat.le_succ _) (by simpa using hat)).symm, B6.out⟩
              have q6 : w6.cell? ⟨b, ob + j, none⟩ = some (.int .i64 yv) := QV.out w6 B6.out
              have LN : Hid ((∀ i, n - (k + 1) ≤ i → i < n → yv ≤ V.getD i 0 ∧ V.getD i 0 ≤ hi') ∧ (-100000 ≤ yv ∧ yv ≤ hi' ∧ hi' ≤ 100000)) := (by
                have l := LH.out
                refine ⟨fun i h1 h2 => ?_, by omega⟩
                by_cases e : i = j
                · rw [e, EY.out]; omega
                · have := l.1 i (by have := EJ.out; omega) h2
                  omega)
              clear hown hgrow hat q5 ox5 oy5 oz5
              go_wp2_with fail
              go_roundw
              case rel => exact ⟨k + 1, _, _, by omega, by have := EJ.out; congr 1; omega, rfl, rfl, T6, LN⟩
              case measure => simp [intOf]
      · by_cases hhi : hi' < yv
        · skip
          go_wp2_with (at_builtin; refine wpList_append_own_at _ rfl _ _ 24 rfl w1.heap.size 2 i0 (.int .i64 0) 1 8 Try.underlying24 hi hz0 hz1 hz2 rfl (by decide) _ _ _ rfl (OX.out.alloc _) ⟨wr.heap.size, 0, none⟩ 1 1 [.int .i64 yv] rfl rfl (cell_one wr _ 2) (one_one _) (by unfold maxLen; omega) (by omega) (by simp; omega) ?_)
          · intro x' w4 hown hgrow _ hat
            have ox4 : Hid (w4.ownsRow w1.heap.size 2 1 x' (k + 1) (ints (V.reverse.take (k + 1)))) := (by show World.ownsRow _ _ _ _ _ _ _; rw [TVK.out, ints_snoc]; simpa [ints, List.map_take, List.map_reverse] using hown)
            have oy4 : Hid (w4.ownsRow w1.heap.size 2 1 (.slice ya k yc) k (ints (S.reverse.take k))) := row_off (OY.out.alloc _) hgrow XY.out
            have oz4 : Hid (w4.ownsRow w1.heap.size 2 1 (.slice za k zc) k (ints (List.replicate k c))) := row_off (OZ.out.alloc _) hgrow XZ.out
            have xy4 : Hid (AP x' (.slice ya k yc)) := XY.out.next OY.out (Nat.le_succ _) (by simpa using hat)
            have xz4 : Hid (AP x' (.slice za k zc)) := XZ.out.next OZ.out (Nat.le_succ _) (by simpa using hat)
            have B4 : Hid (Below w1.heap.size w1 w4) := (BL.out.alloc BL.out.size _).grown hgrow (by have := BL.out.size; simp; omega) (fun b hb => (OX.out.lt b hb).1)
            have q4 : w4.cell? ⟨d, od + j, none⟩ = some (.int .i64 t) := QS.out w4 B4.out
            have z4 := B4.out.size
            clear hown hgrow hat
            go_wp2_with (at_builtin; refine wpList_append_own_at _ rfl _ _ 24 rfl w1.heap.size 2 i0 (.int .i64 0) 1 8 Try.underlying24 hi hz0 hz1 hz2 rfl (by decide) _ _ _ rfl (oy4.out.alloc _) ⟨w4.heap.size, 0, none⟩ 1 1 [.int .i64 t] rfl rfl (cell_one w4 _ 2) (one_one _) (by unfold maxLen; omega) (by omega) (by simp; omega) ?_)
            · intro y' w5 hown hgrow _ hat
              have ox5 : Hid (w5.ownsRow w1.heap.size 2 1 x' (k + 1) (ints (V.reverse.take (k + 1)))) := row_off (ox4.out.alloc _) hgrow xy4.out.symm
              have oy5 : Hid (w5.ownsRow w1.heap.size 2 1 y' (k + 1) (ints (S.reverse.take (k + 1)))) := (by show World.ownsRow _ _ _ _ _ _ _; rw [TSK.out, ints_snoc]; simpa [ints, List.map_take, List.map_reverse] using hown)
              have oz5 : Hid (w5.ownsRow w1.heap.size 2 1 (.slice za k zc) k (ints (List.replicate k c))) := row_off (oz4.out.alloc _) hgrow YZ.out
              have xy5 : Hid (AP x' y') := (xy4.out.symm.next ox4.out (Nat.le_succ _) (by simpa using hat)).symm
              have yz5 : Hid (AP y' (.slice za k zc)) := YZ.out.next oz4.out (Nat.le_succ _) (by simpa using hat)
              have B5 : Hid (Below w1.heap.size w1 w5) := (B4.out.alloc z4 _).grown hgrow (by simp; omega) (fun b hb => (oy4.out.lt b hb).1)
              have q5 : w5.cell? ⟨d, od, none⟩ = some (.int .i64 c) := QC.out w5 B5.out
              have z5 := B5.out.size
              clear hown hgrow hat q4 ox4 oy4 oz4
              go_wp2_with (at_builtin; refine wpList_append_own_at _ rfl _ _ 24 rfl w1.heap.size 2 i0 (.int .i64 0) 1 8 Try.underlying24 hi hz0 hz1 hz2 rfl (by decide) _ _ _ rfl (oz5.out.alloc _) ⟨w5.heap.size, 0, none⟩ 1 1 [.int .i64 c] rfl rfl (cell_one w5 _ 2) (one_one _) (by unfold maxLen; omega) (by omega) (by simp; omega) ?_)
              · intro z' w6 hown hgrow _ hat
                have B6 : Hid (Below w1.heap.size w1 w6) := (B5.out.alloc z5 _).grown hgrow (by simp; omega) (fun b hb => (oz5.out.lt b hb).1)
                have T6 : Hid (TS w1.heap.size w1 w6 x' y' z' (k + 1) (V.reverse.take (k + 1)) (S.reverse.take (k + 1)) (List.replicate (k + 1) (S.getD 0 0))) := ⟨row_off (ox5.out.alloc _) hgrow xz4.out.symm, row_off (oy5.out.alloc _) hgrow yz5.out.symm, by rw [RK.out, ints_snoc]; simpa [ints] using hown, xy5.out, (xz4.out.symm.next ox5.out (Nat.le_succ _) (by simpa using hat)).symm, (yz5.out.symm.next oy5.out (Nat.le_succ _) (by simpa using hat)).symm, B6.out⟩
                have q6 : w6.cell? ⟨b, ob + j, none⟩ = some (.int .i64 yv) := QV.out w6 B6.out
                have LN : Hid ((∀ i, n - (k + 1) ≤ i → i < n → lo ≤ V.getD i 0 ∧ V.getD i 0 ≤ yv) ∧ (-100000 ≤ lo ∧ lo ≤ yv ∧ yv ≤ 100000)) := (by
                  have l := LH.out
                  refine ⟨fun i h1 h2 => ?_, by omega⟩
                  by_cases e : i = j
                  · rw [e, EY.out]; omega
                  · have := l.1 i (by have := EJ.out; omega) h2
                    omega)
                clear hown hgrow hat q5 ox5 oy5 oz5
                go_wp2_with fail
                go_roundw
                case rel => exact ⟨k + 1, _, _, by omega, by have := EJ.out; congr 1; omega, rfl, rfl, T6, LN⟩
                case measure => simp [intOf]
        · skip
          go_wp2_with (at_builtin; refine wpList_append_own_at _ rfl _ _ 24 rfl w1.heap.size 2 i0 (.int .i64 0) 1 8 Try.underlying24 hi hz0 hz1 hz2 rfl (by decide) _ _ _ rfl (OX.out.alloc _) ⟨wr.heap.size, 0, none⟩ 1 1 [.int .i64 yv] rfl rfl (cell_one wr _ 2) (one_one _) (by unfold maxLen; omega) (by omega) (by simp; omega) ?_)
          · intro x' w4 hown hgrow _ hat
            have ox4 : Hid (w4.ownsRow w1.heap.size 2 1 x' (k + 1) (ints (V.reverse.take (k + 1)))) := (by show World.ownsRow _ _ _ _ _ _ _; rw [TVK.out, ints_snoc]; simpa [ints, List.map_take, List.map_reverse] using hown)
            have oy4 : Hid (w4.ownsRow w1.heap.size 2 1 (.slice ya k yc) k (ints (S.reverse.take k))) := row_off (OY.out.alloc _) hgrow XY.out
            have oz4 : Hid (w4.ownsRow w1.heap.size 2 1 (.slice za k zc) k (ints (List.replicate k c))) := row_off (OZ.out.alloc _) hgrow XZ.out
            have xy4 : Hid (AP x' (.slice ya k yc)) := XY.out.next OY.out (Nat.le_succ _) (by simpa using hat)
            have xz4 : Hid (AP x' (.slice za k zc)) := XZ.out.next OZ.out (Nat.le_succ _) (by simpa using hat)
            have B4 : Hid (Below w1.heap.size w1 w4) := (BL.out.alloc BL.out.size _).grown hgrow (by have := BL.out.size; simp; omega) (fun b hb => (OX.out.lt b hb).1)
            have q4 : w4.cell? ⟨d, od + j, none⟩ = some (.int .i64 t) := QS.out w4 B4.out
            have z4 := B4.out.size
            clear hown hgrow hat
            go_wp2_with (at_builtin; refine wpList_append_own_at _ rfl _ _ 24 rfl w1.heap.size 2 i0 (.int .i64 0) 1 8 Try.underlying24 hi hz0 hz1 hz2 rfl (by decide) _ _ _ rfl (oy4.out.alloc _) ⟨w4.heap.size, 0, none⟩ 1 1 [.int .i64 t] rfl rfl (cell_one w4 _ 2) (one_one _) (by unfold maxLen; omega) (by omega) (by simp; omega) ?_)
            · intro y' w5 hown hgrow _ hat
              have ox5 : Hid (w5.ownsRow w1.heap.size 2 1 x' (k + 1) (ints (V.reverse.take (k + 1)))) := row_off (ox4.out.alloc _) hgrow xy4.out.symm
              have oy5 : Hid (w5.ownsRow w1.heap.size 2 1 y' (k + 1) (ints (S.reverse.take (k + 1)))) := (by show World.ownsRow _ _ _ _ _ _ _; rw [TSK.out, ints_snoc]; simpa [ints, List.map_take, List.map_reverse] using hown)
              have oz5 : Hid (w5.ownsRow w1.heap.size 2 1 (.slice za k zc) k (ints (List.replicate k c))) := row_off (oz4.out.alloc _) hgrow YZ.out
              have xy5 : Hid (AP x' y') := (xy4.out.symm.next ox4.out (Nat.le_succ _) (by simpa using hat)).symm
              have yz5 : Hid (AP y' (.slice za k zc)) := YZ.out.next oz4.out (Nat.le_succ _) (by simpa using hat)
              have B5 : Hid (Below w1.heap.size w1 w5) := (B4.out.alloc z4 _).grown hgrow (by simp; omega) (fun b hb => (oy4.out.lt b hb).1)
              have q5 : w5.cell? ⟨d, od, none⟩ = some (.int .i64 c) := QC.out w5 B5.out
              have z5 := B5.out.size
              clear hown hgrow hat q4 ox4 oy4 oz4
              go_wp2_with (at_builtin; refine wpList_append_own_at _ rfl _ _ 24 rfl w1.heap.size 2 i0 (.int .i64 0) 1 8 Try.underlying24 hi hz0 hz1 hz2 rfl (by decide) _ _ _ rfl (oz5.out.alloc _) ⟨w5.heap.size, 0, none⟩ 1 1 [.int .i64 c] rfl rfl (cell_one w5 _ 2) (one_one _) (by unfold maxLen; omega) (by omega) (by simp; omega) ?_)
              · intro z' w6 hown hgrow _ hat
                have B6 : Hid (Below w1.heap.size w1 w6) := (B5.out.alloc z5 _).grown hgrow (by simp; omega) (fun b hb => (oz5.out.lt b hb).1)
                have T6 : Hid (TS w1.heap.size w1 w6 x' y' z' (k + 1) (V.reverse.take (k + 1)) (S.reverse.take (k + 1)) (List.replicate (k + 1) (S.getD 0 0))) := ⟨row_off (ox5.out.alloc _) hgrow xz4.out.symm, row_off (oy5.out.alloc _) hgrow yz5.out.symm, by rw [RK.out, ints_snoc]; simpa [ints] using hown, xy5.out, (xz4.out.symm.next ox5.out (Nat.le_succ _) (by simpa using hat)).symm, (yz5.out.symm.next oy5.out (Nat.le_succ _) (by simpa using hat)).symm, B6.out⟩
                have q6 : w6.cell? ⟨b, ob + j, none⟩ = some (.int .i64 yv) := QV.out w6 B6.out
                have LN : Hid ((∀ i, n - (k + 1) ≤ i → i < n → lo ≤ V.getD i 0 ∧ V.getD i 0 ≤ hi') ∧ (-100000 ≤ lo ∧ lo ≤ hi' ∧ hi' ≤ 100000)) := (by
                  have l := LH.out
                  refine ⟨fun i h1 h2 => ?_, by omega⟩
                  by_cases e : i = j
                  · rw [e, EY.out]; omega
                  · have := l.1 i (by have := EJ.out; omega) h2
                    omega)
                clear hown hgrow hat q5 ox5 oy5 oz5
                go_wp2_with fail
                go_roundw
                case rel => exact ⟨k + 1, _, _, by omega, by have := EJ.out; congr 1; omega, rfl, rfl, T6, LN⟩
                case measure => simp [intOf]
    · have hkn : k = n := by omega
      subst hkn
      have ei : (k : Int) - 1 - (k : Int) = -1 := by omega
      rw [ei]
      obtain ⟨m1, m2⟩ := BT2.out lo hi' (fun i h => (LH.out.1 i (by omega) h).1) (fun i h => (LH.out.1 i (by omega) h).2)
      have lb := LH.out.2
      have K1 : Hid (Calls Try.prog 7 #[.slice xa k xc, .slice ya k yc] wr fun e w'' => e = .returned (.tuple #[.int .i64 q0, .int .i64 q1]) ∧ Below wr.heap.size wr w'') := IR.out wr _ _ _ (by have := T.out.ox; rw [FV.out] at this; exact this) (by have := T.out.oy; rw [FS.out] at this; exact this)
      have BL : Hid (Below w1.heap.size w1 wr) := T.out.bl
      have OZ : Hid (wr.ownsRow w1.heap.size 2 1 (.slice za k zc) k (ints (List.replicate k (S.getD 0 0)))) := T.out.oz
      have ME2 : Hid (p0 * (k : Int) = sm0 * p1) := ME.out
      have g1 := mul_bd (a := lo) (b := q1) (A := 100000) (C := 50000000000) (by omega) (by omega) (by omega)
      have g2 := mul_bd (a := hi') (b := q1) (A := 100000) (C := 50000000000) (by omega) (by omega) (by omega)
      have g3 := mul_bd (a := sm0) (b := p1) (A := 500000) (C := 50000000000) (by omega) (by omega) (by omega)
      have g4 := mul_bd (a := p0) (b := (k : Int)) (A := 5000000000000000) (C := 5) (by omega) (by omega) (by omega)
      have s1 : IntKind.i64.wrap (lo * q1) = lo * q1 := IntWalk.i64_in _ (by omega)
      have s2 : IntKind.i64.wrap (hi' * q1) = hi' * q1 := IntWalk.i64_in _ (by omega)
      have s3 : IntKind.i64.wrap (sm0 * p1) = sm0 * p1 := IntWalk.i64_in _ (by omega)
      have s4 : IntKind.i64.wrap (p0 * (k : Int)) = p0 * (k : Int) := IntWalk.i64_in _ (by omega)
      have s5 : (p0 * (k : Int) == sm0 * p1) = true := by simp; exact ME2.out
      clear g1 g2 g3 g4 T ME
      go_wp2_with fail
      refine K1.out.mono ?_
      rintro e w4 ⟨rfl, b4⟩
      have B4 : Hid (Below w1.heap.size w1 w4) := BL.out.trans (b4.mono BL.out.size)
      have OZ4 : Hid (w4.ownsRow w1.heap.size 2 1 (.slice za k zc) k (ints (List.replicate k (S.getD 0 0)))) := OZ.out.kept (row := none) ⟨b4.os, b4.tape, b4.output, b4.size, fun i hk _ => b4.block i hk⟩ (by
        by_cases e : (Value.slice za k zc).ownBlock = none
        · exact Or.inl e
        · exact Or.inr e)
      clear b4
      go_wp2_with fail
      refine (IM.out w4 _ _ B4.out OZ4.out).mono ?_
      rintro e w5 ⟨rfl, b5⟩
      have B5 : Hid (Below w1.heap.size w1 w5) := B4.out.trans (b5.mono B4.out.size)
      clear b5
      go_wp2_with fail
      refine (IS.out w5 B5.out).mono ?_
      rintro e w6 ⟨rfl, hw⟩
      subst hw
      have B6 : Hid (Below w.heap.size w w6) := B1.out.trans (B5.out.mono B1.out.size)
      go_wp2_with fail
      go_ret
      exact ⟨rfl, B6.out⟩
end Go.Proofs.Ytoemkkppopebcaa.Db
