/- Rows summed and compared; edges drawn of a code. -/
import Derived.Test.YtlcbahlplablmaaRp
import Derived.Test.YtlcbahlplablmaaRmK
import Derived.Test.YtlcbahlplablmaaRdJ
import Derived.Test.YtlcbahlplablmaaRdF
namespace Go.Proofs.Ytlcbahlplablmaa.Rm
open Go.ChangeShapes Go.WideShapes Go.ChangeAt Go.RowKit
open Go.Proofs.Ytlcbahlplablmaa.Lists Go.Proofs.Ytlcbahlplablmaa.Rd
theorem tot_bd {L : List Int} (hz : ∀ j, j < L.length → -300000000000000 ≤ L.getD j 0 ∧ L.getD j 0 ≤ 300000000000000) (k : Nat) (hk : k ≤ L.length) : -(300000000000000 * (k : Int)) ≤ tot L k ∧ tot L k ≤ 300000000000000 * (k : Int) := by
  induction k with
  | zero => simp [tot]
  | succ k ih =>
    have a := ih (by omega)
    have b := hz k (by omega)
    unfold tot
    omega
set_option maxHeartbeats 1000000 in
theorem lsum_any (L : List Int) (v : Value) (w : World) (hL : Lists.Reads w v L) (hf : L.length < 9223372036854775808)
    (hb : L.length ≤ 500) (hz : ∀ j, j < L.length → -300000000000000 ≤ L.getD j 0 ∧ L.getD j 0 ≤ 300000000000000) :
    Calls Try.prog 9 #[v] w fun e w' => e = .returned (.int .i64 (tot L L.length)) ∧ w' = w := by
  have HT : Hid (∀ k, k ≤ L.length → -(300000000000000 * (k : Int)) ≤ tot L k ∧ tot L k ≤ 300000000000000 * (k : Int)) := fun k hk => tot_bd hz k hk
  obtain ⟨b, o, hcell, hvv⟩ := reads_at hL
  obtain ⟨a, cap, rfl⟩ := hL.form
  have HC : Hid (∀ i, i < L.length → w.cell? ⟨b, o + i, none⟩ = some (.int .i64 (L.getD i 0))) := hcell
  have HB : Hid (0 < L.length → b < w.heap.size ∧ a = some ⟨b, o, none⟩) := fun hi => by
    obtain ⟨h1, c, h2⟩ := hvv hi
    simp at h2
    exact ⟨h1, h2.1⟩
  obtain ⟨n, hn⟩ : ∃ n, n = L.length := ⟨_, rfl⟩
  rw [← hn] at hf hb ⊢
  have HN : Hid (n = L.length) := hn
  clear hL hcell hvv hn
  clear hz
  go_enter Try.func9, Try.ntmps9
  go_wp2_with fail
  go_loop [3, 4] (fun s i => ∃ k : Nat, k ≤ n ∧ i = .int .i64 k ∧ s = .int .i64 (tot L k)) (fun _ i => n - (intOf i).toNat)
  case atStart => exact ⟨0, by omega, rfl, rfl⟩
  case round =>
    obtain ⟨k, hk, rfl, rfl⟩ := hrel
    by_cases hlt : k < n
    · have hkl : k < L.length := by rw [← HN.out]; exact hlt
      obtain ⟨hb, hx⟩ := HB.out (by omega)
      subst hx
      have q : w.cell? ⟨b, o + k, none⟩ = some (.int .i64 (L.getD k 0)) := HC.out k hkl
      have i1 : (0 : Int) ≤ (k : Int) := by omega
      have i2 : (k : Int) < (n : Int) := by omega
      have E : Hid (tot L (k + 1) = tot L k + L.getD k 0) := rfl
      have t1 := HT.out (k + 1) (by omega)
      rw [E.out] at t1
      have t2 : -9223372036854775808 ≤ tot L k + L.getD k 0 ∧ tot L k + L.getD k 0 < 9223372036854775808 := by omega
      clear t1
      generalize tot L k = s at *
      generalize L.getD k 0 = z at *
      go_wp2_with fail
      go_round
      case rel => exact ⟨k + 1, by omega, by go_num, by rw [E.out]⟩
      case measure => simp [intOf]; omega
    · have hkn : k = n := by omega
      subst hkn
      go_wp2_with fail
      go_ret
      exact ⟨rfl, rfl⟩

set_option maxHeartbeats 1000000 in
theorem same_any (L : List Int) (v1 v2 : Value) (w : World) (h1 : Lists.Reads w v1 L) (h2 : Lists.Reads w v2 L) (hf : L.length ≤ 1000) :
    Calls Try.prog 8 #[v1, v2] w fun e w' => e = .returned (.bool true) ∧ ∃ n, w' = w.drewN n := by
  by_cases hL : L = []
  · subst hL
    obtain ⟨a, cap, rfl⟩ := h1.form
    obtain ⟨a2, cap2, rfl⟩ := h2.form
    clear h1 h2
    go_enter Try.func8, Try.ntmps8
    go_wp2
    go_loop [5] (fun i => i = .int .i64 0) (fun _ => 0)
    case atStart => rfl
    case round =>
      subst hrel
      go_wp2
      go_ret
      exact ⟨rfl, 0, rfl⟩
  · have l1 : 0 < L.length := List.length_pos_iff.2 hL
    obtain ⟨b1, o1, k1, e1⟩ := reads_at h1
    obtain ⟨b2, o2, k2, e2⟩ := reads_at h2
    obtain ⟨z1, c1, rfl⟩ := e1 l1
    obtain ⟨z2, c2, rfl⟩ := e2 l1
    have K1 : Hid (∀ i, i < L.length → w.cell? ⟨b1, o1 + i, none⟩ = some (.int .i64 (L.getD i 0))) := k1
    have K2 : Hid (∀ i, i < L.length → w.cell? ⟨b2, o2 + i, none⟩ = some (.int .i64 (L.getD i 0))) := k2
    obtain ⟨n, hn⟩ : ∃ n, n = L.length := ⟨_, rfl⟩
    rw [← hn] at hf l1 ⊢
    have HN : Hid (n = L.length) := hn
    clear k1 k2 h1 h2 hn e1 e2 hL
    go_enter Try.func8, Try.ntmps8
    go_wp2
    go_loopw [5] (fun i wr => ∃ k m : Nat, k ≤ n ∧ i = .int .i64 k ∧ wr = w.drewN m) (fun i _ => n - (intOf i).toNat)
    case atStart => exact ⟨0, 0, Nat.zero_le _, rfl, rfl⟩
    case round =>
      obtain ⟨k, m, hk, rfl, rfl⟩ := hrel
      by_cases hlt : k < n
      · have q1 := K1.out k (by rw [← HN.out]; exact hlt)
        have q2 := K2.out k (by rw [← HN.out]; exact hlt)
        have i0 : (0 : Int) ≤ (k : Int) := by omega
        have i1 : (k : Int) < (n : Int) := by omega
        have hne : (L.getD k 0 != L.getD k 0) = false := by simp
        generalize L.getD k 0 = z at *
        go_wp2_with fail
        go_quiet (fail)
        go_wp2_with fail
        go_roundw
        case rel => exact ⟨k + 1, m + nq, by omega, by go_num, rfl⟩
        case measure => simp [intOf]; omega
      · go_wp2
        go_ret
        exact ⟨rfl, m, rfl⟩

theorem row_turn {r B n : Nat} {w w' : World} {v : Value} {xs : List Value} (h : w.ownsRow B 2 1 v n xs) (t : Turn r w w') (hr : r < B) : w'.ownsRow B 2 1 v n xs := by
  refine h.kept (row := some r) ⟨t.bel.os, t.bel.tape, t.bel.output, t.bel.size, fun k hk hne => ?_⟩ ?_
  · by_cases e : k < r
    · exact t.bel.block k e
    · have : k ≠ r := fun x => hne (by rw [x])
      exact t.abv k (by omega) hk
  · cases e : v.ownBlock with
    | none => exact Or.inl rfl
    | some k =>
      refine Or.inr fun x => ?_
      have := (h.lt k e).1
      simp at x
      omega
theorem cell_one_new (w : World) (v0 : Value) (t : TypeId) : ∀ j u, [v0][j]? = some u → (w.alloc (Obj.cells #[v0] t)).cell? ((⟨w.heap.size, 0, none⟩ : Addr).add j) = some u := by
  intro j u hj
  match j, hj with
  | 0, hj => simp at hj; subst hj; simp [Addr.add]
theorem turn_below {r : Nat} {w w2 w3 : World} (t : Turn r w w2) (hb : Below w.heap.size w2 w3) (hr : r < w.heap.size) : Turn r w w3 :=
  ⟨t.bel.trans (hb.mono (by omega)), fun i h1 h2 => (hb.block i h2).trans (t.abv i h1 h2)⟩
theorem ints_snoc (L : List Int) (x : Int) : ints (L ++ [x]) = ints L ++ [.int .i64 x] := by simp [ints]
set_option maxHeartbeats 1000000 in
theorem size_any (r : Nat) (w : World) (h : Rd r w) : Calls Try.prog 20 #[.pointer (some ⟨r, 0, none⟩), .int .i64 6, .int .i64 20] w (Drawn r w fun u => 1 ≤ u ∧ u ≤ 20) := by
  have hh := h
  obtain ⟨a, n, cap, p, h1, h2, h3, h4, h5, h6, h7⟩ := hh
  have H : Hid (Rd r w) := h
  clear h h7
  obtain ⟨q, hq⟩ : ∃ q : Nat, q = n / 6 := ⟨_, rfl⟩
  have e1 : (n : Int).tdiv 6 = (q : Int) := by rw [Int.tdiv_eq_ediv_of_nonneg (by omega)]; omega
  have bq : q ≤ 400000 := by omega
  clear hq
  by_cases g : (20 : Int) < 1 + (q : Int)
  · go_enter Try.func20, Try.ntmps20
    go_wp2_with fail
    refine (below_all r _ H.out 20 (by omega) (by omega)).mono ?_
    rintro e w1 ⟨⟨u, ⟨hu1, hu2⟩, rfl⟩, k1, k2⟩
    have K : Hid (Rd r w1 ∧ Turn r w w1) := ⟨k1, k2⟩
    clear k1 k2
    go_wp2_with fail
    go_ret
    exact ⟨⟨1 + u, by omega, rfl⟩, K.out.1, K.out.2⟩
  · have C : Hid (Calls Try.prog 12 #[.pointer (some ⟨r, 0, none⟩), .int .i64 (1 + (q : Int))] w (Drawn r w fun u => 0 ≤ u ∧ u < 1 + (q : Int))) := (by
      have := below_all r w H.out (1 + q) (by omega) (by omega)
      rw [Int.natCast_add] at this
      exact this)
    go_enter Try.func20, Try.ntmps20
    go_wp2_with fail
    refine C.out.mono ?_
    rintro e w1 ⟨⟨u, ⟨hu1, hu2⟩, rfl⟩, k1, k2⟩
    have K : Hid (Rd r w1 ∧ Turn r w w1) := ⟨k1, k2⟩
    clear k1 k2
    go_wp2_with fail
    go_ret
    exact ⟨⟨1 + u, by omega, rfl⟩, K.out.1, K.out.2⟩


set_option maxHeartbeats 2000000 in
theorem edges_any (r : Nat) (w : World) (h : Rd r w) : Calls Try.prog 11 #[.pointer (some ⟨r, 0, none⟩), .int .i64 20] w fun e w' => ∃ v L, e = .returned v ∧ w'.ownsRow w.heap.size 2 1 v L.length (ints L) ∧ (3 ≤ L.length ∧ L.length ≤ 22) ∧ (∀ x ∈ L, -20 ≤ x ∧ x ≤ 1000) ∧ Rd r w' ∧ Turn r w w' := by
  have hr := h.lt
  have S : Hid (Calls Try.prog 20 #[.pointer (some ⟨r, 0, none⟩), .int .i64 6, .int .i64 20] w (Drawn r w fun u => 1 ≤ u ∧ u ≤ 20)) := size_any r w h
  obtain ⟨i0, hi, hz0, hz1, hz2⟩ := info_parts Lists.Try.info2
  clear h
  go_enter Try.func11, Try.ntmps11
  go_wp2_with fail
  refine S.out.mono ?_
  rintro e w1 ⟨⟨u, ⟨hu1, hu2⟩, rfl⟩, k1, t1⟩
  obtain ⟨n, hn⟩ : ∃ n : Nat, u = (n : Int) := ⟨u.toNat, by omega⟩
  subst hn
  have K1 : Hid (Rd r w1) := k1
  have T1 : Hid (Turn r w w1) := t1
  clear k1 t1 S
  go_wp2_with fail
  refine (below_all r _ K1.out 40 (by omega) (by omega)).mono ?_
  rintro e w2 ⟨⟨x, ⟨hx1, hx2⟩, rfl⟩, k2, t2⟩
  replace hx2 : x < 40 := hx2
  have T2 := T1.out.trans t2
  have z2 := T2.size
  have R3 : Hid ((w2.alloc (.cells #[.int .i64 (x - 20)] 2)).ownsRow w.heap.size 2 1 (.slice (some ⟨w2.heap.size, 0, none⟩) 1 1) 1 (ints [x - 20])) := World.ownsRow_lit w2 #[.int .i64 (x - 20)] 1 z2 (by unfold maxLen; omega) rfl
  have K3 : Hid (Rd r (w2.alloc (.cells #[.int .i64 (x - 20)] 2))) := k2.kept ((Below.refl (r + 1) w2).alloc (by have := k2.lt; omega) _) (by omega)
  have T3 : Hid (Turn r w (w2.alloc (.cells #[.int .i64 (x - 20)] 2))) := T2.alloc hr _
  clear k2 t2 T2 K1 T1
  go_wp2_with fail
  go_loopw [6, 7] (fun v i wr => ∃ (k : Nat) (L : List Int) (y : Int), k ≤ 1 + n ∧ i = .int .i64 k ∧ L.length = k + 1 ∧ L.getD k 0 = y ∧ (-20 ≤ y ∧ y ≤ 20 + 12 * (k : Int)) ∧ Hid (∀ x ∈ L, -20 ≤ x ∧ x ≤ 1000) ∧ Hid (wr.ownsRow w.heap.size 2 1 v (k + 1) (ints L)) ∧ Hid (Rd r wr) ∧ Hid (Turn r w wr)) (fun _ i _ => 1 + n - (intOf i).toNat)
  case atStart => exact ⟨0, [x - 20], x - 20, by omega, rfl, rfl, rfl, by omega, fun z hz => by simp at hz; omega, R3, K3, T3⟩
  case round =>
    clear R3 K3 T3
    obtain ⟨k, L, y, hk, rfl, hL, hy, hyb, HB, R, K, TT⟩ := hrel
    obtain ⟨g, cp, hv⟩ : ∃ g cp, u6 = .slice (some ⟨g, 0, none⟩) (k + 1) cp := by
      rcases row_cases (L := L) (by rw [hL]; exact R.out) with ⟨e, _⟩ | ⟨g, cap, e, _⟩
      · rw [e] at hL; simp at hL
      · rw [hL] at e; exact ⟨g, cap, e⟩
    subst hv
    by_cases hlt : k < 1 + n
    · have i2 : (k : Int) < 1 + (n : Int) := by omega
      have c0 : wr.cell? ⟨g, k, none⟩ = some (.int .i64 y) := by
        have := row_cell (L := L) (base := w.heap.size) (g := g) (cap := cp) (by rw [hL]; exact R.out) k (by omega)
        rw [this, hy]
      have hgl := R.out.lt g rfl
      have k1 : ((k + 1 : Nat) : Int) - 1 = (k : Int) := by omega
      have k2 : (0 : Int) ≤ (k : Int) := by omega
      have k3 : (k : Int) < ((k + 1 : Nat) : Int) := by omega
      have k4 : (k : Int) < (k : Int) + 1 := by omega
      have k5 : IntKind.i64.wrap (k : Int) = (k : Int) := IntWalk.i64_in _ (by omega)
      have k6 : IntKind.i64.wrap (((k + 1 : Nat) : Int) - 1) = (k : Int) := by rw [k1]; exact k5
      have k7 : ((k : Int)).toNat = k := by omega
      have y1 : IntKind.i64.wrap (y + 1) = y + 1 := IntWalk.i64_in _ (by omega)
      have KD : Hid (Rd r wr.drew) := K.out.drewN 1
      have TD : Hid (Turn r w wr.drew) := TT.out.drewN 1
      have RD : Hid (wr.drew.ownsRow w.heap.size 2 1 (.slice (some ⟨g, 0, none⟩) (k + 1) cp) (k + 1) (ints L)) := R.out
      clear R K TT
      go_wp2_with fail
      refine wp_region_held_drew (S := fun _ => True) (by kernel_rfl) trivial (fun hHeld => ?_)
      refine wpAnyH_take (i := 0) (oi := { dst := some 21, op := Go.Op.move (Go.Operand.tmp 6), type := 24, pos := "l11_fields.go:203", after := #[], guard := none }) (v := ?_) rfl (by kernel_rfl) (by kernel_rfl) (by kernel_rfl) (fun _ _ _ h => h) (Or.inl ⟨by rfl, ?_⟩) (by assumption) ?_
      rotate_left 1
      · (intro w hSw; (try dsimp only at hSw); go_simp); all_goals (with_reducible rfl)
      try simp only [Act.put, List.setIfInBounds_toArray, List.set_cons_zero, List.set_cons_succ]
      refine wpAnyH_take (i := 1) (oi := { dst := some 22, op := Go.Op.move (Go.Operand.tmp 6), type := 24, pos := "l11_fields.go:203", after := #[], guard := none }) (v := ?_) rfl (by kernel_rfl) (by kernel_rfl) (by kernel_rfl) (fun _ _ _ h => h) (Or.inl ⟨by rfl, ?_⟩) (by assumption) ?_
      rotate_left 1
      · (intro w hSw; (try dsimp only at hSw); go_simp); all_goals (with_reducible rfl)
      try simp only [Act.put, List.setIfInBounds_toArray, List.set_cons_zero, List.set_cons_succ]
      refine wpAnyH_take (i := 2) (oi := { dst := some 23, op := Go.Op.move (Go.Operand.tmp 6), type := 24, pos := "l11_fields.go:203", after := #[], guard := none }) (v := ?_) rfl (by kernel_rfl) (by kernel_rfl) (by kernel_rfl) (fun _ _ _ h => h) (Or.inl ⟨by rfl, ?_⟩) (by assumption) ?_
      rotate_left 1
      · (intro w hSw; (try dsimp only at hSw); go_simp); all_goals (with_reducible rfl)
      try simp only [Act.put, List.setIfInBounds_toArray, List.set_cons_zero, List.set_cons_succ]
      refine wpAnyH_take (i := 3) (oi := { dst := some 24, op := Go.Op.call { callee := Go.Callee.builtin Go.Builtin.len, args := #[Go.Operand.tmp 23], argTypes := #[24] }, type := 3, pos := "l11_fields.go:203", after := #[{ on := 2, ground := Go.Ground.data }], guard := none }) (v := ?_) rfl (by kernel_rfl) (by kernel_rfl) (by kernel_rfl) (fun _ _ _ h => h) (Or.inl ⟨by rfl, ?_⟩) (by assumption) ?_
      rotate_left 1
      · (intro w hSw; (try dsimp only at hSw); go_simp); all_goals (with_reducible rfl)
      try simp only [Act.put, List.setIfInBounds_toArray, List.set_cons_zero, List.set_cons_succ]
      refine wpAnyH_take (i := 4) (oi := { dst := some 25, op := Go.Op.binOp Go.BinOp.sub 3 (Go.Operand.tmp 24) (Go.Operand.const (Go.Value.int Go.IntKind.i64 1)) 3, type := 3, pos := "l11_fields.go:203", after := #[{ on := 3, ground := Go.Ground.data }], guard := none }) (v := ?_) rfl (by kernel_rfl) (by kernel_rfl) (by kernel_rfl) (fun _ _ _ h => h) (Or.inl ⟨by rfl, ?_⟩) (by assumption) ?_
      rotate_left 1
      · (intro w hSw; (try dsimp only at hSw); go_simp); all_goals (with_reducible rfl)
      try simp only [Act.put, List.setIfInBounds_toArray, List.set_cons_zero, List.set_cons_succ]
      refine wpAnyH_take (i := 5) (oi := { dst := some 26, op := Go.Op.indexAddr 24 (Go.Operand.tmp 22) (Go.Operand.tmp 25), type := 0, pos := "l11_fields.go:203", after := #[{ on := 1, ground := Go.Ground.data }, { on := 4, ground := Go.Ground.data }], guard := none }) (v := ?_) rfl (by kernel_rfl) (by kernel_rfl) (by kernel_rfl) (fun _ _ _ h => h) (Or.inl ⟨by rfl, ?_⟩) (by assumption) ?_
      rotate_left 1
      · (intro w hSw; (try dsimp only at hSw); go_simp); all_goals (with_reducible rfl)
      try simp only [Act.put, List.setIfInBounds_toArray, List.set_cons_zero, List.set_cons_succ]
      refine wpAnyH_take (i := 8) (oi := { dst := some 29, op := Go.Op.move (Go.Operand.tmp 0), type := 31, pos := "l11_fields.go:203", after := #[], guard := none }) (v := ?_) rfl (by kernel_rfl) (by kernel_rfl) (by kernel_rfl) (fun _ _ _ h => h) (Or.inl ⟨by rfl, ?_⟩) (by assumption) ?_
      rotate_left 1
      · (intro w hSw; (try dsimp only at hSw); go_simp); all_goals (with_reducible rfl)
      try simp only [Act.put, List.setIfInBounds_toArray, List.set_cons_zero, List.set_cons_succ]
      refine wpAnyH_ready (rs := [6, 9]) (by kernel_rfl) (by simp) ?_
      refine AllReadyH.cons (o := { dst := some 27, op := Go.Op.load 2 (Go.Operand.tmp 26), type := 2, pos := "l11_fields.go:203", after := #[{ on := 5, ground := Go.Ground.data }], guard := none }) rfl (fun K hK => ?_) (AllReadyH.cons (o := { dst := some 30, op := Go.Op.call { callee := Go.Callee.value (Go.Operand.func 12), args := #[Go.Operand.tmp 29, Go.Operand.const (Go.Value.int Go.IntKind.i64 12)], argTypes := #[31, 3] }, type := 3, pos := "l11_fields.go:203", after := #[{ on := 8, ground := Go.Ground.data }], guard := none }) rfl (fun K hK => ?_) AllReadyH.nil)
      · go_simp
        refine hK.out _ _ trivial (fun hHeld2 => ?_)
        clear hK K hHeld
        have hHeld := hHeld2
        clear hHeld2
        try simp only [Act.put, List.setIfInBounds_toArray, List.set_cons_zero, List.set_cons_succ]
        refine wpAnyH_take (i := 7) (oi := { dst := some 28, op := Go.Op.binOp Go.BinOp.add 2 (Go.Operand.tmp 27) (Go.Operand.const (Go.Value.int Go.IntKind.i64 1)) 2, type := 2, pos := "l11_fields.go:203", after := #[{ on := 6, ground := Go.Ground.data }], guard := none }) (v := ?_) rfl (by kernel_rfl) (by kernel_rfl) (by kernel_rfl) (fun _ _ _ h => h) (Or.inl ⟨by rfl, ?_⟩) (by assumption) ?_
        rotate_left 1
        · (intro w hSw; (try dsimp only at hSw); go_simp); all_goals (with_reducible rfl)
        try simp only [Act.put, List.setIfInBounds_toArray, List.set_cons_zero, List.set_cons_succ]
        refine wpAnyH_ready (rs := [9]) (by kernel_rfl) (by simp) ?_
        refine AllReadyH.cons (o := { dst := some 30, op := Go.Op.call { callee := Go.Callee.value (Go.Operand.func 12), args := #[Go.Operand.tmp 29, Go.Operand.const (Go.Value.int Go.IntKind.i64 12)], argTypes := #[31, 3] }, type := 3, pos := "l11_fields.go:203", after := #[{ on := 8, ground := Go.Ground.data }], guard := none }) rfl (fun K hK => ?_) AllReadyH.nil
        go_simp
        refine (below_all r _ KD.out 12 (by omega) (by omega)).mono ?_
        rintro e w4 ⟨⟨q, ⟨hq1, hq2⟩, rfl⟩, kk, tt⟩
        replace hq2 : q < 12 := hq2
        have c4 : w4.cell? ⟨g, k, none⟩ = some (.int .i64 y) := (tt.cell k hgl.2 (by omega)).trans c0
        have R4 : Hid (w4.ownsRow w.heap.size 2 1 (.slice (some ⟨g, 0, none⟩) (k + 1) cp) (k + 1) (ints L)) := row_turn RD.out tt hr
        have K4 : Hid (Rd r w4) := kk
        have T4 : Hid (Turn r w w4) := TD.out.trans tt
        have yq : IntKind.i64.wrap (y + 1 + q) = y + 1 + q := IntWalk.i64_in _ (by omega)
        have z4 : w.heap.size ≤ w4.heap.size := T4.out.size
        clear kk tt
        go_wp2_with fail
        refine hK.out _ _ trivial (fun hHeld2 => ?_)
        clear hK K hHeld
        have hHeld := hHeld2
        clear hHeld2
        try simp only [Act.put, List.setIfInBounds_toArray, List.set_cons_zero, List.set_cons_succ]
        refine wpAnyH_take (i := 10) (oi := { dst := some 31, op := Go.Op.binOp Go.BinOp.add 2 (Go.Operand.tmp 28) (Go.Operand.tmp 30) 2, type := 2, pos := "l11_fields.go:203", after := #[{ on := 7, ground := Go.Ground.data }, { on := 9, ground := Go.Ground.data }], guard := none }) (v := ?_) rfl (by kernel_rfl) (by kernel_rfl) (by kernel_rfl) (fun _ _ _ h => h) (Or.inl ⟨by rfl, ?_⟩) (by assumption) ?_
        rotate_left 1
        · (intro w hSw; (try dsimp only at hSw); go_simp); all_goals (with_reducible rfl)
        try simp only [Act.put, List.setIfInBounds_toArray, List.set_cons_zero, List.set_cons_succ]
        refine wpAnyH_ready (rs := [11]) (by kernel_rfl) (by simp) ?_
        refine AllReadyH.cons (o := { dst := some 32, op := Go.Op.buildSlice 24 1 #[(0, Go.Operand.tmp 31)], type := 24, pos := "l11_fields.go:203", after := #[{ on := 10, ground := Go.Ground.data }], guard := none }) rfl (fun K hK => ?_) AllReadyH.nil
        go_simp
        refine hK.out _ _ trivial (fun hHeld2 => ?_)
        clear hK K hHeld
        have hHeld := hHeld2
        clear hHeld2
        try simp only [Act.put, List.setIfInBounds_toArray, List.set_cons_zero, List.set_cons_succ]
        refine wpAnyH_ready (rs := [12]) (by kernel_rfl) (by simp) ?_
        refine AllReadyH.cons (o := { dst := some 33, op := Go.Op.call { callee := Go.Callee.builtin Go.Builtin.append, args := #[Go.Operand.tmp 21, Go.Operand.tmp 32], argTypes := #[24, 24] }, type := 24, pos := "l11_fields.go:203", after := #[{ on := 0, ground := Go.Ground.data }, { on := 11, ground := Go.Ground.data }, { on := 9, ground := Go.Ground.chain }], guard := none }) rfl (fun K hK => ?_) AllReadyH.nil
        refine step_append_lies _ (by rfl) _ _ 24 (by rfl) w.heap.size 2 i0 (.int .i64 0) 1 8 Try.underlying24 hi hz0 hz1 hz2 rfl (by decide) _ _ _ (by rfl) (R4.out.alloc _) ⟨w4.heap.size, 0, none⟩ 1 1 [.int .i64 (y + 1 + q)] (by rfl) rfl (cell_one_new w4 (.int .i64 (y + 1 + q)) 2) (by intro u hu; simp at hu; subst hu; rfl) (by decide) (by unfold maxLen; omega) (by omega) (by simp; omega) (w4.heap.size + 1) (by simp) ?_
        intro g2 cap3 w5 hown hgrow hat hlt5
        refine hK.out _ _ trivial (fun hHeld2 => ?_)
        clear hK K hHeld
        have hHeld := hHeld2
        clear hHeld2
        try simp only [Act.put, List.setIfInBounds_toArray, List.set_cons_zero, List.set_cons_succ]
        refine wpAnyH_take (i := 13) (oi := { dst := some 6, op := Go.Op.assign (Go.Operand.tmp 33), type := 24, pos := "l11_fields.go:203", after := #[{ on := 12, ground := Go.Ground.data }, { on := 12, ground := Go.Ground.chain }, { on := 0, ground := Go.Ground.phase }, { on := 1, ground := Go.Ground.phase }, { on := 2, ground := Go.Ground.phase }, { on := 3, ground := Go.Ground.phase }, { on := 4, ground := Go.Ground.phase }, { on := 5, ground := Go.Ground.phase }, { on := 6, ground := Go.Ground.phase }, { on := 7, ground := Go.Ground.phase }, { on := 8, ground := Go.Ground.phase }, { on := 9, ground := Go.Ground.phase }, { on := 10, ground := Go.Ground.phase }, { on := 11, ground := Go.Ground.phase }, { on := 12, ground := Go.Ground.phase }], guard := none }) (v := ?_) rfl (by kernel_rfl) (by kernel_rfl) (by kernel_rfl) (fun _ _ _ h => h) (Or.inl ⟨by rfl, ?_⟩) (by assumption) ?_
        rotate_left 1
        · (intro w hSw; (try dsimp only at hSw); go_simp); all_goals (with_reducible rfl)
        try simp only [Act.put, List.setIfInBounds_toArray, List.set_cons_zero, List.set_cons_succ]
        refine wpAnyH_done (by kernel_rfl) ?_ _
        have R5 : Hid (w5.ownsRow w.heap.size 2 1 (.slice (some ⟨g2, 0, none⟩) (k + 1 + 1) cap3) (k + 1 + 1) (ints (L ++ [y + 1 + q]))) := (by show World.ownsRow _ _ _ _ _ _ _; rw [ints_snoc]; exact hown)
        have BG : Below w.heap.size w4 w5 := ((Below.refl w.heap.size w4).alloc z4 _).grown hgrow (by simp; omega) (fun b hb => (R4.out.lt b hb).1)
        have K5 : Hid (Rd r w5) := K4.out.kept BG hr
        have T5 : Hid (Turn r w w5) := turn_below T4.out BG hr
        have HB5 : Hid (∀ x ∈ L ++ [y + 1 + q], -20 ≤ x ∧ x ≤ 1000) := fun x hx => (by
          rcases List.mem_append.1 hx with h | h
          · exact HB.out x h
          · simp at h; omega)
        have hL5 : (L ++ [y + 1 + q]).length = k + 1 + 1 := by simp [hL]
        have hy5 : (L ++ [y + 1 + q]).getD (k + 1) 0 = y + 1 + q := by simp [List.getD_eq_getElem?_getD, hL]
        clear hown hgrow hat BG R4 K4 T4 HB
        generalize L ++ [y + 1 + q] = L5 at *
        go_wp2_with fail
        go_roundw
        case rel => exact ⟨k + 1, L5, y + 1 + q, by omega, by go_num, hL5, hy5, by omega, HB5, R5, K5, T5⟩
        case measure => simp [intOf]; omega
      · go_simp
        refine (below_all r _ KD.out 12 (by omega) (by omega)).mono ?_
        rintro e w4 ⟨⟨q, ⟨hq1, hq2⟩, rfl⟩, kk, tt⟩
        replace hq2 : q < 12 := hq2
        have c4 : w4.cell? ⟨g, k, none⟩ = some (.int .i64 y) := (tt.cell k hgl.2 (by omega)).trans c0
        have R4 : Hid (w4.ownsRow w.heap.size 2 1 (.slice (some ⟨g, 0, none⟩) (k + 1) cp) (k + 1) (ints L)) := row_turn RD.out tt hr
        have K4 : Hid (Rd r w4) := kk
        have T4 : Hid (Turn r w w4) := TD.out.trans tt
        have yq : IntKind.i64.wrap (y + 1 + q) = y + 1 + q := IntWalk.i64_in _ (by omega)
        have z4 : w.heap.size ≤ w4.heap.size := T4.out.size
        clear kk tt
        go_wp2_with fail
        refine hK.out _ _ trivial (fun hHeld2 => ?_)
        clear hK K hHeld
        have hHeld := hHeld2
        clear hHeld2
        try simp only [Act.put, List.setIfInBounds_toArray, List.set_cons_zero, List.set_cons_succ]
        refine wpAnyH_ready (rs := [6]) (by kernel_rfl) (by simp) ?_
        refine AllReadyH.cons (o := { dst := some 27, op := Go.Op.load 2 (Go.Operand.tmp 26), type := 2, pos := "l11_fields.go:203", after := #[{ on := 5, ground := Go.Ground.data }], guard := none }) rfl (fun K hK => ?_) AllReadyH.nil
        go_simp
        refine hK.out _ _ trivial (fun hHeld2 => ?_)
        clear hK K hHeld
        have hHeld := hHeld2
        clear hHeld2
        try simp only [Act.put, List.setIfInBounds_toArray, List.set_cons_zero, List.set_cons_succ]
        refine wpAnyH_take (i := 7) (oi := { dst := some 28, op := Go.Op.binOp Go.BinOp.add 2 (Go.Operand.tmp 27) (Go.Operand.const (Go.Value.int Go.IntKind.i64 1)) 2, type := 2, pos := "l11_fields.go:203", after := #[{ on := 6, ground := Go.Ground.data }], guard := none }) (v := ?_) rfl (by kernel_rfl) (by kernel_rfl) (by kernel_rfl) (fun _ _ _ h => h) (Or.inl ⟨by rfl, ?_⟩) (by assumption) ?_
        rotate_left 1
        · (intro w hSw; (try dsimp only at hSw); go_simp); all_goals (with_reducible rfl)
        try simp only [Act.put, List.setIfInBounds_toArray, List.set_cons_zero, List.set_cons_succ]
        refine wpAnyH_take (i := 10) (oi := { dst := some 31, op := Go.Op.binOp Go.BinOp.add 2 (Go.Operand.tmp 28) (Go.Operand.tmp 30) 2, type := 2, pos := "l11_fields.go:203", after := #[{ on := 7, ground := Go.Ground.data }, { on := 9, ground := Go.Ground.data }], guard := none }) (v := ?_) rfl (by kernel_rfl) (by kernel_rfl) (by kernel_rfl) (fun _ _ _ h => h) (Or.inl ⟨by rfl, ?_⟩) (by assumption) ?_
        rotate_left 1
        · (intro w hSw; (try dsimp only at hSw); go_simp); all_goals (with_reducible rfl)
        try simp only [Act.put, List.setIfInBounds_toArray, List.set_cons_zero, List.set_cons_succ]
        refine wpAnyH_ready (rs := [11]) (by kernel_rfl) (by simp) ?_
        refine AllReadyH.cons (o := { dst := some 32, op := Go.Op.buildSlice 24 1 #[(0, Go.Operand.tmp 31)], type := 24, pos := "l11_fields.go:203", after := #[{ on := 10, ground := Go.Ground.data }], guard := none }) rfl (fun K hK => ?_) AllReadyH.nil
        go_simp
        refine hK.out _ _ trivial (fun hHeld2 => ?_)
        clear hK K hHeld
        have hHeld := hHeld2
        clear hHeld2
        try simp only [Act.put, List.setIfInBounds_toArray, List.set_cons_zero, List.set_cons_succ]
        refine wpAnyH_ready (rs := [12]) (by kernel_rfl) (by simp) ?_
        refine AllReadyH.cons (o := { dst := some 33, op := Go.Op.call { callee := Go.Callee.builtin Go.Builtin.append, args := #[Go.Operand.tmp 21, Go.Operand.tmp 32], argTypes := #[24, 24] }, type := 24, pos := "l11_fields.go:203", after := #[{ on := 0, ground := Go.Ground.data }, { on := 11, ground := Go.Ground.data }, { on := 9, ground := Go.Ground.chain }], guard := none }) rfl (fun K hK => ?_) AllReadyH.nil
        refine step_append_lies _ (by rfl) _ _ 24 (by rfl) w.heap.size 2 i0 (.int .i64 0) 1 8 Try.underlying24 hi hz0 hz1 hz2 rfl (by decide) _ _ _ (by rfl) (R4.out.alloc _) ⟨w4.heap.size, 0, none⟩ 1 1 [.int .i64 (y + 1 + q)] (by rfl) rfl (cell_one_new w4 (.int .i64 (y + 1 + q)) 2) (by intro u hu; simp at hu; subst hu; rfl) (by decide) (by unfold maxLen; omega) (by omega) (by simp; omega) (w4.heap.size + 1) (by simp) ?_
        intro g2 cap3 w5 hown hgrow hat hlt5
        refine hK.out _ _ trivial (fun hHeld2 => ?_)
        clear hK K hHeld
        have hHeld := hHeld2
        clear hHeld2
        try simp only [Act.put, List.setIfInBounds_toArray, List.set_cons_zero, List.set_cons_succ]
        refine wpAnyH_take (i := 13) (oi := { dst := some 6, op := Go.Op.assign (Go.Operand.tmp 33), type := 24, pos := "l11_fields.go:203", after := #[{ on := 12, ground := Go.Ground.data }, { on := 12, ground := Go.Ground.chain }, { on := 0, ground := Go.Ground.phase }, { on := 1, ground := Go.Ground.phase }, { on := 2, ground := Go.Ground.phase }, { on := 3, ground := Go.Ground.phase }, { on := 4, ground := Go.Ground.phase }, { on := 5, ground := Go.Ground.phase }, { on := 6, ground := Go.Ground.phase }, { on := 7, ground := Go.Ground.phase }, { on := 8, ground := Go.Ground.phase }, { on := 9, ground := Go.Ground.phase }, { on := 10, ground := Go.Ground.phase }, { on := 11, ground := Go.Ground.phase }, { on := 12, ground := Go.Ground.phase }], guard := none }) (v := ?_) rfl (by kernel_rfl) (by kernel_rfl) (by kernel_rfl) (fun _ _ _ h => h) (Or.inl ⟨by rfl, ?_⟩) (by assumption) ?_
        rotate_left 1
        · (intro w hSw; (try dsimp only at hSw); go_simp); all_goals (with_reducible rfl)
        try simp only [Act.put, List.setIfInBounds_toArray, List.set_cons_zero, List.set_cons_succ]
        refine wpAnyH_done (by kernel_rfl) ?_ _
        have R5 : Hid (w5.ownsRow w.heap.size 2 1 (.slice (some ⟨g2, 0, none⟩) (k + 1 + 1) cap3) (k + 1 + 1) (ints (L ++ [y + 1 + q]))) := (by show World.ownsRow _ _ _ _ _ _ _; rw [ints_snoc]; exact hown)
        have BG : Below w.heap.size w4 w5 := ((Below.refl w.heap.size w4).alloc z4 _).grown hgrow (by simp; omega) (fun b hb => (R4.out.lt b hb).1)
        have K5 : Hid (Rd r w5) := K4.out.kept BG hr
        have T5 : Hid (Turn r w w5) := turn_below T4.out BG hr
        have HB5 : Hid (∀ x ∈ L ++ [y + 1 + q], -20 ≤ x ∧ x ≤ 1000) := fun x hx => (by
          rcases List.mem_append.1 hx with h | h
          · exact HB.out x h
          · simp at h; omega)
        have hL5 : (L ++ [y + 1 + q]).length = k + 1 + 1 := by simp [hL]
        have hy5 : (L ++ [y + 1 + q]).getD (k + 1) 0 = y + 1 + q := by simp [List.getD_eq_getElem?_getD, hL]
        clear hown hgrow hat BG R4 K4 T4 HB
        generalize L ++ [y + 1 + q] = L5 at *
        go_wp2_with fail
        go_roundw
        case rel => exact ⟨k + 1, L5, y + 1 + q, by omega, by go_num, hL5, hy5, by omega, HB5, R5, K5, T5⟩
        case measure => simp [intOf]; omega
    · have hkn : k = 1 + n := by omega
      have j1 : ¬ (k : Int) < 1 + (n : Int) := by omega
      clear hkn
      have RE : Hid (wr.ownsRow w.heap.size 2 1 (.slice (some ⟨g, 0, none⟩) (k + 1) cp) L.length (ints L)) := (by show World.ownsRow _ _ _ _ _ _ _; rw [hL]; exact R.out)
      have lL : Hid (3 ≤ L.length ∧ L.length ≤ 22) := (by show _ ∧ _; omega)
      clear R hlt hL hk
      go_wp2_with fail
      go_ret
      exact ⟨_, rfl, L, RE.out, lL.out, HB.out, K.out, TT.out⟩
end Go.Proofs.Ytlcbahlplablmaa.Rm
