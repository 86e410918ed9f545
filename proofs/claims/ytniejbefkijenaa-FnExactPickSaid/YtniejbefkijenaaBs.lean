/- A place found by halving. -/
import Derived.Test.YtniejbefkijenaaAo
namespace Go.Proofs.Ytniejbefkijenaa.Ky
open Go.ChangeShapes Go.WideShapes Go.ChangeAt Go.RowKit
open Al Eo

theorem rises {L : En.Ls} (h : riss L L.length = true) : ∀ j, j < L.length → ∀ i, i < j → ky (en L i) (en L j) < 0 := by
  intro j
  induction j with
  | zero => intro _ i hi; omega
  | succ j ih =>
    intro hj i hi
    have h1 : ky (en L j) (en L (j + 1)) < 0 := by
      unfold riss at h
      rw [List.all_eq_true] at h
      have := h (j + 1) (by simpa using hj)
      unfold rs at this
      simp at this
      exact this
    by_cases e : i = j
    · subst e; exact h1
    · have h2 := ih (by omega) i (by omega)
      have t := ky_cmp.trans (en L i) (en L j) (en L (j + 1)) (by omega) (by omega)
      have r := ky_cmp.rng (en L i) (en L (j + 1))
      have := t.1
      by_cases z : ky (en L i) (en L (j + 1)) = 0
      · have := (t.2 z).1; omega
      · omega
theorem low_of {L : En.Ls} (h : riss L L.length = true) (e : En1) (i j : Nat) (hij : i ≤ j) (hj : j < L.length) (hk : ky (en L j) e < 0) : ky (en L i) e < 0 := by
  by_cases q : i = j
  · subst q; exact hk
  · have h1 := rises h j hj i (by omega)
    have t := ky_cmp.trans (en L i) (en L j) e (by omega) (by omega)
    by_cases z : ky (en L i) e = 0
    · have := (t.2 z).1; omega
    · have := t.1; omega
theorem high_of {L : En.Ls} (h : riss L L.length = true) (e : En1) (i j : Nat) (hij : i ≤ j) (hj : j < L.length) (hk : 0 ≤ ky (en L i) e) : 0 ≤ ky (en L j) e := by
  by_cases n : ky (en L j) e < 0
  · have := low_of h e i j hij hj n
    omega
  · omega
/-- The place of an entry. -/
structure Ps (L : En.Ls) (e : En1) (q : Nat) : Prop where
  le : q ≤ L.length
  lo : ∀ i, i < q → ky (en L i) e < 0
  hi : ∀ i, q ≤ i → i < L.length → 0 ≤ ky (en L i) e
def thr (L : En.Ls) (e : En1) (q : Nat) : Bool := decide (q < L.length) && decide (ky (en L q) e = 0)

set_option maxRecDepth 20000 in
set_option maxHeartbeats 2000000 in
theorem search_any (w : World) (v : Value) (L : En.Ls) (p : ByteArray) (t s l z : Int) (h : En.Reads w v L) (h3 : L.length ≤ 300) (hr : riss L L.length = true) :
    Calls Try.prog 31 #[v, .agg #[.string p, .int .i64 t, .int .i64 s, .int .i64 l, .int .i64 z], .func (.func 32) #[] #[]] w fun e w' => ∃ q : Nat, e = .returned (.tuple #[.int .i64 q, .bool (thr L (p, t, s, l, z) q)]) ∧ Ps L (p, t, s, l, z) q ∧ Below w.heap.size w w' := by
  obtain ⟨a, cap, rfl⟩ := h.form
  obtain ⟨E, hE⟩ : ∃ E : En1, E = (p, t, s, l, z) := ⟨_, rfl⟩
  have HE : Hid (E = (p, t, s, l, z)) := hE
  rw [← hE]
  have HC : Hid (∀ (w' : World) (i : Nat), Below w.heap.size w w' → i < L.length → ∃ b o, a = some ⟨b, o, none⟩ ∧ En.Cs w' b o L i) := fun w' i hb hi => (by
    rcases h with ⟨rfl, _⟩ | ⟨b, o, c, e, _, _, x, y⟩
    · simp at hi
    · simp at e; exact ⟨b, o, e.1, (y i hi).below hb x⟩)
  have CK : Hid (∀ (i : Nat) (w : World), Calls Try.prog 32 #[.agg #[.string (En.c0 L i), .int .i64 (En.c1 L i), .int .i64 (En.c2 L i), .int .i64 (En.c3 L i), .int .i64 (En.c4 L i)], .agg #[.string p, .int .i64 t, .int .i64 s, .int .i64 l, .int .i64 z]] w fun e w' => e = .returned (.int .i64 (ky (en L i) E)) ∧ Below w.heap.size w w') := fun i w => hE ▸ ibykey_any _ _ _ _ _ _ _ _ _ _ w
  have LO_ : Hid (∀ i j, i ≤ j → j < L.length → ky (en L j) E < 0 → ky (en L i) E < 0) := fun i j a b c => low_of hr E i j a b c
  have HI_ : Hid (∀ i j, i ≤ j → j < L.length → 0 ≤ ky (en L i) E → 0 ≤ ky (en L j) E) := fun i j a b c => high_of hr E i j a b c
  have HPS : Hid (∀ q, q ≤ L.length → (∀ i, i < q → ky (en L i) E < 0) → (∀ i, q ≤ i → i < L.length → 0 ≤ ky (en L i) E) → Ps L E q) := fun q a b c => ⟨a, b, c⟩
  have HTH : Hid (∀ q, thr L E q = (decide (q < L.length) && decide (ky (en L q) E = 0))) := fun q => rfl
  obtain ⟨n, hn⟩ : ∃ n, n = L.length := ⟨_, rfl⟩
  have HN : Hid (n = L.length) := hn
  rw [← hn] at h3 HC LO_ HI_ HPS HTH ⊢
  clear h hr hn hE
  obtain ⟨w0, hw0⟩ : ∃ w0, w0 = w.alloc (Obj.cells #[.string p, .int .i64 t, .int .i64 s, .int .i64 l, .int .i64 z] 31) := ⟨_, rfl⟩
  have HW0 : Hid (w0 = w.alloc (Obj.cells #[.string p, .int .i64 t, .int .i64 s, .int .i64 l, .int .i64 z] 31)) := hw0
  have B0 : Hid (Below w.heap.size w w0) := (by show Below _ _ _; rw [hw0]; exact (Below.refl _ _).alloc (Nat.le_refl _) _)
  have Z0 : Hid (w0.heap.size = w.heap.size + 1) := (by show _ = _; rw [hw0]; simp)
  have KB : Hid (∀ w', Below w0.heap.size w0 w' → w'.cell? ⟨w.heap.size, 0, none⟩ = some (.string p) ∧ w'.cell? ⟨w.heap.size, 1, none⟩ = some (.int .i64 t) ∧ w'.cell? ⟨w.heap.size, 2, none⟩ = some (.int .i64 s) ∧ w'.cell? ⟨w.heap.size, 3, none⟩ = some (.int .i64 l) ∧ w'.cell? ⟨w.heap.size, 4, none⟩ = some (.int .i64 z)) := fun w' hb => (by
    have lt : w.heap.size < w0.heap.size := by have := Z0.out; omega
    refine ⟨(hb.cell (p := ⟨w.heap.size, 0, none⟩) lt).trans (by rw [hw0]; simp [go_sem]), (hb.cell (p := ⟨w.heap.size, 1, none⟩) lt).trans (by rw [hw0]; simp [go_sem]), (hb.cell (p := ⟨w.heap.size, 2, none⟩) lt).trans (by rw [hw0]; simp [go_sem]), (hb.cell (p := ⟨w.heap.size, 3, none⟩) lt).trans (by rw [hw0]; simp [go_sem]), (hb.cell (p := ⟨w.heap.size, 4, none⟩) lt).trans (by rw [hw0]; simp [go_sem])⟩)
  have BK : Hid (∀ w', Below w0.heap.size w0 w' → Below w.heap.size w w') := fun w' hb => B0.out.trans (hb.mono B0.out.size)
  clear hw0
  go_enter Try.func31, Try.ntmps31
  go_wp2_with fail
  rw [← HW0.out]
  go_loopw [9, 10, 11] (fun x y _ wr => ∃ i j : Nat, i ≤ j ∧ j ≤ n ∧ x = .int .i64 i ∧ y = .int .i64 j ∧ Hid (∀ k, k < i → ky (en L k) E < 0) ∧ Hid (∀ k, j ≤ k → k < n → 0 ≤ ky (en L k) E) ∧ Hid (Below w0.heap.size w0 wr)) (fun x y _ _ => (intOf y).toNat - (intOf x).toNat)
  case atStart => exact ⟨0, n, Nat.zero_le _, Nat.le_refl _, rfl, rfl, fun k hk => by omega, fun k h1 h2 => by omega, Below.refl _ _⟩
  case round =>
    obtain ⟨i, j, hij, hjn, rfl, rfl, LO, HI, BB⟩ := hrel
    by_cases hlt : i < j
    · have i1 : (i : Int) < (j : Int) := by omega
      obtain ⟨m, hm⟩ : ∃ m, m = (i + j) / 2 := ⟨_, rfl⟩
      have m1 : i ≤ m ∧ m < j := by omega
      have m2 : ((i : Int) + (j : Int)) / 2 = (m : Int) := by omega
      have m3 : IntKind.u64.wrap ((i : Int) + (j : Int)) = (i : Int) + (j : Int) := IntWalk.u64_in _ (by omega)
      have i2 : (0 : Int) ≤ (m : Int) := by omega
      have i3 : (m : Int) < (n : Int) := by omega
      obtain ⟨b, o, rfl, _⟩ := HC.out wr m (BK.out wr BB.out) (by omega)
      have HS : Hid (∀ w', Below w0.heap.size w0 w' → (En.Cs w' b o L m) ∧ (w'.cell? ⟨w.heap.size, 0, none⟩ = some (.string p) ∧ w'.cell? ⟨w.heap.size, 1, none⟩ = some (.int .i64 t) ∧ w'.cell? ⟨w.heap.size, 2, none⟩ = some (.int .i64 s) ∧ w'.cell? ⟨w.heap.size, 3, none⟩ = some (.int .i64 l) ∧ w'.cell? ⟨w.heap.size, 4, none⟩ = some (.int .i64 z))) := fun w' hb => ⟨(by obtain ⟨b2, o2, e2, c⟩ := HC.out w' m (BK.out w' hb) (by omega); simp at e2; obtain ⟨rfl, rfl⟩ := e2; exact c), KB.out w' hb⟩
      have CM : Hid (∀ w : World, Calls Try.prog 32 #[.agg #[.string (En.c0 L m), .int .i64 (En.c1 L m), .int .i64 (En.c2 L m), .int .i64 (En.c3 L m), .int .i64 (En.c4 L m)], .agg #[.string p, .int .i64 t, .int .i64 s, .int .i64 l, .int .i64 z]] w fun e w' => e = .returned (.int .i64 (ky (en L m) E)) ∧ Below w.heap.size w w') := CK.out m
      obtain ⟨c, hc⟩ : ∃ c, c = ky (en L m) E := ⟨_, rfl⟩
      have HCC : Hid (c = ky (en L m) E) := hc
      rw [← hc] at CM
      unfold En.Cs at HS
      clear hc hm
      generalize En.c0 L m = x0 at *
      generalize En.c1 L m = x1 at *
      generalize En.c2 L m = x2 at *
      generalize En.c3 L m = x3 at *
      generalize En.c4 L m = x4 at *
      obtain ⟨⟨q0, q1, q2, q3, q4⟩, r0, r1, r2, r3, r4⟩ := HS.out wr BB.out
      go_wp2_with fail
      go_region_held3 (fun w' => (w'.cell? ⟨b, o + m * 5, none⟩ = some (.string x0) ∧ w'.cell? ⟨b, o + m * 5 + 1, none⟩ = some (.int .i64 x1) ∧ w'.cell? ⟨b, o + m * 5 + 2, none⟩ = some (.int .i64 x2) ∧ w'.cell? ⟨b, o + m * 5 + 3, none⟩ = some (.int .i64 x3) ∧ w'.cell? ⟨b, o + m * 5 + 4, none⟩ = some (.int .i64 x4)) ∧ w'.cell? ⟨w.heap.size, 0, none⟩ = some (.string p) ∧ w'.cell? ⟨w.heap.size, 1, none⟩ = some (.int .i64 t) ∧ w'.cell? ⟨w.heap.size, 2, none⟩ = some (.int .i64 s) ∧ w'.cell? ⟨w.heap.size, 3, none⟩ = some (.int .i64 l) ∧ w'.cell? ⟨w.heap.size, 4, none⟩ = some (.int .i64 z)) (go_keep)
        (first
        | (go_at_call 32; refine (CM.out _).mono ?_; rintro e w1 ⟨rfl, hb⟩; have B1 : Hid (Below w0.heap.size w0 w1) := BB.out.drew.trans (hb.mono BB.out.drew.size); obtain ⟨⟨s0, s1, s2, s3, s4⟩, t0, t1, t2, t3, t4⟩ := HS.out w1 B1.out; clear hb))
      by_cases hz0 : c < 0
      · have LO2 : Hid (∀ k, k < m + 1 → ky (en L k) E < 0) := fun k hk => LO_.out k m (by omega) (by omega) (by rw [← HCC.out]; exact hz0)
        clear LO
        go_wp2_with fail
        go_roundw
        case rel => exact ⟨m + 1, j, by omega, by omega, by go_num, rfl, LO2, HI, B1⟩
        case measure => simp [intOf]; omega
      · have hz1 : 0 ≤ c := by omega
        have HI2 : Hid (∀ k, m ≤ k → k < n → 0 ≤ ky (en L k) E) := fun k h1 h2 => HI_.out m k h1 h2 (by rw [← HCC.out]; exact hz1)
        clear HI
        go_wp2_with fail
        go_roundw
        case rel => exact ⟨i, m, by omega, by omega, rfl, rfl, LO, HI2, B1⟩
        case measure => simp [intOf]; omega
    · have hij' : j = i := by omega
      subst hij'
      have i1 : ¬ (j : Int) < (j : Int) := by omega
      have PS : Hid (Ps L E j) := HPS.out j hjn LO.out HI.out
      have HT := HTH.out j
      have HTJ : Hid (thr L E j = (decide (j < n) && decide (ky (en L j) E = 0))) := HT
      clear HT
      obtain ⟨tt, htt⟩ : ∃ tt, tt = thr L E j := ⟨_, rfl⟩
      have HTT : Hid (tt = thr L E j) := htt
      clear htt LO HI
      by_cases hjn2 : j < n
      · have g0 : decide ((j : Int) < (n : Int)) = true := decide_eq_true (by omega)
        have g1 : decide (j < n) = true := decide_eq_true hjn2
        have i2 : (0 : Int) ≤ (j : Int) := by omega
        have i3 : (j : Int) < (n : Int) := by omega
        obtain ⟨b, o, rfl, _⟩ := HC.out wr j (BK.out wr BB.out) hjn2
        have HS : Hid (∀ w', Below w0.heap.size w0 w' → (En.Cs w' b o L j) ∧ (w'.cell? ⟨w.heap.size, 0, none⟩ = some (.string p) ∧ w'.cell? ⟨w.heap.size, 1, none⟩ = some (.int .i64 t) ∧ w'.cell? ⟨w.heap.size, 2, none⟩ = some (.int .i64 s) ∧ w'.cell? ⟨w.heap.size, 3, none⟩ = some (.int .i64 l) ∧ w'.cell? ⟨w.heap.size, 4, none⟩ = some (.int .i64 z))) := fun w' hb => ⟨(by obtain ⟨b2, o2, e2, c⟩ := HC.out w' j (BK.out w' hb) hjn2; simp at e2; obtain ⟨rfl, rfl⟩ := e2; exact c), KB.out w' hb⟩
        have CM : Hid (∀ w : World, Calls Try.prog 32 #[.agg #[.string (En.c0 L j), .int .i64 (En.c1 L j), .int .i64 (En.c2 L j), .int .i64 (En.c3 L j), .int .i64 (En.c4 L j)], .agg #[.string p, .int .i64 t, .int .i64 s, .int .i64 l, .int .i64 z]] w fun e w' => e = .returned (.int .i64 (ky (en L j) E)) ∧ Below w.heap.size w w') := CK.out j
        obtain ⟨c, hc⟩ : ∃ c, c = ky (en L j) E := ⟨_, rfl⟩
        have HCC : Hid (thr L E j = (c == 0)) := (by show _ = _; rw [HTJ.out, g1, hc]; rfl)
        rw [← hc] at CM
        unfold En.Cs at HS
        clear hc
        generalize En.c0 L j = x0 at *
        generalize En.c1 L j = x1 at *
        generalize En.c2 L j = x2 at *
        generalize En.c3 L j = x3 at *
        generalize En.c4 L j = x4 at *
        go_upto_region 8 with fail
        refine wp_region_held_drew (S := (fun w' : World => (w'.cell? ⟨b, o + j * 5, none⟩ = some (.string x0) ∧ w'.cell? ⟨b, o + j * 5 + 1, none⟩ = some (.int .i64 x1) ∧ w'.cell? ⟨b, o + j * 5 + 2, none⟩ = some (.int .i64 x2) ∧ w'.cell? ⟨b, o + j * 5 + 3, none⟩ = some (.int .i64 x3) ∧ w'.cell? ⟨b, o + j * 5 + 4, none⟩ = some (.int .i64 x4)) ∧ w'.cell? ⟨w.heap.size, 0, none⟩ = some (.string p) ∧ w'.cell? ⟨w.heap.size, 1, none⟩ = some (.int .i64 t) ∧ w'.cell? ⟨w.heap.size, 2, none⟩ = some (.int .i64 s) ∧ w'.cell? ⟨w.heap.size, 3, none⟩ = some (.int .i64 l) ∧ w'.cell? ⟨w.heap.size, 4, none⟩ = some (.int .i64 z))) (by kernel_rfl) (by (try dsimp only); first | exact HS.out _ BB.out.drew | exact HS.out _ B1.out) (fun hHeld => ?_)
        refine wpAnyH_take (i := 0) (oi := { dst := some 35, op := Go.Op.move (Go.Operand.tmp 9), type := 3, pos := "sort.go:167", after := #[], guard := none }) (v := ?_) rfl (by kernel_rfl) (by kernel_rfl) (by kernel_rfl) (fun _ _ _ h => h) (Or.inl ⟨by rfl, ?_⟩) (by assumption) ?_
        rotate_left 1
        · (intro w hSw; (try dsimp only at hSw); go_simp); all_goals (with_reducible rfl)
        try simp only [Act.put, List.setIfInBounds_toArray, List.set_cons_zero, List.set_cons_succ]
        refine wpAnyH_take (i := 1) (oi := { dst := some 36, op := Go.Op.move (Go.Operand.tmp 9), type := 3, pos := "sort.go:167", after := #[], guard := none }) (v := ?_) rfl (by kernel_rfl) (by kernel_rfl) (by kernel_rfl) (fun _ _ _ h => h) (Or.inl ⟨by rfl, ?_⟩) (by assumption) ?_
        rotate_left 1
        · (intro w hSw; (try dsimp only at hSw); go_simp); all_goals (with_reducible rfl)
        try simp only [Act.put, List.setIfInBounds_toArray, List.set_cons_zero, List.set_cons_succ]
        refine wpAnyH_take (i := 2) (oi := { dst := some 37, op := Go.Op.move (Go.Operand.tmp 8), type := 3, pos := "sort.go:167", after := #[], guard := none }) (v := ?_) rfl (by kernel_rfl) (by kernel_rfl) (by kernel_rfl) (fun _ _ _ h => h) (Or.inl ⟨by rfl, ?_⟩) (by assumption) ?_
        rotate_left 1
        · (intro w hSw; (try dsimp only at hSw); go_simp); all_goals (with_reducible rfl)
        try simp only [Act.put, List.setIfInBounds_toArray, List.set_cons_zero, List.set_cons_succ]
        refine wpAnyH_take (i := 3) (oi := { dst := some 38, op := Go.Op.binOp Go.BinOp.lss 3 (Go.Operand.tmp 36) (Go.Operand.tmp 37) 3, type := 4, pos := "sort.go:167", after := #[{ on := 1, ground := Go.Ground.data }, { on := 2, ground := Go.Ground.data }], guard := none }) (v := ?_) rfl (by kernel_rfl) (by kernel_rfl) (by kernel_rfl) (fun _ _ _ h => h) (Or.inl ⟨by rfl, ?_⟩) (by assumption) ?_
        rotate_left 1
        · (intro w hSw; (try dsimp only at hSw); go_simp); all_goals (with_reducible rfl)
        try simp only [Act.put, List.setIfInBounds_toArray, List.set_cons_zero, List.set_cons_succ]
        refine wpAnyH_take (i := 4) (oi := { dst := some 39, op := Go.Op.move (Go.Operand.tmp 38), type := 4, pos := "sort.go:167", after := #[{ on := 3, ground := Go.Ground.data }], guard := none }) (v := ?_) rfl (by kernel_rfl) (by kernel_rfl) (by kernel_rfl) (fun _ _ _ h => h) (Or.inl ⟨by rfl, ?_⟩) (by assumption) ?_
        rotate_left 1
        · (intro w hSw; (try dsimp only at hSw); go_simp); all_goals (with_reducible rfl)
        try simp only [Act.put, List.setIfInBounds_toArray, List.set_cons_zero, List.set_cons_succ]
        refine wpAnyH_take (i := 5) (oi := { dst := some 40, op := Go.Op.move (Go.Operand.tmp 2), type := 57, pos := "sort.go:167", after := #[{ on := 4, ground := Go.Ground.guard }], guard := some (4, true) }) (v := ?_) rfl (by kernel_rfl) (by kernel_rfl) (by kernel_rfl) (fun _ _ _ h => h) (Or.inl ⟨by rfl, ?_⟩) (by assumption) ?_
        rotate_left 1
        · (intro w hSw; (try dsimp only at hSw); go_simp); all_goals (with_reducible rfl)
        try simp only [Act.put, List.setIfInBounds_toArray, List.set_cons_zero, List.set_cons_succ]
        refine wpAnyH_take (i := 6) (oi := { dst := some 41, op := Go.Op.move (Go.Operand.tmp 0), type := 27, pos := "sort.go:167", after := #[{ on := 4, ground := Go.Ground.guard }], guard := some (4, true) }) (v := ?_) rfl (by kernel_rfl) (by kernel_rfl) (by kernel_rfl) (fun _ _ _ h => h) (Or.inl ⟨by rfl, ?_⟩) (by assumption) ?_
        rotate_left 1
        · (intro w hSw; (try dsimp only at hSw); go_simp); all_goals (with_reducible rfl)
        try simp only [Act.put, List.setIfInBounds_toArray, List.set_cons_zero, List.set_cons_succ]
        refine wpAnyH_take (i := 7) (oi := { dst := some 42, op := Go.Op.move (Go.Operand.tmp 9), type := 3, pos := "sort.go:167", after := #[{ on := 4, ground := Go.Ground.guard }], guard := some (4, true) }) (v := ?_) rfl (by kernel_rfl) (by kernel_rfl) (by kernel_rfl) (fun _ _ _ h => h) (Or.inl ⟨by rfl, ?_⟩) (by assumption) ?_
        rotate_left 1
        · (intro w hSw; (try dsimp only at hSw); go_simp); all_goals (with_reducible rfl)
        try simp only [Act.put, List.setIfInBounds_toArray, List.set_cons_zero, List.set_cons_succ]
        refine wpAnyH_take (i := 8) (oi := { dst := some 43, op := Go.Op.indexAddr 27 (Go.Operand.tmp 41) (Go.Operand.tmp 42), type := 0, pos := "sort.go:167", after := #[{ on := 6, ground := Go.Ground.data }, { on := 7, ground := Go.Ground.data }, { on := 4, ground := Go.Ground.guard }], guard := some (4, true) }) (v := ?_) rfl (by kernel_rfl) (by kernel_rfl) (by kernel_rfl) (fun _ _ _ h => h) (Or.inl ⟨by rfl, ?_⟩) (by assumption) ?_
        rotate_left 1
        · (intro w hSw; (try dsimp only at hSw); go_simp); all_goals (with_reducible rfl)
        try simp only [Act.put, List.setIfInBounds_toArray, List.set_cons_zero, List.set_cons_succ]
        refine wpAnyH_take (i := 9) (oi := { dst := some 44, op := Go.Op.load 31 (Go.Operand.tmp 43), type := 31, pos := "sort.go:167", after := #[{ on := 8, ground := Go.Ground.data }, { on := 4, ground := Go.Ground.guard }], guard := some (4, true) }) (v := ?_) rfl (by kernel_rfl) (by kernel_rfl) (by kernel_rfl) (fun _ _ _ h => h) (Or.inl ⟨by rfl, ?_⟩) (by assumption) ?_
        rotate_left 1
        · (intro w hSw; (try dsimp only at hSw); go_simp); all_goals (with_reducible rfl)
        try simp only [Act.put, List.setIfInBounds_toArray, List.set_cons_zero, List.set_cons_succ]
        refine wpAnyH_take (i := 10) (oi := { dst := some 45, op := Go.Op.load 31 (Go.Operand.tmp 4), type := 31, pos := "sort.go:167", after := #[{ on := 4, ground := Go.Ground.guard }], guard := some (4, true) }) (v := ?_) rfl (by kernel_rfl) (by kernel_rfl) (by kernel_rfl) (fun _ _ _ h => h) (Or.inl ⟨by rfl, ?_⟩) (by assumption) ?_
        rotate_left 1
        · (intro w hSw; (try dsimp only at hSw); go_simp); all_goals (with_reducible rfl)
        try simp only [Act.put, List.setIfInBounds_toArray, List.set_cons_zero, List.set_cons_succ]
        refine wpAnyH_ready (rs := [11]) (by kernel_rfl) (by simp) ?_
        refine AllReadyH.cons (o := { dst := some 46, op := Go.Op.call { callee := Go.Callee.value (Go.Operand.tmp 40), args := #[Go.Operand.tmp 44, Go.Operand.tmp 45], argTypes := #[31, 31] }, type := 3, pos := "sort.go:167", after := #[{ on := 5, ground := Go.Ground.data }, { on := 9, ground := Go.Ground.data }, { on := 10, ground := Go.Ground.data }, { on := 4, ground := Go.Ground.chain }, { on := 4, ground := Go.Ground.guard }], guard := some (4, true) }) rfl (fun K hK => ?_) AllReadyH.nil
        go_simp
        (refine (CM.out _).mono ?_; rintro e w1 ⟨rfl, hb⟩; have B1 : Hid (Below w0.heap.size w0 w1) := BB.out.drew.trans (hb.mono BB.out.drew.size); have kk := HS.out w1 B1.out; clear hb)
        go_wp2_with fail
        refine hK.out _ _ (by (try dsimp only); first | exact HS.out _ BB.out.drew | exact HS.out _ B1.out) (fun hHeld2 => ?_)
        clear hK K hHeld
        have hHeld := hHeld2
        clear hHeld2
        try simp only [Act.put, List.setIfInBounds_toArray, List.set_cons_zero, List.set_cons_succ]
        refine wpAnyH_take (i := 12) (oi := { dst := some 47, op := Go.Op.binOp Go.BinOp.eql 3 (Go.Operand.tmp 46) (Go.Operand.const (Go.Value.int Go.IntKind.i64 0)) 3, type := 4, pos := "sort.go:167", after := #[{ on := 11, ground := Go.Ground.data }, { on := 4, ground := Go.Ground.guard }, { on := 14, ground := Go.Ground.gcOnly Go.Departure.lateStores }], guard := some (4, true) }) (v := ?_) rfl (by kernel_rfl) (by kernel_rfl) (by kernel_rfl) (fun _ _ _ h => h) (Or.inl ⟨by rfl, ?_⟩) (by assumption) ?_
        rotate_left 1
        · (intro w hSw; (try dsimp only at hSw); go_simp); all_goals (with_reducible rfl)
        try simp only [Act.put, List.setIfInBounds_toArray, List.set_cons_zero, List.set_cons_succ]
        refine wpAnyH_take (i := 13) (oi := { dst := some 48, op := Go.Op.pick (Go.Operand.tmp 39) (Go.Operand.tmp 47) (Go.Operand.const (Go.Value.bool false)), type := 4, pos := "sort.go:167", after := #[{ on := 4, ground := Go.Ground.data }, { on := 12, ground := Go.Ground.data }, { on := 14, ground := Go.Ground.gcOnly Go.Departure.lateStores }], guard := none }) (v := ?_) rfl (by kernel_rfl) (by kernel_rfl) (by kernel_rfl) (fun _ _ _ h => h) (Or.inl ⟨by rfl, ?_⟩) (by assumption) ?_
        rotate_left 1
        · (intro w hSw; (try dsimp only at hSw); go_simp); all_goals (with_reducible rfl)
        try simp only [Act.put, List.setIfInBounds_toArray, List.set_cons_zero, List.set_cons_succ]
        refine wpAnyH_take (i := 14) (oi := { dst := some 6, op := Go.Op.assign (Go.Operand.tmp 35), type := 3, pos := "sort.go:167", after := #[{ on := 0, ground := Go.Ground.data }, { on := 11, ground := Go.Ground.chain }, { on := 0, ground := Go.Ground.phase }, { on := 1, ground := Go.Ground.textOnly Go.Departure.lateStores }, { on := 2, ground := Go.Ground.textOnly Go.Departure.lateStores }, { on := 3, ground := Go.Ground.textOnly Go.Departure.lateStores }, { on := 4, ground := Go.Ground.textOnly Go.Departure.lateStores }, { on := 5, ground := Go.Ground.textOnly Go.Departure.lateStores }, { on := 6, ground := Go.Ground.textOnly Go.Departure.lateStores }, { on := 7, ground := Go.Ground.textOnly Go.Departure.lateStores }, { on := 8, ground := Go.Ground.textOnly Go.Departure.lateStores }, { on := 9, ground := Go.Ground.textOnly Go.Departure.lateStores }, { on := 10, ground := Go.Ground.textOnly Go.Departure.lateStores }, { on := 11, ground := Go.Ground.textOnly Go.Departure.lateStoresUnsure }, { on := 12, ground := Go.Ground.textOnly Go.Departure.lateStores }, { on := 13, ground := Go.Ground.textOnly Go.Departure.lateStores }], guard := none }) (v := ?_) rfl (by kernel_rfl) (by kernel_rfl) (by kernel_rfl) (fun _ _ _ h => h) (Or.inl ⟨by rfl, ?_⟩) (by assumption) ?_
        rotate_left 1
        · (intro w hSw; (try dsimp only at hSw); go_simp); all_goals (with_reducible rfl)
        try simp only [Act.put, List.setIfInBounds_toArray, List.set_cons_zero, List.set_cons_succ]
        refine wpAnyH_take (i := 15) (oi := { dst := some 7, op := Go.Op.assign (Go.Operand.tmp 48), type := 4, pos := "sort.go:167", after := #[{ on := 13, ground := Go.Ground.data }, { on := 14, ground := Go.Ground.chain }, { on := 0, ground := Go.Ground.phase }, { on := 1, ground := Go.Ground.phase }, { on := 2, ground := Go.Ground.phase }, { on := 3, ground := Go.Ground.phase }, { on := 4, ground := Go.Ground.phase }, { on := 5, ground := Go.Ground.phase }, { on := 6, ground := Go.Ground.phase }, { on := 7, ground := Go.Ground.phase }, { on := 8, ground := Go.Ground.phase }, { on := 9, ground := Go.Ground.phase }, { on := 10, ground := Go.Ground.phase }, { on := 11, ground := Go.Ground.phase }, { on := 12, ground := Go.Ground.phase }, { on := 13, ground := Go.Ground.phase }, { on := 14, ground := Go.Ground.phase }], guard := none }) (v := ?_) rfl (by kernel_rfl) (by kernel_rfl) (by kernel_rfl) (fun _ _ _ h => h) (Or.inl ⟨by rfl, ?_⟩) (by assumption) ?_
        rotate_left 1
        · (intro w hSw; (try dsimp only at hSw); go_simp); all_goals (with_reducible rfl)
        try simp only [Act.put, List.setIfInBounds_toArray, List.set_cons_zero, List.set_cons_succ]
        refine wpAnyH_done (by kernel_rfl) ?_ _
        go_wp2_with fail
        go_ret2
        exact ⟨j, by rw [HCC.out]; rfl, PS.out, BK.out _ B1.out⟩
      · have g0 : decide ((j : Int) < (n : Int)) = false := decide_eq_false (by omega)
        have g1 : decide (j < n) = false := decide_eq_false hjn2
        have HCC : Hid (thr L E j = false) := (by show _ = _; rw [HTJ.out, g1]; rfl)
        go_upto_region 8 with fail
        refine wp_region_held_drew (S := (fun w' : World => w'.cell? ⟨w.heap.size, 0, none⟩ = some (.string p) ∧ w'.cell? ⟨w.heap.size, 1, none⟩ = some (.int .i64 t) ∧ w'.cell? ⟨w.heap.size, 2, none⟩ = some (.int .i64 s) ∧ w'.cell? ⟨w.heap.size, 3, none⟩ = some (.int .i64 l) ∧ w'.cell? ⟨w.heap.size, 4, none⟩ = some (.int .i64 z))) (by kernel_rfl) (by (try dsimp only); exact KB.out _ BB.out.drew) (fun hHeld => ?_)
        refine wpAnyH_take (i := 0) (oi := { dst := some 35, op := Go.Op.move (Go.Operand.tmp 9), type := 3, pos := "sort.go:167", after := #[], guard := none }) (v := ?_) rfl (by kernel_rfl) (by kernel_rfl) (by kernel_rfl) (fun _ _ _ h => h) (Or.inl ⟨by rfl, ?_⟩) (by assumption) ?_
        rotate_left 1
        · (intro w hSw; (try dsimp only at hSw); go_simp); all_goals (with_reducible rfl)
        try simp only [Act.put, List.setIfInBounds_toArray, List.set_cons_zero, List.set_cons_succ]
        refine wpAnyH_take (i := 1) (oi := { dst := some 36, op := Go.Op.move (Go.Operand.tmp 9), type := 3, pos := "sort.go:167", after := #[], guard := none }) (v := ?_) rfl (by kernel_rfl) (by kernel_rfl) (by kernel_rfl) (fun _ _ _ h => h) (Or.inl ⟨by rfl, ?_⟩) (by assumption) ?_
        rotate_left 1
        · (intro w hSw; (try dsimp only at hSw); go_simp); all_goals (with_reducible rfl)
        try simp only [Act.put, List.setIfInBounds_toArray, List.set_cons_zero, List.set_cons_succ]
        refine wpAnyH_take (i := 2) (oi := { dst := some 37, op := Go.Op.move (Go.Operand.tmp 8), type := 3, pos := "sort.go:167", after := #[], guard := none }) (v := ?_) rfl (by kernel_rfl) (by kernel_rfl) (by kernel_rfl) (fun _ _ _ h => h) (Or.inl ⟨by rfl, ?_⟩) (by assumption) ?_
        rotate_left 1
        · (intro w hSw; (try dsimp only at hSw); go_simp); all_goals (with_reducible rfl)
        try simp only [Act.put, List.setIfInBounds_toArray, List.set_cons_zero, List.set_cons_succ]
        refine wpAnyH_take (i := 3) (oi := { dst := some 38, op := Go.Op.binOp Go.BinOp.lss 3 (Go.Operand.tmp 36) (Go.Operand.tmp 37) 3, type := 4, pos := "sort.go:167", after := #[{ on := 1, ground := Go.Ground.data }, { on := 2, ground := Go.Ground.data }], guard := none }) (v := ?_) rfl (by kernel_rfl) (by kernel_rfl) (by kernel_rfl) (fun _ _ _ h => h) (Or.inl ⟨by rfl, ?_⟩) (by assumption) ?_
        rotate_left 1
        · (intro w hSw; (try dsimp only at hSw); go_simp); all_goals (with_reducible rfl)
        try simp only [Act.put, List.setIfInBounds_toArray, List.set_cons_zero, List.set_cons_succ]
        refine wpAnyH_take (i := 4) (oi := { dst := some 39, op := Go.Op.move (Go.Operand.tmp 38), type := 4, pos := "sort.go:167", after := #[{ on := 3, ground := Go.Ground.data }], guard := none }) (v := ?_) rfl (by kernel_rfl) (by kernel_rfl) (by kernel_rfl) (fun _ _ _ h => h) (Or.inl ⟨by rfl, ?_⟩) (by assumption) ?_
        rotate_left 1
        · (intro w hSw; (try dsimp only at hSw); go_simp); all_goals (with_reducible rfl)
        try simp only [Act.put, List.setIfInBounds_toArray, List.set_cons_zero, List.set_cons_succ]
        refine wpAnyH_take (i := 5) (oi := { dst := some 40, op := Go.Op.move (Go.Operand.tmp 2), type := 57, pos := "sort.go:167", after := #[{ on := 4, ground := Go.Ground.guard }], guard := some (4, true) }) (v := undef) rfl (by kernel_rfl) (by kernel_rfl) (by kernel_rfl) (fun _ _ _ h => h) (Or.inr ⟨by rfl, rfl⟩) (by assumption) ?_
        try simp only [Act.put, List.setIfInBounds_toArray, List.set_cons_zero, List.set_cons_succ]
        refine wpAnyH_take (i := 6) (oi := { dst := some 41, op := Go.Op.move (Go.Operand.tmp 0), type := 27, pos := "sort.go:167", after := #[{ on := 4, ground := Go.Ground.guard }], guard := some (4, true) }) (v := undef) rfl (by kernel_rfl) (by kernel_rfl) (by kernel_rfl) (fun _ _ _ h => h) (Or.inr ⟨by rfl, rfl⟩) (by assumption) ?_
        try simp only [Act.put, List.setIfInBounds_toArray, List.set_cons_zero, List.set_cons_succ]
        refine wpAnyH_take (i := 7) (oi := { dst := some 42, op := Go.Op.move (Go.Operand.tmp 9), type := 3, pos := "sort.go:167", after := #[{ on := 4, ground := Go.Ground.guard }], guard := some (4, true) }) (v := undef) rfl (by kernel_rfl) (by kernel_rfl) (by kernel_rfl) (fun _ _ _ h => h) (Or.inr ⟨by rfl, rfl⟩) (by assumption) ?_
        try simp only [Act.put, List.setIfInBounds_toArray, List.set_cons_zero, List.set_cons_succ]
        refine wpAnyH_take (i := 8) (oi := { dst := some 43, op := Go.Op.indexAddr 27 (Go.Operand.tmp 41) (Go.Operand.tmp 42), type := 0, pos := "sort.go:167", after := #[{ on := 6, ground := Go.Ground.data }, { on := 7, ground := Go.Ground.data }, { on := 4, ground := Go.Ground.guard }], guard := some (4, true) }) (v := undef) rfl (by kernel_rfl) (by kernel_rfl) (by kernel_rfl) (fun _ _ _ h => h) (Or.inr ⟨by rfl, rfl⟩) (by assumption) ?_
        try simp only [Act.put, List.setIfInBounds_toArray, List.set_cons_zero, List.set_cons_succ]
        refine wpAnyH_take (i := 9) (oi := { dst := some 44, op := Go.Op.load 31 (Go.Operand.tmp 43), type := 31, pos := "sort.go:167", after := #[{ on := 8, ground := Go.Ground.data }, { on := 4, ground := Go.Ground.guard }], guard := some (4, true) }) (v := undef) rfl (by kernel_rfl) (by kernel_rfl) (by kernel_rfl) (fun _ _ _ h => h) (Or.inr ⟨by rfl, rfl⟩) (by assumption) ?_
        try simp only [Act.put, List.setIfInBounds_toArray, List.set_cons_zero, List.set_cons_succ]
        refine wpAnyH_take (i := 10) (oi := { dst := some 45, op := Go.Op.load 31 (Go.Operand.tmp 4), type := 31, pos := "sort.go:167", after := #[{ on := 4, ground := Go.Ground.guard }], guard := some (4, true) }) (v := undef) rfl (by kernel_rfl) (by kernel_rfl) (by kernel_rfl) (fun _ _ _ h => h) (Or.inr ⟨by rfl, rfl⟩) (by assumption) ?_
        try simp only [Act.put, List.setIfInBounds_toArray, List.set_cons_zero, List.set_cons_succ]
        refine wpAnyH_take (i := 11) (oi := { dst := some 46, op := Go.Op.call { callee := Go.Callee.value (Go.Operand.tmp 40), args := #[Go.Operand.tmp 44, Go.Operand.tmp 45], argTypes := #[31, 31] }, type := 3, pos := "sort.go:167", after := #[{ on := 5, ground := Go.Ground.data }, { on := 9, ground := Go.Ground.data }, { on := 10, ground := Go.Ground.data }, { on := 4, ground := Go.Ground.chain }, { on := 4, ground := Go.Ground.guard }], guard := some (4, true) }) (v := undef) rfl (by kernel_rfl) (by kernel_rfl) (by kernel_rfl) (fun _ _ _ h => h) (Or.inr ⟨by rfl, rfl⟩) (by assumption) ?_
        try simp only [Act.put, List.setIfInBounds_toArray, List.set_cons_zero, List.set_cons_succ]
        refine wpAnyH_take (i := 12) (oi := { dst := some 47, op := Go.Op.binOp Go.BinOp.eql 3 (Go.Operand.tmp 46) (Go.Operand.const (Go.Value.int Go.IntKind.i64 0)) 3, type := 4, pos := "sort.go:167", after := #[{ on := 11, ground := Go.Ground.data }, { on := 4, ground := Go.Ground.guard }, { on := 14, ground := Go.Ground.gcOnly Go.Departure.lateStores }], guard := some (4, true) }) (v := undef) rfl (by kernel_rfl) (by kernel_rfl) (by kernel_rfl) (fun _ _ _ h => h) (Or.inr ⟨by rfl, rfl⟩) (by assumption) ?_
        try simp only [Act.put, List.setIfInBounds_toArray, List.set_cons_zero, List.set_cons_succ]
        refine wpAnyH_take (i := 13) (oi := { dst := some 48, op := Go.Op.pick (Go.Operand.tmp 39) (Go.Operand.tmp 47) (Go.Operand.const (Go.Value.bool false)), type := 4, pos := "sort.go:167", after := #[{ on := 4, ground := Go.Ground.data }, { on := 12, ground := Go.Ground.data }, { on := 14, ground := Go.Ground.gcOnly Go.Departure.lateStores }], guard := none }) (v := ?_) rfl (by kernel_rfl) (by kernel_rfl) (by kernel_rfl) (fun _ _ _ h => h) (Or.inl ⟨by rfl, ?_⟩) (by assumption) ?_
        rotate_left 1
        · (intro w hSw; (try dsimp only at hSw); go_simp); all_goals (with_reducible rfl)
        try simp only [Act.put, List.setIfInBounds_toArray, List.set_cons_zero, List.set_cons_succ]
        refine wpAnyH_take (i := 14) (oi := { dst := some 6, op := Go.Op.assign (Go.Operand.tmp 35), type := 3, pos := "sort.go:167", after := #[{ on := 0, ground := Go.Ground.data }, { on := 11, ground := Go.Ground.chain }, { on := 0, ground := Go.Ground.phase }, { on := 1, ground := Go.Ground.textOnly Go.Departure.lateStores }, { on := 2, ground := Go.Ground.textOnly Go.Departure.lateStores }, { on := 3, ground := Go.Ground.textOnly Go.Departure.lateStores }, { on := 4, ground := Go.Ground.textOnly Go.Departure.lateStores }, { on := 5, ground := Go.Ground.textOnly Go.Departure.lateStores }, { on := 6, ground := Go.Ground.textOnly Go.Departure.lateStores }, { on := 7, ground := Go.Ground.textOnly Go.Departure.lateStores }, { on := 8, ground := Go.Ground.textOnly Go.Departure.lateStores }, { on := 9, ground := Go.Ground.textOnly Go.Departure.lateStores }, { on := 10, ground := Go.Ground.textOnly Go.Departure.lateStores }, { on := 11, ground := Go.Ground.textOnly Go.Departure.lateStoresUnsure }, { on := 12, ground := Go.Ground.textOnly Go.Departure.lateStores }, { on := 13, ground := Go.Ground.textOnly Go.Departure.lateStores }], guard := none }) (v := ?_) rfl (by kernel_rfl) (by kernel_rfl) (by kernel_rfl) (fun _ _ _ h => h) (Or.inl ⟨by rfl, ?_⟩) (by assumption) ?_
        rotate_left 1
        · (intro w hSw; (try dsimp only at hSw); go_simp); all_goals (with_reducible rfl)
        try simp only [Act.put, List.setIfInBounds_toArray, List.set_cons_zero, List.set_cons_succ]
        refine wpAnyH_take (i := 15) (oi := { dst := some 7, op := Go.Op.assign (Go.Operand.tmp 48), type := 4, pos := "sort.go:167", after := #[{ on := 13, ground := Go.Ground.data }, { on := 14, ground := Go.Ground.chain }, { on := 0, ground := Go.Ground.phase }, { on := 1, ground := Go.Ground.phase }, { on := 2, ground := Go.Ground.phase }, { on := 3, ground := Go.Ground.phase }, { on := 4, ground := Go.Ground.phase }, { on := 5, ground := Go.Ground.phase }, { on := 6, ground := Go.Ground.phase }, { on := 7, ground := Go.Ground.phase }, { on := 8, ground := Go.Ground.phase }, { on := 9, ground := Go.Ground.phase }, { on := 10, ground := Go.Ground.phase }, { on := 11, ground := Go.Ground.phase }, { on := 12, ground := Go.Ground.phase }, { on := 13, ground := Go.Ground.phase }, { on := 14, ground := Go.Ground.phase }], guard := none }) (v := ?_) rfl (by kernel_rfl) (by kernel_rfl) (by kernel_rfl) (fun _ _ _ h => h) (Or.inl ⟨by rfl, ?_⟩) (by assumption) ?_
        rotate_left 1
        · (intro w hSw; (try dsimp only at hSw); go_simp); all_goals (with_reducible rfl)
        try simp only [Act.put, List.setIfInBounds_toArray, List.set_cons_zero, List.set_cons_succ]
        refine wpAnyH_done (by kernel_rfl) ?_ _
        go_wp2_with fail
        go_ret2
        exact ⟨j, by rw [HCC.out]; rfl, PS.out, BK.out _ BB.out.drew⟩
end Go.Proofs.Ytniejbefkijenaa.Ky
