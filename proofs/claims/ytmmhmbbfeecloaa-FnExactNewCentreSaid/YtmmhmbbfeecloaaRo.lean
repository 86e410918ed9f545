/- routesOk: whether routes are right (the program). -/
import Derived.Test.YtmmhmbbfeecloaaCx
import Derived.Test.YtmmhmbbfeecloaaLet
namespace Go.Proofs.Ytmmhmbbfeecloaa.Ro
open Go.ChangeShapes Go.WideShapes Go.ChangeAt Go.RowKit Rt Cx Al Let
/-- a route is right -/
def r1 (L : Ls) (i : Nat) : Prop := (c0 L i).size = 2 ∧ lets (c0 L i) = true ∧ inn (c1 L i) 1 1000 = true
/-- routes are right: so many at most, each is right, none is there twice -/
def Ok (L : Ls) : Prop := L.length ≤ 60 ∧ ∀ i, i < L.length → r1 L i ∧ ∀ k, k < i → ¬ (c0 L k = c0 L i ∧ c1 L k = c1 L i)
def Fit (L : Ls) : Prop := ∀ i, i < L.length → (c0 L i).size ≤ 1048576
def Ans (e : Ending) (L : Ls) : Prop := ∃ q : Bool, e = .returned (.bool q) ∧ (q = true ↔ Ok L)
theorem ans_no {L : Ls} (h : ¬ Ok L) : Ans (.returned (.bool false)) L := ⟨false, rfl, by simp [h]⟩
theorem ans_yes {L : Ls} (h : Ok L) : Ans (.returned (.bool true)) L := ⟨true, rfl, by simp [h]⟩
set_option maxHeartbeats 4000000 in
theorem iok_any (L : Ls) (v : Value) (w : World) (h : Reads w v L) (hn : L.length ≤ 2000000) (hf : Fit L) : Calls Try.prog 17 #[v] w fun e w' => Ans e L ∧ Below w.heap.size w w' := by
  obtain ⟨a, c, rfl⟩ := h.form
  obtain ⟨m, hm⟩ : ∃ m, m = L.length := ⟨_, rfl⟩
  have HM : Hid (m = L.length) := hm
  have HS : Hid (∀ k, k ≤ m → ∀ w', Below w.heap.size w w' → Reads w' (.slice a k c) (L.take k)) := fun k hk w' hb => (by
    rw [HM.out] at hk
    rcases h with ⟨rfl, _⟩ | ⟨b, o, c, e, e1, e2, x, y⟩
    · exact Or.inl ⟨by simp, _, _, by rw [show k = 0 by simpa using hk]⟩
    · simp at e
      obtain ⟨rfl, rfl⟩ := e
      have hl : (L.take k).length = k := by rw [List.length_take]; omega
      refine Or.inr ⟨b, o, c, by rw [hl], by omega, e2, Nat.lt_of_lt_of_le x hb.size, fun i hi => ?_⟩
      rw [hl] at hi
      have := (y i (by omega)).below hb x
      unfold Cs c0 c1 at this ⊢
      rw [show (L.take k).getD i (⟨#[]⟩, 0) = L.getD i (⟨#[]⟩, 0) by simp [List.getD_eq_getElem?_getD, hi]]
      exact this)
  have HC : Hid (∀ i, i < m → ∃ b o, a = some ⟨b, o, none⟩ ∧ m ≤ c ∧ ∀ w', Below w.heap.size w w' → Cs w' b o L i) := fun i hi => (by
    rw [HM.out] at hi
    rcases h with ⟨rfl, _⟩ | ⟨b, o, c', e, e1, _, x, y⟩
    · simp at hi
    · simp at e; exact ⟨b, o, e.1, by rw [HM.out, e.2]; exact e1, fun w' hb => (y i hi).below hb x⟩)
  rw [← hm] at hn ⊢
  clear h hm
  by_cases hl : m ≤ 60
  · have j0 : (m : Int) ≤ 60 := by omega
    go_enter Try.func17, Try.ntmps17
    go_wp2_with fail
    go_loopw [10] (fun i wr => ∃ k : Nat, k ≤ m ∧ i = .int .i64 k ∧ Hid (Below w.heap.size w wr) ∧ Hid (∀ j, j < k → r1 L j ∧ ∀ q, q < j → ¬ (c0 L q = c0 L j ∧ c1 L q = c1 L j))) (fun i _ => m - (intOf i).toNat)
    case atStart => exact ⟨0, Nat.zero_le _, rfl, Below.refl _ _, fun j hj => by omega⟩
    case round =>
      obtain ⟨k, hk, rfl, BB, NB⟩ := hrel
      by_cases hlt : k < m
      · obtain ⟨b, o, rfl, mc, qq⟩ := HC.out k hlt
        have kc : k ≤ c := by omega
        clear mc
        obtain ⟨q0, q1⟩ := qq wr BB.out
        clear qq
        have i0 : (0 : Int) ≤ (k : Int) := by omega
        have i1 : (k : Int) < (m : Int) := by omega
        have HE : Hid (k < L.length) := (by show k < L.length; rw [← HM.out]; exact hlt)
        have C1 : Hid (∀ w', Calls Try.prog 31 #[.string (c0 L k), .int .i64 2] w' fun e w'' => e = .returned (.bool (lets (c0 L k) && decide ((c0 L k).size = 2))) ∧ w'' = w') := fun w' => lonly_any (c0 L k) 2 w' (hf k HE.out)
        have C2 : Hid (∀ w', Calls Try.prog 32 #[.int .i64 (c1 L k), .int .i64 1, .int .i64 1000] w' fun e w'' => e = .returned (.bool (inn (c1 L k) 1 1000)) ∧ w'' = w') := fun w' => i_in _ _ _ w'
        have C3 : Hid (∀ w', Below w.heap.size w w' → Calls Try.prog 33 #[.slice (some ⟨b, o, none⟩) k c, .agg #[.string (c0 L k), .int .i64 (c1 L k)]] w' fun e w'' => (∃ q : Bool, e = .returned (.bool q) ∧ (q = true ↔ ∃ j, j < (L.take k).length ∧ c0 (L.take k) j = c0 L k ∧ c1 (L.take k) j = c1 L k)) ∧ Below w'.heap.size w' w'') := fun w' hb => has_any (L.take k) _ _ _ w' (HS.out k hk w' hb) (by rw [List.length_take]; omega)
        have K0 : Hid ((wr.alloc (.cells #[.string (c0 L k), .int .i64 (c1 L k)] 46)).drew.cell? ⟨wr.heap.size, 0, none⟩ = some (.string (c0 L k)) ∧ (wr.alloc (.cells #[.string (c0 L k), .int .i64 (c1 L k)] 46)).drew.cell? ⟨wr.heap.size, 1, none⟩ = some (.int .i64 (c1 L k)) ∧ Hid (wr.heap.size < (wr.alloc (.cells #[.string (c0 L k), .int .i64 (c1 L k)] 46)).drew.heap.size) ∧ Hid (Below w.heap.size w (wr.alloc (.cells #[.string (c0 L k), .int .i64 (c1 L k)] 46)).drew)) := ⟨(by show (wr.alloc _).cell? _ = _; simp), (by show (wr.alloc _).cell? _ = _; simp), (by show _ < (wr.alloc _).heap.size; simp), (BB.out.alloc BB.out.size _).drew⟩
        have BA : Hid (Below w.heap.size w (wr.alloc (.cells #[.string (c0 L k), .int .i64 (c1 L k)] 46))) := BB.out.alloc BB.out.size _
        have HF : Hid ((lets (c0 L k) && decide ((c0 L k).size = 2)) = false → ¬ Ok L) := fun h hk => (by
          have := (hk.2 k HE.out).1
          rw [this.2.1, decide_eq_true this.1] at h
          exact absurd h (by decide))
        have HG : Hid (inn (c1 L k) 1 1000 = false → ¬ Ok L) := fun h hk => (by
          have := (hk.2 k HE.out).1.2.2
          rw [this] at h; cases h)
        obtain ⟨P, hP⟩ : ∃ P : Prop, P = ∃ j, j < (L.take k).length ∧ c0 (L.take k) j = c0 L k ∧ c1 (L.take k) j = c1 L k := ⟨_, rfl⟩
        have HT : Hid (P ↔ ∃ j, j < k ∧ c0 L j = c0 L k ∧ c1 L j = c1 L k) := (by
          show P ↔ _
          rw [hP]
          have hl : (L.take k).length = k := by rw [List.length_take]; have := HE.out; omega
          have hg : ∀ i, i < k → (L.take k).getD i (⟨#[]⟩, 0) = L.getD i (⟨#[]⟩, 0) := fun i hi => by simp [List.getD_eq_getElem?_getD, hi]
          rw [hl]
          constructor
          · rintro ⟨j, hj, h1, h2⟩
            exact ⟨j, hj, by rw [← h1]; unfold c0; rw [hg j hj], by rw [← h2]; unfold c1; rw [hg j hj]⟩
          · rintro ⟨j, hj, h1, h2⟩
            exact ⟨j, hj, by rw [← h1]; unfold c0; rw [hg j hj], by rw [← h2]; unfold c1; rw [hg j hj]⟩)
        have HH : Hid (P → ¬ Ok L) := fun h hk => (by
          obtain ⟨j, hj, hh⟩ := HT.out.1 h
          exact (hk.2 k HE.out).2 j hj hh)
        have HN : Hid ((lets (c0 L k) && decide ((c0 L k).size = 2)) = true → inn (c1 L k) 1 1000 = true → ¬ P → ∀ j, j < k + 1 → r1 L j ∧ ∀ q, q < j → ¬ (c0 L q = c0 L j ∧ c1 L q = c1 L j)) := fun g1 g2 g3 j hj => (by
          by_cases e : j = k
          · subst e
            rw [Bool.and_eq_true, decide_eq_true_iff] at g1
            exact ⟨⟨g1.2, g1.1, g2⟩, fun q hq hh => g3 (HT.out.2 ⟨q, hq, hh⟩)⟩
          · exact NB.out j (by omega))
        rw [← hP] at C3
        clear hP HT
        generalize hy0 : c0 L k = y0 at *
        generalize hy1 : c1 L k = y1 at *
        have HY : Hid (c0 L k = y0 ∧ c1 L k = y1) := ⟨hy0, hy1⟩
        clear hy0 hy1
        generalize (lets y0 && decide (y0.size = 2)) = b1 at *
        generalize hb2 : inn y1 1 1000 = b2 at *
        clear HC HS
        cases b1
        · have NK : Hid (¬ Ok L) := HF.out (by first | rfl | trivial)
          go_wp2_with fail
          refine wp_region_held_drew (S := fun w' => w'.cell? ⟨wr.heap.size, 0, none⟩ = some (.string y0) ∧ w'.cell? ⟨wr.heap.size, 1, none⟩ = some (.int .i64 y1) ∧ Hid (wr.heap.size < w'.heap.size) ∧ Hid (Below w.heap.size w w')) (by kernel_rfl) (by (try dsimp only); (first | exact K0.out | exact K3.out | exact hHeld)) (fun hHeld => ?_)
          refine wpAnyH_take (i := 0) (oi := { dst := some 15, op := Go.Op.fieldAddr 46 (Go.Operand.tmp 4) 0, type := 0, pos := "l09_routing.go:176", after := #[], guard := none }) (v := ?_) rfl (by kernel_rfl) (by kernel_rfl) (by kernel_rfl) (fun _ _ _ h => h) (Or.inl ⟨by rfl, ?_⟩) (by assumption) ?_
          rotate_left 1
          · (intro w hSw; (try dsimp only at hSw); go_simp); all_goals (with_reducible rfl)
          try simp only [Act.put, List.setIfInBounds_toArray, List.set_cons_zero, List.set_cons_succ]
          refine wpAnyH_take (i := 1) (oi := { dst := some 16, op := Go.Op.load 9 (Go.Operand.tmp 15), type := 9, pos := "l09_routing.go:176", after := #[{ on := 0, ground := Go.Ground.data }], guard := none }) (v := ?_) rfl (by kernel_rfl) (by kernel_rfl) (by kernel_rfl) (fun _ _ _ h => h) (Or.inl ⟨by rfl, ?_⟩) (by assumption) ?_
          rotate_left 1
          · (intro w hSw; (try dsimp only at hSw); go_simp); all_goals (with_reducible rfl)
          try simp only [Act.put, List.setIfInBounds_toArray, List.set_cons_zero, List.set_cons_succ]
          refine wpAnyH_ready (rs := [2]) (by kernel_rfl) (by simp) ?_
          refine AllReadyH.cons (o := { dst := some 17, op := Go.Op.call { callee := Go.Callee.value (Go.Operand.func 31), args := #[Go.Operand.tmp 16, Go.Operand.const (Go.Value.int Go.IntKind.i64 2)], argTypes := #[9, 3] }, type := 4, pos := "l09_routing.go:176", after := #[{ on := 1, ground := Go.Ground.data }], guard := none }) rfl (fun K hK => ?_) AllReadyH.nil
          go_simp
          refine (C1.out _).mono ?_; rintro e w1 ⟨rfl, hw1⟩; subst hw1
          go_wp2_with fail
          refine hK.out _ _ (by (try dsimp only); (first | exact K0.out | exact K3.out | exact hHeld)) (fun hHeld2 => ?_)
          clear hK K hHeld
          have hHeld := hHeld2
          clear hHeld2
          try simp only [Act.put, List.setIfInBounds_toArray, List.set_cons_zero, List.set_cons_succ]
          refine wpAnyH_take (i := 3) (oi := { dst := some 18, op := Go.Op.unOp Go.UnOp.not 4 (Go.Operand.tmp 17), type := 4, pos := "l09_routing.go:176", after := #[{ on := 2, ground := Go.Ground.data }], guard := none }) (v := ?_) rfl (by kernel_rfl) (by kernel_rfl) (by kernel_rfl) (fun _ _ _ h => h) (Or.inl ⟨by rfl, ?_⟩) (by assumption) ?_
          rotate_left 1
          · (intro w hSw; (try dsimp only at hSw); go_simp); all_goals (with_reducible rfl)
          try simp only [Act.put, List.setIfInBounds_toArray, List.set_cons_zero, List.set_cons_succ]
          refine wpAnyH_take (i := 4) (oi := { dst := some 19, op := Go.Op.move (Go.Operand.tmp 18), type := 4, pos := "l09_routing.go:176", after := #[{ on := 3, ground := Go.Ground.data }, { on := 2, ground := Go.Ground.chain }], guard := none }) (v := ?_) rfl (by kernel_rfl) (by kernel_rfl) (by kernel_rfl) (fun _ _ _ h => h) (Or.inl ⟨by rfl, ?_⟩) (by assumption) ?_
          rotate_left 1
          · (intro w hSw; (try dsimp only at hSw); go_simp); all_goals (with_reducible rfl)
          try simp only [Act.put, List.setIfInBounds_toArray, List.set_cons_zero, List.set_cons_succ]
          refine wpAnyH_take (i := 5) (oi := { dst := some 20, op := Go.Op.fieldAddr 46 (Go.Operand.tmp 4) 1, type := 0, pos := "l09_routing.go:176", after := #[{ on := 4, ground := Go.Ground.guard }], guard := some (4, false) }) (v := undef) rfl (by kernel_rfl) (by kernel_rfl) (by kernel_rfl) (fun _ _ _ h => h) (Or.inr ⟨by rfl, rfl⟩) (by assumption) ?_
          try simp only [Act.put, List.setIfInBounds_toArray, List.set_cons_zero, List.set_cons_succ]
          refine wpAnyH_take (i := 6) (oi := { dst := some 21, op := Go.Op.load 2 (Go.Operand.tmp 20), type := 2, pos := "l09_routing.go:176", after := #[{ on := 5, ground := Go.Ground.data }, { on := 4, ground := Go.Ground.guard }], guard := some (4, false) }) (v := undef) rfl (by kernel_rfl) (by kernel_rfl) (by kernel_rfl) (fun _ _ _ h => h) (Or.inr ⟨by rfl, rfl⟩) (by assumption) ?_
          try simp only [Act.put, List.setIfInBounds_toArray, List.set_cons_zero, List.set_cons_succ]
          refine wpAnyH_take (i := 7) (oi := { dst := some 22, op := Go.Op.call { callee := Go.Callee.value (Go.Operand.func 32), args := #[Go.Operand.tmp 21, Go.Operand.const (Go.Value.int Go.IntKind.i64 1), Go.Operand.const (Go.Value.int Go.IntKind.i64 1000)], argTypes := #[2, 2, 2] }, type := 4, pos := "l09_routing.go:176", after := #[{ on := 6, ground := Go.Ground.data }, { on := 4, ground := Go.Ground.chain }, { on := 4, ground := Go.Ground.guard }], guard := some (4, false) }) (v := undef) rfl (by kernel_rfl) (by kernel_rfl) (by kernel_rfl) (fun _ _ _ h => h) (Or.inr ⟨by rfl, rfl⟩) (by assumption) ?_
          try simp only [Act.put, List.setIfInBounds_toArray, List.set_cons_zero, List.set_cons_succ]
          refine wpAnyH_take (i := 8) (oi := { dst := some 23, op := Go.Op.unOp Go.UnOp.not 4 (Go.Operand.tmp 22), type := 4, pos := "l09_routing.go:176", after := #[{ on := 7, ground := Go.Ground.data }, { on := 4, ground := Go.Ground.guard }], guard := some (4, false) }) (v := undef) rfl (by kernel_rfl) (by kernel_rfl) (by kernel_rfl) (fun _ _ _ h => h) (Or.inr ⟨by rfl, rfl⟩) (by assumption) ?_
          try simp only [Act.put, List.setIfInBounds_toArray, List.set_cons_zero, List.set_cons_succ]
          refine wpAnyH_take (i := 9) (oi := { dst := some 24, op := Go.Op.pick (Go.Operand.tmp 19) (Go.Operand.const (Go.Value.bool true)) (Go.Operand.tmp 23), type := 4, pos := "l09_routing.go:176", after := #[{ on := 4, ground := Go.Ground.data }, { on := 8, ground := Go.Ground.data }], guard := none }) (v := ?_) rfl (by kernel_rfl) (by kernel_rfl) (by kernel_rfl) (fun _ _ _ h => h) (Or.inl ⟨by rfl, ?_⟩) (by assumption) ?_
          rotate_left 1
          · (intro w hSw; (try dsimp only at hSw); go_simp); all_goals (with_reducible rfl)
          try simp only [Act.put, List.setIfInBounds_toArray, List.set_cons_zero, List.set_cons_succ]
          refine wpAnyH_take (i := 10) (oi := { dst := some 25, op := Go.Op.move (Go.Operand.tmp 24), type := 4, pos := "l09_routing.go:176", after := #[{ on := 9, ground := Go.Ground.data }, { on := 7, ground := Go.Ground.chain }], guard := none }) (v := ?_) rfl (by kernel_rfl) (by kernel_rfl) (by kernel_rfl) (fun _ _ _ h => h) (Or.inl ⟨by rfl, ?_⟩) (by assumption) ?_
          rotate_left 1
          · (intro w hSw; (try dsimp only at hSw); go_simp); all_goals (with_reducible rfl)
          try simp only [Act.put, List.setIfInBounds_toArray, List.set_cons_zero, List.set_cons_succ]
          refine wpAnyH_take (i := 11) (oi := { dst := some 26, op := Go.Op.move (Go.Operand.tmp 0), type := 24, pos := "l09_routing.go:176", after := #[{ on := 10, ground := Go.Ground.guard }], guard := some (10, false) }) (v := undef) rfl (by kernel_rfl) (by kernel_rfl) (by kernel_rfl) (fun _ _ _ h => h) (Or.inr ⟨by rfl, rfl⟩) (by assumption) ?_
          try simp only [Act.put, List.setIfInBounds_toArray, List.set_cons_zero, List.set_cons_succ]
          refine wpAnyH_take (i := 12) (oi := { dst := some 27, op := Go.Op.move (Go.Operand.tmp 3), type := 3, pos := "l09_routing.go:176", after := #[{ on := 10, ground := Go.Ground.guard }], guard := some (10, false) }) (v := undef) rfl (by kernel_rfl) (by kernel_rfl) (by kernel_rfl) (fun _ _ _ h => h) (Or.inr ⟨by rfl, rfl⟩) (by assumption) ?_
          try simp only [Act.put, List.setIfInBounds_toArray, List.set_cons_zero, List.set_cons_succ]
          refine wpAnyH_take (i := 13) (oi := { dst := some 28, op := Go.Op.slice 24 (Go.Operand.tmp 26) none (some (Go.Operand.tmp 27)) none, type := 24, pos := "l09_routing.go:176", after := #[{ on := 11, ground := Go.Ground.data }, { on := 12, ground := Go.Ground.data }, { on := 10, ground := Go.Ground.guard }], guard := some (10, false) }) (v := undef) rfl (by kernel_rfl) (by kernel_rfl) (by kernel_rfl) (fun _ _ _ h => h) (Or.inr ⟨by rfl, rfl⟩) (by assumption) ?_
          try simp only [Act.put, List.setIfInBounds_toArray, List.set_cons_zero, List.set_cons_succ]
          refine wpAnyH_take (i := 14) (oi := { dst := some 29, op := Go.Op.load 46 (Go.Operand.tmp 4), type := 46, pos := "l09_routing.go:176", after := #[{ on := 10, ground := Go.Ground.guard }], guard := some (10, false) }) (v := undef) rfl (by kernel_rfl) (by kernel_rfl) (by kernel_rfl) (fun _ _ _ h => h) (Or.inr ⟨by rfl, rfl⟩) (by assumption) ?_
          try simp only [Act.put, List.setIfInBounds_toArray, List.set_cons_zero, List.set_cons_succ]
          refine wpAnyH_take (i := 15) (oi := { dst := some 30, op := Go.Op.call { callee := Go.Callee.value (Go.Operand.func 33), args := #[Go.Operand.tmp 28, Go.Operand.tmp 29], argTypes := #[24, 46] }, type := 4, pos := "l09_routing.go:176", after := #[{ on := 13, ground := Go.Ground.data }, { on := 14, ground := Go.Ground.data }, { on := 10, ground := Go.Ground.chain }, { on := 10, ground := Go.Ground.guard }], guard := some (10, false) }) (v := undef) rfl (by kernel_rfl) (by kernel_rfl) (by kernel_rfl) (fun _ _ _ h => h) (Or.inr ⟨by rfl, rfl⟩) (by assumption) ?_
          try simp only [Act.put, List.setIfInBounds_toArray, List.set_cons_zero, List.set_cons_succ]
          refine wpAnyH_take (i := 16) (oi := { dst := some 31, op := Go.Op.pick (Go.Operand.tmp 25) (Go.Operand.const (Go.Value.bool true)) (Go.Operand.tmp 30), type := 4, pos := "l09_routing.go:176", after := #[{ on := 10, ground := Go.Ground.data }, { on := 15, ground := Go.Ground.data }], guard := none }) (v := ?_) rfl (by kernel_rfl) (by kernel_rfl) (by kernel_rfl) (fun _ _ _ h => h) (Or.inl ⟨by rfl, ?_⟩) (by assumption) ?_
          rotate_left 1
          · (intro w hSw; (try dsimp only at hSw); go_simp); all_goals (with_reducible rfl)
          try simp only [Act.put, List.setIfInBounds_toArray, List.set_cons_zero, List.set_cons_succ]
          refine wpAnyH_done (by kernel_rfl) ?_ _
          go_wp2_with fail
          go_ret
          exact ⟨ans_no NK.out, hHeld.2.2.2.out⟩
        · cases b2
          · have NK : Hid (¬ Ok L) := HG.out (by first | rfl | trivial)
            go_wp2_with fail
            refine wp_region_held_drew (S := fun w' => w'.cell? ⟨wr.heap.size, 0, none⟩ = some (.string y0) ∧ w'.cell? ⟨wr.heap.size, 1, none⟩ = some (.int .i64 y1) ∧ Hid (wr.heap.size < w'.heap.size) ∧ Hid (Below w.heap.size w w')) (by kernel_rfl) (by (try dsimp only); (first | exact K0.out | exact K3.out | exact hHeld)) (fun hHeld => ?_)
            refine wpAnyH_take (i := 0) (oi := { dst := some 15, op := Go.Op.fieldAddr 46 (Go.Operand.tmp 4) 0, type := 0, pos := "l09_routing.go:176", after := #[], guard := none }) (v := ?_) rfl (by kernel_rfl) (by kernel_rfl) (by kernel_rfl) (fun _ _ _ h => h) (Or.inl ⟨by rfl, ?_⟩) (by assumption) ?_
            rotate_left 1
            · (intro w hSw; (try dsimp only at hSw); go_simp); all_goals (with_reducible rfl)
            try simp only [Act.put, List.setIfInBounds_toArray, List.set_cons_zero, List.set_cons_succ]
            refine wpAnyH_take (i := 1) (oi := { dst := some 16, op := Go.Op.load 9 (Go.Operand.tmp 15), type := 9, pos := "l09_routing.go:176", after := #[{ on := 0, ground := Go.Ground.data }], guard := none }) (v := ?_) rfl (by kernel_rfl) (by kernel_rfl) (by kernel_rfl) (fun _ _ _ h => h) (Or.inl ⟨by rfl, ?_⟩) (by assumption) ?_
            rotate_left 1
            · (intro w hSw; (try dsimp only at hSw); go_simp); all_goals (with_reducible rfl)
            try simp only [Act.put, List.setIfInBounds_toArray, List.set_cons_zero, List.set_cons_succ]
            refine wpAnyH_ready (rs := [2]) (by kernel_rfl) (by simp) ?_
            refine AllReadyH.cons (o := { dst := some 17, op := Go.Op.call { callee := Go.Callee.value (Go.Operand.func 31), args := #[Go.Operand.tmp 16, Go.Operand.const (Go.Value.int Go.IntKind.i64 2)], argTypes := #[9, 3] }, type := 4, pos := "l09_routing.go:176", after := #[{ on := 1, ground := Go.Ground.data }], guard := none }) rfl (fun K hK => ?_) AllReadyH.nil
            go_simp
            refine (C1.out _).mono ?_; rintro e w1 ⟨rfl, hw1⟩; subst hw1
            go_wp2_with fail
            refine hK.out _ _ (by (try dsimp only); (first | exact K0.out | exact K3.out | exact hHeld)) (fun hHeld2 => ?_)
            clear hK K hHeld
            have hHeld := hHeld2
            clear hHeld2
            try simp only [Act.put, List.setIfInBounds_toArray, List.set_cons_zero, List.set_cons_succ]
            refine wpAnyH_take (i := 3) (oi := { dst := some 18, op := Go.Op.unOp Go.UnOp.not 4 (Go.Operand.tmp 17), type := 4, pos := "l09_routing.go:176", after := #[{ on := 2, ground := Go.Ground.data }], guard := none }) (v := ?_) rfl (by kernel_rfl) (by kernel_rfl) (by kernel_rfl) (fun _ _ _ h => h) (Or.inl ⟨by rfl, ?_⟩) (by assumption) ?_
            rotate_left 1
            · (intro w hSw; (try dsimp only at hSw); go_simp); all_goals (with_reducible rfl)
            try simp only [Act.put, List.setIfInBounds_toArray, List.set_cons_zero, List.set_cons_succ]
            refine wpAnyH_take (i := 4) (oi := { dst := some 19, op := Go.Op.move (Go.Operand.tmp 18), type := 4, pos := "l09_routing.go:176", after := #[{ on := 3, ground := Go.Ground.data }, { on := 2, ground := Go.Ground.chain }], guard := none }) (v := ?_) rfl (by kernel_rfl) (by kernel_rfl) (by kernel_rfl) (fun _ _ _ h => h) (Or.inl ⟨by rfl, ?_⟩) (by assumption) ?_
            rotate_left 1
            · (intro w hSw; (try dsimp only at hSw); go_simp); all_goals (with_reducible rfl)
            try simp only [Act.put, List.setIfInBounds_toArray, List.set_cons_zero, List.set_cons_succ]
            refine wpAnyH_take (i := 5) (oi := { dst := some 20, op := Go.Op.fieldAddr 46 (Go.Operand.tmp 4) 1, type := 0, pos := "l09_routing.go:176", after := #[{ on := 4, ground := Go.Ground.guard }], guard := some (4, false) }) (v := ?_) rfl (by kernel_rfl) (by kernel_rfl) (by kernel_rfl) (fun _ _ _ h => h) (Or.inl ⟨by rfl, ?_⟩) (by assumption) ?_
            rotate_left 1
            · (intro w hSw; (try dsimp only at hSw); go_simp); all_goals (with_reducible rfl)
            try simp only [Act.put, List.setIfInBounds_toArray, List.set_cons_zero, List.set_cons_succ]
            refine wpAnyH_take (i := 6) (oi := { dst := some 21, op := Go.Op.load 2 (Go.Operand.tmp 20), type := 2, pos := "l09_routing.go:176", after := #[{ on := 5, ground := Go.Ground.data }, { on := 4, ground := Go.Ground.guard }], guard := some (4, false) }) (v := ?_) rfl (by kernel_rfl) (by kernel_rfl) (by kernel_rfl) (fun _ _ _ h => h) (Or.inl ⟨by rfl, ?_⟩) (by assumption) ?_
            rotate_left 1
            · (intro w hSw; (try dsimp only at hSw); go_simp); all_goals (with_reducible rfl)
            try simp only [Act.put, List.setIfInBounds_toArray, List.set_cons_zero, List.set_cons_succ]
            refine wpAnyH_ready (rs := [7]) (by kernel_rfl) (by simp) ?_
            refine AllReadyH.cons (o := { dst := some 22, op := Go.Op.call { callee := Go.Callee.value (Go.Operand.func 32), args := #[Go.Operand.tmp 21, Go.Operand.const (Go.Value.int Go.IntKind.i64 1), Go.Operand.const (Go.Value.int Go.IntKind.i64 1000)], argTypes := #[2, 2, 2] }, type := 4, pos := "l09_routing.go:176", after := #[{ on := 6, ground := Go.Ground.data }, { on := 4, ground := Go.Ground.chain }, { on := 4, ground := Go.Ground.guard }], guard := some (4, false) }) rfl (fun K hK => ?_) AllReadyH.nil
            go_simp
            refine (C2.out _).mono ?_; rintro e w1 ⟨rfl, hw1⟩; subst hw1
            go_wp2_with fail
            refine hK.out _ _ (by (try dsimp only); (first | exact K0.out | exact K3.out | exact hHeld)) (fun hHeld2 => ?_)
            clear hK K hHeld
            have hHeld := hHeld2
            clear hHeld2
            try simp only [Act.put, List.setIfInBounds_toArray, List.set_cons_zero, List.set_cons_succ]
            refine wpAnyH_take (i := 8) (oi := { dst := some 23, op := Go.Op.unOp Go.UnOp.not 4 (Go.Operand.tmp 22), type := 4, pos := "l09_routing.go:176", after := #[{ on := 7, ground := Go.Ground.data }, { on := 4, ground := Go.Ground.guard }], guard := some (4, false) }) (v := ?_) rfl (by kernel_rfl) (by kernel_rfl) (by kernel_rfl) (fun _ _ _ h => h) (Or.inl ⟨by rfl, ?_⟩) (by assumption) ?_
            rotate_left 1
            · (intro w hSw; (try dsimp only at hSw); go_simp); all_goals (with_reducible rfl)
            try simp only [Act.put, List.setIfInBounds_toArray, List.set_cons_zero, List.set_cons_succ]
            refine wpAnyH_take (i := 9) (oi := { dst := some 24, op := Go.Op.pick (Go.Operand.tmp 19) (Go.Operand.const (Go.Value.bool true)) (Go.Operand.tmp 23), type := 4, pos := "l09_routing.go:176", after := #[{ on := 4, ground := Go.Ground.data }, { on := 8, ground := Go.Ground.data }], guard := none }) (v := ?_) rfl (by kernel_rfl) (by kernel_rfl) (by kernel_rfl) (fun _ _ _ h => h) (Or.inl ⟨by rfl, ?_⟩) (by assumption) ?_
            rotate_left 1
            · (intro w hSw; (try dsimp only at hSw); go_simp); all_goals (with_reducible rfl)
            try simp only [Act.put, List.setIfInBounds_toArray, List.set_cons_zero, List.set_cons_succ]
            refine wpAnyH_take (i := 10) (oi := { dst := some 25, op := Go.Op.move (Go.Operand.tmp 24), type := 4, pos := "l09_routing.go:176", after := #[{ on := 9, ground := Go.Ground.data }, { on := 7, ground := Go.Ground.chain }], guard := none }) (v := ?_) rfl (by kernel_rfl) (by kernel_rfl) (by kernel_rfl) (fun _ _ _ h => h) (Or.inl ⟨by rfl, ?_⟩) (by assumption) ?_
            rotate_left 1
            · (intro w hSw; (try dsimp only at hSw); go_simp); all_goals (with_reducible rfl)
            try simp only [Act.put, List.setIfInBounds_toArray, List.set_cons_zero, List.set_cons_succ]
            refine wpAnyH_take (i := 11) (oi := { dst := some 26, op := Go.Op.move (Go.Operand.tmp 0), type := 24, pos := "l09_routing.go:176", after := #[{ on := 10, ground := Go.Ground.guard }], guard := some (10, false) }) (v := undef) rfl (by kernel_rfl) (by kernel_rfl) (by kernel_rfl) (fun _ _ _ h => h) (Or.inr ⟨by rfl, rfl⟩) (by assumption) ?_
            try simp only [Act.put, List.setIfInBounds_toArray, List.set_cons_zero, List.set_cons_succ]
            refine wpAnyH_take (i := 12) (oi := { dst := some 27, op := Go.Op.move (Go.Operand.tmp 3), type := 3, pos := "l09_routing.go:176", after := #[{ on := 10, ground := Go.Ground.guard }], guard := some (10, false) }) (v := undef) rfl (by kernel_rfl) (by kernel_rfl) (by kernel_rfl) (fun _ _ _ h => h) (Or.inr ⟨by rfl, rfl⟩) (by assumption) ?_
            try simp only [Act.put, List.setIfInBounds_toArray, List.set_cons_zero, List.set_cons_succ]
            refine wpAnyH_take (i := 13) (oi := { dst := some 28, op := Go.Op.slice 24 (Go.Operand.tmp 26) none (some (Go.Operand.tmp 27)) none, type := 24, pos := "l09_routing.go:176", after := #[{ on := 11, ground := Go.Ground.data }, { on := 12, ground := Go.Ground.data }, { on := 10, ground := Go.Ground.guard }], guard := some (10, false) }) (v := undef) rfl (by kernel_rfl) (by kernel_rfl) (by kernel_rfl) (fun _ _ _ h => h) (Or.inr ⟨by rfl, rfl⟩) (by assumption) ?_
            try simp only [Act.put, List.setIfInBounds_toArray, List.set_cons_zero, List.set_cons_succ]
            refine wpAnyH_take (i := 14) (oi := { dst := some 29, op := Go.Op.load 46 (Go.Operand.tmp 4), type := 46, pos := "l09_routing.go:176", after := #[{ on := 10, ground := Go.Ground.guard }], guard := some (10, false) }) (v := undef) rfl (by kernel_rfl) (by kernel_rfl) (by kernel_rfl) (fun _ _ _ h => h) (Or.inr ⟨by rfl, rfl⟩) (by assumption) ?_
            try simp only [Act.put, List.setIfInBounds_toArray, List.set_cons_zero, List.set_cons_succ]
            refine wpAnyH_take (i := 15) (oi := { dst := some 30, op := Go.Op.call { callee := Go.Callee.value (Go.Operand.func 33), args := #[Go.Operand.tmp 28, Go.Operand.tmp 29], argTypes := #[24, 46] }, type := 4, pos := "l09_routing.go:176", after := #[{ on := 13, ground := Go.Ground.data }, { on := 14, ground := Go.Ground.data }, { on := 10, ground := Go.Ground.chain }, { on := 10, ground := Go.Ground.guard }], guard := some (10, false) }) (v := undef) rfl (by kernel_rfl) (by kernel_rfl) (by kernel_rfl) (fun _ _ _ h => h) (Or.inr ⟨by rfl, rfl⟩) (by assumption) ?_
            try simp only [Act.put, List.setIfInBounds_toArray, List.set_cons_zero, List.set_cons_succ]
            refine wpAnyH_take (i := 16) (oi := { dst := some 31, op := Go.Op.pick (Go.Operand.tmp 25) (Go.Operand.const (Go.Value.bool true)) (Go.Operand.tmp 30), type := 4, pos := "l09_routing.go:176", after := #[{ on := 10, ground := Go.Ground.data }, { on := 15, ground := Go.Ground.data }], guard := none }) (v := ?_) rfl (by kernel_rfl) (by kernel_rfl) (by kernel_rfl) (fun _ _ _ h => h) (Or.inl ⟨by rfl, ?_⟩) (by assumption) ?_
            rotate_left 1
            · (intro w hSw; (try dsimp only at hSw); go_simp); all_goals (with_reducible rfl)
            try simp only [Act.put, List.setIfInBounds_toArray, List.set_cons_zero, List.set_cons_succ]
            refine wpAnyH_done (by kernel_rfl) ?_ _
            go_wp2_with fail
            go_ret
            exact ⟨ans_no NK.out, hHeld.2.2.2.out⟩
          · go_wp2_with fail
            refine wp_region_held_drew (S := fun w' => w'.cell? ⟨wr.heap.size, 0, none⟩ = some (.string y0) ∧ w'.cell? ⟨wr.heap.size, 1, none⟩ = some (.int .i64 y1) ∧ Hid (wr.heap.size < w'.heap.size) ∧ Hid (Below w.heap.size w w')) (by kernel_rfl) (by (try dsimp only); (first | exact K0.out | exact K3.out | exact hHeld)) (fun hHeld => ?_)
            refine wpAnyH_take (i := 0) (oi := { dst := some 15, op := Go.Op.fieldAddr 46 (Go.Operand.tmp 4) 0, type := 0, pos := "l09_routing.go:176", after := #[], guard := none }) (v := ?_) rfl (by kernel_rfl) (by kernel_rfl) (by kernel_rfl) (fun _ _ _ h => h) (Or.inl ⟨by rfl, ?_⟩) (by assumption) ?_
            rotate_left 1
            · (intro w hSw; (try dsimp only at hSw); go_simp); all_goals (with_reducible rfl)
            try simp only [Act.put, List.setIfInBounds_toArray, List.set_cons_zero, List.set_cons_succ]
            refine wpAnyH_take (i := 1) (oi := { dst := some 16, op := Go.Op.load 9 (Go.Operand.tmp 15), type := 9, pos := "l09_routing.go:176", after := #[{ on := 0, ground := Go.Ground.data }], guard := none }) (v := ?_) rfl (by kernel_rfl) (by kernel_rfl) (by kernel_rfl) (fun _ _ _ h => h) (Or.inl ⟨by rfl, ?_⟩) (by assumption) ?_
            rotate_left 1
            · (intro w hSw; (try dsimp only at hSw); go_simp); all_goals (with_reducible rfl)
            try simp only [Act.put, List.setIfInBounds_toArray, List.set_cons_zero, List.set_cons_succ]
            refine wpAnyH_ready (rs := [2]) (by kernel_rfl) (by simp) ?_
            refine AllReadyH.cons (o := { dst := some 17, op := Go.Op.call { callee := Go.Callee.value (Go.Operand.func 31), args := #[Go.Operand.tmp 16, Go.Operand.const (Go.Value.int Go.IntKind.i64 2)], argTypes := #[9, 3] }, type := 4, pos := "l09_routing.go:176", after := #[{ on := 1, ground := Go.Ground.data }], guard := none }) rfl (fun K hK => ?_) AllReadyH.nil
            go_simp
            refine (C1.out _).mono ?_; rintro e w1 ⟨rfl, hw1⟩; subst hw1
            go_wp2_with fail
            refine hK.out _ _ (by (try dsimp only); (first | exact K0.out | exact K3.out | exact hHeld)) (fun hHeld2 => ?_)
            clear hK K hHeld
            have hHeld := hHeld2
            clear hHeld2
            try simp only [Act.put, List.setIfInBounds_toArray, List.set_cons_zero, List.set_cons_succ]
            refine wpAnyH_take (i := 3) (oi := { dst := some 18, op := Go.Op.unOp Go.UnOp.not 4 (Go.Operand.tmp 17), type := 4, pos := "l09_routing.go:176", after := #[{ on := 2, ground := Go.Ground.data }], guard := none }) (v := ?_) rfl (by kernel_rfl) (by kernel_rfl) (by kernel_rfl) (fun _ _ _ h => h) (Or.inl ⟨by rfl, ?_⟩) (by assumption) ?_
            rotate_left 1
            · (intro w hSw; (try dsimp only at hSw); go_simp); all_goals (with_reducible rfl)
            try simp only [Act.put, List.setIfInBounds_toArray, List.set_cons_zero, List.set_cons_succ]
            refine wpAnyH_take (i := 4) (oi := { dst := some 19, op := Go.Op.move (Go.Operand.tmp 18), type := 4, pos := "l09_routing.go:176", after := #[{ on := 3, ground := Go.Ground.data }, { on := 2, ground := Go.Ground.chain }], guard := none }) (v := ?_) rfl (by kernel_rfl) (by kernel_rfl) (by kernel_rfl) (fun _ _ _ h => h) (Or.inl ⟨by rfl, ?_⟩) (by assumption) ?_
            rotate_left 1
            · (intro w hSw; (try dsimp only at hSw); go_simp); all_goals (with_reducible rfl)
            try simp only [Act.put, List.setIfInBounds_toArray, List.set_cons_zero, List.set_cons_succ]
            refine wpAnyH_take (i := 5) (oi := { dst := some 20, op := Go.Op.fieldAddr 46 (Go.Operand.tmp 4) 1, type := 0, pos := "l09_routing.go:176", after := #[{ on := 4, ground := Go.Ground.guard }], guard := some (4, false) }) (v := ?_) rfl (by kernel_rfl) (by kernel_rfl) (by kernel_rfl) (fun _ _ _ h => h) (Or.inl ⟨by rfl, ?_⟩) (by assumption) ?_
            rotate_left 1
            · (intro w hSw; (try dsimp only at hSw); go_simp); all_goals (with_reducible rfl)
            try simp only [Act.put, List.setIfInBounds_toArray, List.set_cons_zero, List.set_cons_succ]
            refine wpAnyH_take (i := 6) (oi := { dst := some 21, op := Go.Op.load 2 (Go.Operand.tmp 20), type := 2, pos := "l09_routing.go:176", after := #[{ on := 5, ground := Go.Ground.data }, { on := 4, ground := Go.Ground.guard }], guard := some (4, false) }) (v := ?_) rfl (by kernel_rfl) (by kernel_rfl) (by kernel_rfl) (fun _ _ _ h => h) (Or.inl ⟨by rfl, ?_⟩) (by assumption) ?_
            rotate_left 1
            · (intro w hSw; (try dsimp only at hSw); go_simp); all_goals (with_reducible rfl)
            try simp only [Act.put, List.setIfInBounds_toArray, List.set_cons_zero, List.set_cons_succ]
            refine wpAnyH_ready (rs := [7]) (by kernel_rfl) (by simp) ?_
            refine AllReadyH.cons (o := { dst := some 22, op := Go.Op.call { callee := Go.Callee.value (Go.Operand.func 32), args := #[Go.Operand.tmp 21, Go.Operand.const (Go.Value.int Go.IntKind.i64 1), Go.Operand.const (Go.Value.int Go.IntKind.i64 1000)], argTypes := #[2, 2, 2] }, type := 4, pos := "l09_routing.go:176", after := #[{ on := 6, ground := Go.Ground.data }, { on := 4, ground := Go.Ground.chain }, { on := 4, ground := Go.Ground.guard }], guard := some (4, false) }) rfl (fun K hK => ?_) AllReadyH.nil
            go_simp
            refine (C2.out _).mono ?_; rintro e w1 ⟨rfl, hw1⟩; subst hw1
            go_wp2_with fail
            refine hK.out _ _ (by (try dsimp only); (first | exact K0.out | exact K3.out | exact hHeld)) (fun hHeld2 => ?_)
            clear hK K hHeld
            have hHeld := hHeld2
            clear hHeld2
            try simp only [Act.put, List.setIfInBounds_toArray, List.set_cons_zero, List.set_cons_succ]
            refine wpAnyH_take (i := 8) (oi := { dst := some 23, op := Go.Op.unOp Go.UnOp.not 4 (Go.Operand.tmp 22), type := 4, pos := "l09_routing.go:176", after := #[{ on := 7, ground := Go.Ground.data }, { on := 4, ground := Go.Ground.guard }], guard := some (4, false) }) (v := ?_) rfl (by kernel_rfl) (by kernel_rfl) (by kernel_rfl) (fun _ _ _ h => h) (Or.inl ⟨by rfl, ?_⟩) (by assumption) ?_
            rotate_left 1
            · (intro w hSw; (try dsimp only at hSw); go_simp); all_goals (with_reducible rfl)
            try simp only [Act.put, List.setIfInBounds_toArray, List.set_cons_zero, List.set_cons_succ]
            refine wpAnyH_take (i := 9) (oi := { dst := some 24, op := Go.Op.pick (Go.Operand.tmp 19) (Go.Operand.const (Go.Value.bool true)) (Go.Operand.tmp 23), type := 4, pos := "l09_routing.go:176", after := #[{ on := 4, ground := Go.Ground.data }, { on := 8, ground := Go.Ground.data }], guard := none }) (v := ?_) rfl (by kernel_rfl) (by kernel_rfl) (by kernel_rfl) (fun _ _ _ h => h) (Or.inl ⟨by rfl, ?_⟩) (by assumption) ?_
            rotate_left 1
            · (intro w hSw; (try dsimp only at hSw); go_simp); all_goals (with_reducible rfl)
            try simp only [Act.put, List.setIfInBounds_toArray, List.set_cons_zero, List.set_cons_succ]
            refine wpAnyH_take (i := 10) (oi := { dst := some 25, op := Go.Op.move (Go.Operand.tmp 24), type := 4, pos := "l09_routing.go:176", after := #[{ on := 9, ground := Go.Ground.data }, { on := 7, ground := Go.Ground.chain }], guard := none }) (v := ?_) rfl (by kernel_rfl) (by kernel_rfl) (by kernel_rfl) (fun _ _ _ h => h) (Or.inl ⟨by rfl, ?_⟩) (by assumption) ?_
            rotate_left 1
            · (intro w hSw; (try dsimp only at hSw); go_simp); all_goals (with_reducible rfl)
            try simp only [Act.put, List.setIfInBounds_toArray, List.set_cons_zero, List.set_cons_succ]
            refine wpAnyH_take (i := 11) (oi := { dst := some 26, op := Go.Op.move (Go.Operand.tmp 0), type := 24, pos := "l09_routing.go:176", after := #[{ on := 10, ground := Go.Ground.guard }], guard := some (10, false) }) (v := ?_) rfl (by kernel_rfl) (by kernel_rfl) (by kernel_rfl) (fun _ _ _ h => h) (Or.inl ⟨by rfl, ?_⟩) (by assumption) ?_
            rotate_left 1
            · (intro w hSw; (try dsimp only at hSw); go_simp); all_goals (with_reducible rfl)
            try simp only [Act.put, List.setIfInBounds_toArray, List.set_cons_zero, List.set_cons_succ]
            refine wpAnyH_take (i := 12) (oi := { dst := some 27, op := Go.Op.move (Go.Operand.tmp 3), type := 3, pos := "l09_routing.go:176", after := #[{ on := 10, ground := Go.Ground.guard }], guard := some (10, false) }) (v := ?_) rfl (by kernel_rfl) (by kernel_rfl) (by kernel_rfl) (fun _ _ _ h => h) (Or.inl ⟨by rfl, ?_⟩) (by assumption) ?_
            rotate_left 1
            · (intro w hSw; (try dsimp only at hSw); go_simp); all_goals (with_reducible rfl)
            try simp only [Act.put, List.setIfInBounds_toArray, List.set_cons_zero, List.set_cons_succ]
            refine wpAnyH_take (i := 13) (oi := { dst := some 28, op := Go.Op.slice 24 (Go.Operand.tmp 26) none (some (Go.Operand.tmp 27)) none, type := 24, pos := "l09_routing.go:176", after := #[{ on := 11, ground := Go.Ground.data }, { on := 12, ground := Go.Ground.data }, { on := 10, ground := Go.Ground.guard }], guard := some (10, false) }) (v := ?_) rfl (by kernel_rfl) (by kernel_rfl) (by kernel_rfl) (fun _ _ _ h => h) (Or.inl ⟨by rfl, ?_⟩) (by assumption) ?_
            rotate_left 1
            · (intro w hSw; (try dsimp only at hSw); go_simp); all_goals (with_reducible rfl)
            try simp only [Act.put, List.setIfInBounds_toArray, List.set_cons_zero, List.set_cons_succ]
            refine wpAnyH_take (i := 14) (oi := { dst := some 29, op := Go.Op.load 46 (Go.Operand.tmp 4), type := 46, pos := "l09_routing.go:176", after := #[{ on := 10, ground := Go.Ground.guard }], guard := some (10, false) }) (v := ?_) rfl (by kernel_rfl) (by kernel_rfl) (by kernel_rfl) (fun _ _ _ h => h) (Or.inl ⟨by rfl, ?_⟩) (by assumption) ?_
            rotate_left 1
            · (intro w hSw; (try dsimp only at hSw); go_simp); all_goals (with_reducible rfl)
            try simp only [Act.put, List.setIfInBounds_toArray, List.set_cons_zero, List.set_cons_succ]
            refine wpAnyH_ready (rs := [15]) (by kernel_rfl) (by simp) ?_
            refine AllReadyH.cons (o := { dst := some 30, op := Go.Op.call { callee := Go.Callee.value (Go.Operand.func 33), args := #[Go.Operand.tmp 28, Go.Operand.tmp 29], argTypes := #[24, 46] }, type := 4, pos := "l09_routing.go:176", after := #[{ on := 13, ground := Go.Ground.data }, { on := 14, ground := Go.Ground.data }, { on := 10, ground := Go.Ground.chain }, { on := 10, ground := Go.Ground.guard }], guard := some (10, false) }) rfl (fun K hK => ?_) AllReadyH.nil
            go_simp
            have KP := hHeld; refine (C3.out _ KP.2.2.2.out).mono ?_; rintro e w1 ⟨⟨q, rfl, hq⟩, hb⟩; have HQ : Hid (q = true ↔ P) := hq; have K3 : Hid (w1.cell? ⟨wr.heap.size, 0, none⟩ = some (.string y0) ∧ w1.cell? ⟨wr.heap.size, 1, none⟩ = some (.int .i64 y1) ∧ Hid (wr.heap.size < w1.heap.size) ∧ Hid (Below w.heap.size w w1)) := ⟨(hb.cell (p := ⟨wr.heap.size, 0, none⟩) KP.2.2.1.out).trans KP.1, (hb.cell (p := ⟨wr.heap.size, 1, none⟩) KP.2.2.1.out).trans KP.2.1, Nat.lt_of_lt_of_le KP.2.2.1.out hb.size, KP.2.2.2.out.trans (hb.mono KP.2.2.2.out.size)⟩; clear hq hb KP
            go_wp2_with fail
            refine hK.out _ _ (by (try dsimp only); (first | exact K0.out | exact K3.out | exact hHeld)) (fun hHeld2 => ?_)
            clear hK K hHeld
            have hHeld := hHeld2
            clear hHeld2
            try simp only [Act.put, List.setIfInBounds_toArray, List.set_cons_zero, List.set_cons_succ]
            refine wpAnyH_take (i := 16) (oi := { dst := some 31, op := Go.Op.pick (Go.Operand.tmp 25) (Go.Operand.const (Go.Value.bool true)) (Go.Operand.tmp 30), type := 4, pos := "l09_routing.go:176", after := #[{ on := 10, ground := Go.Ground.data }, { on := 15, ground := Go.Ground.data }], guard := none }) (v := ?_) rfl (by kernel_rfl) (by kernel_rfl) (by kernel_rfl) (fun _ _ _ h => h) (Or.inl ⟨by rfl, ?_⟩) (by assumption) ?_
            rotate_left 1
            · (intro w hSw; (try dsimp only at hSw); go_simp); all_goals (with_reducible rfl)
            try simp only [Act.put, List.setIfInBounds_toArray, List.set_cons_zero, List.set_cons_succ]
            refine wpAnyH_done (by kernel_rfl) ?_ _
            cases q
            · have NX : Hid (∀ j, j < k + 1 → r1 L j ∧ ∀ q, q < j → ¬ (c0 L q = c0 L j ∧ c1 L q = c1 L j)) := HN.out (by first | rfl | trivial) (by first | rfl | trivial) (fun h => by have := HQ.out.2 h; cases this)
              go_wp2_with fail
              go_roundw
              case rel => exact ⟨k + 1, by omega, by go_num, hHeld.2.2.2.out, NX⟩
              case measure => simp [intOf]; omega
            · have NK : Hid (¬ Ok L) := HH.out (HQ.out.1 (by first | rfl | trivial))
              go_wp2_with fail
              go_ret
              exact ⟨ans_no NK.out, hHeld.2.2.2.out⟩
      · have YK : Hid (Ok L) := ⟨by rw [← HM.out]; exact hl, fun i hi => NB.out i (by rw [← HM.out] at hi; omega)⟩
        have j1 : ¬ (k : Int) < (m : Int) := by omega
        go_wp2_with fail
        go_ret
        exact ⟨ans_yes YK.out, BB.out⟩
  · have j0 : 60 < (m : Int) := by omega
    have HN : Hid (¬ Ok L) := fun h => hl (by rw [HM.out]; exact h.1)
    go_enter Try.func17, Try.ntmps17
    go_wp2_with fail
    go_ret
    exact ⟨ans_no HN.out, Below.refl _ _⟩
end Go.Proofs.Ytmmhmbbfeecloaa.Ro
