/- The program's ReadRuns: what unpack gives up is caught. -/
import Derived.Test.YtmopkbkdfipglaaUp
namespace Go.Proofs.Ytmopkbkdfipglaa.Lists
open Go.ChangeShapes Go.WideShapes Go.ChangeAt Go.RowKit
open Go.Proofs.Ytmopkbkdfipglaa.Bytes (bys)

theorem catchr_idle (p : Addr) (w : World) :
    CallsD Try.prog 44 #[.pointer (some p)] .returning w fun e u' w' => e = .returned (.tuple #[]) ∧ u' = .returning ∧ w' = w := by
  refine callsD_of_wpS Try.func44 rfl fun c₀ cs hu => ?_
  apply wpS_seq
  apply wpS_region
  simp [wpOpsS, go_sem, recoverD, hu, Try.ntmps44, Exit.thenS]
  have hne : ∀ w, (binOp .neq 20 .nilIface .nilIface).run Try.prog w = .ok (.bool false) w := fun _ => by kernel_rfl
  apply wpS_seq
  apply wpS_region
  simp [wpOpsS, go_sem, Exit.thenS, hne]
  refine wpS_cond (t := false) (by simp [Act.eval, Array.replicate]) ?_
  simp only [Bool.false_eq_true, if_false]
  refine wpS_of_wp (wp_skip ?_)
  cases c₀
  simp_all [bodyPostS, results, Try.results44]
theorem catchr_up (p : Nat) (w : World) (c : Int) (hp : w.cell? ⟨p, 0, none⟩ = some (.int .i64 0)) (hf : w.frozen? ⟨p, 0, none⟩ = false) :
    CallsD Try.prog 44 #[.pointer (some ⟨p, 0, none⟩)] (.panicking (upc c)) w fun e u' w' => e = .returned (.tuple #[]) ∧ u' = .panicking [{ v := .iface 73 (.int .i64 c), recovered := true }] ∧ w' = w.setCell ⟨p, 0, none⟩ (.int .i64 c) := by
  refine callsD_of_wpS Try.func44 rfl fun c₀ cs hu => ?_
  unfold upc at hu
  apply wpS_seq
  apply wpS_region
  simp [wpOpsS, go_sem, recoverD, hu, Try.ntmps44, Exit.thenS]
  have hne : ∀ w, (binOp .neq 20 (.iface 73 (.int .i64 c)) .nilIface).run Try.prog w = .ok (.bool true) w := fun _ => by kernel_rfl
  apply wpS_seq
  apply wpS_region
  simp [wpOpsS, go_sem, Exit.thenS, hne]
  refine wpS_cond (t := true) (by simp [Act.eval, Array.replicate]) ?_
  simp only [if_true]
  have hta : ∀ w, (Instr.typeAssert (.iface 73 (.int .i64 c)) 20 73 false).run Try.prog w = .ok (.int .i64 c) w := fun _ => by kernel_rfl
  refine wpS_of_wp ?_
  simp [Array.replicate]
  go_wp2_with fail
  cases c₀
  simp_all [bodyPostS, results, Try.results44]
def UCo (w : World) (D : List Int) (e : Ending) (w' : World) : Prop :=
  Below w.heap.size w w' ∧ ((∃ L v', RD D L ∧ e = .returned (.tuple #[v', .int .i64 0]) ∧ w'.ownsRow w.heap.size 2 1 v' L.length (ints L)) ∨ ((∀ L, ¬ RD D L) ∧ ∃ c : Int, (c = 1 ∨ c = 2 ∨ c = 3) ∧ e = .returned (.tuple #[.slice none 0 0, .int .i64 c])))
def fnU : Value := .func (.method "loop.example/g00051/impl.unpack") #[.iface 42 (.agg #[])] #[]
set_option maxHeartbeats 1000000 in
theorem clor_any (w : World) (p q : Nat) (v : Value) (D : List Int) (hp : w.cell? ⟨p, 0, none⟩ = some fnU) (hq : w.cell? ⟨q, 0, none⟩ = some v) (h : Bytes.Reads w v D) (hD : By D) (hN : D.length ≤ 1048576) :
    Calls Try.prog 42 #[.pointer (some ⟨p, 0, none⟩), .pointer (some ⟨q, 0, none⟩)] w fun e w' => UPo w D e w' := by
  obtain ⟨a, cap, rfl⟩ := h.form
  have P := unpackx_any w _ D h hD hN
  obtain ⟨n, hn⟩ : ∃ n, n = D.length := ⟨_, rfl⟩
  rw [← hn] at P hq
  have HP : Hid (Calls Try.prog 61 #[.agg #[], .slice a n cap] w fun e w' => UPo w D e w') := P
  have hM : ∀ w, (method 200 42 (.agg #[]) "loop.example/g00051/impl.unpack").run Try.prog w = .ok (61, .agg #[]) w := fun _ => by kernel_rfl
  unfold fnU at hp
  clear P h hD hN hn
  go_enter Try.func42, Try.ntmps42
  go_wp2_with fail
  refine HP.out.mono ?_
  rintro e w' ⟨b1, (⟨L, v', r1, rfl, o1⟩ | ⟨n1, c, hc, rfl⟩)⟩
  · have O1 : Hid (w'.ownsRow w.heap.size 2 1 v' L.length (ints L)) := o1
    have B1 : Hid (Below w.heap.size w w') := b1
    have Q1 : Hid (RD D L) := r1
    clear o1 b1 r1
    go_wp2_with fail
    go_ret
    exact ⟨B1.out, .inl ⟨L, _, Q1.out, rfl, O1.out⟩⟩
  · exact ⟨rfl, b1, .inr ⟨n1, c, hc, rfl⟩⟩
set_option maxHeartbeats 1000000 in
theorem caughtr_any (w : World) (p q : Nat) (v : Value) (D : List Int) (hp : w.cell? ⟨p, 0, none⟩ = some fnU) (hq : w.cell? ⟨q, 0, none⟩ = some v) (hp' : p < w.heap.size) (hq' : q < w.heap.size) (h : Bytes.Reads w v D) (hD : By D) (hN : D.length ≤ 1048576) :
    Calls Try.prog 41 #[.func (.func 42) #[] #[.pointer (some ⟨p, 0, none⟩), .pointer (some ⟨q, 0, none⟩)]] w fun e w' => UCo w D e w' := by
  have P := clor_any (w.alloc (.cells #[.int .i64 0] 2)) p q v D (by rw [World.cell?_alloc_lt _ _ _ hp']; exact hp) (by rw [World.cell?_alloc_lt _ _ _ hq']; exact hq) (h.on ((Below.refl _ _).alloc (Nat.le_refl _) _)) hD hN
  have HP : Hid (Calls Try.prog 42 #[.pointer (some ⟨p, 0, none⟩), .pointer (some ⟨q, 0, none⟩)] (w.alloc (.cells #[.int .i64 0] 2)) fun e w' => UPo (w.alloc (.cells #[.int .i64 0] 2)) D e w') := P
  have hmf : ∀ (fn : Fn) (first cap : Array Value) (w : World), (Instr.makeFunc fn first cap).run Try.prog w = .ok (.func fn first cap) w := fun _ _ _ _ => rfl
  have cz : (w.alloc (.cells #[.int .i64 0] 2)).cell? ⟨w.heap.size, 0, none⟩ = some (.int .i64 0) := by simp [go_sem]
  have cf : (w.alloc (.cells #[.int .i64 0] 2)).frozen? ⟨w.heap.size, 0, none⟩ = false := by simp [go_sem]
  clear P h hD hN hp hq
  have B0 : Hid (Below w.heap.size w (w.alloc (.cells #[.int .i64 0] 2))) := (Below.refl _ _).alloc (Nat.le_refl _) _
  have sz : (w.alloc (.cells #[.int .i64 0] 2)).heap.size = w.heap.size + 1 := by simp
  go_enter_defers Try.func41, Try.ntmps41
  go_wp2_with fail
  refine HP.out.mono ?_
  rintro e w1 ⟨b1, (⟨L, v', r1, rfl, o1⟩ | ⟨n1, c, hc, rfl⟩)⟩
  · rw [sz] at o1 b1
    have cz1 : w1.cell? ⟨w.heap.size, 0, none⟩ = some (.int .i64 0) := (b1.cell (p := ⟨w.heap.size, 0, none⟩) (by show w.heap.size < _; omega)).trans cz
    have cf1 : w1.frozen? ⟨w.heap.size, 0, none⟩ = false := (b1.frozen (p := ⟨w.heap.size, 0, none⟩) (by show w.heap.size < _; omega)).trans cf
    have O1 : Hid ((w1.setCell ⟨w.heap.size, 0, none⟩ (.int .i64 0)).ownsRow w.heap.size 2 1 v' L.length (ints L)) := (by
      have h := o1.kept (row := some w.heap.size) (grown_setCell (World.grownBy.refl w1 (some w.heap.size)) 0 (.int .i64 0)) (.inr (fun e => by have := (o1.lt _ e).1; omega))
      exact row_lift h (by omega))
    have B1 : Hid (Below w.heap.size w (w1.setCell ⟨w.heap.size, 0, none⟩ (.int .i64 0))) := (B0.out.trans (b1.mono (by omega))).setCell (p := ⟨w.heap.size, 0, none⟩) (Nat.le_refl _) _
    have cz2 : (w1.setCell ⟨w.heap.size, 0, none⟩ (.int .i64 0)).cell? ⟨w.heap.size, 0, none⟩ = some (.int .i64 0) := (by simp [go_sem, cz1])
    have Q1 : Hid (RD D L) := r1
    clear o1 b1 HP B0 cz cf r1
    go_wp2_with fail
    refine leaves_cons (f := 44) (args := #[.pointer (some ⟨w.heap.size, 0, none⟩)]) (by simp) (by simp [go_sem]) ?_
    refine (catchr_idle ⟨w.heap.size, 0, none⟩ _).mono ?_
    rintro e u' w'' ⟨rfl, rfl, hw⟩
    subst hw
    simp [Leaves, settle, results, Try.results41, go_sem, cz2]
    exact ⟨B1.out, .inl ⟨L, _, Q1.out, rfl, O1.out⟩⟩
  · rw [sz] at b1
    have cz1 : w1.cell? ⟨w.heap.size, 0, none⟩ = some (.int .i64 0) := (b1.cell (p := ⟨w.heap.size, 0, none⟩) (by show w.heap.size < _; omega)).trans cz
    have cf1 : w1.frozen? ⟨w.heap.size, 0, none⟩ = false := (b1.frozen (p := ⟨w.heap.size, 0, none⟩) (by show w.heap.size < _; omega)).trans cf
    have B1 : Hid (Below w.heap.size w (w1.setCell ⟨w.heap.size, 0, none⟩ (.int .i64 c))) := (B0.out.trans (b1.mono (by omega))).setCell (p := ⟨w.heap.size, 0, none⟩) (Nat.le_refl _) _
    have cz2 : (w1.setCell ⟨w.heap.size, 0, none⟩ (.int .i64 c)).cell? ⟨w.heap.size, 0, none⟩ = some (.int .i64 c) := (by simp [go_sem, cz1])
    clear b1 HP B0 cz cf
    refine leaves_cons (f := 44) (args := #[.pointer (some ⟨w.heap.size, 0, none⟩)]) (by simp) (by simp [go_sem]) ?_
    refine (catchr_up w.heap.size w1 c cz1 cf1).mono ?_
    rintro e u' w'' ⟨rfl, rfl, hw⟩
    subst hw
    simp [Leaves, settle, results, Try.results41, go_sem, cz2]
    exact ⟨B1.out, .inr ⟨n1, c, hc, rfl⟩⟩
def RRo (w : World) (D : List Int) (e : Ending) (w' : World) : Prop :=
  Below w.heap.size w w' ∧ ((∃ L v', RD D L ∧ e = .returned (.tuple #[v', .bool true]) ∧ w'.ownsRow w.heap.size 2 1 v' L.length (ints L)) ∨ ((∀ L, ¬ RD D L) ∧ ∃ v', e = .returned (.tuple #[v', .bool false]) ∧ w'.ownsRow w.heap.size 2 1 v' 0 (ints [])))
set_option maxHeartbeats 1000000 in
theorem triedr_any (w : World) (v : Value) (D : List Int) (h : Bytes.Reads w v D) (hD : By D) (hN : D.length ≤ 1048576) :
    Calls Try.prog 34 #[fnU, v] w fun e w' => RRo w D e w' := by
  obtain ⟨a, cap, ev⟩ := h.form
  obtain ⟨w1, hw1⟩ : ∃ w1, w1 = (w.alloc (.cells #[fnU] 36)).alloc (.cells #[v] 23) := ⟨_, rfl⟩
  have b1 : Below w.heap.size w w1 := by rw [hw1]; exact ((Below.refl _ _).alloc (Nat.le_refl _) _).alloc (by simp) _
  have sz : w1.heap.size = w.heap.size + 2 := by rw [hw1]; simp
  have P := caughtr_any w1 w.heap.size (w.heap.size + 1) v D (by rw [hw1]; simp [go_sem]) (by rw [hw1]; simp [go_sem]) (by omega) (by omega) (h.on b1) hD hN
  have HP : Hid (Calls Try.prog 41 #[.func (.func 42) #[] #[.pointer (some ⟨w.heap.size, 0, none⟩), .pointer (some ⟨w.heap.size + 1, 0, none⟩)]] ((w.alloc (.cells #[fnU] 36)).alloc (.cells #[v] 23)) fun e w' => UCo w D e w') := (by
    show Calls _ _ _ _ _
    rw [← hw1]
    refine P.mono fun e w' ⟨h1, h2⟩ => ⟨b1.trans (h1.mono (by omega)), ?_⟩
    rcases h2 with ⟨L, v', q1, q2, q3⟩ | h2
    · exact .inl ⟨L, v', q1, q2, row_lift q3 (by omega)⟩
    · exact .inr h2)
  have hmf : ∀ (fn : Fn) (first cap : Array Value) (w : World), (Instr.makeFunc fn first cap).run Try.prog w = .ok (.func fn first cap) w := fun _ _ _ _ => rfl
  obtain ⟨n, hn⟩ : ∃ n, n = D.length := ⟨_, rfl⟩
  rw [← hn] at ev
  subst ev
  clear P b1 sz hw1 h hD hN hn
  unfold fnU at HP ⊢
  go_enter Try.func34, Try.ntmps34
  go_wp2_with fail
  refine HP.out.mono ?_
  rintro e w2 ⟨b1, (⟨L, v', r1, rfl, o1⟩ | ⟨n1, c, hc, rfl⟩)⟩
  · have O1 : Hid (w2.ownsRow w.heap.size 2 1 v' L.length (ints L)) := o1
    have B1 : Hid (Below w.heap.size w w2) := b1
    have Q1 : Hid (RD D L) := r1
    clear o1 b1 r1
    go_wp2_with fail
    go_ret2
    exact ⟨B1.out, .inl ⟨L, _, Q1.out, rfl, O1.out⟩⟩
  · have B1 : Hid (Below w.heap.size w w2) := b1
    have Q1 : Hid (∀ L, ¬ RD D L) := n1
    have c0 : (c == 0) = false := by rcases hc with rfl | rfl | rfl <;> rfl
    clear b1 n1 hc
    go_wp2_with fail
    go_ret2
    exact ⟨B1.out, .inr ⟨Q1.out, _, rfl, ⟨rfl, .inl ⟨rfl, rfl⟩⟩⟩⟩
set_option maxHeartbeats 1000000 in
theorem iread16_any (w : World) (v : Value) (D : List Int) (h : Bytes.Reads w v D) (hD : By D) (hN : D.length ≤ 1048576) :
    Calls Try.prog 16 #[v] w fun e w' => RRo w D e w' := by
  have HT : Hid (Calls Try.prog 34 #[fnU, v] w fun e w' => RRo w D e w') := triedr_any w v D h hD hN
  have HB : Hid (Calls Try.prog 28 #[.iface 42 (.agg #[]), v] w fun e w' => RRo w D e w') := (by
    show Calls _ _ _ _ _
    have hmf : ∀ (fn : Fn) (first cap : Array Value) (w : World), (Instr.makeFunc fn first cap).run Try.prog w = .ok (.func fn first cap) w := fun _ _ _ _ => rfl
    obtain ⟨a, cap, ev⟩ := h.form
    obtain ⟨n, hn⟩ : ∃ n, n = D.length := ⟨_, rfl⟩
    rw [← hn] at ev
    subst ev
    unfold fnU at HT
    clear h hD hN hn
    go_enter Try.func28, Try.ntmps28
    go_wp2_with fail
    refine HT.out.mono ?_
    rintro e w2 ⟨b1, h2⟩
    have B1 : Hid (Below w.heap.size w w2) := b1
    rcases h2 with ⟨L, v', r1, rfl, o1⟩ | ⟨n1, v', rfl, o1⟩
    · have O1 : Hid (w2.ownsRow w.heap.size 2 1 v' L.length (ints L)) := o1
      have Q1 : Hid (RD D L) := r1
      clear o1 r1 b1
      go_wp2_with fail
      go_ret2
      exact ⟨B1.out, .inl ⟨L, _, Q1.out, rfl, O1.out⟩⟩
    · have O1 : Hid (w2.ownsRow w.heap.size 2 1 v' 0 (ints [])) := o1
      have Q1 : Hid (∀ L, ¬ RD D L) := n1
      clear o1 n1 b1
      go_wp2_with fail
      go_ret2
      exact ⟨B1.out, .inr ⟨Q1.out, _, rfl, O1.out⟩⟩)
  obtain ⟨a, cap, ev⟩ := h.form
  obtain ⟨n, hn⟩ : ∃ n, n = D.length := ⟨_, rfl⟩
  rw [← hn] at ev
  subst ev
  clear h hD hN hn HT
  go_enter Try.func16, Try.ntmps16
  go_wp2_with fail
  refine HB.out.mono ?_
  rintro e w2 ⟨b1, h2⟩
  have B1 : Hid (Below w.heap.size w w2) := b1
  rcases h2 with ⟨L, v', r1, rfl, o1⟩ | ⟨n1, v', rfl, o1⟩
  · have O1 : Hid (w2.ownsRow w.heap.size 2 1 v' L.length (ints L)) := o1
    have Q1 : Hid (RD D L) := r1
    clear o1 r1 b1
    go_wp2_with fail
    go_ret2
    exact ⟨B1.out, .inl ⟨L, _, Q1.out, rfl, O1.out⟩⟩
  · have O1 : Hid (w2.ownsRow w.heap.size 2 1 v' 0 (ints [])) := o1
    have Q1 : Hid (∀ L, ¬ RD D L) := n1
    clear o1 n1 b1
    go_wp2_with fail
    go_ret2
    exact ⟨B1.out, .inr ⟨Q1.out, _, rfl, O1.out⟩⟩
end Go.Proofs.Ytmopkbkdfipglaa.Lists
