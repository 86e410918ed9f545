/- What a Packed's codes stand for, through a method value that is caught. -/
import Derived.Test.YtgajajpcjbpalaaXoU
import Derived.Defers
import Derived.Recover
namespace Go.Proofs.Ytgajajpcjbpalaa.Pkd
open Go.ChangeShapes Go.WideShapes Go.ChangeAt Go.RowKit
open Go.Proofs.Ytgajajpcjbpalaa.Lists

theorem own_down {w : World} {B B' n : Nat} {v : Value} {xs : List Value} (h : w.ownsRow B 2 1 v n xs) (hb : B' ≤ B) : w.ownsRow B' 2 1 v n xs := by
  refine ⟨h.1, ?_⟩
  rcases h.2 with h | ⟨gx, cap, cur, h1, h2, h3⟩
  · exact .inl h
  · exact .inr ⟨gx, cap, cur, h1, by omega, h3⟩

theorem catch_idle (p : Addr) (w : World) :
    CallsD Try.prog 72 #[.pointer (some p)] .returning w fun e u' w' => e = .returned (.tuple #[]) ∧ u' = .returning ∧ w' = w := by
  refine callsD_of_wpS Try.func72 rfl fun c₀ cs hu => ?_
  apply wpS_seq
  apply wpS_region
  simp [wpOpsS, go_sem, recoverD, hu, Try.ntmps72, Exit.thenS]
  have hne : ∀ w, (binOp .neq 20 .nilIface .nilIface).run Try.prog w = .ok (.bool false) w := fun _ => by kernel_rfl
  apply wpS_seq
  apply wpS_region
  simp [wpOpsS, go_sem, Exit.thenS, hne]
  refine wpS_cond (t := false) (by simp [Act.eval, Array.replicate]) ?_
  simp only [Bool.false_eq_true, if_false]
  refine wpS_of_wp (wp_skip ?_)
  cases c₀
  simp_all [bodyPostS, results, Try.results72]

set_option maxHeartbeats 1000000 in
theorem clo_any (w : World) (p q : Nat) (a c r : Int) (b d : Nat) (tv cv : Value) (L : List Int) (hd : d ≤ 41) (hb : b ≤ 24) (hr0 : -1099511627776 ≤ r) (hr1 : r ≤ 1099511627776) (hC : Lists.Reads w cv L) (l2 : L.length ≤ 4096) (hk : L.all (cok (mst b d)) = true) (hp : w.cell? ⟨p, 0, none⟩ = some (.func (.method "loop.example/g00051/impl.unpack") #[.iface 52 (.agg #[.int .i64 (b : Int)])] #[])) (q0 : w.cell? ⟨q, 0, none⟩ = some (.int .i64 a)) (q1 : w.cell? ⟨q, 1, none⟩ = some (.int .i64 c)) (q2 : w.cell? ⟨q, 2, none⟩ = some (.int .i64 r)) (q3 : w.cell? ⟨q, 3, none⟩ = some (.int .i64 (d : Int))) (q4 : w.cell? ⟨q, 4, none⟩ = some (.int .i64 (b : Int))) (q5 : w.cell? ⟨q, 5, none⟩ = some (tv)) (q6 : w.cell? ⟨q, 6, none⟩ = some (cv)) :
    Calls Try.prog 65 #[.pointer (some ⟨p, 0, none⟩), .pointer (some ⟨q, 0, none⟩)] w fun e w' => ∃ v, e = .returned v ∧ w'.ownsRow w.heap.size 2 1 v L.length (ints (whs r d L)) ∧ Below w.heap.size w w' := by
  have P := unp_any a c r b d tv cv L w hd hb hr0 hr1 hC l2 hk
  have HP : Hid (Calls Try.prog 97 #[.agg #[.int .i64 (b : Int)], .agg #[.int .i64 a, .int .i64 c, .int .i64 r, .int .i64 (d : Int), .int .i64 (b : Int), tv, cv]] w fun e w' => ∃ v, e = .returned v ∧ w'.ownsRow w.heap.size 2 1 v L.length (ints (whs r d L)) ∧ Below w.heap.size w w') := P
  have hM : ∀ w, (method 217 52 (.agg #[.int .i64 (b : Int)]) "loop.example/g00051/impl.unpack").run Try.prog w = .ok (97, .agg #[.int .i64 (b : Int)]) w := fun _ => by kernel_rfl
  clear P hC hk
  go_enter Try.func65, Try.ntmps65
  go_wp2_with fail
  refine HP.out.mono ?_
  rintro e w' ⟨v, rfl, o1, b1⟩
  have O1 : Hid (w'.ownsRow w.heap.size 2 1 v L.length (ints (whs r d L))) := o1
  have B1 : Hid (Below w.heap.size w w') := b1
  clear o1 b1
  go_wp2_with fail
  go_ret
  exact ⟨_, rfl, O1.out, B1.out⟩

set_option maxHeartbeats 1000000 in
theorem caught_any (w : World) (p q : Nat) (a c r : Int) (b d : Nat) (tv cv : Value) (L : List Int) (hd : d ≤ 41) (hb : b ≤ 24) (hr0 : -1099511627776 ≤ r) (hr1 : r ≤ 1099511627776) (hC : Lists.Reads w cv L) (l2 : L.length ≤ 4096) (hk : L.all (cok (mst b d)) = true) (hp : w.cell? ⟨p, 0, none⟩ = some (.func (.method "loop.example/g00051/impl.unpack") #[.iface 52 (.agg #[.int .i64 (b : Int)])] #[])) (q0 : w.cell? ⟨q, 0, none⟩ = some (.int .i64 a)) (q1 : w.cell? ⟨q, 1, none⟩ = some (.int .i64 c)) (q2 : w.cell? ⟨q, 2, none⟩ = some (.int .i64 r)) (q3 : w.cell? ⟨q, 3, none⟩ = some (.int .i64 (d : Int))) (q4 : w.cell? ⟨q, 4, none⟩ = some (.int .i64 (b : Int))) (q5 : w.cell? ⟨q, 5, none⟩ = some (tv)) (q6 : w.cell? ⟨q, 6, none⟩ = some (cv)) (hp' : p < w.heap.size) (hq' : q < w.heap.size) :
    Calls Try.prog 64 #[.func (.func 65) #[] #[.pointer (some ⟨p, 0, none⟩), .pointer (some ⟨q, 0, none⟩)]] w fun e w' => ∃ v, e = .returned (.tuple #[v, .int .i64 0]) ∧ w'.ownsRow w.heap.size 2 1 v L.length (ints (whs r d L)) ∧ Below w.heap.size w w' := by
  have B00 : Below w.heap.size w (w.alloc (.cells #[.int .i64 0] 2)) := (Below.refl _ _).alloc (Nat.le_refl _) _
  have P := clo_any (w.alloc (.cells #[.int .i64 0] 2)) p q a c r b d tv cv L hd hb hr0 hr1 (hC.on B00) l2 hk (by rw [World.cell?_alloc_lt _ _ _ hp']; exact hp) (by rw [World.cell?_alloc_lt _ _ _ hq']; exact q0) (by rw [World.cell?_alloc_lt _ _ _ hq']; exact q1) (by rw [World.cell?_alloc_lt _ _ _ hq']; exact q2) (by rw [World.cell?_alloc_lt _ _ _ hq']; exact q3) (by rw [World.cell?_alloc_lt _ _ _ hq']; exact q4) (by rw [World.cell?_alloc_lt _ _ _ hq']; exact q5) (by rw [World.cell?_alloc_lt _ _ _ hq']; exact q6)
  have HP : Hid (Calls Try.prog 65 #[.pointer (some ⟨p, 0, none⟩), .pointer (some ⟨q, 0, none⟩)] (w.alloc (.cells #[.int .i64 0] 2)) fun e w' => ∃ v, e = .returned v ∧ w'.ownsRow (w.alloc (.cells #[.int .i64 0] 2)).heap.size 2 1 v L.length (ints (whs r d L)) ∧ Below (w.alloc (.cells #[.int .i64 0] 2)).heap.size (w.alloc (.cells #[.int .i64 0] 2)) w') := P
  have hmf : ∀ (fn : Fn) (first cap : Array Value) (w : World), (Instr.makeFunc fn first cap).run Try.prog w = .ok (.func fn first cap) w := fun _ _ _ _ => rfl
  have cz : (w.alloc (.cells #[.int .i64 0] 2)).cell? ⟨w.heap.size, 0, none⟩ = some (.int .i64 0) := by simp [go_sem]
  have cf : (w.alloc (.cells #[.int .i64 0] 2)).frozen? ⟨w.heap.size, 0, none⟩ = false := by simp [go_sem]
  have B0 : Hid (Below w.heap.size w (w.alloc (.cells #[.int .i64 0] 2))) := B00
  clear P hk hC hp q0 q1 q2 q3 q4 q5 q6 B00
  have sz : (w.alloc (.cells #[.int .i64 0] 2)).heap.size = w.heap.size + 1 := by simp
  rw [sz] at HP
  go_enter_defers Try.func64, Try.ntmps64
  go_wp2_with fail
  refine HP.out.mono ?_
  rintro e w1 ⟨v, rfl, o1, b1⟩
  have cz1 : w1.cell? ⟨w.heap.size, 0, none⟩ = some (.int .i64 0) := (b1.cell (p := ⟨w.heap.size, 0, none⟩) (by show w.heap.size < _; omega)).trans cz
  have cf1 : w1.frozen? ⟨w.heap.size, 0, none⟩ = false := (b1.frozen (p := ⟨w.heap.size, 0, none⟩) (by show w.heap.size < _; omega)).trans cf
  have O1 : Hid ((w1.setCell ⟨w.heap.size, 0, none⟩ (.int .i64 0)).ownsRow w.heap.size 2 1 v L.length (ints (whs r d L))) := (by
    have h := o1.kept (row := some w.heap.size) (grown_setCell (World.grownBy.refl w1 (some w.heap.size)) 0 (.int .i64 0)) (by
      cases e : v.ownBlock with
      | none => exact .inl rfl
      | some k =>
        refine .inr fun x => ?_
        have := (o1.lt k e).1
        simp at x
        omega)
    exact own_down h (by omega))
  have B1 : Hid (Below w.heap.size w (w1.setCell ⟨w.heap.size, 0, none⟩ (.int .i64 0))) := (B0.out.trans (b1.mono (by omega))).setCell (p := ⟨w.heap.size, 0, none⟩) (Nat.le_refl _) _
  have cz2 : (w1.setCell ⟨w.heap.size, 0, none⟩ (.int .i64 0)).cell? ⟨w.heap.size, 0, none⟩ = some (.int .i64 0) := (by simp [go_sem, cz1])
  clear o1 b1 HP B0 cz cf
  go_wp2_with fail
  refine leaves_cons (f := 72) (args := #[.pointer (some ⟨w.heap.size, 0, none⟩)]) (by simp) (by simp [go_sem]) ?_
  refine (catch_idle ⟨w.heap.size, 0, none⟩ _).mono ?_
  rintro e u' w'' ⟨rfl, rfl, hw⟩
  subst hw
  simp [Leaves, settle, results, Try.results64, go_sem, cz2, B1.out]
  exact O1.out

set_option maxHeartbeats 1000000 in
theorem tried_any (w : World) (a c r : Int) (b d : Nat) (tv cv : Value) (L : List Int) (hd : d ≤ 41) (hb : b ≤ 24) (hr0 : -1099511627776 ≤ r) (hr1 : r ≤ 1099511627776) (hC : Lists.Reads w cv L) (l2 : L.length ≤ 4096) (hk : L.all (cok (mst b d)) = true) :
    Calls Try.prog 53 #[(.func (.method "loop.example/g00051/impl.unpack") #[.iface 52 (.agg #[.int .i64 (b : Int)])] #[]), .agg #[.int .i64 a, .int .i64 c, .int .i64 r, .int .i64 (d : Int), .int .i64 (b : Int), tv, cv]] w fun e w' => ∃ v, e = .returned (.tuple #[v, .bool true]) ∧ w'.ownsRow w.heap.size 2 1 v L.length (ints (whs r d L)) ∧ Below w.heap.size w w' := by
  obtain ⟨w1, hw1⟩ : ∃ w1, w1 = (w.alloc (.cells #[(.func (.method "loop.example/g00051/impl.unpack") #[.iface 52 (.agg #[.int .i64 (b : Int)])] #[])] 82)).alloc (.cells #[.int .i64 a, .int .i64 c, .int .i64 r, .int .i64 (d : Int), .int .i64 (b : Int), tv, cv] 26) := ⟨_, rfl⟩
  have b1 : Below w.heap.size w w1 := by rw [hw1]; exact ((Below.refl _ _).alloc (Nat.le_refl _) _).alloc (by simp) _
  have sz : w1.heap.size = w.heap.size + 2 := by rw [hw1]; simp
  have P := caught_any w1 w.heap.size (w.heap.size + 1) a c r b d tv cv L hd hb hr0 hr1 (hC.on b1) l2 hk (by rw [hw1]; simp [go_sem]) (by rw [hw1]; simp [go_sem]) (by rw [hw1]; simp [go_sem]) (by rw [hw1]; simp [go_sem]) (by rw [hw1]; simp [go_sem]) (by rw [hw1]; simp [go_sem]) (by rw [hw1]; simp [go_sem]) (by rw [hw1]; simp [go_sem]) (by omega) (by omega)
  have HP : Hid (Calls Try.prog 64 #[.func (.func 65) #[] #[.pointer (some ⟨w.heap.size, 0, none⟩), .pointer (some ⟨w.heap.size + 1, 0, none⟩)]] ((w.alloc (.cells #[(.func (.method "loop.example/g00051/impl.unpack") #[.iface 52 (.agg #[.int .i64 (b : Int)])] #[])] 82)).alloc (.cells #[.int .i64 a, .int .i64 c, .int .i64 r, .int .i64 (d : Int), .int .i64 (b : Int), tv, cv] 26)) fun e w' => ∃ v, e = .returned (.tuple #[v, .int .i64 0]) ∧ w'.ownsRow w.heap.size 2 1 v L.length (ints (whs r d L)) ∧ Below w.heap.size w w') := (by
    show Calls _ _ _ _ _
    rw [← hw1]
    exact P.mono fun e w' ⟨v, he, h2, h3⟩ => ⟨v, he, own_down h2 (by omega), b1.trans (h3.mono (by omega))⟩)
  have hmf : ∀ (fn : Fn) (first cap : Array Value) (w : World), (Instr.makeFunc fn first cap).run Try.prog w = .ok (.func fn first cap) w := fun _ _ _ _ => rfl
  clear P hk hC b1 sz hw1
  go_enter Try.func53, Try.ntmps53
  go_wp2_with fail
  refine HP.out.mono ?_
  rintro e w2 ⟨v, rfl, o1, b1⟩
  have O1 : Hid (w2.ownsRow w.heap.size 2 1 v L.length (ints (whs r d L))) := o1
  have B1 : Hid (Below w.heap.size w w2) := b1
  clear o1 b1
  go_wp2_with fail
  go_ret2
  exact ⟨_, rfl, O1.out, B1.out⟩

set_option maxHeartbeats 1000000 in
theorem back_any (w : World) (a c r : Int) (b d : Nat) (tv cv : Value) (L : List Int) (hd : d ≤ 41) (hb : b ≤ 24) (hr0 : -1099511627776 ≤ r) (hr1 : r ≤ 1099511627776) (hC : Lists.Reads w cv L) (l2 : L.length ≤ 4096) (hk : L.all (cok (mst b d)) = true) :
    Calls Try.prog 38 #[.iface 52 (.agg #[.int .i64 (b : Int)]), .agg #[.int .i64 a, .int .i64 c, .int .i64 r, .int .i64 (d : Int), .int .i64 (b : Int), tv, cv]] w fun e w' => ∃ v, e = .returned (.tuple #[v, .bool true]) ∧ w'.ownsRow w.heap.size 2 1 v L.length (ints (whs r d L)) ∧ Below w.heap.size w w' := by
  have HP : Hid (∀ w', Below w.heap.size w w' → Calls Try.prog 53 #[(.func (.method "loop.example/g00051/impl.unpack") #[.iface 52 (.agg #[.int .i64 (b : Int)])] #[]), .agg #[.int .i64 a, .int .i64 c, .int .i64 r, .int .i64 (d : Int), .int .i64 (b : Int), tv, cv]] w' fun e w'' => ∃ v, e = .returned (.tuple #[v, .bool true]) ∧ w''.ownsRow w'.heap.size 2 1 v L.length (ints (whs r d L)) ∧ Below w'.heap.size w' w'') := fun w' hb' => tried_any w' a c r b d tv cv L hd hb hr0 hr1 (hC.on hb') l2 hk
  have hmf : ∀ (fn : Fn) (first cap : Array Value) (w : World), (Instr.makeFunc fn first cap).run Try.prog w = .ok (.func fn first cap) w := fun _ _ _ _ => rfl
  obtain ⟨w1, hw1⟩ : ∃ w1, w1 = w.alloc (Obj.cells #[.int .i64 a, .int .i64 c, .int .i64 r, .int .i64 (d : Int), .int .i64 (b : Int), tv, cv] 26) := ⟨_, rfl⟩
  have HW1 : Hid (w1 = w.alloc (Obj.cells #[.int .i64 a, .int .i64 c, .int .i64 r, .int .i64 (d : Int), .int .i64 (b : Int), tv, cv] 26)) := hw1
  have B1 : Hid (Below w.heap.size w w1) := (by show Below _ _ _; rw [hw1]; exact (Below.refl _ _).alloc (Nat.le_refl _) _)
  have k0 : w1.cell? ⟨w.heap.size, 0, none⟩ = some (.int .i64 a) := by rw [hw1]; simp [go_sem]
  have k1 : w1.cell? ⟨w.heap.size, 1, none⟩ = some (.int .i64 c) := by rw [hw1]; simp [go_sem]
  have k2 : w1.cell? ⟨w.heap.size, 2, none⟩ = some (.int .i64 r) := by rw [hw1]; simp [go_sem]
  have k3 : w1.cell? ⟨w.heap.size, 3, none⟩ = some (.int .i64 (d : Int)) := by rw [hw1]; simp [go_sem]
  have k4 : w1.cell? ⟨w.heap.size, 4, none⟩ = some (.int .i64 (b : Int)) := by rw [hw1]; simp [go_sem]
  have k5 : w1.cell? ⟨w.heap.size, 5, none⟩ = some (tv) := by rw [hw1]; simp [go_sem]
  have k6 : w1.cell? ⟨w.heap.size, 6, none⟩ = some (cv) := by rw [hw1]; simp [go_sem]
  clear hk hC hw1
  go_enter Try.func38, Try.ntmps38
  go_wp2_with fail
  rw [← HW1.out]
  clear HW1
  go_region_with (go_at_call 53; refine (HP.out _ (by first | exact B1.out | exact below_drewN B1.out _ | exact below_drewN B1.out 1)).mono ?_; rintro e w2 ⟨v, rfl, o1, b1⟩)
  all_goals (
    have O1 : Hid (w2.ownsRow w.heap.size 2 1 v L.length (ints (whs r d L))) := own_down o1 B1.out.size
    have B2 : Hid (Below w.heap.size w w2) := (below_drewN B1.out 1).trans (b1.mono B1.out.size)
    clear o1 b1
    go_wp2_with fail
    go_ret2
    exact ⟨_, rfl, O1.out, B2.out⟩)
end Go.Proofs.Ytgajajpcjbpalaa.Pkd
