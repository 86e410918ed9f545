/- What caught recovers. -/
import Derived.Test.YtpokbicnogcijaaUl
import Derived.Test.YtpokbicnogcijaaUe
import Derived.Defers
import Derived.Recover
namespace Go.Proofs.Ytpokbicnogcijaa.Lists
open Go.ChangeShapes Go.WideShapes Go.ChangeAt Go.RowKit

theorem catch_up (p : Nat) (w : World) (hp : w.cell? ⟨p, 0, none⟩ = some (.int .i64 0)) (hf : w.frozen? ⟨p, 0, none⟩ = false) :
    CallsD Try.prog 31 #[.pointer (some ⟨p, 0, none⟩)] (.panicking up2) w fun e u' w' => e = .returned (.tuple #[]) ∧ u' = .panicking [{ v := .iface 54 (.int .i64 2), recovered := true }] ∧ w' = w.setCell ⟨p, 0, none⟩ (.int .i64 2) := by
  refine callsD_of_wpS Try.func31 rfl fun c₀ cs hu => ?_
  unfold up2 at hu
  apply wpS_seq
  apply wpS_region
  simp [wpOpsS, go_sem, recoverD, hu, Try.ntmps31, Exit.thenS]
  have hne : ∀ w, (binOp .neq 20 (.iface 54 (.int .i64 2)) .nilIface).run Try.prog w = .ok (.bool true) w := fun _ => by kernel_rfl
  apply wpS_seq
  apply wpS_region
  simp [wpOpsS, go_sem, Exit.thenS, hne]
  refine wpS_cond (t := true) (by simp [Act.eval, Array.replicate]) ?_
  simp only [if_true]
  have hta : ∀ w, (Instr.typeAssert (.iface 54 (.int .i64 2)) 20 54 false).run Try.prog w = .ok (.int .i64 2) w := fun _ => by kernel_rfl
  refine wpS_of_wp ?_
  simp [Array.replicate]
  go_wp2_with fail
  cases c₀
  simp_all [bodyPostS, results, Try.results31]
def UCo (w : World) (s n : Nat) (Z : List Int) (e : Ending) (w' : World) : Prop :=
  Below w.heap.size w w' ∧ ((∃ Y g' c', un n s Z = some Y ∧ e = .returned (.tuple #[.slice (some ⟨g', 0, none⟩) n c', .int .i64 0]) ∧ w.heap.size ≤ g' ∧ n ≤ c' ∧ c' ≤ maxLen ∧ w'.ownsRow w.heap.size 2 1 (.slice (some ⟨g', 0, none⟩) n c') n (ints Y)) ∨ (un n s Z = none ∧ e = .returned (.tuple #[.slice none 0 0, .int .i64 2])))
set_option maxHeartbeats 1000000 in
theorem clo3_any (w : World) (p q : Nat) (s g n cap : Nat) (X : List Int) (hp : w.cell? ⟨p, 0, none⟩ = some (.func (.method "loop.example/g00051/impl.unpack") #[.iface 39 (.agg #[.int .i64 (s : Int)])] #[])) (hq : w.cell? ⟨q, 0, none⟩ = some (.slice (some ⟨g, 0, none⟩) n cap))
    (hl : n ≤ 4096) (hg : g < w.heap.size) (hs : 1 ≤ s ∧ s ≤ 12) (hz : GZ n X) (K : ∀ i, i < n → w.cell? ⟨g, i, none⟩ = some (.int .i64 (X.getD i 0))) :
    Calls Try.prog 30 #[.pointer (some ⟨p, 0, none⟩), .pointer (some ⟨q, 0, none⟩)] w fun e w' => UPo w s n X e w' := by
  have P := unpackx_any w s g n cap X hz hl hg hs K
  have HP : Hid (Calls Try.prog 49 #[.agg #[.int .i64 (s : Int)], .slice (some ⟨g, 0, none⟩) n cap] w fun e w' => UPo w s n X e w') := P
  have hM : ∀ w, (method 200 39 (.agg #[.int .i64 (s : Int)]) "loop.example/g00051/impl.unpack").run Try.prog w = .ok (49, .agg #[.int .i64 (s : Int)]) w := fun _ => by kernel_rfl
  clear P K hz
  go_enter Try.func30, Try.ntmps30
  go_wp2_with fail
  refine HP.out.mono ?_
  rintro e w' ⟨b1, (⟨Y, g', c', y1, rfl, q1, q2, q3, o1⟩ | ⟨y1, rfl⟩)⟩
  · have O1 : Hid (w'.ownsRow w.heap.size 2 1 (.slice (some ⟨g', 0, none⟩) n c') n (ints Y)) := o1
    have B1 : Hid (Below w.heap.size w w') := b1
    have Y1 : Hid (un n s X = some Y) := y1
    clear o1 b1 y1
    go_wp2_with fail
    go_ret
    exact ⟨B1.out, .inl ⟨Y, _, _, Y1.out, rfl, q1, q2, q3, O1.out⟩⟩
  · exact ⟨rfl, b1, .inr ⟨y1, rfl⟩⟩

set_option maxHeartbeats 1000000 in
theorem caught3_any (w : World) (p q : Nat) (s g n cap : Nat) (X : List Int) (hp : w.cell? ⟨p, 0, none⟩ = some (.func (.method "loop.example/g00051/impl.unpack") #[.iface 39 (.agg #[.int .i64 (s : Int)])] #[])) (hq : w.cell? ⟨q, 0, none⟩ = some (.slice (some ⟨g, 0, none⟩) n cap)) (hp' : p < w.heap.size) (hq' : q < w.heap.size)
    (hl : n ≤ 4096) (hg : g < w.heap.size) (hs : 1 ≤ s ∧ s ≤ 12) (hz : GZ n X) (K : ∀ i, i < n → w.cell? ⟨g, i, none⟩ = some (.int .i64 (X.getD i 0))) :
    Calls Try.prog 29 #[.func (.func 30) #[] #[.pointer (some ⟨p, 0, none⟩), .pointer (some ⟨q, 0, none⟩)]] w fun e w' => UCo w s n X e w' := by
  have P := clo3_any (w.alloc (.cells #[.int .i64 0] 2)) p q s g n cap X (by rw [World.cell?_alloc_lt _ _ _ hp']; exact hp) (by rw [World.cell?_alloc_lt _ _ _ hq']; exact hq) hl (by simp; omega) hs hz (fun i hi => by rw [World.cell?_alloc_lt _ _ _ hg]; exact K i hi)
  have HP : Hid (Calls Try.prog 30 #[.pointer (some ⟨p, 0, none⟩), .pointer (some ⟨q, 0, none⟩)] (w.alloc (.cells #[.int .i64 0] 2)) fun e w' => UPo (w.alloc (.cells #[.int .i64 0] 2)) s n X e w') := P
  have hmf : ∀ (fn : Fn) (first cap : Array Value) (w : World), (Instr.makeFunc fn first cap).run Try.prog w = .ok (.func fn first cap) w := fun _ _ _ _ => rfl
  have cz : (w.alloc (.cells #[.int .i64 0] 2)).cell? ⟨w.heap.size, 0, none⟩ = some (.int .i64 0) := by simp [go_sem]
  have cf : (w.alloc (.cells #[.int .i64 0] 2)).frozen? ⟨w.heap.size, 0, none⟩ = false := by simp [go_sem]
  clear P K hz hp hq
  have B0 : Hid (Below w.heap.size w (w.alloc (.cells #[.int .i64 0] 2))) := (Below.refl _ _).alloc (Nat.le_refl _) _
  have sz : (w.alloc (.cells #[.int .i64 0] 2)).heap.size = w.heap.size + 1 := by simp
  go_enter_defers Try.func29, Try.ntmps29
  go_wp2_with fail
  refine HP.out.mono ?_
  rintro e w1 ⟨b1, (⟨Y, g', c', y1, rfl, q1, q2, q3, o1⟩ | ⟨y1, rfl⟩)⟩
  · rw [sz] at q1 o1 b1
    have cz1 : w1.cell? ⟨w.heap.size, 0, none⟩ = some (.int .i64 0) := (b1.cell (p := ⟨w.heap.size, 0, none⟩) (by show w.heap.size < _; omega)).trans cz
    have cf1 : w1.frozen? ⟨w.heap.size, 0, none⟩ = false := (b1.frozen (p := ⟨w.heap.size, 0, none⟩) (by show w.heap.size < _; omega)).trans cf
    have O1 : Hid ((w1.setCell ⟨w.heap.size, 0, none⟩ (.int .i64 0)).ownsRow w.heap.size 2 1 (.slice (some ⟨g', 0, none⟩) n c') n (ints Y)) := (by
      have h := o1.kept (row := some w.heap.size) (grown_setCell (World.grownBy.refl w1 (some w.heap.size)) 0 (.int .i64 0)) (.inr (by simp [Value.ownBlock]; omega))
      refine ⟨h.1, ?_⟩
      rcases h.2 with h | ⟨gx, cap, cur, h1, h2, h3⟩
      · exact .inl h
      · exact .inr ⟨gx, cap, cur, h1, by omega, h3⟩)
    have B1 : Hid (Below w.heap.size w (w1.setCell ⟨w.heap.size, 0, none⟩ (.int .i64 0))) := (B0.out.trans (b1.mono (by omega))).setCell (p := ⟨w.heap.size, 0, none⟩) (Nat.le_refl _) _
    have cz2 : (w1.setCell ⟨w.heap.size, 0, none⟩ (.int .i64 0)).cell? ⟨w.heap.size, 0, none⟩ = some (.int .i64 0) := (by simp [go_sem, cz1])
    have Y1 : Hid (un n s X = some Y) := y1
    clear o1 b1 HP B0 cz cf y1
    go_wp2_with fail
    refine leaves_cons (f := 31) (args := #[.pointer (some ⟨w.heap.size, 0, none⟩)]) (by simp) (by simp [go_sem]) ?_
    refine (catch_idle ⟨w.heap.size, 0, none⟩ _).mono ?_
    rintro e u' w'' ⟨rfl, rfl, hw⟩
    subst hw
    simp [Leaves, settle, results, Try.results29, go_sem, cz2]
    exact ⟨B1.out, .inl ⟨Y, g', c', Y1.out, rfl, by omega, q2, q3, O1.out⟩⟩
  · rw [sz] at b1
    have cz1 : w1.cell? ⟨w.heap.size, 0, none⟩ = some (.int .i64 0) := (b1.cell (p := ⟨w.heap.size, 0, none⟩) (by show w.heap.size < _; omega)).trans cz
    have cf1 : w1.frozen? ⟨w.heap.size, 0, none⟩ = false := (b1.frozen (p := ⟨w.heap.size, 0, none⟩) (by show w.heap.size < _; omega)).trans cf
    have B1 : Hid (Below w.heap.size w (w1.setCell ⟨w.heap.size, 0, none⟩ (.int .i64 2))) := (B0.out.trans (b1.mono (by omega))).setCell (p := ⟨w.heap.size, 0, none⟩) (Nat.le_refl _) _
    have cz2 : (w1.setCell ⟨w.heap.size, 0, none⟩ (.int .i64 2)).cell? ⟨w.heap.size, 0, none⟩ = some (.int .i64 2) := (by simp [go_sem, cz1])
    clear b1 HP B0 cz cf
    trace_state
    refine leaves_cons (f := 31) (args := #[.pointer (some ⟨w.heap.size, 0, none⟩)]) (by simp) (by simp [go_sem]) ?_
    refine (catch_up w.heap.size w1 cz1 cf1).mono ?_
    rintro e u' w'' ⟨rfl, rfl, hw⟩
    subst hw
    simp [Leaves, settle, results, Try.results29, go_sem, cz2]
    exact ⟨B1.out, .inr ⟨y1, rfl⟩⟩
end Go.Proofs.Ytpokbicnogcijaa.Lists
