/- The program's PackRuns: through a method value that is caught. -/
import Derived.Test.YtmopkbkdfipglaaRk
import Derived.Defers
import Derived.Recover
namespace Go.Proofs.Ytmopkbkdfipglaa.Lists
open Go.ChangeShapes Go.WideShapes Go.ChangeAt Go.RowKit
open Go.Proofs.Ytmopkbkdfipglaa.Bytes (bys)

theorem catch_idle (p : Addr) (w : World) :
    CallsD Try.prog 43 #[.pointer (some p)] .returning w fun e u' w' => e = .returned (.tuple #[]) ∧ u' = .returning ∧ w' = w := by
  refine callsD_of_wpS Try.func43 rfl fun c₀ cs hu => ?_
  apply wpS_seq
  apply wpS_region
  simp [wpOpsS, go_sem, recoverD, hu, Try.ntmps43, Exit.thenS]
  have hne : ∀ w, (binOp .neq 20 .nilIface .nilIface).run Try.prog w = .ok (.bool false) w := fun _ => by kernel_rfl
  apply wpS_seq
  apply wpS_region
  simp [wpOpsS, go_sem, Exit.thenS, hne]
  refine wpS_cond (t := false) (by simp [Act.eval, Array.replicate]) ?_
  simp only [Bool.false_eq_true, if_false]
  refine wpS_of_wp (wp_skip ?_)
  cases c₀
  simp_all [bodyPostS, results, Try.results43]

def fnP : Value := .func (.method "loop.example/g00051/impl.pack") #[.iface 42 (.agg #[])] #[]
set_option maxHeartbeats 1000000 in
theorem clo_any (w : World) (p q : Nat) (v : Value) (L : List Int) (hp : w.cell? ⟨p, 0, none⟩ = some fnP) (hq : w.cell? ⟨q, 0, none⟩ = some v) (h : Reads w v L) (hr : Rg L) :
    Calls Try.prog 40 #[.pointer (some ⟨p, 0, none⟩), .pointer (some ⟨q, 0, none⟩)] w fun e w' => ∃ v', e = .returned v' ∧ w'.ownsRow w.heap.size 5 1 v' (pk L).length (bys (pk L)) ∧ Below w.heap.size w w' := by
  obtain ⟨a, cap, rfl⟩ := h.form
  have P := rpack_any w _ L h hr
  obtain ⟨n, hn⟩ : ∃ n, n = L.length := ⟨_, rfl⟩
  rw [← hn] at P hq
  have HP : Hid (Calls Try.prog 60 #[.agg #[], .slice a n cap] w fun e w' => ∃ v', e = .returned v' ∧ w'.ownsRow w.heap.size 5 1 v' (pk L).length (bys (pk L)) ∧ Below w.heap.size w w') := P
  have hM : ∀ w, (method 200 42 (.agg #[]) "loop.example/g00051/impl.pack").run Try.prog w = .ok (60, .agg #[]) w := fun _ => by kernel_rfl
  unfold fnP at hp
  clear P h hr hn
  go_enter Try.func40, Try.ntmps40
  go_wp2_with fail
  refine HP.out.mono ?_
  rintro e w' ⟨v', rfl, o1, b1⟩
  have O1 : Hid (w'.ownsRow w.heap.size 5 1 v' (pk L).length (bys (pk L))) := o1
  have B1 : Hid (Below w.heap.size w w') := b1
  clear o1 b1
  go_wp2_with fail
  go_ret
  exact ⟨_, rfl, O1.out, B1.out⟩

theorem row_lift {w : World} {base base' n k : Nat} {e : TypeId} {v : Value} {xs : List Value} (h : w.ownsRow base e k v n xs) (hb : base' ≤ base) : w.ownsRow base' e k v n xs := by
  refine ⟨h.1, ?_⟩
  rcases h.2 with h | ⟨gx, cap, cur, h1, h2, h3⟩
  · exact .inl h
  · exact .inr ⟨gx, cap, cur, h1, by omega, h3⟩

set_option maxHeartbeats 1000000 in
theorem caught_any (w : World) (p q : Nat) (v : Value) (L : List Int) (hp : w.cell? ⟨p, 0, none⟩ = some fnP) (hq : w.cell? ⟨q, 0, none⟩ = some v) (hp' : p < w.heap.size) (hq' : q < w.heap.size) (h : Reads w v L) (hr : Rg L) :
    Calls Try.prog 39 #[.func (.func 40) #[] #[.pointer (some ⟨p, 0, none⟩), .pointer (some ⟨q, 0, none⟩)]] w fun e w' => ∃ v', e = .returned (.tuple #[v', .int .i64 0]) ∧ w'.ownsRow w.heap.size 5 1 v' (pk L).length (bys (pk L)) ∧ Below w.heap.size w w' := by
  have P := clo_any (w.alloc (.cells #[.int .i64 0] 2)) p q v L (by rw [World.cell?_alloc_lt _ _ _ hp']; exact hp) (by rw [World.cell?_alloc_lt _ _ _ hq']; exact hq) (h.on ((Below.refl _ _).alloc (Nat.le_refl _) _)) hr
  have HP : Hid (Calls Try.prog 40 #[.pointer (some ⟨p, 0, none⟩), .pointer (some ⟨q, 0, none⟩)] (w.alloc (.cells #[.int .i64 0] 2)) fun e w' => ∃ v', e = .returned v' ∧ w'.ownsRow (w.alloc (.cells #[.int .i64 0] 2)).heap.size 5 1 v' (pk L).length (bys (pk L)) ∧ Below (w.alloc (.cells #[.int .i64 0] 2)).heap.size (w.alloc (.cells #[.int .i64 0] 2)) w') := P
  have hmf : ∀ (fn : Fn) (first cap : Array Value) (w : World), (Instr.makeFunc fn first cap).run Try.prog w = .ok (.func fn first cap) w := fun _ _ _ _ => rfl
  have cz : (w.alloc (.cells #[.int .i64 0] 2)).cell? ⟨w.heap.size, 0, none⟩ = some (.int .i64 0) := by simp [go_sem]
  have cf : (w.alloc (.cells #[.int .i64 0] 2)).frozen? ⟨w.heap.size, 0, none⟩ = false := by simp [go_sem]
  clear P h hr hp hq
  have B0 : Hid (Below w.heap.size w (w.alloc (.cells #[.int .i64 0] 2))) := (Below.refl _ _).alloc (Nat.le_refl _) _
  have sz : (w.alloc (.cells #[.int .i64 0] 2)).heap.size = w.heap.size + 1 := by simp
  rw [sz] at HP
  go_enter_defers Try.func39, Try.ntmps39
  go_wp2_with fail
  refine HP.out.mono ?_
  rintro e w1 ⟨v', rfl, o1, b1⟩
  have cz1 : w1.cell? ⟨w.heap.size, 0, none⟩ = some (.int .i64 0) := (b1.cell (p := ⟨w.heap.size, 0, none⟩) (by show w.heap.size < _; omega)).trans cz
  have cf1 : w1.frozen? ⟨w.heap.size, 0, none⟩ = false := (b1.frozen (p := ⟨w.heap.size, 0, none⟩) (by show w.heap.size < _; omega)).trans cf
  have O1 : Hid ((w1.setCell ⟨w.heap.size, 0, none⟩ (.int .i64 0)).ownsRow w.heap.size 5 1 v' (pk L).length (bys (pk L))) := (by
    have h := o1.kept (row := some w.heap.size) (grown_setCell (World.grownBy.refl w1 (some w.heap.size)) 0 (.int .i64 0)) (.inr (fun e => by have := (o1.lt _ e).1; omega))
    exact row_lift h (by omega))
  have B1 : Hid (Below w.heap.size w (w1.setCell ⟨w.heap.size, 0, none⟩ (.int .i64 0))) := (B0.out.trans (b1.mono (by omega))).setCell (p := ⟨w.heap.size, 0, none⟩) (Nat.le_refl _) _
  have cz2 : (w1.setCell ⟨w.heap.size, 0, none⟩ (.int .i64 0)).cell? ⟨w.heap.size, 0, none⟩ = some (.int .i64 0) := (by simp [go_sem, cz1])
  clear o1 b1 HP B0 cz cf
  go_wp2_with fail
  refine leaves_cons (f := 43) (args := #[.pointer (some ⟨w.heap.size, 0, none⟩)]) (by simp) (by simp [go_sem]) ?_
  refine (catch_idle ⟨w.heap.size, 0, none⟩ _).mono ?_
  rintro e u' w'' ⟨rfl, rfl, hw⟩
  subst hw
  simp [Leaves, settle, results, Try.results39, go_sem, cz2, B1.out]
  exact O1.out

set_option maxHeartbeats 1000000 in
theorem tried_any (w : World) (v : Value) (L : List Int) (h : Reads w v L) (hr : Rg L) :
    Calls Try.prog 33 #[fnP, v] w fun e w' => ∃ v', e = .returned (.tuple #[v', .bool true]) ∧ w'.ownsRow w.heap.size 5 1 v' (pk L).length (bys (pk L)) ∧ Below w.heap.size w w' := by
  obtain ⟨a, cap, ev⟩ := h.form
  obtain ⟨w1, hw1⟩ : ∃ w1, w1 = (w.alloc (.cells #[fnP] 59)).alloc (.cells #[v] 22) := ⟨_, rfl⟩
  have b1 : Below w.heap.size w w1 := by rw [hw1]; exact ((Below.refl _ _).alloc (Nat.le_refl _) _).alloc (by simp) _
  have sz : w1.heap.size = w.heap.size + 2 := by rw [hw1]; simp
  have P := caught_any w1 w.heap.size (w.heap.size + 1) v L (by rw [hw1]; simp [go_sem]) (by rw [hw1]; simp [go_sem]) (by omega) (by omega) (h.on b1) hr
  have HP : Hid (Calls Try.prog 39 #[.func (.func 40) #[] #[.pointer (some ⟨w.heap.size, 0, none⟩), .pointer (some ⟨w.heap.size + 1, 0, none⟩)]] ((w.alloc (.cells #[fnP] 59)).alloc (.cells #[v] 22)) fun e w' => ∃ v', e = .returned (.tuple #[v', .int .i64 0]) ∧ w'.ownsRow w.heap.size 5 1 v' (pk L).length (bys (pk L)) ∧ Below w.heap.size w w') := (by
    show Calls _ _ _ _ _
    rw [← hw1]
    exact P.mono fun e w' ⟨v', he, h2, h3⟩ => ⟨v', he, row_lift h2 (by omega), b1.trans (h3.mono (by omega))⟩)
  have hmf : ∀ (fn : Fn) (first cap : Array Value) (w : World), (Instr.makeFunc fn first cap).run Try.prog w = .ok (.func fn first cap) w := fun _ _ _ _ => rfl
  obtain ⟨n, hn⟩ : ∃ n, n = L.length := ⟨_, rfl⟩
  rw [← hn] at ev
  subst ev
  clear P b1 sz hw1 h hr hn
  unfold fnP at HP ⊢
  go_enter Try.func33, Try.ntmps33
  go_wp2_with fail
  refine HP.out.mono ?_
  rintro e w2 ⟨v', rfl, o1, b1⟩
  have O1 : Hid (w2.ownsRow w.heap.size 5 1 v' (pk L).length (bys (pk L))) := o1
  have B1 : Hid (Below w.heap.size w w2) := b1
  clear o1 b1
  go_wp2_with fail
  go_ret2
  exact ⟨_, rfl, O1.out, B1.out⟩

theorem rg_sml {L : List Int} : sml 1099511627776 L = true ↔ Rg L := sml_iff
def pks (L : List Int) : List Int := if sml 1099511627776 L = true then pk L else []
set_option maxHeartbeats 1000000 in
theorem forth_any (w : World) (v : Value) (L : List Int) (h : Reads w v L) (hm : L.length < 9223372036854775808) :
    Calls Try.prog 25 #[.iface 42 (.agg #[]), v] w fun e w' => ∃ v', e = .returned (.tuple #[v', .bool (sml 1099511627776 L)]) ∧ w'.ownsRow w.heap.size 5 1 v' (pks L).length (bys (pks L)) ∧ Below w.heap.size w w' := by
  have HI : Hid (Calls Try.prog 32 #[v, .int .i64 1099511627776] w fun e w' => e = .returned (.bool (sml 1099511627776 L)) ∧ w' = w) := inum_any w _ L 1099511627776 h (by omega) (by omega) hm
  have hmf : ∀ (fn : Fn) (first cap : Array Value) (w : World), (Instr.makeFunc fn first cap).run Try.prog w = .ok (.func fn first cap) w := fun _ _ _ _ => rfl
  obtain ⟨a, cap, ev⟩ := h.form
  cases hs : sml 1099511627776 L
  · have e1 : pks L = [] := by unfold pks; rw [hs]; rfl
    rw [hs] at HI
    rw [e1]
    obtain ⟨n, hn⟩ : ∃ n, n = L.length := ⟨_, rfl⟩
    rw [← hn] at ev
    subst ev
    clear h hm hs e1 hn
    go_enter Try.func25, Try.ntmps25
    go_wp2_with fail
    refine HI.out.mono ?_
    rintro e w1 ⟨rfl, hw⟩
    have hw' := hw.symm
    subst hw'
    go_wp2_with fail
    go_ret2
    exact ⟨_, rfl, ⟨rfl, .inl ⟨rfl, rfl⟩⟩, Below.refl _ _⟩
  · have e1 : pks L = pk L := by unfold pks; rw [hs]; rfl
    rw [hs] at HI
    rw [e1]
    have HP : Hid (Calls Try.prog 33 #[fnP, v] w fun e w' => ∃ v', e = .returned (.tuple #[v', .bool true]) ∧ w'.ownsRow w.heap.size 5 1 v' (pk L).length (bys (pk L)) ∧ Below w.heap.size w w') := tried_any w v L h (rg_sml.1 hs)
    obtain ⟨n, hn⟩ : ∃ n, n = L.length := ⟨_, rfl⟩
    rw [← hn] at ev
    subst ev
    unfold fnP at HP
    clear h hm hs e1 hn
    go_enter Try.func25, Try.ntmps25
    go_wp2_with fail
    refine HI.out.mono ?_
    rintro e w1 ⟨rfl, hw⟩
    have hw' := hw.symm
    subst hw'
    go_wp2_with fail
    refine HP.out.mono ?_
    rintro e w2 ⟨v', rfl, o1, b1⟩
    have O1 : Hid (w2.ownsRow w.heap.size 5 1 v' (pk L).length (bys (pk L))) := o1
    have B1 : Hid (Below w.heap.size w w2) := b1
    clear o1 b1
    go_wp2_with fail
    go_ret2
    exact ⟨_, rfl, O1.out, B1.out⟩
set_option maxHeartbeats 1000000 in
theorem ipack_any (w : World) (v : Value) (L : List Int) (h : Reads w v L) (hm : L.length < 9223372036854775808) :
    Calls Try.prog 8 #[v] w fun e w' => ∃ v', e = .returned (.tuple #[v', .bool (sml 1099511627776 L)]) ∧ w'.ownsRow w.heap.size 5 1 v' (pks L).length (bys (pks L)) ∧ Below w.heap.size w w' := by
  have HF : Hid (Calls Try.prog 25 #[.iface 42 (.agg #[]), v] w fun e w' => ∃ v', e = .returned (.tuple #[v', .bool (sml 1099511627776 L)]) ∧ w'.ownsRow w.heap.size 5 1 v' (pks L).length (bys (pks L)) ∧ Below w.heap.size w w') := forth_any w v L h hm
  obtain ⟨a, cap, ev⟩ := h.form
  obtain ⟨n, hn⟩ : ∃ n, n = L.length := ⟨_, rfl⟩
  obtain ⟨bb, hbb⟩ : ∃ bb, bb = sml 1099511627776 L := ⟨_, rfl⟩
  rw [← hn] at ev
  rw [← hbb] at HF ⊢
  subst ev
  clear h hm hn hbb
  go_enter Try.func8, Try.ntmps8
  go_wp2_with fail
  refine HF.out.mono ?_
  rintro e w2 ⟨v', rfl, o1, b1⟩
  have O1 : Hid (w2.ownsRow w.heap.size 5 1 v' (pks L).length (bys (pks L))) := o1
  have B1 : Hid (Below w.heap.size w w2) := b1
  clear o1 b1
  go_wp2_with fail
  go_ret2
  exact ⟨_, rfl, O1.out, B1.out⟩
end Go.Proofs.Ytmopkbkdfipglaa.Lists
