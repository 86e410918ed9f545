/- The program's Unwave, where the list is a wave: through a method value that is caught. -/
import Derived.Test.YtpokbicnogcijaaUc
import Derived.Defers
import Derived.Recover
namespace Go.Proofs.Ytpokbicnogcijaa.Lists
open Go.ChangeShapes Go.WideShapes Go.ChangeAt Go.RowKit

theorem unpack2 (w : World) (s g n cap : Nat) (X : List Int) (hn : X.length = n) (hl : n ≤ 4096) (hg : g < w.heap.size) (hs : 1 ≤ s ∧ s ≤ 12) (hb : bnd n X) (K : ∀ i, i < n → w.cell? ⟨g, i, none⟩ = some (.int .i64 ((wav s n X).getD i 0))) :
    Calls Try.prog 49 #[.agg #[.int .i64 (s : Int)], .slice (some ⟨g, 0, none⟩) n cap] w fun e w' => ∃ g' c', e = .returned (.slice (some ⟨g', 0, none⟩) n c') ∧ w.heap.size ≤ g' ∧ w'.ownsRow w.heap.size 2 1 (.slice (some ⟨g', 0, none⟩) n c') n (ints X) ∧ Below w.heap.size w w' :=
  (unpack_any w s g n cap X hn hl hg hs hb K).mono fun _ _ ⟨g', c', h1, h2, _, _, h3, h4⟩ => ⟨g', c', h1, h2, h3, h4⟩
theorem wav_big : ∀ (s m : Nat) (X : List Int), m ≤ X.length → bnd m X → (∀ i, i < X.length → -2199023255552 ≤ X.getD i 0 ∧ X.getD i 0 ≤ 2199023255552) → ∀ i, i < X.length → -2199023255552 ≤ (wav s m X).getD i 0 ∧ (wav s m X).getD i 0 ≤ 2199023255552
  | 0, _, _, _, _, h => h
  | s + 1, m, X, hm, hb, h => fun i hi => by
    rw [wav]
    refine wav_big s (m - m / 2) (stepW m X) (by rw [step_len]; omega) (step_bnd hm hb) (fun j hj => ?_) i (by rw [step_len]; exact hi)
    rw [step_len] at hj
    rw [step_gt m X hj]
    split
    · have h1 := hb (2 * j) (by omega)
      have h2 := hb (2 * j + 1) (by omega)
      unfold mnA mean
      omega
    · split
      · exact h (m - 1) (by omega)
      · split
        · have h1 := hb (2 * (j - (m - m / 2))) (by omega)
          have h2 := hb (2 * (j - (m - m / 2)) + 1) (by omega)
          unfold dfA
          omega
        · exact h j hj

set_option maxHeartbeats 1000000 in
theorem clo2_any (w : World) (p q : Nat) (s g n cap : Nat) (X : List Int) (hp : w.cell? ⟨p, 0, none⟩ = some (.func (.method "loop.example/g00051/impl.unpack") #[.iface 39 (.agg #[.int .i64 (s : Int)])] #[])) (hq : w.cell? ⟨q, 0, none⟩ = some (.slice (some ⟨g, 0, none⟩) n cap))
    (hn : X.length = n) (hl : n ≤ 4096) (hg : g < w.heap.size) (hs : 1 ≤ s ∧ s ≤ 12) (hb : bnd n X) (K : ∀ i, i < n → w.cell? ⟨g, i, none⟩ = some (.int .i64 ((wav s n X).getD i 0))) :
    Calls Try.prog 30 #[.pointer (some ⟨p, 0, none⟩), .pointer (some ⟨q, 0, none⟩)] w fun e w' => ∃ g' c', e = .returned (.slice (some ⟨g', 0, none⟩) n c') ∧ w.heap.size ≤ g' ∧ w'.ownsRow w.heap.size 2 1 (.slice (some ⟨g', 0, none⟩) n c') n (ints X) ∧ Below w.heap.size w w' := by
  have P := unpack2 w s g n cap X hn hl hg hs hb K
  have HP : Hid (Calls Try.prog 49 #[.agg #[.int .i64 (s : Int)], .slice (some ⟨g, 0, none⟩) n cap] w fun e w' => ∃ g' c', e = .returned (.slice (some ⟨g', 0, none⟩) n c') ∧ w.heap.size ≤ g' ∧ w'.ownsRow w.heap.size 2 1 (.slice (some ⟨g', 0, none⟩) n c') n (ints X) ∧ Below w.heap.size w w') := P
  have hM : ∀ w, (method 200 39 (.agg #[.int .i64 (s : Int)]) "loop.example/g00051/impl.unpack").run Try.prog w = .ok (49, .agg #[.int .i64 (s : Int)]) w := fun _ => by kernel_rfl
  clear P K hb
  go_enter Try.func30, Try.ntmps30
  go_wp2_with fail
  refine HP.out.mono ?_
  rintro e w' ⟨g', c', rfl, q1, o1, b1⟩
  have O1 : Hid (w'.ownsRow w.heap.size 2 1 (.slice (some ⟨g', 0, none⟩) n c') n (ints X)) := o1
  have B1 : Hid (Below w.heap.size w w') := b1
  clear o1 b1
  go_wp2_with fail
  go_ret
  exact ⟨_, _, rfl, q1, O1.out, B1.out⟩

set_option maxHeartbeats 1000000 in
theorem caught2_any (w : World) (p q : Nat) (s g n cap : Nat) (X : List Int) (hp : w.cell? ⟨p, 0, none⟩ = some (.func (.method "loop.example/g00051/impl.unpack") #[.iface 39 (.agg #[.int .i64 (s : Int)])] #[])) (hq : w.cell? ⟨q, 0, none⟩ = some (.slice (some ⟨g, 0, none⟩) n cap)) (hp' : p < w.heap.size) (hq' : q < w.heap.size)
    (hn : X.length = n) (hl : n ≤ 4096) (hg : g < w.heap.size) (hs : 1 ≤ s ∧ s ≤ 12) (hb : bnd n X) (K : ∀ i, i < n → w.cell? ⟨g, i, none⟩ = some (.int .i64 ((wav s n X).getD i 0))) :
    Calls Try.prog 29 #[.func (.func 30) #[] #[.pointer (some ⟨p, 0, none⟩), .pointer (some ⟨q, 0, none⟩)]] w fun e w' => ∃ g' c', e = .returned (.tuple #[.slice (some ⟨g', 0, none⟩) n c', .int .i64 0]) ∧ w.heap.size ≤ g' ∧ w'.ownsRow w.heap.size 2 1 (.slice (some ⟨g', 0, none⟩) n c') n (ints X) ∧ Below w.heap.size w w' := by
  have P := clo2_any (w.alloc (.cells #[.int .i64 0] 2)) p q s g n cap X (by rw [World.cell?_alloc_lt _ _ _ hp']; exact hp) (by rw [World.cell?_alloc_lt _ _ _ hq']; exact hq) hn hl (by simp; omega) hs hb (fun i hi => by rw [World.cell?_alloc_lt _ _ _ hg]; exact K i hi)
  have HP : Hid (Calls Try.prog 30 #[.pointer (some ⟨p, 0, none⟩), .pointer (some ⟨q, 0, none⟩)] (w.alloc (.cells #[.int .i64 0] 2)) fun e w' => ∃ g' c', e = .returned (.slice (some ⟨g', 0, none⟩) n c') ∧ (w.alloc (.cells #[.int .i64 0] 2)).heap.size ≤ g' ∧ w'.ownsRow (w.alloc (.cells #[.int .i64 0] 2)).heap.size 2 1 (.slice (some ⟨g', 0, none⟩) n c') n (ints X) ∧ Below (w.alloc (.cells #[.int .i64 0] 2)).heap.size (w.alloc (.cells #[.int .i64 0] 2)) w') := P
  have hmf : ∀ (fn : Fn) (first cap : Array Value) (w : World), (Instr.makeFunc fn first cap).run Try.prog w = .ok (.func fn first cap) w := fun _ _ _ _ => rfl
  have cz : (w.alloc (.cells #[.int .i64 0] 2)).cell? ⟨w.heap.size, 0, none⟩ = some (.int .i64 0) := by simp [go_sem]
  have cf : (w.alloc (.cells #[.int .i64 0] 2)).frozen? ⟨w.heap.size, 0, none⟩ = false := by simp [go_sem]
  clear P K hb hp hq
  have B0 : Hid (Below w.heap.size w (w.alloc (.cells #[.int .i64 0] 2))) := (Below.refl _ _).alloc (Nat.le_refl _) _
  have sz : (w.alloc (.cells #[.int .i64 0] 2)).heap.size = w.heap.size + 1 := by simp
  rw [sz] at HP
  go_enter_defers Try.func29, Try.ntmps29
  go_wp2_with fail
  refine HP.out.mono ?_
  rintro e w1 ⟨g', c', rfl, q1, o1, b1⟩
  have cz1 : w1.cell? ⟨w.heap.size, 0, none⟩ = some (.int .i64 0) := (b1.cell (p := ⟨w.heap.size, 0, none⟩) (by show w.heap.size < _; omega)).trans cz
  have cf1 : w1.frozen? ⟨w.heap.size, 0, none⟩ = false := (b1.frozen (p := ⟨w.heap.size, 0, none⟩) (by show w.heap.size < _; omega)).trans cf
  have O1 : Hid ((w1.setCell ⟨w.heap.size, 0, none⟩ (.int .i64 0)).ownsRow w.heap.size 2 1 (.slice (some ⟨g', 0, none⟩) n c') n (ints X)) := (by
    have h := o1.kept (row := some w.heap.size) (grown_setCell (World.grownBy.refl w1 (some w.heap.size)) 0 (.int .i64 0)) (.inr (by simp [Value.ownBlock]; omega))
    refine ⟨h.1, ?_⟩
    rcases h.2 with h | ⟨gx, cap, cur, h1, h2, h3⟩
    · exact .inl h
    · exact .inr ⟨gx, cap, cur, h1, by omega, h3⟩)
  have B1 : Hid (Below w.heap.size w (w1.setCell ⟨w.heap.size, 0, none⟩ (.int .i64 0))) := (B0.out.trans (b1.mono (by omega))).setCell (p := ⟨w.heap.size, 0, none⟩) (Nat.le_refl _) _
  have cz2 : (w1.setCell ⟨w.heap.size, 0, none⟩ (.int .i64 0)).cell? ⟨w.heap.size, 0, none⟩ = some (.int .i64 0) := (by simp [go_sem, cz1])
  clear o1 b1 HP B0 cz cf
  go_wp2_with fail
  refine leaves_cons (f := 31) (args := #[.pointer (some ⟨w.heap.size, 0, none⟩)]) (by simp) (by simp [go_sem]) ?_
  refine (catch_idle ⟨w.heap.size, 0, none⟩ _).mono ?_
  rintro e u' w'' ⟨rfl, rfl, hw⟩
  subst hw
  have q1' : w.heap.size ≤ g' := by omega
  simp [Leaves, settle, results, Try.results29, go_sem, cz2, B1.out]
  exact ⟨g', c', ⟨rfl, rfl⟩, q1', O1.out⟩

def fnv2 (s : Nat) : Value := .func (.method "loop.example/g00051/impl.unpack") #[.iface 39 (.agg #[.int .i64 (s : Int)])] #[]

set_option maxHeartbeats 1000000 in
theorem tried2_any (w : World) (s g n cap : Nat) (X : List Int) (hn : X.length = n) (hl : n ≤ 4096) (hg : g < w.heap.size) (hs : 1 ≤ s ∧ s ≤ 12) (hb : bnd n X) (K : ∀ i, i < n → w.cell? ⟨g, i, none⟩ = some (.int .i64 ((wav s n X).getD i 0))) :
    Calls Try.prog 25 #[fnv2 s, .slice (some ⟨g, 0, none⟩) n cap] w fun e w' => ∃ g' c', e = .returned (.tuple #[.slice (some ⟨g', 0, none⟩) n c', .bool true]) ∧ w.heap.size ≤ g' ∧ w'.ownsRow w.heap.size 2 1 (.slice (some ⟨g', 0, none⟩) n c') n (ints X) ∧ Below w.heap.size w w' := by
  obtain ⟨w1, hw1⟩ : ∃ w1, w1 = (w.alloc (.cells #[fnv2 s] 25)).alloc (.cells #[.slice (some ⟨g, 0, none⟩) n cap] 22) := ⟨_, rfl⟩
  have b1 : Below w.heap.size w w1 := by rw [hw1]; exact ((Below.refl _ _).alloc (Nat.le_refl _) _).alloc (by simp) _
  have sz : w1.heap.size = w.heap.size + 2 := by rw [hw1]; simp
  have P := caught2_any w1 w.heap.size (w.heap.size + 1) s g n cap X (by rw [hw1]; simp [go_sem]; rfl) (by rw [hw1]; simp [go_sem]) (by omega) (by omega) hn hl (by omega) hs hb (fun i hi => by rw [b1.cell (p := ⟨g, i, none⟩) hg]; exact K i hi)
  have HP : Hid (Calls Try.prog 29 #[.func (.func 30) #[] #[.pointer (some ⟨w.heap.size, 0, none⟩), .pointer (some ⟨w.heap.size + 1, 0, none⟩)]] ((w.alloc (.cells #[fnv2 s] 25)).alloc (.cells #[.slice (some ⟨g, 0, none⟩) n cap] 22)) fun e w' => ∃ g' c', e = .returned (.tuple #[.slice (some ⟨g', 0, none⟩) n c', .int .i64 0]) ∧ w.heap.size ≤ g' ∧ w'.ownsRow w.heap.size 2 1 (.slice (some ⟨g', 0, none⟩) n c') n (ints X) ∧ Below w.heap.size w w') := (by
    show Calls _ _ _ _ _
    rw [← hw1]
    refine P.mono fun e w' ⟨g', c', he, h1, h2, h3⟩ => ⟨g', c', he, by omega, ?_, b1.trans (h3.mono (by omega))⟩
    refine ⟨h2.1, ?_⟩
    rcases h2.2 with h | ⟨gx, cap, cur, h1, h2, h3⟩
    · exact .inl h
    · exact .inr ⟨gx, cap, cur, h1, by omega, h3⟩)
  have hmf : ∀ (fn : Fn) (first cap : Array Value) (w : World), (Instr.makeFunc fn first cap).run Try.prog w = .ok (.func fn first cap) w := fun _ _ _ _ => rfl
  clear P K hb b1 sz hw1
  unfold fnv2 at HP ⊢
  go_enter Try.func25, Try.ntmps25
  go_wp2_with fail
  refine HP.out.mono ?_
  rintro e w2 ⟨g', c', rfl, q1, o1, b1⟩
  have O1 : Hid (w2.ownsRow w.heap.size 2 1 (.slice (some ⟨g', 0, none⟩) n c') n (ints X)) := o1
  have B1 : Hid (Below w.heap.size w w2) := b1
  clear o1 b1
  go_wp2_with fail
  go_ret2
  exact ⟨_, _, rfl, q1, O1.out, B1.out⟩

set_option maxHeartbeats 1000000 in
theorem back_yes (w : World) (s g n cap : Nat) (X : List Int) (hn : X.length = n) (hl : n ≤ 4096) (hg : g < w.heap.size) (hs : 1 ≤ s ∧ s ≤ 12) (hb : bnd n X) (K : ∀ i, i < n → w.cell? ⟨g, i, none⟩ = some (.int .i64 ((wav s n X).getD i 0))) :
    Calls Try.prog 20 #[.iface 39 (.agg #[.int .i64 (s : Int)]), .slice (some ⟨g, 0, none⟩) n cap] w fun e w' => ∃ g' c', e = .returned (.tuple #[.slice (some ⟨g', 0, none⟩) n c', .bool true]) ∧ w.heap.size ≤ g' ∧ w'.ownsRow w.heap.size 2 1 (.slice (some ⟨g', 0, none⟩) n c') n (ints X) ∧ Below w.heap.size w w' := by
  have P := tried2_any w s g n cap X hn hl hg hs hb K
  have HP : Hid (Calls Try.prog 25 #[fnv2 s, .slice (some ⟨g, 0, none⟩) n cap] w fun e w' => ∃ g' c', e = .returned (.tuple #[.slice (some ⟨g', 0, none⟩) n c', .bool true]) ∧ w.heap.size ≤ g' ∧ w'.ownsRow w.heap.size 2 1 (.slice (some ⟨g', 0, none⟩) n c') n (ints X) ∧ Below w.heap.size w w') := P
  have hmf : ∀ (fn : Fn) (first cap : Array Value) (w : World), (Instr.makeFunc fn first cap).run Try.prog w = .ok (.func fn first cap) w := fun _ _ _ _ => rfl
  clear P K hb
  unfold fnv2 at HP
  go_enter Try.func20, Try.ntmps20
  go_wp2_with fail
  refine HP.out.mono ?_
  rintro e w2 ⟨g', c', rfl, q1, o1, b1⟩
  have O1 : Hid (w2.ownsRow w.heap.size 2 1 (.slice (some ⟨g', 0, none⟩) n c') n (ints X)) := o1
  have B1 : Hid (Below w.heap.size w w2) := b1
  clear o1 b1
  go_wp2_with fail
  go_ret2
  exact ⟨_, _, rfl, q1, O1.out, B1.out⟩

set_option maxHeartbeats 1000000 in
theorem iunwave_yes (w : World) (s g n cap : Nat) (X : List Int) (hn : X.length = n) (hl : n ≤ 4096) (hg : g < w.heap.size) (hc : n ≤ cap) (hcm : cap ≤ maxLen) (hs : 1 ≤ s ∧ s ≤ 12) (hb : bnd n X) (K : ∀ i, i < n → w.cell? ⟨g, i, none⟩ = some (.int .i64 ((wav s n X).getD i 0))) :
    Calls Try.prog 7 #[.slice (some ⟨g, 0, none⟩) n cap, .int .i64 (s : Int)] w fun e w' => ∃ g' c', e = .returned (.tuple #[.slice (some ⟨g', 0, none⟩) n c', .bool true]) ∧ w.heap.size ≤ g' ∧ w'.ownsRow w.heap.size 2 1 (.slice (some ⟨g', 0, none⟩) n c') n (ints X) ∧ Below w.heap.size w w' := by
  have HP : Hid (Calls Try.prog 20 #[.iface 39 (.agg #[.int .i64 (s : Int)]), .slice (some ⟨g, 0, none⟩) n cap] w fun e w' => ∃ g' c', e = .returned (.tuple #[.slice (some ⟨g', 0, none⟩) n c', .bool true]) ∧ w.heap.size ≤ g' ∧ w'.ownsRow w.heap.size 2 1 (.slice (some ⟨g', 0, none⟩) n c') n (ints X) ∧ Below w.heap.size w w') := back_yes w s g n cap X hn hl hg hs hb K
  have wl : (wav s n X).length = n := by rw [wav_len]; exact hn
  have hsm : sml 1152921504606846976 (wav s n X) = true := sml_iff.2 ⟨by omega, fun i hi => by
    have := wav_big s n X (by omega) hb (fun j hj => by have := hb j (by omega); omega) i (by omega)
    omega⟩
  have R : Reads w (.slice (some ⟨g, 0, none⟩) n cap) (wav s n X) := .inr ⟨g, 0, cap, by rw [wl], by omega, hcm, hg, fun i hi => by rw [Nat.zero_add]; exact K i (by omega)⟩
  have HI : Hid (Calls Try.prog 19 #[.slice (some ⟨g, 0, none⟩) n cap, .int .i64 1152921504606846976] w fun e w' => e = .returned (.bool true) ∧ w' = w) := (by have := inum_any w _ (wav s n X) 1152921504606846976 R (by omega) (by omega) (by omega); rw [hsm] at this; exact this)
  have HO : Hid ((decide ((1 : Int) ≤ (s : Int)) && decide ((s : Int) ≤ 12)) = true) := (by show _ = _; simp; omega)
  have HW : Hid (Calls Try.prog 18 #[.int .i64 (s : Int), .int .i64 1, .int .i64 12] w fun e w' => e = .returned (.bool true) ∧ w' = w) := (by have := win_any (s : Int) 1 12 w; rw [HO.out] at this; exact this)
  clear K hb R hsm wl HO
  go_enter Try.func7, Try.ntmps7
  go_wp2_with fail
  refine HW.out.mono ?_
  rintro e w1 ⟨rfl, hw⟩
  have hw' := hw.symm
  subst hw'
  go_wp2_with fail
  refine HI.out.mono ?_
  rintro e w1 ⟨rfl, hw⟩
  have hw' := hw.symm
  subst hw'
  go_wp2_with fail
  refine HP.out.mono ?_
  rintro e w2 ⟨g', c', rfl, q1, o1, b1⟩
  have O1 : Hid (w2.ownsRow w.heap.size 2 1 (.slice (some ⟨g', 0, none⟩) n c') n (ints X)) := o1
  have B1 : Hid (Below w.heap.size w w2) := b1
  clear o1 b1
  go_wp2_with fail
  go_ret2
  exact ⟨_, _, rfl, q1, O1.out, B1.out⟩
end Go.Proofs.Ytpokbicnogcijaa.Lists
