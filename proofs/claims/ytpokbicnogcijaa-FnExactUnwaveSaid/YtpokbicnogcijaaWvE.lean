/- The program's Wave: through a method value that is caught. -/
import Derived.Test.YtpokbicnogcijaaWvD
import Derived.Defers
import Derived.Recover
namespace Go.Proofs.Ytpokbicnogcijaa.Lists
open Go.ChangeShapes Go.WideShapes Go.ChangeAt Go.RowKit

theorem catch_idle (p : Addr) (w : World) :
    CallsD Try.prog 31 #[.pointer (some p)] .returning w fun e u' w' => e = .returned (.tuple #[]) ∧ u' = .returning ∧ w' = w := by
  refine callsD_of_wpS Try.func31 rfl fun c₀ cs hu => ?_
  apply wpS_seq
  apply wpS_region
  simp [wpOpsS, go_sem, recoverD, hu, Try.ntmps31, Exit.thenS]
  have hne : ∀ w, (binOp .neq 20 .nilIface .nilIface).run Try.prog w = .ok (.bool false) w := fun _ => by kernel_rfl
  apply wpS_seq
  apply wpS_region
  simp [wpOpsS, go_sem, Exit.thenS, hne]
  refine wpS_cond (t := false) (by simp [Act.eval, Array.replicate]) ?_
  simp only [Bool.false_eq_true, if_false]
  refine wpS_of_wp (wp_skip ?_)
  cases c₀
  simp_all [bodyPostS, results, Try.results31]

set_option maxHeartbeats 1000000 in
theorem clo_any (w : World) (p q : Nat) (s g n cap : Nat) (X : List Int) (hp : w.cell? ⟨p, 0, none⟩ = some (.func (.method "loop.example/g00051/impl.pack") #[.iface 39 (.agg #[.int .i64 (s : Int)])] #[])) (hq : w.cell? ⟨q, 0, none⟩ = some (.slice (some ⟨g, 0, none⟩) n cap))
    (hn : X.length = n) (hl : n ≤ 4096) (hg : g < w.heap.size) (hs : s ≤ 12) (hb : bnd n X) (K : ∀ i, i < n → w.cell? ⟨g, i, none⟩ = some (.int .i64 (X.getD i 0))) :
    Calls Try.prog 30 #[.pointer (some ⟨p, 0, none⟩), .pointer (some ⟨q, 0, none⟩)] w fun e w' => ∃ g' c', e = .returned (.slice (some ⟨g', 0, none⟩) n c') ∧ w.heap.size ≤ g' ∧ w'.ownsRow w.heap.size 2 1 (.slice (some ⟨g', 0, none⟩) n c') n (ints (wav s n X)) ∧ Below w.heap.size w w' := by
  have P := pack_any w s g n cap X hn hl hg hs hb K
  have HP : Hid (Calls Try.prog 48 #[.agg #[.int .i64 (s : Int)], .slice (some ⟨g, 0, none⟩) n cap] w fun e w' => ∃ g' c', e = .returned (.slice (some ⟨g', 0, none⟩) n c') ∧ w.heap.size ≤ g' ∧ w'.ownsRow w.heap.size 2 1 (.slice (some ⟨g', 0, none⟩) n c') n (ints (wav s n X)) ∧ Below w.heap.size w w') := P
  have hM : ∀ w, (method 200 39 (.agg #[.int .i64 (s : Int)]) "loop.example/g00051/impl.pack").run Try.prog w = .ok (48, .agg #[.int .i64 (s : Int)]) w := fun _ => by kernel_rfl
  clear P K hb
  go_enter Try.func30, Try.ntmps30
  go_wp2_with fail
  refine HP.out.mono ?_
  rintro e w' ⟨g', c', rfl, q1, o1, b1⟩
  have O1 : Hid (w'.ownsRow w.heap.size 2 1 (.slice (some ⟨g', 0, none⟩) n c') n (ints (wav s n X))) := o1
  have B1 : Hid (Below w.heap.size w w') := b1
  clear o1 b1
  go_wp2_with fail
  go_ret
  exact ⟨_, _, rfl, q1, O1.out, B1.out⟩

set_option maxHeartbeats 1000000 in
theorem caught_any (w : World) (p q : Nat) (s g n cap : Nat) (X : List Int) (hp : w.cell? ⟨p, 0, none⟩ = some (.func (.method "loop.example/g00051/impl.pack") #[.iface 39 (.agg #[.int .i64 (s : Int)])] #[])) (hq : w.cell? ⟨q, 0, none⟩ = some (.slice (some ⟨g, 0, none⟩) n cap)) (hp' : p < w.heap.size) (hq' : q < w.heap.size)
    (hn : X.length = n) (hl : n ≤ 4096) (hg : g < w.heap.size) (hs : s ≤ 12) (hb : bnd n X) (K : ∀ i, i < n → w.cell? ⟨g, i, none⟩ = some (.int .i64 (X.getD i 0))) :
    Calls Try.prog 29 #[.func (.func 30) #[] #[.pointer (some ⟨p, 0, none⟩), .pointer (some ⟨q, 0, none⟩)]] w fun e w' => ∃ g' c', e = .returned (.tuple #[.slice (some ⟨g', 0, none⟩) n c', .int .i64 0]) ∧ w.heap.size ≤ g' ∧ w'.ownsRow w.heap.size 2 1 (.slice (some ⟨g', 0, none⟩) n c') n (ints (wav s n X)) ∧ Below w.heap.size w w' := by
  have P := clo_any (w.alloc (.cells #[.int .i64 0] 2)) p q s g n cap X (by rw [World.cell?_alloc_lt _ _ _ hp']; exact hp) (by rw [World.cell?_alloc_lt _ _ _ hq']; exact hq) hn hl (by simp; omega) hs hb (fun i hi => by rw [World.cell?_alloc_lt _ _ _ hg]; exact K i hi)
  have HP : Hid (Calls Try.prog 30 #[.pointer (some ⟨p, 0, none⟩), .pointer (some ⟨q, 0, none⟩)] (w.alloc (.cells #[.int .i64 0] 2)) fun e w' => ∃ g' c', e = .returned (.slice (some ⟨g', 0, none⟩) n c') ∧ (w.alloc (.cells #[.int .i64 0] 2)).heap.size ≤ g' ∧ w'.ownsRow (w.alloc (.cells #[.int .i64 0] 2)).heap.size 2 1 (.slice (some ⟨g', 0, none⟩) n c') n (ints (wav s n X)) ∧ Below (w.alloc (.cells #[.int .i64 0] 2)).heap.size (w.alloc (.cells #[.int .i64 0] 2)) w') := P
  have hmf : ∀ (fn : Fn) (first cap : Array Value) (w : World), (Instr.makeFunc fn first cap).run Try.prog w = .ok (.func fn first cap) w := fun _ _ _ _ => rfl
  have cz : (w.alloc (.cells #[.int .i64 0] 2)).cell? ⟨w.heap.size, 0, none⟩ = some (.int .i64 0) := by simp [go_sem]
  have cf : (w.alloc (.cells #[.int .i64 0] 2)).frozen? ⟨w.heap.size, 0, none⟩ = false := by simp [go_sem]
  clear P K hb hp hq
  have B0 : Hid (Below w.heap.size w (w.alloc (.cells #[.int .i64 0] 2))) := (Below.refl _ _).alloc (Nat.le_refl _) _
  have sz : (w.alloc (.cells #[.int .i64 0] 2)).heap.size = w.heap.size + 1 := by simp
  rw [sz] at HP
  go_enter_defers Try.func29, Try.ntmps29
  go_wp2_with fail
  refine HP.out.mono ?_
  rintro e w1 ⟨g', c', rfl, q1, o1, b1⟩
  have cz1 : w1.cell? ⟨w.heap.size, 0, none⟩ = some (.int .i64 0) := (b1.cell (p := ⟨w.heap.size, 0, none⟩) (by show w.heap.size < _; omega)).trans cz
  have cf1 : w1.frozen? ⟨w.heap.size, 0, none⟩ = false := (b1.frozen (p := ⟨w.heap.size, 0, none⟩) (by show w.heap.size < _; omega)).trans cf
  have O1 : Hid ((w1.setCell ⟨w.heap.size, 0, none⟩ (.int .i64 0)).ownsRow w.heap.size 2 1 (.slice (some ⟨g', 0, none⟩) n c') n (ints (wav s n X))) := (by
    have h := o1.kept (row := some w.heap.size) (grown_setCell (World.grownBy.refl w1 (some w.heap.size)) 0 (.int .i64 0)) (.inr (by simp [Value.ownBlock]; omega))
    refine ⟨h.1, ?_⟩
    rcases h.2 with h | ⟨gx, cap, cur, h1, h2, h3⟩
    · exact .inl h
    · exact .inr ⟨gx, cap, cur, h1, by omega, h3⟩)
  have B1 : Hid (Below w.heap.size w (w1.setCell ⟨w.heap.size, 0, none⟩ (.int .i64 0))) := (B0.out.trans (b1.mono (by omega))).setCell (p := ⟨w.heap.size, 0, none⟩) (Nat.le_refl _) _
  have cz2 : (w1.setCell ⟨w.heap.size, 0, none⟩ (.int .i64 0)).cell? ⟨w.heap.size, 0, none⟩ = some (.int .i64 0) := (by simp [go_sem, cz1])
  clear o1 b1 HP B0 cz cf
  go_wp2_with fail
  refine leaves_cons (f := 31) (args := #[.pointer (some ⟨w.heap.size, 0, none⟩)]) (by simp) (by simp [go_sem]) ?_
  refine (catch_idle ⟨w.heap.size, 0, none⟩ _).mono ?_
  rintro e u' w'' ⟨rfl, rfl, hw⟩
  subst hw
  have q1' : w.heap.size ≤ g' := by omega
  simp [Leaves, settle, results, Try.results29, go_sem, cz2, B1.out]
  exact ⟨g', c', ⟨rfl, rfl⟩, q1', O1.out⟩

def fnv (s : Nat) : Value := .func (.method "loop.example/g00051/impl.pack") #[.iface 39 (.agg #[.int .i64 (s : Int)])] #[]

set_option maxHeartbeats 1000000 in
theorem tried_any (w : World) (s g n cap : Nat) (X : List Int) (hn : X.length = n) (hl : n ≤ 4096) (hg : g < w.heap.size) (hs : s ≤ 12) (hb : bnd n X) (K : ∀ i, i < n → w.cell? ⟨g, i, none⟩ = some (.int .i64 (X.getD i 0))) :
    Calls Try.prog 25 #[fnv s, .slice (some ⟨g, 0, none⟩) n cap] w fun e w' => ∃ g' c', e = .returned (.tuple #[.slice (some ⟨g', 0, none⟩) n c', .bool true]) ∧ w.heap.size ≤ g' ∧ w'.ownsRow w.heap.size 2 1 (.slice (some ⟨g', 0, none⟩) n c') n (ints (wav s n X)) ∧ Below w.heap.size w w' := by
  obtain ⟨w1, hw1⟩ : ∃ w1, w1 = (w.alloc (.cells #[fnv s] 25)).alloc (.cells #[.slice (some ⟨g, 0, none⟩) n cap] 22) := ⟨_, rfl⟩
  have b1 : Below w.heap.size w w1 := by rw [hw1]; exact ((Below.refl _ _).alloc (Nat.le_refl _) _).alloc (by simp) _
  have sz : w1.heap.size = w.heap.size + 2 := by rw [hw1]; simp
  have P := caught_any w1 w.heap.size (w.heap.size + 1) s g n cap X (by rw [hw1]; simp [go_sem]; rfl) (by rw [hw1]; simp [go_sem]) (by omega) (by omega) hn hl (by omega) hs hb (fun i hi => by rw [b1.cell (p := ⟨g, i, none⟩) hg]; exact K i hi)
  have HP : Hid (Calls Try.prog 29 #[.func (.func 30) #[] #[.pointer (some ⟨w.heap.size, 0, none⟩), .pointer (some ⟨w.heap.size + 1, 0, none⟩)]] ((w.alloc (.cells #[fnv s] 25)).alloc (.cells #[.slice (some ⟨g, 0, none⟩) n cap] 22)) fun e w' => ∃ g' c', e = .returned (.tuple #[.slice (some ⟨g', 0, none⟩) n c', .int .i64 0]) ∧ w.heap.size ≤ g' ∧ w'.ownsRow w.heap.size 2 1 (.slice (some ⟨g', 0, none⟩) n c') n (ints (wav s n X)) ∧ Below w.heap.size w w') := (by
    show Calls _ _ _ _ _
    rw [← hw1]
    refine P.mono fun e w' ⟨g', c', he, h1, h2, h3⟩ => ⟨g', c', he, by omega, ?_, b1.trans (h3.mono (by omega))⟩
    refine ⟨h2.1, ?_⟩
    rcases h2.2 with h | ⟨gx, cap, cur, h1, h2, h3⟩
    · exact .inl h
    · exact .inr ⟨gx, cap, cur, h1, by omega, h3⟩)
  have hmf : ∀ (fn : Fn) (first cap : Array Value) (w : World), (Instr.makeFunc fn first cap).run Try.prog w = .ok (.func fn first cap) w := fun _ _ _ _ => rfl
  clear P K hb b1 sz hw1
  unfold fnv at HP ⊢
  go_enter Try.func25, Try.ntmps25
  go_wp2_with fail
  refine HP.out.mono ?_
  rintro e w2 ⟨g', c', rfl, q1, o1, b1⟩
  have O1 : Hid (w2.ownsRow w.heap.size 2 1 (.slice (some ⟨g', 0, none⟩) n c') n (ints (wav s n X))) := o1
  have B1 : Hid (Below w.heap.size w w2) := b1
  clear o1 b1
  go_wp2_with fail
  go_ret2
  exact ⟨_, _, rfl, q1, O1.out, B1.out⟩

set_option maxHeartbeats 1000000 in
theorem forth_yes (w : World) (s g n cap : Nat) (X : List Int) (hn : X.length = n) (hg : g < w.heap.size) (hs : s ≤ 12) (hc : n ≤ cap) (hcm : cap ≤ maxLen) (hsm : sml 1099511627776 X = true) (K : ∀ i, i < n → w.cell? ⟨g, i, none⟩ = some (.int .i64 (X.getD i 0))) :
    Calls Try.prog 24 #[.iface 39 (.agg #[.int .i64 (s : Int)]), .slice (some ⟨g, 0, none⟩) n cap] w fun e w' => ∃ g' c', e = .returned (.tuple #[.slice (some ⟨g', 0, none⟩) n c', .bool true]) ∧ w.heap.size ≤ g' ∧ w'.ownsRow w.heap.size 2 1 (.slice (some ⟨g', 0, none⟩) n c') n (ints (wav s n X)) ∧ Below w.heap.size w w' := by
  obtain ⟨sl, sb⟩ := sml_iff.1 hsm
  have R : Reads w (.slice (some ⟨g, 0, none⟩) n cap) X := by subst hn; exact .inr ⟨g, 0, cap, rfl, hc, hcm, hg, fun i hi => by rw [Nat.zero_add]; exact K i hi⟩
  have P := tried_any w s g n cap X hn (by omega) hg hs (fun i hi => sb i (by omega)) K
  have HP : Hid (Calls Try.prog 25 #[fnv s, .slice (some ⟨g, 0, none⟩) n cap] w fun e w' => ∃ g' c', e = .returned (.tuple #[.slice (some ⟨g', 0, none⟩) n c', .bool true]) ∧ w.heap.size ≤ g' ∧ w'.ownsRow w.heap.size 2 1 (.slice (some ⟨g', 0, none⟩) n c') n (ints (wav s n X)) ∧ Below w.heap.size w w') := P
  have HI : Hid (Calls Try.prog 19 #[.slice (some ⟨g, 0, none⟩) n cap, .int .i64 1099511627776] w fun e w' => e = .returned (.bool true) ∧ w' = w) := (by have := inum_any w _ X 1099511627776 R (by omega) (by omega) (by omega); rw [hsm] at this; exact this)
  have hmf : ∀ (fn : Fn) (first cap : Array Value) (w : World), (Instr.makeFunc fn first cap).run Try.prog w = .ok (.func fn first cap) w := fun _ _ _ _ => rfl
  clear P K R sb sl hsm
  unfold fnv at HP
  go_enter Try.func24, Try.ntmps24
  go_wp2_with fail
  refine HI.out.mono ?_
  rintro e w1 ⟨rfl, hw⟩
  have hw' := hw.symm
  subst hw'
  go_wp2_with fail
  refine HP.out.mono ?_
  rintro e w2 ⟨g', c', rfl, q1, o1, b1⟩
  have O1 : Hid (w2.ownsRow w.heap.size 2 1 (.slice (some ⟨g', 0, none⟩) n c') n (ints (wav s n X))) := o1
  have B1 : Hid (Below w.heap.size w w2) := b1
  clear o1 b1
  go_wp2_with fail
  go_ret2
  exact ⟨_, _, rfl, q1, O1.out, B1.out⟩
set_option maxHeartbeats 1000000 in
theorem forth_no (w : World) (s : Int) (g n cap : Nat) (X : List Int) (hn : X.length = n) (hg : g < w.heap.size) (hc : n ≤ cap) (hcm : cap ≤ maxLen) (hsm : sml 1099511627776 X = false) (K : ∀ i, i < n → w.cell? ⟨g, i, none⟩ = some (.int .i64 (X.getD i 0))) :
    Calls Try.prog 24 #[.iface 39 (.agg #[.int .i64 s]), .slice (some ⟨g, 0, none⟩) n cap] w fun e w' => e = .returned (.tuple #[.slice none 0 0, .bool false]) ∧ w' = w := by
  have R : Reads w (.slice (some ⟨g, 0, none⟩) n cap) X := by subst hn; exact .inr ⟨g, 0, cap, rfl, hc, hcm, hg, fun i hi => by rw [Nat.zero_add]; exact K i hi⟩
  have HI : Hid (Calls Try.prog 19 #[.slice (some ⟨g, 0, none⟩) n cap, .int .i64 1099511627776] w fun e w' => e = .returned (.bool false) ∧ w' = w) := (by unfold maxLen at hcm; have := inum_any w _ X 1099511627776 R (by omega) (by omega) (by omega); rw [hsm] at this; exact this)
  clear K R hsm
  go_enter Try.func24, Try.ntmps24
  go_wp2_with fail
  refine HI.out.mono ?_
  rintro e w1 ⟨rfl, hw⟩
  have hw' := hw.symm
  subst hw'
  go_wp2_with fail
  go_ret2
  exact ⟨rfl, rfl⟩

def okS (s : Int) : Bool := decide (1 ≤ s) && decide (s ≤ 12)
def wvs (L : List Int) (s : Int) : List Int := if sml 1099511627776 L && okS s then wav s.toNat L.length L else []
def wvb (L : List Int) (s : Int) : Bool := sml 1099511627776 L && okS s

set_option maxHeartbeats 1000000 in
theorem iwave_any (w : World) (s : Int) (g cap : Nat) (X : List Int) (hg : g < w.heap.size) (hc : X.length ≤ cap) (hcm : cap ≤ maxLen) (K : ∀ i, i < X.length → w.cell? ⟨g, i, none⟩ = some (.int .i64 (X.getD i 0))) :
    Calls Try.prog 14 #[.slice (some ⟨g, 0, none⟩) X.length cap, .int .i64 s] w fun e w' => ∃ v, e = .returned (.tuple #[v, .bool (wvb X s)]) ∧ w'.ownsRow w.heap.size 2 1 v (wvs X s).length (ints (wvs X s)) ∧ Below w.heap.size w w' := by
  cases ho : okS s
  · have e1 : wvs X s = [] := by unfold wvs; rw [ho]; simp
    have e2 : wvb X s = false := by unfold wvb; rw [ho]; simp
    rw [e1, e2]
    have HO : Hid (okS s = false) := ho
    clear ho K e1 e2
    go_enter Try.func14, Try.ntmps14
    go_wp2_with (go_at_call 18; refine (win_any _ _ _ _).mono ?_; rintro e w' ⟨rfl, hw⟩; subst hw; rw [show (decide (1 ≤ s) && decide (s ≤ 12)) = false from HO.out])
    go_ret2
    exact ⟨_, rfl, World.ownsRow_nil _ _ _ _, Below.refl _ _⟩
  · obtain ⟨t, rfl⟩ : ∃ t : Nat, s = (t : Int) := ⟨s.toNat, by unfold okS at ho; simp at ho; omega⟩
    have ht : t ≤ 12 := by unfold okS at ho; simp at ho; omega
    have HO : Hid (okS (t : Int) = true) := ho
    cases hs : sml 1099511627776 X
    · have e1 : wvs X t = [] := by unfold wvs; rw [hs]; simp
      have e2 : wvb X t = false := by unfold wvb; rw [hs]; simp
      rw [e1, e2]
      have HP : Hid (Calls Try.prog 24 #[.iface 39 (.agg #[.int .i64 (t : Int)]), .slice (some ⟨g, 0, none⟩) X.length cap] w fun e w' => e = .returned (.tuple #[.slice none 0 0, .bool false]) ∧ w' = w) := forth_no w t g _ cap X rfl hg hc hcm hs K
      clear ho K e1 e2 hs
      go_enter Try.func14, Try.ntmps14
      go_wp2_with (go_at_call 18; refine (win_any _ _ _ _).mono ?_; rintro e w' ⟨rfl, hw⟩; have hw' := hw.symm; subst hw'; rw [show (decide ((1 : Int) ≤ (t : Int)) && decide ((t : Int) ≤ 12)) = true from HO.out])
      refine HP.out.mono ?_
      rintro e w1 ⟨rfl, hw⟩
      have hw' := hw.symm
      subst hw'
      go_wp2_with fail
      go_ret2
      exact ⟨_, rfl, World.ownsRow_nil _ _ _ _, Below.refl _ _⟩
    · have e1 : wvs X t = wav t X.length X := by unfold wvs; rw [hs, ho]; simp
      have e2 : wvb X t = true := by unfold wvb; rw [hs, ho]; simp
      rw [e1, e2, wav_len]
      have HP : Hid (Calls Try.prog 24 #[.iface 39 (.agg #[.int .i64 (t : Int)]), .slice (some ⟨g, 0, none⟩) X.length cap] w fun e w' => ∃ g' c', e = .returned (.tuple #[.slice (some ⟨g', 0, none⟩) X.length c', .bool true]) ∧ w.heap.size ≤ g' ∧ w'.ownsRow w.heap.size 2 1 (.slice (some ⟨g', 0, none⟩) X.length c') X.length (ints (wav t X.length X)) ∧ Below w.heap.size w w') := forth_yes w t g _ cap X rfl hg ht hc hcm hs K
      clear ho K e1 e2 hs
      go_enter Try.func14, Try.ntmps14
      go_wp2_with (go_at_call 18; refine (win_any _ _ _ _).mono ?_; rintro e w' ⟨rfl, hw⟩; have hw' := hw.symm; subst hw'; rw [show (decide ((1 : Int) ≤ (t : Int)) && decide ((t : Int) ≤ 12)) = true from HO.out])
      refine HP.out.mono ?_
      rintro e w2 ⟨g', c', rfl, q1, o1, b1⟩
      have O1 : Hid (w2.ownsRow w.heap.size 2 1 (.slice (some ⟨g', 0, none⟩) X.length c') X.length (ints (wav t X.length X))) := o1
      have B1 : Hid (Below w.heap.size w w2) := b1
      clear o1 b1
      go_wp2_with fail
      go_ret2
      exact ⟨_, rfl, O1.out, B1.out⟩
end Go.Proofs.Ytpokbicnogcijaa.Lists
