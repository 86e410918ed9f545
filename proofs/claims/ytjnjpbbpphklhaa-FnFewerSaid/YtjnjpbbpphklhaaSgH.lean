/- The significant places: the program's function. -/
import Derived.Test.YtjnjpbbpphklhaaSgG
import Derived.Laws.EntriesVeiled
namespace Go.Proofs.Ytjnjpbbpphklhaa.Flt
open Go.ChangeShapes Go.WideShapes Go.ChangeAt Go.RowKit
attribute [local go_sem] run_store_float

abbrev bx2 (w : World) (v : Value) (tol : Nat) : World := (w.alloc (.cells #[v] 24)).alloc (.cells #[.float .f64 tol] 25)
theorem bx2_below (w : World) (v : Value) (tol : Nat) : Below w.heap.size w (bx2 w v tol) := ((Below.refl _ _).alloc (Nat.le_refl _) _).alloc (by simp) _
theorem bx2_l (w : World) (v : Value) (tol : Nat) : (bx2 w v tol).heap[w.heap.size]? = some (.cells #[v] 24 (0, 0)) := by
  rw [Below.heap_alloc _ _ _ (by simp)]
  exact heap_alloc_new w _
theorem bx2_t (w : World) (v : Value) (tol : Nat) : (bx2 w v tol).heap[w.heap.size + 1]? = some (.cells #[.float .f64 tol] 25 (0, 0)) := by
  have := heap_alloc_new (w.alloc (.cells #[v] 24)) (.cells #[.float .f64 tol] 25)
  simpa using this

abbrev bx5 (w2 : World) (bl bt : Nat) : World := ((w2.alloc (.cells #[.int .i64 0] 2)).alloc (.cells #[.slice (some ⟨w2.heap.size, 0, none⟩) 1 1] 28)).alloc (.cells #[fnv bl bt (w2.heap.size + 1 + 1) (w2.heap.size + 1)] 43)
theorem bx5_below (w2 : World) (bl bt : Nat) : Below w2.heap.size w2 (bx5 w2 bl bt) := (((Below.refl _ _).alloc (Nat.le_refl _) _).alloc (by simp) _).alloc (by simp; omega) _
theorem bx5_ok {w : World} {v : Value} {tol : Nat} {w2 : World} {bl bt : Nat} (hb : Below w.heap.size w w2) (hl : w2.heap[bl]? = some (.cells #[v] 24 (0, 0))) (ht : w2.heap[bt]? = some (.cells #[.float .f64 tol] 25 (0, 0))) :
    Bxs w v tol bl bt (w2.heap.size + 1 + 1) (w2.heap.size + 1) (.slice (some ⟨w2.heap.size, 0, none⟩) 1 1) [0] (bx5 w2 bl bt) := by
  refine ⟨hb.trans ((bx5_below w2 bl bt).mono hb.size), Nat.le_succ_of_le hb.size, blk_on (bx5_below w2 bl bt) hl, blk_on (bx5_below w2 bl bt) ht, ?_, ?_, ?_⟩
  · have := heap_alloc_new ((w2.alloc (.cells #[.int .i64 0] 2)).alloc (.cells #[.slice (some ⟨w2.heap.size, 0, none⟩) 1 1] 28)) (.cells #[fnv bl bt (w2.heap.size + 1 + 1) (w2.heap.size + 1)] 43)
    simpa using this
  · rw [Below.heap_alloc _ _ _ (by simp)]
    have := heap_alloc_new (w2.alloc (.cells #[.int .i64 0] 2)) (.cells #[.slice (some ⟨w2.heap.size, 0, none⟩) 1 1] 28)
    simpa using this
  · exact ((World.ownsRow_lit w2 #[.int .i64 0] 1 hb.size (by decide) rfl).alloc _).alloc _

set_option maxHeartbeats 1000000 in
theorem isig_no1 (w : World) (v : Value) (L : Lv) (tol : Nat) (h : Reads w v L) (hm : L.length ≤ 1048576) (hk : lok L = false) :
    Calls Try.prog 7 #[v, .float .f64 tol] w fun e w' => ∃ v', e = .returned v' ∧ w'.ownsRow w.heap.size 2 1 v' 0 (ints []) ∧ Below w.heap.size w w' := by
  have HM : Hid (L.length ≤ 1048576) := hm
  have HA : Hid (Reads (bx2 w v tol) v L) := h.on (bx2_below w v tol)
  have r1 := cell_of_one (bx2_l w v tol)
  have r2 := cell_of_one (bx2_t w v tol)
  obtain ⟨a, cap, rfl⟩ := h.form
  clear h hm
  go_enter Try.func7, Try.ntmps7
  go_wp2_with fail
  refine (iok_any _ _ L HA.out HM.out).mono ?_
  rintro e w1 ⟨rfl, b1⟩
  rw [hk]
  have B1 : Hid (Below w.heap.size w w1) := (bx2_below _ _ _).trans (b1.mono (bx2_below _ _ _).size)
  clear b1
  go_wp2_with fail
  go_ret
  exact ⟨_, rfl, ⟨rfl, .inl ⟨rfl, rfl⟩⟩, B1.out⟩
set_option maxHeartbeats 1000000 in
theorem isig_no2 (w : World) (v : Value) (L : Lv) (tol : Nat) (h : Reads w v L) (hm : L.length ≤ 1048576) (hx : tol < 18446744073709551616) (hk : lok L = true) (h2 : kn tol = false) :
    Calls Try.prog 7 #[v, .float .f64 tol] w fun e w' => ∃ v', e = .returned v' ∧ w'.ownsRow w.heap.size 2 1 v' 0 (ints []) ∧ Below w.heap.size w w' := by
  have HM : Hid (L.length ≤ 1048576) := hm
  have HX : Hid (tol < 18446744073709551616) := hx
  have HA : Hid (Reads (bx2 w v tol) v L) := h.on (bx2_below w v tol)
  have r1 := cell_of_one (bx2_l w v tol)
  obtain ⟨a, cap, rfl⟩ := h.form
  clear h hm hx
  go_enter Try.func7, Try.ntmps7
  go_wp2_with fail
  refine (iok_any _ _ L HA.out HM.out).mono ?_
  rintro e w1 ⟨rfl, b1⟩
  rw [hk]
  have B1 : Hid (Below w.heap.size w w1) := (bx2_below _ _ _).trans (b1.mono (bx2_below _ _ _).size)
  have r2 := cell_of_one (blk_on b1 (bx2_t _ _ _))
  clear b1
  go_wp2_with fail
  refine (iknown _ _ HX.out).mono ?_
  rintro e w2 ⟨rfl, hw2⟩
  subst hw2
  rw [h2]
  go_wp2_with fail
  go_ret
  exact ⟨_, rfl, ⟨rfl, .inl ⟨rfl, rfl⟩⟩, B1.out⟩
set_option maxHeartbeats 1000000 in
theorem isig_no3 (w : World) (v : Value) (L : Lv) (tol : Nat) (h : Reads w v L) (hm : L.length ≤ 1048576) (hx : tol < 18446744073709551616) (hk : lok L = true) (h2 : kn tol = true) (h3 : (ord tol 0 == some .lt) = true) :
    Calls Try.prog 7 #[v, .float .f64 tol] w fun e w' => ∃ v', e = .returned v' ∧ w'.ownsRow w.heap.size 2 1 v' 0 (ints []) ∧ Below w.heap.size w w' := by
  have HM : Hid (L.length ≤ 1048576) := hm
  have HX : Hid (tol < 18446744073709551616) := hx
  have HA : Hid (Reads (bx2 w v tol) v L) := h.on (bx2_below w v tol)
  have r1 := cell_of_one (bx2_l w v tol)
  obtain ⟨a, cap, rfl⟩ := h.form
  clear h hm hx
  go_enter Try.func7, Try.ntmps7
  go_wp2_with fail
  refine (iok_any _ _ L HA.out HM.out).mono ?_
  rintro e w1 ⟨rfl, b1⟩
  rw [hk]
  have B1 : Hid (Below w.heap.size w w1) := (bx2_below _ _ _).trans (b1.mono (bx2_below _ _ _).size)
  have r2 := cell_of_one (blk_on b1 (bx2_t _ _ _))
  clear b1
  go_wp2_with fail
  refine (iknown _ _ HX.out).mono ?_
  rintro e w2 ⟨rfl, hw2⟩
  subst hw2
  rw [h2]
  go_wp2_with fail
  go_ret
  exact ⟨_, rfl, ⟨rfl, .inl ⟨rfl, rfl⟩⟩, B1.out⟩
set_option maxHeartbeats 1000000 in
theorem isig_yes (w : World) (v : Value) (L : Lv) (tol : Nat) (h : Reads w v L) (hx : tol < 18446744073709551616) (hk : lok L = true) (h2 : kn tol = true) (h3 : (ord tol 0 == some .lt) = false) :
    Calls Try.prog 7 #[v, .float .f64 tol] w fun e w' => ∃ v', e = .returned v' ∧ w'.ownsRow w.heap.size 2 1 v' (sgs L tol).length (ints (sgs L tol)) ∧ Below w.heap.size w w' := by
  have H0 : Hid (Reads w v L) := h
  obtain ⟨l2, l4, hok⟩ := lok_size hk
  obtain ⟨hn, hkey⟩ := tol_key h2 h3
  rw [sgs_yes hk h2 h3]
  have HM : Hid (L.length ≤ 1048576) := (by show _ ≤ _; omega)
  have HX : Hid (tol < 18446744073709551616) := hx
  have HA : Hid (Reads (bx2 w v tol) v L) := h.on (bx2_below w v tol)
  have r1 := cell_of_one (bx2_l w v tol)
  have CL : Hid (∀ (bl bt bc bp : Nat) (w1 : World) (vp : Value), Bxs w v tol bl bt bc bp vp [0] w1 → Calls Try.prog 18 #[.int .i64 ((0 : Nat) : Int), .int .i64 ((L.length - 1 : Nat) : Int), pt bl, pt bt, pt bc, pt bp] w1 fun e w' => e = .returned (.tuple #[]) ∧ ∃ vp', Bxs w v tol bl bt bc bp vp' ([0] ++ sg2 L tol (L.length - 1) 0 (L.length - 1) ++ [((L.length - 1 : Nat) : Int)]) w') := fun bl bt bc bp w1 vp hB => clo_any w v tol bl bt bc bp L h hok l4 hkey (L.length - 1) 0 (L.length - 1) w1 [0] vp (by omega) (by omega) (by omega) (by simp; omega) hB
  generalize [0] ++ sg2 L tol (L.length - 1) 0 (L.length - 1) ++ [((L.length - 1 : Nat) : Int)] = S at *
  obtain ⟨a, cap, rfl⟩ := h.form
  obtain ⟨n, hnn⟩ : ∃ n, L.length = n + 1 := ⟨L.length - 1, by omega⟩
  have eN : L.length - 1 = n := by omega
  rw [eN] at CL
  rw [hnn] at HA H0 CL r1 HM ⊢
  have j0 : IntKind.i64.wrap (((n + 1 : Nat) : Int) - 1) = (n : Int) := (by rw [show ((n + 1 : Nat) : Int) - 1 = (n : Int) by omega]; exact IntWalk.i64_in _ (by omega))
  have j1 : n ≤ 400 := by omega
  have HM : Hid (L.length ≤ 1048576) := (by show _ ≤ _; omega)
  clear h hx hok hn hkey eN hnn l2 l4
  go_enter Try.func7, Try.ntmps7
  go_wp2_with fail
  refine (iok_any _ _ L HA.out HM.out).mono ?_
  rintro e w1 ⟨rfl, b1⟩
  rw [hk]
  have B1 : Hid (Below w.heap.size w w1) := (bx2_below _ _ _).trans (b1.mono (bx2_below _ _ _).size)
  have X1 : Hid (w1.heap[w.heap.size]? = some (.cells #[Value.slice a (n + 1) cap] 24 (0, 0)) ∧ w1.heap[w.heap.size + 1]? = some (.cells #[.float .f64 tol] 25 (0, 0))) := ⟨blk_on b1 (bx2_l _ _ _), blk_on b1 (bx2_t _ _ _)⟩
  have r2 := cell_of_one X1.out.2
  clear b1
  go_wp2_with fail
  refine (iknown _ _ HX.out).mono ?_
  rintro e w2 ⟨rfl, hw2⟩
  subst hw2
  rw [h2]
  have X2 : Hid (Bxs w (Value.slice a (n + 1) cap) tol w.heap.size (w.heap.size + 1) (w2.heap.size + 1 + 1) (w2.heap.size + 1) (.slice (some ⟨w2.heap.size, 0, none⟩) 1 1) [0] (bx5 w2 w.heap.size (w.heap.size + 1))) := bx5_ok B1.out X1.out.1 X1.out.2
  have r4 := cell_of_one X2.out.l
  go_wp2_with fail
  refine (CL.out _ _ _ _ _ _ X2.out).mono ?_
  rintro e w3 ⟨rfl, vp, hX3⟩
  have X3 : Hid (Bxs w (Value.slice a (n + 1) cap) tol w.heap.size (w.heap.size + 1) (w2.heap.size + 1 + 1) (w2.heap.size + 1) vp S w3) := hX3
  have r5 := cell_of_one hX3.p
  clear hX3
  go_wp2_with fail
  go_ret
  exact ⟨_, rfl, X3.out.own, X3.out.bel⟩
theorem isig_any (w : World) (v : Value) (L : Lv) (tol : Nat) (h : Reads w v L) (hm : L.length ≤ 1048576) (hx : tol < 18446744073709551616) : Calls Try.prog 7 #[v, .float .f64 tol] w fun e w' => ∃ v', e = .returned v' ∧ w'.ownsRow w.heap.size 2 1 v' (sgs L tol).length (ints (sgs L tol)) ∧ Below w.heap.size w w' := by
  cases hk : lok L
  · rw [sgs_no1 hk]; exact isig_no1 w v L tol h hm hk
  · cases h2 : kn tol
    · rw [sgs_no2 h2]; exact isig_no2 w v L tol h hm hx hk h2
    · cases h3 : (ord tol 0 == some .lt)
      · exact isig_yes w v L tol h hx hk h2 h3
      · rw [sgs_no3 h3]; exact isig_no3 w v L tol h hm hx hk h2 h3
theorem sgs_le (L : Lv) (tol : Nat) : (sgs L tol).length ≤ 1048576 := by
  cases hk : lok L
  · rw [sgs_no1 hk]; exact Nat.zero_le _
  · cases h2 : kn tol
    · rw [sgs_no2 h2]; exact Nat.zero_le _
    · cases h3 : (ord tol 0 == some .lt)
      · rw [sgs_yes hk h2 h3]
        obtain ⟨l2, l4, _⟩ := lok_size hk
        have := sg2_len L tol (tol_key h2 h3).2 (L.length - 1) 0 (L.length - 1) (by omega)
        simp only [List.length_append, List.length_cons, List.length_nil]
        omega
      · rw [sgs_no3 h3]; exact Nat.zero_le _
end Go.Proofs.Ytjnjpbbpphklhaa.Flt
