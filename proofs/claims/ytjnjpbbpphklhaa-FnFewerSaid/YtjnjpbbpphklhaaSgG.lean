/- The significant places: the model's function. -/
import Derived.Test.YtjnjpbbpphklhaaSgE
namespace Go.Proofs.Ytjnjpbbpphklhaa.Flt
open Go.ChangeShapes Go.WideShapes Go.ChangeAt Go.RowKit
attribute [local go_sem] run_store_float

def sgs (L : Lv) (tol : Nat) : List Int := if lok L && (kn tol && !(ord tol 0 == some .lt)) then [0] ++ sg2 L tol (L.length - 1) 0 (L.length - 1) ++ [((L.length - 1 : Nat) : Int)] else []
theorem sgs_no1 {L : Lv} {tol : Nat} (h : lok L = false) : sgs L tol = [] := by unfold sgs; rw [h]; rfl
theorem sgs_no2 {L : Lv} {tol : Nat} (h : kn tol = false) : sgs L tol = [] := by unfold sgs; rw [h]; simp
theorem sgs_no3 {L : Lv} {tol : Nat} (h : (ord tol 0 == some .lt) = true) : sgs L tol = [] := by unfold sgs; rw [h]; simp
theorem sgs_yes {L : Lv} {tol : Nat} (h1 : lok L = true) (h2 : kn tol = true) (h3 : (ord tol 0 == some .lt) = false) : sgs L tol = [0] ++ sg2 L tol (L.length - 1) 0 (L.length - 1) ++ [((L.length - 1 : Nat) : Int)] := by unfold sgs; rw [h1, h2, h3]; rfl
theorem tol_key {tol : Nat} (h2 : kn tol = true) (h3 : (ord tol 0 == some .lt) = false) : nan tol = false ∧ 0 ≤ key tol := by
  have hr := kn_lt h2
  have hn : nan tol = false := fin_nan hr
  refine ⟨hn, ?_⟩
  rw [ord_key tol 0 (by omega) (by decide +kernel)] at h3
  have k0 : key 0 = 0 := by decide +kernel
  rw [k0] at h3
  by_cases c : key tol < 0
  · rw [c_lt c] at h3; simp at h3
  · omega

theorem wpList_append_nil {P : Program} {w : World} {ops : Array Oper} {rest : List Oper} {o : Oper} {a : Act} {Q : Exit → Act → World → Prop} (hgd : o.guard = none) (s x : Operand) (t : TypeId)
    (ho : o.op = .call { callee := .builtin .append, args := #[s, x], argTypes := #[t, t] })
    (base : Nat) (e : TypeId) (i : TypeInfo) (size : Nat) (ht : P.underlying t = some (.slice e)) (hi : P.info? e = some i)
    (v : Value) (n : Nat) (xs : List Value) (hs : a.eval s = v) (hown : w.ownsRow base e size v n xs) (hx : a.eval x = .slice none 0 0)
    (h : ∀ v', w.ownsRow base e size v' n xs → wpList P ops Q rest (a.put o.dst v') w) : wpList P ops Q (o :: rest) a w :=
  wpList_append_own_none hgd s x t ho base e i size ht hi v n xs hs hown hx (h v hown)

set_option maxHeartbeats 1000000 in
theorem ssig_no1 (w : World) (v : Value) (L : Lv) (tol : Nat) (h : Reads w v L) (hk : lok L = false) :
    Calls Try.prog 8 #[v, .float .f64 tol] w fun e w' => ∃ v', e = .returned v' ∧ w'.ownsRow w.heap.size 2 1 v' 0 (ints []) ∧ Below w.heap.size w w' := by
  have HA : Hid (Reads (w.alloc (.cells #[] 2)) v L) := h.on ((Below.refl _ _).alloc (Nat.le_refl _) _)
  obtain ⟨a, cap, rfl⟩ := h.form
  clear h
  go_enter Try.func8, Try.ntmps8
  go_wp2_with fail
  refine (sok_any _ _ L HA.out).mono ?_
  rintro e w1 ⟨rfl, b1⟩
  rw [hk]
  have B1 : Hid (Below w.heap.size w w1) := ((Below.refl _ _).alloc (Nat.le_refl _) _).trans (b1.mono (by simp))
  have R1 : Hid (w1.ownsRow w.heap.size 2 1 (.slice (some ⟨w.heap.size, 0, none⟩) 0 0) 0 []) := row_below (row_empty w _ (Nat.le_refl _)) b1
  clear b1
  go_wp2_with fail
  go_ret
  exact ⟨_, rfl, R1.out, B1.out⟩
set_option maxHeartbeats 1000000 in
theorem ssig_no2 (w : World) (v : Value) (L : Lv) (tol : Nat) (h : Reads w v L) (hk : lok L = true) (h2 : kn tol = false) :
    Calls Try.prog 8 #[v, .float .f64 tol] w fun e w' => ∃ v', e = .returned v' ∧ w'.ownsRow w.heap.size 2 1 v' 0 (ints []) ∧ Below w.heap.size w w' := by
  have HA : Hid (Reads (w.alloc (.cells #[] 2)) v L) := h.on ((Below.refl _ _).alloc (Nat.le_refl _) _)
  obtain ⟨a, cap, rfl⟩ := h.form
  have HK : Hid (9218868437227405312 ≤ rng tol) := kn_ge h2
  clear h h2
  go_enter Try.func8, Try.ntmps8
  go_wp2_with fail
  refine (sok_any _ _ L HA.out).mono ?_
  rintro e w1 ⟨rfl, b1⟩
  rw [hk]
  have B1 : Hid (Below w.heap.size w w1) := ((Below.refl _ _).alloc (Nat.le_refl _) _).trans (b1.mono (by simp))
  have R1 : Hid (w1.ownsRow w.heap.size 2 1 (.slice (some ⟨w.heap.size, 0, none⟩) 0 0) 0 []) := row_below (row_empty w _ (Nat.le_refl _)) b1
  clear b1
  go_wp2_with fail
  refine (known_no _ _ HK.out).mono ?_
  rintro e w2 ⟨rfl, hw2⟩
  subst hw2
  go_wp2_with fail
  go_ret
  exact ⟨_, rfl, R1.out, below_drewN B1.out _⟩
set_option maxHeartbeats 1000000 in
theorem ssig_no3 (w : World) (v : Value) (L : Lv) (tol : Nat) (h : Reads w v L) (hk : lok L = true) (h2 : kn tol = true) (h3 : (ord tol 0 == some .lt) = true) :
    Calls Try.prog 8 #[v, .float .f64 tol] w fun e w' => ∃ v', e = .returned v' ∧ w'.ownsRow w.heap.size 2 1 v' 0 (ints []) ∧ Below w.heap.size w w' := by
  have HA : Hid (Reads (w.alloc (.cells #[] 2)) v L) := h.on ((Below.refl _ _).alloc (Nat.le_refl _) _)
  obtain ⟨a, cap, rfl⟩ := h.form
  have HK : Hid (rng tol < 9218868437227405312) := kn_lt h2
  clear h h2
  go_enter Try.func8, Try.ntmps8
  go_wp2_with fail
  refine (sok_any _ _ L HA.out).mono ?_
  rintro e w1 ⟨rfl, b1⟩
  rw [hk]
  have B1 : Hid (Below w.heap.size w w1) := ((Below.refl _ _).alloc (Nat.le_refl _) _).trans (b1.mono (by simp))
  have R1 : Hid (w1.ownsRow w.heap.size 2 1 (.slice (some ⟨w.heap.size, 0, none⟩) 0 0) 0 []) := row_below (row_empty w _ (Nat.le_refl _)) b1
  clear b1
  go_wp2_with fail
  refine (known_yes _ _ HK.out).mono ?_
  rintro e w2 ⟨rfl, hw2⟩
  subst hw2
  go_wp2_with fail
  go_ret
  exact ⟨_, rfl, R1.out, B1.out⟩
set_option maxHeartbeats 1000000 in
theorem ssig_yes (w : World) (v : Value) (L : Lv) (tol : Nat) (h : Reads w v L) (hk : lok L = true) (h2 : kn tol = true) (h3 : (ord tol 0 == some .lt) = false) :
    Calls Try.prog 8 #[v, .float .f64 tol] w fun e w' => ∃ v', e = .returned v' ∧ w'.ownsRow w.heap.size 2 1 v' (sgs L tol).length (ints (sgs L tol)) ∧ Below w.heap.size w w' := by
  have HA : Hid (Reads (w.alloc (.cells #[] 2)) v L) := h.on ((Below.refl _ _).alloc (Nat.le_refl _) _)
  have H0 : Hid (Reads w v L) := h
  obtain ⟨l2, l4, hok⟩ := lok_size hk
  obtain ⟨hn, hkey⟩ := tol_key h2 h3
  rw [sgs_yes hk h2 h3]
  have SP : Hid (∀ w v, Reads w v L → Calls Try.prog 22 #[v, .int .i64 ((0 : Nat) : Int), .int .i64 ((L.length - 1 : Nat) : Int), .float .f64 tol] w fun e w' => ∃ v', e = .returned v' ∧ w'.ownsRow w.heap.size 2 1 v' (sg2 L tol (L.length - 1) 0 (L.length - 1)).length (ints (sg2 L tol (L.length - 1) 0 (L.length - 1))) ∧ Below w.heap.size w w') := fun w v h => split_any tol L hok l4 hn hkey (L.length - 1) 0 (L.length - 1) w v (by omega) (by omega) (by omega) h
  have LB : (sg2 L tol (L.length - 1) 0 (L.length - 1)).length ≤ 400 := (by have := sg2_len L tol hkey (L.length - 1) 0 (L.length - 1) (by omega); omega)
  generalize sg2 L tol (L.length - 1) 0 (L.length - 1) = B at *
  obtain ⟨a, cap, rfl⟩ := h.form
  obtain ⟨i0, hi, hz0, hz1, hz2⟩ := info_parts Try.info2
  have HK : Hid (rng tol < 9218868437227405312) := kn_lt h2
  obtain ⟨n, hnn⟩ : ∃ n, L.length = n + 1 := ⟨L.length - 1, by omega⟩
  have eN : L.length - 1 = n := by omega
  rw [eN] at SP ⊢
  rw [hnn] at HA H0 ⊢
  have j0 : IntKind.i64.wrap (((n + 1 : Nat) : Int) - 1) = (n : Int) := (by rw [show ((n + 1 : Nat) : Int) - 1 = (n : Int) by omega]; exact IntWalk.i64_in _ (by omega))
  have j1 : n ≤ 400 := by omega
  obtain ⟨S, hS⟩ : ∃ S, [0] ++ B ++ [(n : Int)] = S := ⟨_, rfl⟩
  rw [hS]
  have ES : Hid ([0] ++ B ++ [(n : Int)] = S) := hS
  clear h h2 hok hn hkey eN hnn l2 l4 hS
  go_enter Try.func8, Try.ntmps8
  go_wp2_with fail
  refine (sok_any _ _ L HA.out).mono ?_
  rintro e w1 ⟨rfl, b1⟩
  rw [hk]
  have B1 : Hid (Below w.heap.size w w1) := ((Below.refl _ _).alloc (Nat.le_refl _) _).trans (b1.mono (by simp))
  have R1 : Hid (w1.ownsRow w.heap.size 2 1 (.slice (some ⟨w.heap.size, 0, none⟩) 0 0) 0 []) := row_below (row_empty w _ (Nat.le_refl _)) b1
  clear b1
  go_wp2_with fail
  refine (known_yes _ _ HK.out).mono ?_
  rintro e w2 ⟨rfl, hw2⟩
  subst hw2
  go_wp2_with (at_builtin; refine wpList_append_own _ rfl _ _ 28 rfl w.heap.size 2 i0 (.int .i64 0) 1 8 Try.underlying28 hi hz0 hz1 hz2 rfl (by decide) _ _ _ rfl (R1.out.alloc _) ⟨w2.heap.size, 0, none⟩ 1 1 [.int .i64 0] rfl rfl ?c1 ?c2 ?c3 ?c4 ?c5 ?_)
  case c1 =>
    intro j u hj
    match j, hj with
    | 0, hj => simp at hj; subst hj; simp [Addr.add]
  case c2 => intro u hu; simp at hu; subst hu; rfl
  case c3 => unfold maxLen; omega
  case c4 => omega
  case c5 => have := B1.out.size; simp; omega
  intro v3 w3 hown3 hgrow _
  have B3 : Hid (Below w.heap.size w w3) := (B1.out.alloc B1.out.size _).grown hgrow (by have := B1.out.size; simp; omega) (fun b hb => (R1.out.lt b hb).1)
  have R3 : Hid (Reads w3 (Value.slice a (n + 1) cap) L) := H0.out.on B3.out
  have O3 : Hid (w3.ownsRow w.heap.size 2 1 v3 1 (ints [0])) := hown3
  clear hown3 hgrow R1
  go_wp2_with fail
  refine (SP.out _ _ R3.out).mono ?_
  rintro e w4 ⟨v4, rfl, own4, b4⟩
  have B4 : Hid (Below w.heap.size w w4) := B3.out.trans (b4.mono B3.out.size)
  have O4 : Hid (w4.ownsRow w.heap.size 2 1 v3 1 (ints [0])) := row_below O3.out b4
  have K4 : Hid (∀ g, v4.ownBlock = some g → ∀ j u, (ints B)[j]? = some u → w4.cell? ((⟨g, 0, none⟩ : Addr).add j) = some u) := fun g hg => own4.cells hg
  clear b4 O3
  rcases row_cases own4 with ⟨hB0, rfl⟩ | ⟨g4, c4, rfl, _, _, _, _⟩
  · have hB := List.eq_nil_of_length_eq_zero hB0
    subst hB
    go_wp2_with (at_builtin; refine wpList_append_nil rfl _ _ 28 rfl w.heap.size 2 i0 1 Try.underlying28 hi _ _ _ rfl O4.out rfl ?_)
    intro v4' hown4'
    clear O4
    have O4 : Hid (w4.ownsRow w.heap.size 2 1 v4' 1 (ints [0])) := hown4'
    clear hown4'
    go_wp2_with (at_builtin; refine wpList_append_own _ rfl _ _ 28 rfl w.heap.size 2 i0 (.int .i64 0) 1 8 Try.underlying28 hi hz0 hz1 hz2 rfl (by decide) _ _ _ rfl (O4.out.alloc _) ⟨w4.heap.size, 0, none⟩ 1 1 [.int .i64 (n : Int)] rfl rfl ?d1 ?d2 ?d3 ?d4 ?d5 ?_)
    case d1 =>
      intro j u hj
      match j, hj with
      | 0, hj => simp at hj; subst hj; simp [Addr.add]
    case d2 => intro u hu; simp at hu; subst hu; rfl
    case d3 => unfold maxLen; omega
    case d4 => omega
    case d5 => have := B4.out.size; simp; omega
    intro v5 w5 hown5 hgrow _
    have B5 : Hid (Below w.heap.size w w5) := (B4.out.alloc B4.out.size _).grown hgrow (by have := B4.out.size; simp; omega) (fun b hb => (O4.out.lt b hb).1)
    have O5 : Hid (w5.ownsRow w.heap.size 2 1 v5 S.length (ints S)) := (by show w5.ownsRow _ _ _ _ _ _; rw [← ES.out]; exact hown5)
    clear hown5 hgrow
    go_wp2_with fail
    go_ret
    exact ⟨_, rfl, O5.out, B5.out⟩
  · go_wp2_with (at_builtin; refine wpList_append_own _ rfl _ _ 28 rfl w.heap.size 2 i0 (.int .i64 0) 1 8 Try.underlying28 hi hz0 hz1 hz2 rfl (by decide) _ _ _ rfl O4.out ⟨g4, 0, none⟩ B.length c4 (ints B) rfl (by simp [ints]) (K4.out g4 rfl) ?e2 ?e3 ?e4 ?e5 ?_)
    case e2 => intro u hu; simp [ints] at hu; obtain ⟨z, _, rfl⟩ := hu; rfl
    case e3 => unfold maxLen; omega
    case e4 => omega
    case e5 => have := B4.out.size; simp; omega
    intro v5 w5 hown5 hgrow _
    have B5 : Hid (Below w.heap.size w w5) := B4.out.grown hgrow B4.out.size (fun b hb => (O4.out.lt b hb).1)
    have O5 : Hid (w5.ownsRow w.heap.size 2 1 v5 ([0] ++ B).length (ints ([0] ++ B))) := (by show w5.ownsRow _ _ _ _ _ _; rw [ints_app, List.length_append]; exact hown5)
    obtain ⟨D, hD⟩ : ∃ D, [0] ++ B = D := ⟨_, rfl⟩
    have LD : D.length ≤ 401 := (by rw [← hD, List.length_append]; simp; omega)
    rw [hD] at O5 ES
    clear hown5 hgrow hD
    go_wp2_with (at_builtin; refine wpList_append_own _ rfl _ _ 28 rfl w.heap.size 2 i0 (.int .i64 0) 1 8 Try.underlying28 hi hz0 hz1 hz2 rfl (by decide) _ _ _ rfl (O5.out.alloc _) ⟨w5.heap.size, 0, none⟩ 1 1 [.int .i64 (n : Int)] rfl rfl ?f1 ?f2 ?f3 ?f4 ?f5 ?_)
    case f1 =>
      intro j u hj
      match j, hj with
      | 0, hj => simp at hj; subst hj; simp [Addr.add]
    case f2 => intro u hu; simp at hu; subst hu; rfl
    case f3 => unfold maxLen; omega
    case f4 => omega
    case f5 => have := B5.out.size; simp; omega
    intro v6 w6 hown6 hgrow _
    have B6 : Hid (Below w.heap.size w w6) := (B5.out.alloc B5.out.size _).grown hgrow (by have := B5.out.size; simp; omega) (fun b hb => (O5.out.lt b hb).1)
    have O6 : Hid (w6.ownsRow w.heap.size 2 1 v6 S.length (ints S)) := (by show w6.ownsRow _ _ _ _ _ _; rw [← ES.out, ints_app, List.length_append]; exact hown6)
    clear hown6 hgrow
    go_wp2_with fail
    go_ret
    exact ⟨_, rfl, O6.out, B6.out⟩
theorem ssig_any (w : World) (v : Value) (L : Lv) (tol : Nat) (h : Reads w v L) : Calls Try.prog 8 #[v, .float .f64 tol] w fun e w' => ∃ v', e = .returned v' ∧ w'.ownsRow w.heap.size 2 1 v' (sgs L tol).length (ints (sgs L tol)) ∧ Below w.heap.size w w' := by
  cases hk : lok L
  · rw [sgs_no1 hk]; exact ssig_no1 w v L tol h hk
  · cases h2 : kn tol
    · rw [sgs_no2 h2]; exact ssig_no2 w v L tol h hk h2
    · cases h3 : (ord tol 0 == some .lt)
      · exact ssig_yes w v L tol h hk h2 h3
      · rw [sgs_no3 h3]; exact ssig_no3 w v L tol h hk h2 h3
end Go.Proofs.Ytjnjpbbpphklhaa.Flt
