/- Two samples drawn of a code: the parts. -/
import Derived.Test.YtefheoafpkghjaaPz
import Derived.Test.YtefheoafpkghjaaRdJ
import Derived.Maps.AppendAt
namespace Go.Proofs.Ytefheoafpkghjaa.Dp
open Go.ChangeShapes Go.WideShapes Go.ChangeAt Go.RowKit
open Go.Proofs.Ytefheoafpkghjaa.Lists Go.Proofs.Ytefheoafpkghjaa.Al Go.Proofs.Ytefheoafpkghjaa.Rd

/-- Two rows that do not lie in one block. -/
def AP (v s : Value) : Prop := ∀ g, v.ownBlock = some g → s.ownBlock ≠ some g
theorem AP.symm {v s : Value} (h : AP v s) : AP s v := fun g h1 h2 => h g h2 h1
theorem AP.next {w : World} {B n N : Nat} {v v' s : Value} {xs : List Value} (h : AP v s) (hs : w.ownsRow B 2 1 s n xs) (hN : w.heap.size ≤ N) (hat : v'.ownBlock = v.ownBlock ∨ v'.ownBlock = some N) : AP v' s := by
  intro g hg e
  have := (hs.lt g e).2
  rcases hat with x | x
  · exact h g (by rw [← x]; exact hg) e
  · rw [x] at hg
    simp at hg
    omega
theorem row_turn {r B n : Nat} {w w' : World} {v : Value} {xs : List Value} (h : w.ownsRow B 2 1 v n xs) (t : Turn r w w') (hr : r < B) : w'.ownsRow B 2 1 v n xs := by
  refine h.kept (row := some r) ⟨t.bel.os, t.bel.tape, t.bel.output, t.bel.size, fun k hk hne => ?_⟩ ?_
  · by_cases e : k < r
    · exact t.bel.block k e
    · have : k ≠ r := fun x => hne (by rw [x])
      exact t.abv k (by omega) hk
  · cases e : v.ownBlock with
    | none => exact Or.inl rfl
    | some k =>
      refine Or.inr fun x => ?_
      have := (h.lt k e).1
      simp at x
      omega
theorem row_off {w w' : World} {B n : Nat} {v s : Value} {xs : List Value} (h : w.ownsRow B 2 1 s n xs) (hg : w.grownBy w' v.ownBlock) (hne : AP v s) : w'.ownsRow B 2 1 s n xs := by
  refine h.kept hg ?_
  cases e : s.ownBlock with
  | none => exact Or.inl rfl
  | some k => exact Or.inr fun x => hne k x.symm e
theorem row_set {w : World} {B n g : Nat} {s : Value} {xs : List Value} (h : w.ownsRow B 2 1 s n xs) (o : Nat) (u : Value) (hne : s.ownBlock ≠ some g) : (w.setCell ⟨g, o, none⟩ u).ownsRow B 2 1 s n xs := by
  refine h.kept (row := some g) (Lists.grown_setCell (World.grownBy.refl w (some g)) o u) ?_
  cases e : s.ownBlock with
  | none => exact Or.inl rfl
  | some k => exact Or.inr fun x => hne (by rw [e]; exact x)
theorem ints_snoc (L : List Int) (x : Int) : ints (L ++ [x]) = ints L ++ [.int .i64 x] := by simp [ints]
theorem cell_one (w : World) (v0 : Value) (t : TypeId) : ∀ j u, [v0][j]? = some u → (w.alloc (Obj.cells #[v0] t)).cell? ((⟨w.heap.size, 0, none⟩ : Addr).add j) = some u := by
  intro j u hj
  match j, hj with
  | 0, hj => simp at hj; subst hj; simp [Addr.add]
theorem one_one (x : Int) : ∀ u ∈ [Value.int .i64 x], u.oneCell' = true := by intro u hu; simp at hu; subst hu; rfl
theorem turn_below {r B : Nat} {w w2 w3 : World} (t : Turn r w w2) (hb : Below B w2 w3) (hB : w.heap.size ≤ B) (hr : r < B) : Turn r w w3 :=
  ⟨t.bel.trans (hb.mono (by omega)), fun i h1 h2 => (hb.block i (by omega)).trans (t.abv i h1 h2)⟩
theorem row_put {w : World} {B g n : Nat} {cap : Nat} {O : List Int} (R : w.ownsRow B 2 1 (.slice (some ⟨g, 0, none⟩) n cap) n (ints O)) (x : Nat) (z : Int) : (w.setCell ⟨g, x, none⟩ (.int .i64 z)).ownsRow B 2 1 (.slice (some ⟨g, 0, none⟩) n cap) n (ints (O.set x z)) := by
  rw [← Lists.ints_set]
  exact (R.stored x _).1
theorem form_of {w : World} {B k : Nat} {v : Value} {L : List Int} (h : w.ownsRow B 2 1 v k (ints L)) (hL : L.length = k) : ∃ a c, v = .slice a k c := by
  have := Lists.reads_row (L := L) (by rw [hL]; exact h)
  obtain ⟨a, c, e⟩ := this.form
  rw [hL] at e
  exact ⟨a, c, e⟩
theorem reads_of {w : World} {B k : Nat} {v : Value} {L : List Int} (h : w.ownsRow B 2 1 v k (ints L)) (hL : L.length = k) : Lists.Reads w v L := Lists.reads_row (by rw [hL]; exact h)

set_option maxHeartbeats 1000000 in
theorem size_any (r : Nat) (w : World) (h : Rd r w) : Calls Try.prog 17 #[.pointer (some ⟨r, 0, none⟩), .int .i64 3, .int .i64 5] w (Drawn r w fun u => 1 ≤ u ∧ u ≤ 5) := by
  have hh := h
  obtain ⟨a, n, cap, p, h1, h2, h3, h4, h5, h6, h7⟩ := hh
  have H : Hid (Rd r w) := h
  clear h h7
  obtain ⟨q, hq⟩ : ∃ q : Nat, q = n / 3 := ⟨_, rfl⟩
  have e1 : (n : Int).tdiv 3 = (q : Int) := by rw [Int.tdiv_eq_ediv_of_nonneg (by omega)]; omega
  have bq : q ≤ 400000 := by omega
  clear hq
  by_cases g : (5 : Int) < 1 + (q : Int)
  · go_enter Try.func17, Try.ntmps17
    go_wp2_with fail
    refine (below_all r _ H.out 5 (by omega) (by omega)).mono ?_
    rintro e w1 ⟨⟨u, ⟨hu1, hu2⟩, rfl⟩, k1, k2⟩
    have K : Hid (Rd r w1 ∧ Turn r w w1) := ⟨k1, k2⟩
    clear k1 k2
    go_wp2_with fail
    go_ret
    exact ⟨⟨1 + u, by omega, rfl⟩, K.out.1, K.out.2⟩
  · have C : Hid (Calls Try.prog 10 #[.pointer (some ⟨r, 0, none⟩), .int .i64 (1 + (q : Int))] w (Drawn r w fun u => 0 ≤ u ∧ u < 1 + (q : Int))) := (by
      have := below_all r w H.out (1 + q) (by omega) (by omega)
      rw [Int.natCast_add] at this
      exact this)
    go_enter Try.func17, Try.ntmps17
    go_wp2_with fail
    refine C.out.mono ?_
    rintro e w1 ⟨⟨u, ⟨hu1, hu2⟩, rfl⟩, k1, k2⟩
    have K : Hid (Rd r w1 ∧ Turn r w w1) := ⟨k1, k2⟩
    clear k1 k2
    go_wp2_with fail
    go_ret
    exact ⟨⟨1 + u, by omega, rfl⟩, K.out.1, K.out.2⟩

set_option maxHeartbeats 1000000 in
theorem members_any (r : Nat) (w : World) (h : Rd r w) : Calls Try.prog 9 #[.pointer (some ⟨r, 0, none⟩), .int .i64 5] w fun e w' => ∃ v L, e = .returned v ∧ w'.ownsRow w.heap.size 2 1 v L.length (ints L) ∧ (1 ≤ L.length ∧ L.length ≤ 5) ∧ Rd r w' ∧ Turn r w w' := by
  have hr := h.lt
  have S : Hid (Calls Try.prog 17 #[.pointer (some ⟨r, 0, none⟩), .int .i64 3, .int .i64 5] w (Drawn r w fun u => 1 ≤ u ∧ u ≤ 5)) := size_any r w h
  obtain ⟨i0, hi, hz0, hz1, hz2⟩ := info_parts Lists.Try.info2
  clear h
  go_enter Try.func9, Try.ntmps9
  go_wp2_with fail
  refine S.out.mono ?_
  rintro e w1 ⟨⟨u, ⟨hu1, hu2⟩, rfl⟩, k1, k2⟩
  obtain ⟨n, hn⟩ : ∃ n : Nat, u = (n : Int) := ⟨u.toNat, by omega⟩
  subst hn
  have z1 := k2.size
  have R0 : Hid ((w1.alloc (Obj.cells #[] 2)).ownsRow w.heap.size 2 1 (.slice (some ⟨w1.heap.size, 0, none⟩) 0 0) 0 (ints [])) := World.ownsRow_lit w1 #[] 0 z1 (Nat.zero_le _) rfl
  have K0 : Hid (Rd r (w1.alloc (Obj.cells #[] 2))) := k1.kept ((Below.refl (r + 1) w1).alloc (by omega) _) (by omega)
  have T0 : Hid (Turn r w (w1.alloc (Obj.cells #[] 2))) := k2.alloc hr _
  clear k1 k2
  go_wp2_with fail
  go_loopw [6, 7] (fun v i wr => ∃ (k : Nat) (L : List Int), k ≤ n ∧ i = .int .i64 k ∧ L.length = k ∧ Hid (wr.ownsRow w.heap.size 2 1 v k (ints L)) ∧ Hid (Rd r wr) ∧ Hid (Turn r w wr)) (fun _ i _ => n - (intOf i).toNat)
  case atStart => exact ⟨0, [], Nat.zero_le _, rfl, rfl, R0, K0, T0⟩
  case round =>
    obtain ⟨k, L, hk, rfl, hL, R, K, TT⟩ := hrel
    obtain ⟨v, hv⟩ : ∃ v, v = u6 := ⟨_, rfl⟩
    subst hv
    by_cases hlt : k < n
    · have i2 : (k : Int) < (n : Int) := by omega
      obtain ⟨sa, sc, hv⟩ : ∃ a c, v = .slice a k c := by
        have := Lists.reads_row (L := L) (by rw [hL]; exact R.out)
        obtain ⟨a, c, e⟩ := this.form
        rw [hL] at e
        exact ⟨a, c, e⟩
      subst hv
      go_wp2_with fail
      refine (below_all r _ K.out 60 (by omega) (by omega)).mono ?_
      rintro e w2 ⟨⟨x, ⟨hx1, hx2⟩, rfl⟩, k3, k4⟩
      have R2 : Hid (w2.ownsRow w.heap.size 2 1 (.slice sa k sc) k (ints L)) := row_turn R.out k4 hr
      have K2 : Hid (Rd r w2) := k3
      have T2 : Hid (Turn r w w2) := TT.out.trans k4
      have z2 := T2.out.size
      clear k3 k4 R K TT
      go_wp2_with (at_builtin; refine wpList_append_own _ rfl _ _ 24 rfl w.heap.size 2 i0 (.int .i64 0) 1 8 Try.underlying24 hi hz0 hz1 hz2 rfl (by decide) _ _ _ rfl (R2.out.alloc _) ⟨w2.heap.size, 0, none⟩ 1 1 [.int .i64 (x - 20)] rfl rfl (cell_one w2 _ 2) (one_one _) (by unfold maxLen; omega) (by omega) (by simp; omega) ?_)
      · intro v' w3 hown hgrow _
        have R3 : Hid (w3.ownsRow w.heap.size 2 1 v' (k + 1) (ints (L ++ [x - 20]))) := (by show World.ownsRow _ _ _ _ _ _ _; rw [ints_snoc]; exact hown)
        have BG : Below w.heap.size w2 w3 := ((Below.refl w.heap.size w2).alloc z2 _).grown hgrow (by simp; omega) (fun b hb => (R2.out.lt b hb).1)
        have K3 : Hid (Rd r w3) := K2.out.kept BG hr
        have T3 : Hid (Turn r w w3) := turn_below T2.out BG (Nat.le_refl _) hr
        clear hown hgrow BG R2 K2 T2
        go_wp2_with fail
        go_roundw
        case rel => exact ⟨k + 1, L ++ [x - 20], by omega, by go_num, by simp [hL], R3, K3, T3⟩
        case measure => simp [intOf]; omega
    · have hkn : k = n := by omega
      subst hkn
      have RE : Hid (wr.ownsRow w.heap.size 2 1 v L.length (ints L)) := (by show World.ownsRow _ _ _ _ _ _ _; rw [hL]; exact R.out)
      clear R
      go_wp2_with fail
      go_ret
      exact ⟨_, L, rfl, RE.out, ⟨by omega, by omega⟩, K.out, TT.out⟩

theorem zeros_made (n : Nat) : (madeCells (Value.int .i64 0).cells (n * 1)).toList = ints (List.replicate n 0) := by
  apply List.ext_getElem
  · simp [madeCells, ints]
  · intro i h1 h2
    simp [madeCells, ints, Value.cells, Nat.mod_one]
end Go.Proofs.Ytefheoafpkghjaa.Dp
