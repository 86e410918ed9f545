/- Certified: a point moved by one, plain; lists cloned; the model's moved point. -/
import Derived.Test.YtaakiemmodncpaaCsA
import Derived.Maps.AppendAt
namespace Go.Proofs.Ytaakiemmodncpaa.Cf
open Go.ChangeShapes Go.WideShapes Go.ChangeAt Go.RowKit
open Go.Proofs.Ytaakiemmodncpaa.Lists Go.Proofs.Ytaakiemmodncpaa.Al Go.Proofs.Ytaakiemmodncpaa.Po Go.Proofs.Ytaakiemmodncpaa.Cs

def mv (X : List Int) (i : Nat) (t : Int) : List Int := X.set i (X.getD i 0 + t)
theorem mv_len (X : List Int) (i : Nat) (t : Int) : (mv X i t).length = X.length := by unfold mv; simp
theorem mv_zero (X : List Int) (i : Nat) (h : i < X.length) : mv X i 0 = X := by
  unfold mv
  rw [Int.add_zero]
  have : X.getD i 0 = X[i] := by simp [List.getD_eq_getElem?_getD, h]
  rw [this, List.set_getElem_self]
theorem empty_row {W : World} (e : TypeId) : (W.alloc (.cells #[] e)).ownsRow W.heap.size e 1 (.slice (some ⟨W.heap.size, 0, none⟩) 0 0) 0 [] := by
  refine ⟨by simp, .inr ⟨W.heap.size, 0, #[], rfl, Nat.le_refl _, ?_, Nat.le_refl _, Nat.zero_le _, by simp, by simp⟩⟩
  exact heap_alloc_new W _
theorem row_some {w : World} {base n : Nat} {e : TypeId} {v : Value} {xs : List Value} (h : w.ownsRow base e 1 v n xs) (hn : v ≠ .slice none 0 0) : ∃ g cap, v = .slice (some ⟨g, 0, none⟩) n cap ∧ base ≤ g ∧ g < w.heap.size ∧ n ≤ cap ∧ cap ≤ maxLen := by
  rcases h.2 with ⟨h1, _⟩ | ⟨g, cap, cur, h1, hb, hh, hc, hm, _⟩
  · exact absurd h1 hn
  · refine ⟨g, cap, h1, hb, ?_, hc, hm⟩
    by_cases x : g < w.heap.size
    · exact x
    · rw [Array.getElem?_eq_none (by omega)] at hh; cases hh
theorem one_cell (X : List Int) : ∀ u ∈ ints X, u.oneCell' = true := by intro u hu; simp [ints] at hu; obtain ⟨z, _, rfl⟩ := hu; rfl
theorem ints_at' {w : World} {g o n : Nat} {X : List Int} (hn : X.length = n) (K : ∀ i, i < n → w.cell? ⟨g, o + i, none⟩ = some (.int .i64 (X.getD i 0))) : ∀ j u, (ints X)[j]? = some u → w.cell? ((⟨g, o, none⟩ : Addr).add j) = some u := by
  intro j u hj
  have hl : j < X.length := by
    have := (List.getElem?_eq_some_iff.1 hj).1
    simpa [ints] using this
  have e : (⟨g, o, none⟩ : Addr).add j = ⟨g, o + j, none⟩ := by
    unfold Addr.add
    split
    · rename_i h; subst h; rfl
    · rfl
  rw [e, K j (by omega)]
  simp [ints, List.getElem?_map, List.getElem?_eq_getElem hl] at hj
  rw [← hj]
  simp [List.getD_eq_getElem?_getD, hl]
theorem row_put {w : World} {B g n : Nat} {cap : Nat} {O : List Int} (R : w.ownsRow B 2 1 (.slice (some ⟨g, 0, none⟩) n cap) n (ints O)) (x : Nat) (z : Int) : (w.setCell ⟨g, x, none⟩ (.int .i64 z)).ownsRow B 2 1 (.slice (some ⟨g, 0, none⟩) n cap) n (ints (O.set x z)) := by
  rw [← Lists.ints_set]
  exact (R.stored x _).1
theorem row_get {w : World} {B g n : Nat} {cap : Nat} {O : List Int} (R : w.ownsRow B 2 1 (.slice (some ⟨g, 0, none⟩) n cap) n (ints O)) (hO : O.length = n) (x : Nat) (hx : x < n) : w.cell? ⟨g, x, none⟩ = some (.int .i64 (O.getD x 0)) := by
  subst hO
  exact row_cell R x hx

set_option maxHeartbeats 1000000 in
theorem clone_any (w : World) (g o n cap : Nat) (X : List Int) (hn : X.length = n) (hl : n ≤ 6) (hg : g < w.heap.size) (K : ∀ i, i < n → w.cell? ⟨g, o + i, none⟩ = some (.int .i64 (X.getD i 0))) :
    Calls Try.prog 33 #[.slice (some ⟨g, o, none⟩) n cap] w fun e w' => ∃ g' c', e = .returned (.slice (some ⟨g', 0, none⟩) n c') ∧ w.heap.size ≤ g' ∧ n ≤ c' ∧ c' ≤ maxLen ∧ w'.ownsRow w.heap.size 2 1 (.slice (some ⟨g', 0, none⟩) n c') n (ints X) ∧ Below w.heap.size w w' := by
  obtain ⟨i0, hi, hz0, hz1, hz2⟩ := info_parts Lists.Try.info2
  have HK : Hid (∀ j u, (ints X)[j]? = some u → (w.alloc (.cells #[] 2)).cell? ((⟨g, o, none⟩ : Addr).add j) = some u) := ints_at' hn fun i hi => by rw [World.cell?_alloc_lt _ _ _ hg]; exact K i hi
  have HX : Hid (X.length = n) := hn
  have ER : Hid ((w.alloc (.cells #[] 2)).ownsRow w.heap.size 2 1 (.slice (some ⟨w.heap.size, 0, none⟩) 0 0) 0 []) := empty_row 2
  have hnil : ∀ w, (binOp .eql 22 (.slice (some ⟨g, o, none⟩) n cap) (.slice none 0 0)).run Try.prog w = .ok (.bool false) w := fun _ => by kernel_rfl
  clear K hn
  go_enter Try.func33, Try.ntmps33
  go_wp2_with (at_builtin; refine wpList_append_own_at _ rfl _ _ 22 rfl w.heap.size 2 i0 (.int .i64 0) 1 8 Try.underlying22 hi hz0 hz1 hz2 rfl (by decide) _ _ _ rfl ER.out ⟨g, o, none⟩ n cap (ints X) rfl (by rw [List.length_map, HX.out]; omega) HK.out (one_cell X) ?c3 ?c4 ?c5 ?_)
  case c3 => unfold maxLen; omega
  case c4 => omega
  case c5 => simp
  intro v' w2 hown hgrow hnil hat
  obtain ⟨g', c', rfl, q1, q2, q3, q4⟩ := row_some hown hnil
  have O : Hid (w2.ownsRow w.heap.size 2 1 (.slice (some ⟨g', 0, none⟩) n c') n (ints X)) := hown
  have BB : Hid (Below w.heap.size w w2) := ((Below.refl _ _).alloc (Nat.le_refl _) _).grown hgrow (by simp) (fun k hk => by simp [Value.ownBlock] at hk; omega)
  clear hown hgrow hnil hat
  go_wp2_with fail
  go_ret
  exact ⟨_, _, rfl, q1, q3, q4, O.out, BB.out⟩

set_option maxHeartbeats 1000000 in
theorem moved_any (w : World) (g o n cap i : Nat) (t : Int) (X : List Int) (hn : X.length = n) (hl : n ≤ 6) (hg : g < w.heap.size) (K : ∀ i, i < n → w.cell? ⟨g, o + i, none⟩ = some (.int .i64 (X.getD i 0))) (hit : i < n) (hw : IntKind.i64.wrap (X.getD i 0 + t) = X.getD i 0 + t) :
    Calls Try.prog 44 #[.slice (some ⟨g, o, none⟩) n cap, .int .i64 (i : Int), .int .i64 t] w fun e w' => ∃ v', e = .returned v' ∧ w'.ownsRow w.heap.size 2 1 v' n (ints (mv X i t)) ∧ Below w.heap.size w w' := by
  obtain ⟨i0, hi, hz0, hz1, hz2⟩ := info_parts Lists.Try.info2
  have HK : Hid (∀ j u, (ints X)[j]? = some u → (w.alloc (.cells #[] 2)).cell? ((⟨g, o, none⟩ : Addr).add j) = some u) := ints_at' hn fun i hi => by rw [World.cell?_alloc_lt _ _ _ hg]; exact K i hi
  have HX : Hid (X.length = n) := hn
  have ER : Hid ((w.alloc (.cells #[] 2)).ownsRow w.heap.size 2 1 (.slice (some ⟨w.heap.size, 0, none⟩) 0 0) 0 []) := empty_row 2
  have HM : Hid (mv X i t = X.set i (X.getD i 0 + t)) := rfl
  clear K hn
  go_enter Try.func44, Try.ntmps44
  go_wp2_with (at_builtin; refine wpList_append_own_at _ rfl _ _ 22 rfl w.heap.size 2 i0 (.int .i64 0) 1 8 Try.underlying22 hi hz0 hz1 hz2 rfl (by decide) _ _ _ rfl ER.out ⟨g, o, none⟩ n cap (ints X) rfl (by rw [List.length_map, HX.out]; omega) HK.out (one_cell X) ?c3 ?c4 ?c5 ?_)
  case c3 => unfold maxLen; omega
  case c4 => omega
  case c5 => simp
  intro v' w2 hown hgrow hnil hat
  obtain ⟨g', c', rfl, q1, q2, q3, q4⟩ := row_some hown hnil
  have O : w2.ownsRow w.heap.size 2 1 (.slice (some ⟨g', 0, none⟩) n c') n (ints X) := by simpa using hown
  have BB : Below w.heap.size w w2 := ((Below.refl _ _).alloc (Nat.le_refl _) _).grown hgrow (by simp) (fun k hk => by simp [Value.ownBlock] at hk; omega)
  have c1 : w2.cell? ⟨g', i, none⟩ = some (.int .i64 (X.getD i 0)) := row_get O HX.out i hit
  have c2 : w2.frozen? ⟨g', i, none⟩ = false := O.frozenAt i
  have RE : Hid ((w2.setCell ⟨g', i, none⟩ (.int .i64 (X.getD i 0 + t))).ownsRow w.heap.size 2 1 (.slice (some ⟨g', 0, none⟩) n c') n (ints (mv X i t))) := row_put O i _
  have BE : Hid (Below w.heap.size w (w2.setCell ⟨g', i, none⟩ (.int .i64 (X.getD i 0 + t)))) := BB.setCell (p := ⟨g', i, none⟩) q1 _
  have i1 : (0 : Int) ≤ (i : Int) := by omega
  have i2 : (i : Int) < (n : Int) := by omega
  clear hown hgrow hnil hat O BB HK ER q2 q3 q4 hi hz0 hz1 hz2
  generalize X.getD i 0 = x at *
  go_wp2_with fail
  go_ret
  exact ⟨_, rfl, RE.out, BE.out⟩
end Go.Proofs.Ytaakiemmodncpaa.Cf
