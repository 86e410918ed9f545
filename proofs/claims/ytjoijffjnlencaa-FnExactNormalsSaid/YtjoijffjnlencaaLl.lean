/- Lists of lists of int64: read, measured, copied, compared, marked. -/
import Derived.Test.YtjoijffjnlencaaRmH
import Derived.Test.YtjoijffjnlencaaAlA
import Derived.OwnWalk
import Derived.WalkSmall
import Derived.Laws.OwnMore
import Derived.Deep.QuietTactic
import Derived.BigQuiet
import Derived.Deep.RegionHeld3
import Derived.Laws.MakeOwn
namespace Go.Proofs.Ytjoijffjnlencaa.Ll
open Go.ChangeShapes Go.WideShapes Go.ChangeAt Go.RowKit
open Go.Proofs.Ytjoijffjnlencaa.Lists

theorem row_on {w w' : World} {base n : Nat} {v : Value} {xs : List Value} (h : w.ownsRow base 2 1 v n xs) (hb : Below w.heap.size w w') : w'.ownsRow base 2 1 v n xs := by
  refine h.kept (row := none) ⟨hb.os, hb.tape, hb.output, hb.size, fun k hk _ => hb.block k hk⟩ ?_
  by_cases e : v.ownBlock = none
  · exact Or.inl e
  · exact Or.inr e
theorem row_set {w : World} {base n : Nat} {v : Value} {xs : List Value} (h : w.ownsRow base 2 1 v n xs) (g o : Nat) (u : Value) (hg : g < base) : (w.setCell ⟨g, o, none⟩ u).ownsRow base 2 1 v n xs := by
  refine h.kept (row := some g) (grown_setCell (World.grownBy.refl w (some g)) o u) ?_
  cases e : v.ownBlock with
  | none => exact .inl rfl
  | some k =>
    refine .inr fun x => ?_
    have := (h.lt k e).1
    simp at x
    omega
theorem own_down {w : World} {B B' n : Nat} {v : Value} {xs : List Value} (h : w.ownsRow B 2 1 v n xs) (hb : B' ≤ B) : w.ownsRow B' 2 1 v n xs := by
  refine ⟨h.1, ?_⟩
  rcases h.2 with h | ⟨gx, cap, cur, h1, h2, h3⟩
  · exact .inl h
  · exact .inr ⟨gx, cap, cur, h1, by omega, h3⟩

set_option maxHeartbeats 400000 in
theorem szl_far (a : Option Addr) (n cap : Nat) (l : Int) (w : World) (h0 : 0 ≤ l) (h1 : l ≤ 1048576) (h : l < n) (hn : n < 9223372036854775808) : Calls Try.prog 13 #[.slice a n cap, .int .i64 l] w fun e w' => e = .returned (.int .i64 (-1)) ∧ w' = w := by
  have i1 : l - (n : Int) < 0 := by omega
  have i2 : IntKind.i64.wrap (l - (n : Int)) = l - (n : Int) := IntWalk.i64_in _ (by omega)
  go_enter Try.func13, Try.ntmps13
  go_wp2
  go_ret
  exact ⟨rfl, rfl⟩
set_option maxHeartbeats 400000 in
theorem szl_near (a : Option Addr) (n cap : Nat) (l : Int) (w : World) (h1 : l ≤ 1048576) (h : (n : Int) ≤ l) : Calls Try.prog 13 #[.slice a n cap, .int .i64 l] w fun e w' => e = .returned (.int .i64 (l - (n : Int))) ∧ w' = w := by
  have i1 : ¬ l - (n : Int) < 0 := by omega
  have i2 : IntKind.i64.wrap (l - (n : Int)) = l - (n : Int) := IntWalk.i64_in _ (by omega)
  go_enter Try.func13, Try.ntmps13
  go_wp2
  go_ret
  exact ⟨rfl, rfl⟩
set_option maxHeartbeats 1000000 in
theorem eq_reads (w : World) (v1 v2 : Value) (L : List Int) (h1 : Lists.Reads w v1 L) (h2 : Lists.Reads w v2 L) :
    Calls Try.prog 8 #[v1, v2] w fun e w' => e = .returned (.bool true) ∧ ∃ n, w' = w.drewN n := by
  by_cases hL : L = []
  · subst hL
    obtain ⟨a1, d1, rfl⟩ := h1.form
    obtain ⟨a2, d2, rfl⟩ := h2.form
    clear h1 h2
    go_enter Try.func8, Try.ntmps8
    go_wp2
    go_loop [5] (fun i => i = .int .i64 0) (fun _ => 0)
    case atStart => rfl
    case round =>
      subst hrel
      go_wp2
      go_ret
      exact ⟨rfl, 0, rfl⟩
  · rcases h1 with ⟨e, _⟩ | ⟨b1, o1, d1, rfl, x1, x2, _, x4⟩
    · exact absurd e hL
    rcases h2 with ⟨e, _⟩ | ⟨b2, o2, d2, rfl, y1, y2, _, y4⟩
    · exact absurd e hL
    have K1 : Hid (∀ i, i < L.length → w.cell? ⟨b1, o1 + i, none⟩ = some (.int .i64 (L.getD i 0))) := x4
    have K2 : Hid (∀ i, i < L.length → w.cell? ⟨b2, o2 + i, none⟩ = some (.int .i64 (L.getD i 0))) := y4
    obtain ⟨n, hn⟩ : ∃ n, n = L.length := ⟨_, rfl⟩
    rw [← hn] at x1 y1 ⊢
    have HN : Hid (n = L.length) := hn
    unfold maxLen at x2 y2
    clear x4 y4 hn hL
    go_enter Try.func8, Try.ntmps8
    go_wp2
    go_loopw [5] (fun i wr => ∃ k m : Nat, k ≤ n ∧ i = .int .i64 k ∧ wr = w.drewN m) (fun i _ => n - (intOf i).toNat)
    case atStart => exact ⟨0, 0, Nat.zero_le _, rfl, rfl⟩
    case round =>
      obtain ⟨k, m, hk, rfl, rfl⟩ := hrel
      by_cases hlt : k < n
      · have q1 := K1.out k (by rw [← HN.out]; exact hlt)
        have q2 := K2.out k (by rw [← HN.out]; exact hlt)
        have i0 : (0 : Int) ≤ (k : Int) := by omega
        have i1 : (k : Int) < (n : Int) := by omega
        have hne : (L.getD k 0 != L.getD k 0) = false := by simp
        generalize L.getD k 0 = z at *
        go_wp2_with fail
        go_quiet (fail)
        go_wp2_with fail
        go_roundw
        case rel => exact ⟨k + 1, m + nq, by omega, by go_num, rfl⟩
        case measure => simp [intOf]; omega
      · go_wp2
        go_ret
        exact ⟨rfl, m, rfl⟩

theorem row_cases {w : World} {base n : Nat} {e : TypeId} {k : Nat} {v : Value} {xs : List Value} (h : w.ownsRow base e k v n xs) :
    (n = 0 ∧ v = .slice none 0 0) ∨ ∃ g cap, v = .slice (some ⟨g, 0, none⟩) n cap ∧ base ≤ g ∧ g < w.heap.size ∧ n ≤ cap ∧ cap ≤ maxLen := by
  obtain ⟨h0, h⟩ := h
  rcases h with ⟨rfl, hn⟩ | ⟨g, cap, cur, rfl, hb, hh, hc, hm, _⟩
  · exact Or.inl ⟨hn, rfl⟩
  · refine Or.inr ⟨g, cap, rfl, hb, ?_, hc, hm⟩
    by_cases x : g < w.heap.size
    · exact x
    · rw [Array.getElem?_eq_none (by omega)] at hh; cases hh
theorem row_below {B : Nat} {e : TypeId} {k : Nat} {v : Value} {n : Nat} {xs : List Value} {w w' : World} (h : w.ownsRow B e k v n xs) (hb : Below w.heap.size w w') : w'.ownsRow B e k v n xs := by
  refine ⟨h.1, ?_⟩
  rcases h.2 with h2 | ⟨g, cap, cur, h1, h2, h3, h4⟩
  · exact .inl h2
  · have hg : g < w.heap.size := by
      rcases Nat.lt_or_ge g w.heap.size with x | x
      · exact x
      · rw [Array.getElem?_eq_none x] at h3; cases h3
    exact .inr ⟨g, cap, cur, h1, h2, (hb.block g hg).trans h3, h4⟩
abbrev Ls := List (List Int)
def cl (L : Ls) (i : Nat) : List Int := L.getD i []
def tl (L : Ls) : Nat → Nat
  | 0 => 0
  | k + 1 => tl L k + (cl L k).length
theorem tl_mono (L : Ls) : ∀ {i k : Nat}, i ≤ k → tl L i ≤ tl L k := by
  intro i k h
  induction h with
  | refl => exact Nat.le_refl _
  | @step m _ ih =>
    show tl L i ≤ tl L m + (cl L m).length
    omega
theorem tl_at (L : Ls) {i k : Nat} (h : i < k) : (cl L i).length ≤ tl L k := by
  have h1 : tl L (i + 1) ≤ tl L k := tl_mono L (by omega)
  have h2 : tl L (i + 1) = tl L i + (cl L i).length := rfl
  omega
def Cs (w : World) (b o : Nat) (L : Ls) (i : Nat) : Prop := ∃ u, w.cell? ⟨b, o + i, none⟩ = some u ∧ Lists.Reads w u (cl L i)
theorem Cs.on {w w' : World} {b o : Nat} {L : Ls} {i : Nat} (h : Cs w b o L i) (hb : Below w.heap.size w w') (hB : b < w.heap.size) : Cs w' b o L i := by
  obtain ⟨u, hu, hr⟩ := h
  exact ⟨u, (hb.cell (p := ⟨b, o + i, none⟩) hB).trans hu, hr.on hb⟩
def Reads (w : World) (v : Value) (L : Ls) : Prop :=
  (L = [] ∧ ∃ a cap, v = .slice a 0 cap) ∨ ∃ b o cap, v = .slice (some ⟨b, o, none⟩) L.length cap ∧ L.length ≤ cap ∧ cap ≤ maxLen ∧ b < w.heap.size ∧ ∀ i, i < L.length → Cs w b o L i
theorem Reads.on {w w' : World} {v : Value} {L : Ls} (h : Reads w v L) (hb : Below w.heap.size w w') : Reads w' v L := by
  rcases h with h | ⟨b, o, cap, h1, h2, h3, h4, h5⟩
  · exact Or.inl h
  · exact Or.inr ⟨b, o, cap, h1, h2, h3, Nat.lt_of_lt_of_le h4 hb.size, fun i hi => (h5 i hi).on hb h4⟩
theorem Reads.form {w : World} {v : Value} {L : Ls} (h : Reads w v L) : ∃ a cap, v = .slice a L.length cap := by
  rcases h with ⟨rfl, a, cap, rfl⟩ | ⟨b, o, cap, rfl, _⟩
  · exact ⟨_, _, rfl⟩
  · exact ⟨_, _, rfl⟩
theorem Reads.fits {w : World} {v : Value} {L : Ls} (h : Reads w v L) : L.length < 9223372036854775808 := by
  rcases h with ⟨rfl, _⟩ | ⟨b, o, c, _, h1, h2, _⟩
  · decide
  · unfold maxLen at h2; omega
theorem lfits {w : World} {v : Value} {L : List Int} (h : Lists.Reads w v L) : L.length < 9223372036854775808 := by
  rcases h with ⟨rfl, _⟩ | ⟨b, o, c, _, h1, h2, _⟩
  · decide
  · unfold maxLen at h2; omega
theorem reads_at {w : World} {v : Value} {L : Ls} (h : Reads w v L) : ∃ b o, (∀ i, i < L.length → Cs w b o L i) ∧ (0 < L.length → b < w.heap.size ∧ ∃ cap, v = .slice (some ⟨b, o, none⟩) L.length cap) := by
  rcases h with ⟨rfl, _⟩ | ⟨b, o, cap, h1, h2, h3, h4, h5⟩
  · exact ⟨0, 0, fun i hi => by simp at hi, fun hi => by simp at hi⟩
  · exact ⟨b, o, h5, fun _ => ⟨h4, cap, h1⟩⟩
def hd (gi : Nat → Nat) (L : Ls) (i : Nat) : Value := .slice (some ⟨gi i, 0, none⟩) (cl L i).length (cl L i).length
def Good (w : World) (B : Nat) (xs : List Value) (gi : Nat → Nat) (L : Ls) (j : Nat) : Prop := ∀ i, i < j → xs[i]? = some (hd gi L i) ∧ w.ownsRow B 2 1 (hd gi L i) (cl L i).length (ints (cl L i)) ∧ ∀ i', i < i' → i' < j → gi i < gi i'
theorem Good.on {w w' : World} {B : Nat} {xs : List Value} {gi : Nat → Nat} {L : Ls} {j : Nat} (h : Good w B xs gi L j) (hb : Below w.heap.size w w') : Good w' B xs gi L j := fun i hi => by
  obtain ⟨h1, h2, h3⟩ := h i hi
  exact ⟨h1, row_on h2 hb, h3⟩
def Row (w : World) (base : Nat) (v : Value) (L : Ls) : Prop := ∃ xs gi g0, v = .slice (some ⟨g0, 0, none⟩) L.length L.length ∧ base ≤ g0 ∧ w.ownsRow base 24 1 v L.length xs ∧ Good w (g0 + 1) xs gi L L.length
theorem Row.on {w w' : World} {base : Nat} {v : Value} {L : Ls} (h : Row w base v L) (hb : Below w.heap.size w w') : Row w' base v L := by
  obtain ⟨xs, gi, g0, e, hg, h1, h2⟩ := h
  exact ⟨xs, gi, g0, e, hg, row_below h1 hb, h2.on hb⟩
theorem Row.reads {w : World} {base : Nat} {v : Value} {L : Ls} (h : Row w base v L) : Reads w v L := by
  obtain ⟨xs, gi, g0, e, hg, h1, h2⟩ := h
  subst e
  have hl := h1.lt g0 rfl
  by_cases h0 : L.length = 0
  · exact Or.inl ⟨List.eq_nil_of_length_eq_zero h0, _, _, by rw [h0]⟩
  rcases row_cases h1 with ⟨hn, _⟩ | ⟨g, cap, ev, _, _, x3, x4⟩
  · omega
  · simp at ev
    obtain ⟨rfl, rfl⟩ := ev
    refine Or.inr ⟨g0, 0, L.length, rfl, Nat.le_refl _, x4, hl.2, fun i hi => ?_⟩
    obtain ⟨a1, a2, _⟩ := h2 i hi
    refine ⟨hd gi L i, ?_, Lists.reads_row a2⟩
    have := h1.cellAt i (by omega)
    rw [Nat.zero_add, this]
    exact a1

set_option maxHeartbeats 1000000 in
theorem szS_any (v : Value) (L : Ls) (w : World) (h : Reads w v L) :
    Calls Try.prog 4 #[v, .int .i64 1048576] w fun e w' => (∃ r : Int, e = .returned (.int .i64 r) ∧ (0 ≤ r → L.length + tl L L.length ≤ 1048576)) ∧ w' = w := by
  have fit := h.fits
  obtain ⟨b, o, hc, hv⟩ := reads_at h
  obtain ⟨a, cap, rfl⟩ := h.form
  have HC : Hid (∀ i, i < L.length → Cs w b o L i) := hc
  have HV : Hid (0 < L.length → b < w.heap.size ∧ a = some ⟨b, o, none⟩) := fun hi => by
    obtain ⟨h1, c, h2⟩ := hv hi
    simp at h2
    exact ⟨h1, h2.1⟩
  obtain ⟨n, hn⟩ : ∃ n, n = L.length := ⟨_, rfl⟩
  rw [← hn] at fit ⊢
  have HN : Hid (n = L.length) := hn
  have i2 : IntKind.i64.wrap ((1048576 : Int) - (n : Int)) = 1048576 - (n : Int) := IntWalk.i64_in _ (by omega)
  clear h hc hv hn
  by_cases hl : (1048576 : Int) < (n : Int)
  · have hl2 : (1048576 : Int) - (n : Int) < 0 := by omega
    go_enter Try.func4, Try.ntmps4
    go_wp2
    go_ret
    exact ⟨⟨_, rfl, fun h => by omega⟩, rfl⟩
  · have hl2 : ¬ (1048576 : Int) - (n : Int) < 0 := by omega
    go_enter Try.func4, Try.ntmps4
    go_wp2_with fail
    go_loop [1, 5] (fun q i => ∃ (m k : Nat), k ≤ n ∧ i = .int .i64 k ∧ q = .int .i64 (m : Int) ∧ n + tl L k + m = 1048576) (fun _ i => n - (intOf i).toNat)
    case atStart => exact ⟨1048576 - n, 0, by omega, rfl, by congr 1; omega, by simp [tl]; omega⟩
    case round =>
      clear i2 hl2
      obtain ⟨m, k, hk, rfl, rfl, hm⟩ := hrel
      by_cases hlt : k < n
      · have hkl : k < L.length := by rw [← HN.out]; exact hlt
        obtain ⟨v1, v2⟩ := HV.out (by omega)
        subst v2
        have i0 : (0 : Int) ≤ (k : Int) := by omega
        have i1 : (k : Int) < (n : Int) := by omega
        obtain ⟨u, qu, ru⟩ := HC.out k hkl
        have lf := lfits ru
        obtain ⟨ua, uc, rfl⟩ := ru.form
        have ET : Hid (tl L (k + 1) = tl L k + (cl L k).length) := rfl
        clear ru
        generalize (cl L k).length = q at *
        by_cases hq : (q : Int) ≤ (m : Int)
        · have S1 : Hid (Calls Try.prog 13 #[.slice ua q uc, .int .i64 (m : Int)] w fun e w' => e = .returned (.int .i64 ((m : Int) - (q : Int))) ∧ w' = w) := szl_near _ _ _ _ _ (by omega) hq
          have j1 : ¬ (m : Int) - (q : Int) < 0 := by omega
          go_wp2_with fail
          refine S1.out.mono ?_
          rintro e w5 ⟨rfl, hw⟩
          have hw' := hw.symm
          subst hw'
          go_wp2_with fail
          go_round
          case rel => exact ⟨m - q, k + 1, by omega, by go_num, by congr 1; omega, by rw [ET.out]; omega⟩
          case measure => simp [intOf]; omega
        · have S1 : Hid (Calls Try.prog 13 #[.slice ua q uc, .int .i64 (m : Int)] w fun e w' => e = .returned (.int .i64 (-1)) ∧ w' = w) := szl_far _ _ _ _ _ (by omega) (by omega) (by omega) lf
          go_wp2_with fail
          refine S1.out.mono ?_
          rintro e w5 ⟨rfl, hw⟩
          have hw' := hw.symm
          subst hw'
          go_wp2_with fail
          go_ret
          exact ⟨⟨_, rfl, fun h => by omega⟩, rfl⟩
      · have hkn : k = n := by omega
        subst hkn
        go_wp2_with fail
        go_ret
        exact ⟨⟨_, rfl, fun _ => by omega⟩, rfl⟩

theorem Try.infoE : (Try.prog.info? 24).map (fun i => (i.zero, i.size, i.bytes)) = some (some (.slice none 0 0), 1, 24) := by kernel_rfl
set_option maxHeartbeats 1000000 in
theorem toS_any (w : World) (v : Value) (L : Ls) (h : Reads w v L) (hl : L.length ≤ 1048576) (hi' : ∀ i, i < L.length → (cl L i).length ≤ 1048576) :
    Calls Try.prog 6 #[v] w fun e w' => ∃ v', e = .returned v' ∧ Row w' w.heap.size v' L ∧ Below w.heap.size w w' := by
  obtain ⟨i0, hi, hz0, hz1, hz2⟩ := info_parts Try.infoE
  obtain ⟨b, o, hc, hv⟩ := reads_at h
  obtain ⟨a, cap, rfl⟩ := h.form
  have HC : Hid (∀ i, i < L.length → Cs w b o L i) := hc
  have HI : Hid (∀ i, i < L.length → (cl L i).length ≤ 1048576) := hi'
  have HV : Hid (0 < L.length → b < w.heap.size ∧ a = some ⟨b, o, none⟩) := fun hi => by
    obtain ⟨h1, c, h2⟩ := hv hi
    simp at h2
    exact ⟨h1, h2.1⟩
  obtain ⟨n, hn⟩ : ∃ n, n = L.length := ⟨_, rfl⟩
  unfold Row
  rw [← hn] at hl ⊢
  have HN : Hid (n = L.length) := hn
  clear h hc hv hn hi'
  go_enter Try.func6, Try.ntmps6
  go_wp2_with (at_make; refine wpList_make_full _ rfl _ _ 22 rfl w.heap.size 24 i0 (.slice none 0 0) 1 Try.underlying22 hi hz0 hz1 .i64 .i64 (n : Int) (n : Int) n rfl rfl rfl rfl (by rw [hz2]; omega) (by unfold maxLen; omega) (Nat.le_refl _) ?_; intro w4 hown hgrow)
  have R0 : Hid (∃ xs gi, w4.ownsRow w.heap.size 24 1 (.slice (some ⟨w.heap.size, 0, none⟩) n n) n xs ∧ Good w4 (w.heap.size + 1) xs gi L 0) := ⟨_, fun _ => 0, hown, fun i hi => absurd hi (by omega)⟩
  have B0 : Hid (Below w.heap.size w w4) := (Below.refl _ _).grown hgrow (Nat.le_refl _) (fun k hk => by cases hk)
  have Z0 : Hid (w.heap.size + 1 ≤ w4.heap.size) := (hown.lt w.heap.size (by simp [Value.ownBlock])).2
  clear hown hgrow
  go_loopw [4] (fun c wr => ∃ j : Nat, j ≤ n ∧ c = .int .i64 j ∧ Hid (∃ xs gi, wr.ownsRow w.heap.size 24 1 (.slice (some ⟨w.heap.size, 0, none⟩) n n) n xs ∧ Good wr (w.heap.size + 1) xs gi L j) ∧ Hid (w.heap.size + 1 ≤ wr.heap.size) ∧ Hid (Below w.heap.size w wr)) (fun c _ => n - (intOf c).toNat)
  case atStart => exact ⟨0, Nat.zero_le _, rfl, R0, Z0, B0⟩
  case round =>
    obtain ⟨j, hj, rfl, R, ZZ, BB⟩ := hrel
    by_cases hlt : j < n
    · have hlt' : j < L.length := by rw [← HN.out]; exact hlt
      obtain ⟨v1, v2⟩ := HV.out (by omega)
      subst v2
      have i0 : (0 : Int) ≤ (j : Int) := by omega
      have i1 : (j : Int) < (n : Int) := by omega
      obtain ⟨u, qu, ru⟩ : Cs wr b o L j := (HC.out j hlt').on BB.out v1
      have T1 : Hid (Calls Try.prog 15 #[u] wr fun e w' => e = .returned (.slice (some ⟨wr.heap.size, 0, none⟩) (cl L j).length (cl L j).length) ∧ w'.ownsRow wr.heap.size 2 1 (.slice (some ⟨wr.heap.size, 0, none⟩) (cl L j).length (cl L j).length) (cl L j).length (ints (cl L j)) ∧ Below wr.heap.size wr w') := Lists.to_any wr u (cl L j) ru (HI.out j hlt')
      obtain ⟨ua, uc, rfl⟩ := ru.form
      obtain ⟨xs, gi, RX, GX⟩ := R.out
      have RX' : Hid (wr.ownsRow w.heap.size 24 1 (.slice (some ⟨w.heap.size, 0, none⟩) n n) n xs) := RX
      have GX' : Hid (Good wr (w.heap.size + 1) xs gi L j) := GX
      clear RX GX R ru
      go_wp2_with fail
      refine (Calls.mono T1.out) ?_
      rintro e w5 ⟨rfl, r5, hb5⟩
      have R5 : Hid (w5.ownsRow w.heap.size 24 1 (.slice (some ⟨w.heap.size, 0, none⟩) n n) n xs) := row_below RX'.out hb5
      have B5 : Hid (Below w.heap.size w w5) := BB.out.trans (hb5.mono BB.out.size)
      have IR : Hid (w5.ownsRow (w.heap.size + 1) 2 1 (.slice (some ⟨wr.heap.size, 0, none⟩) (cl L j).length (cl L j).length) (cl L j).length (ints (cl L j))) := own_down r5 ZZ.out
      have Z5 : Hid (w.heap.size + 1 ≤ w5.heap.size) := Nat.le_trans ZZ.out hb5.size
      have lx : xs.length = n * 1 := R5.out.1
      obtain ⟨z0, p0⟩ : ∃ z, w5.cell? ⟨w.heap.size, j, none⟩ = some z := ⟨xs[j]'(by omega), by rw [R5.out.cellAt j (by omega)]; exact List.getElem?_eq_getElem _⟩
      have f0 : w5.frozen? ⟨w.heap.size, j, none⟩ = false := R5.out.frozenAt _
      obtain ⟨w6, hw6⟩ : ∃ w6, w6 = w5.setCell ⟨w.heap.size, j, none⟩ (.slice (some ⟨wr.heap.size, 0, none⟩) (cl L j).length (cl L j).length) := ⟨_, rfl⟩
      have HW6 : Hid (w6 = w5.setCell ⟨w.heap.size, j, none⟩ (.slice (some ⟨wr.heap.size, 0, none⟩) (cl L j).length (cl L j).length)) := hw6
      have R6 : Hid (w6.ownsRow w.heap.size 24 1 (.slice (some ⟨w.heap.size, 0, none⟩) n n) n (xs.set j (.slice (some ⟨wr.heap.size, 0, none⟩) (cl L j).length (cl L j).length))) := (by show World.ownsRow _ _ _ _ _ _ _; rw [hw6]; exact (R5.out.stored j _).1)
      have KP : ∀ {u : Value} {m : Nat} {ys : List Value}, w5.ownsRow (w.heap.size + 1) 2 1 u m ys → w6.ownsRow (w.heap.size + 1) 2 1 u m ys := fun {u m ys} hh => by
        rw [hw6]
        exact row_set hh _ _ _ (Nat.lt_succ_self _)
      have G6 : Hid (Good w6 (w.heap.size + 1) (xs.set j (.slice (some ⟨wr.heap.size, 0, none⟩) (cl L j).length (cl L j).length)) (fun i => if i = j then wr.heap.size else gi i) L (j + 1)) := (by
        intro i hi
        by_cases e : i = j
        · subst e
          refine ⟨?_, ?_, fun i' x1 x2 => by omega⟩
          · rw [List.getElem?_set_self (by omega)]; simp [hd]
          · have : hd (fun k => if k = i then wr.heap.size else gi k) L i = .slice (some ⟨wr.heap.size, 0, none⟩) (cl L i).length (cl L i).length := by simp [hd]
            rw [this]
            exact KP IR.out
        · obtain ⟨h1, h2, h3⟩ := GX'.out i (by omega)
          have e2 : hd (fun k => if k = j then wr.heap.size else gi k) L i = hd gi L i := by simp [hd, e]
          have hlt2 := (h2.lt (gi i) rfl).2
          refine ⟨?_, ?_, fun i' x1 x2 => ?_⟩
          · rw [List.getElem?_set_ne (by omega), e2]; exact h1
          · rw [e2]; exact KP (row_on h2 hb5)
          · show (if i = j then wr.heap.size else gi i) < (if i' = j then wr.heap.size else gi i')
            rw [if_neg e]
            by_cases e3 : i' = j
            · rw [if_pos e3]; exact hlt2
            · rw [if_neg e3]; exact h3 i' x1 (by omega))
      have B6 : Hid (Below w.heap.size w w6) := (by show Below _ _ _; rw [hw6]; exact B5.out.setCell (p := ⟨w.heap.size, j, none⟩) (Nat.le_refl _) _)
      have Z6 : Hid (w.heap.size + 1 ≤ w6.heap.size) := (by show _ ≤ _; rw [hw6]; have := Z5.out; simp; omega)
      clear hb5 lx r5 hw6 T1 KP
      go_wp2_with fail
      rw [← HW6.out]
      go_roundw
      case rel => exact ⟨j + 1, by omega, by go_num, ⟨_, _, R6.out, G6.out⟩, Z6, B6⟩
      case measure => simp [intOf]; omega
    · have hjn : j = n := by omega
      subst hjn
      have RE : Hid (∃ xs gi g0, Value.slice (some ⟨w.heap.size, 0, none⟩) j j = .slice (some ⟨g0, 0, none⟩) j j ∧ w.heap.size ≤ g0 ∧ wr.ownsRow w.heap.size 24 1 (.slice (some ⟨w.heap.size, 0, none⟩) j j) j xs ∧ Good wr (g0 + 1) xs gi L j) := (by
        obtain ⟨xs, gi, h, g⟩ := R.out
        exact ⟨xs, gi, w.heap.size, rfl, Nat.le_refl _, h, g⟩)
      clear R
      go_wp2_with fail
      go_ret
      exact ⟨_, rfl, RE.out, BB.out⟩

set_option maxHeartbeats 1000000 in
theorem eqS_any (w : World) (v1 v2 : Value) (L : Ls) (h1 : Reads w v1 L) (h2 : Reads w v2 L) :
    Calls Try.prog 9 #[v1, v2] w fun e w' => e = .returned (.bool true) ∧ ∃ m, w' = w.drewN m := by
  by_cases hL : L = []
  · subst hL
    obtain ⟨a, cap, rfl⟩ := h1.form
    obtain ⟨a2, cap2, rfl⟩ := h2.form
    clear h1 h2
    go_enter Try.func9, Try.ntmps9
    go_wp2
    go_loop [5] (fun i => i = .int .i64 0) (fun _ => 0)
    case atStart => rfl
    case round =>
      subst hrel
      go_wp2
      go_ret
      exact ⟨rfl, 0, rfl⟩
  · rcases h1 with ⟨e, _⟩ | ⟨b1, o1, d1, rfl, x1, x2, x3, x4⟩
    · exact absurd e hL
    rcases h2 with ⟨e, _⟩ | ⟨b2, o2, d2, rfl, y1, y2, y3, y4⟩
    · exact absurd e hL
    have K1 : Hid (∀ i, i < L.length → Cs w b1 o1 L i) := x4
    have K2 : Hid (∀ i, i < L.length → Cs w b2 o2 L i) := y4
    obtain ⟨n, hn⟩ : ∃ n, n = L.length := ⟨_, rfl⟩
    rw [← hn] at x1 y1 ⊢
    have HN : Hid (n = L.length) := hn
    unfold maxLen at x2 y2
    clear x4 y4 hn hL
    go_enter Try.func9, Try.ntmps9
    go_wp2
    go_loopw [5] (fun i wr => ∃ k : Nat, k ≤ n ∧ i = .int .i64 k ∧ Hid (∃ m, wr = w.drewN m)) (fun i _ => n - (intOf i).toNat)
    case atStart => exact ⟨0, Nat.zero_le _, rfl, ⟨0, rfl⟩⟩
    case round =>
      obtain ⟨k, hk, rfl, HM⟩ := hrel
      by_cases hlt : k < n
      · have i0 : (0 : Int) ≤ (k : Int) := by omega
        have i1 : (k : Int) < (n : Int) := by omega
        obtain ⟨ua, qa0, ra0⟩ := K1.out k (by rw [← HN.out]; exact hlt)
        obtain ⟨ub, qb0, rb0⟩ := K2.out k (by rw [← HN.out]; exact hlt)
        obtain ⟨m, hm⟩ := HM.out
        have qa : wr.cell? ⟨b1, o1 + k, none⟩ = some ua := by rw [hm]; exact qa0
        have qb : wr.cell? ⟨b2, o2 + k, none⟩ = some ub := by rw [hm]; exact qb0
        have E1 : Hid (∀ q, Calls Try.prog 8 #[ua, ub] (wr.drewN q) fun e w' => e = .returned (.bool true) ∧ ∃ n, w' = (wr.drewN q).drewN n) := fun q => eq_reads (wr.drewN q) ua ub (cl L k) (by rw [hm]; exact ra0) (by rw [hm]; exact rb0)
        have HE : Hid (∀ q, ∃ m, wr.drewN q = w.drewN m) := fun q => ⟨m + q, by rw [hm, World.drewN_drewN]⟩
        clear ra0 rb0 qa0 qb0 hm
        go_wp2_with fail
        go_quiet ((go_at_call 8; exact Calls.quiet_of (E1.out _)))
        go_wp2_with fail
        go_roundw
        case rel => exact ⟨k + 1, by omega, by go_num, HE.out nq⟩
        case measure => simp [intOf]; omega
      · go_wp2
        go_ret
        exact ⟨rfl, HM.out⟩
end Go.Proofs.Ytjoijffjnlencaa.Ll
