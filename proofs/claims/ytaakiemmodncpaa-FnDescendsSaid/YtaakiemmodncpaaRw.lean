/- Lists of structs of int64s and a list of int64: read, measured, copied, compared. -/
import Derived.Test.YtaakiemmodncpaaRw1
import Derived.OwnWalk
import Derived.WalkSmall
import Derived.Laws.OwnMore
import Derived.Deep.QuietTactic
import Derived.BigQuiet
import Derived.Deep.RegionHeld3
namespace Go.Proofs.Ytaakiemmodncpaa.Rw
open Go.ChangeShapes Go.WideShapes Go.ChangeAt Go.RowKit
open Go.Proofs.Ytaakiemmodncpaa.Lists

set_option maxHeartbeats 1000000 in
theorem eq_reads (w : World) (v1 v2 : Value) (L : List Int) (h1 : Lists.Reads w v1 L) (h2 : Lists.Reads w v2 L) :
    Calls Try.prog 12 #[v1, v2] w fun e w' => e = .returned (.bool true) ∧ ∃ n, w' = w.drewN n := by
  by_cases hL : L = []
  · subst hL
    obtain ⟨a1, d1, rfl⟩ := h1.form
    obtain ⟨a2, d2, rfl⟩ := h2.form
    clear h1 h2
    go_enter Try.func12, Try.ntmps12
    go_wp2
    go_loop [5] (fun i => i = .int .i64 0) (fun _ => 0)
    case atStart => rfl
    case round =>
      subst hrel
      go_wp2
      go_ret
      exact ⟨rfl, 0, rfl⟩
  · rcases h1 with ⟨e, _⟩ | ⟨b1, o1, d1, rfl, x1, x2, _, x4⟩
    · exact absurd e hL
    rcases h2 with ⟨e, _⟩ | ⟨b2, o2, d2, rfl, y1, y2, _, y4⟩
    · exact absurd e hL
    have K1 : Hid (∀ i, i < L.length → w.cell? ⟨b1, o1 + i, none⟩ = some (.int .i64 (L.getD i 0))) := x4
    have K2 : Hid (∀ i, i < L.length → w.cell? ⟨b2, o2 + i, none⟩ = some (.int .i64 (L.getD i 0))) := y4
    obtain ⟨n, hn⟩ : ∃ n, n = L.length := ⟨_, rfl⟩
    rw [← hn] at x1 y1 ⊢
    have HN : Hid (n = L.length) := hn
    unfold maxLen at x2 y2
    clear x4 y4 hn hL
    go_enter Try.func12, Try.ntmps12
    go_wp2
    go_loopw [5] (fun i wr => ∃ k m : Nat, k ≤ n ∧ i = .int .i64 k ∧ wr = w.drewN m) (fun i _ => n - (intOf i).toNat)
    case atStart => exact ⟨0, 0, Nat.zero_le _, rfl, rfl⟩
    case round =>
      obtain ⟨k, m, hk, rfl, rfl⟩ := hrel
      by_cases hlt : k < n
      · have q1 := K1.out k (by rw [← HN.out]; exact hlt)
        have q2 := K2.out k (by rw [← HN.out]; exact hlt)
        have i0 : (0 : Int) ≤ (k : Int) := by omega
        have i1 : (k : Int) < (n : Int) := by omega
        have hne : (L.getD k 0 != L.getD k 0) = false := by simp
        generalize L.getD k 0 = z at *
        go_wp2_with fail
        go_quiet (fail)
        go_wp2_with fail
        go_roundw
        case rel => exact ⟨k + 1, m + nq, by omega, by go_num, rfl⟩
        case measure => simp [intOf]; omega
      · go_wp2
        go_ret
        exact ⟨rfl, m, rfl⟩

abbrev El := (Nat → Int) × List Int
abbrev Ls := List El
def cz (L : Ls) (i j : Nat) : Int := (L.getD i (fun _ => 0, [])).1 j
def cl (L : Ls) (i : Nat) : List Int := (L.getD i (fun _ => 0, [])).2
def Cs (w : World) (b o : Nat) (L : Ls) (i : Nat) : Prop := w.cell? ⟨b, o + i * 3 + 1, none⟩ = some (.int .i64 (cz L i 1)) ∧ w.cell? ⟨b, o + i * 3 + 2, none⟩ = some (.int .i64 (cz L i 2)) ∧ ∃ u, w.cell? ⟨b, o + i * 3, none⟩ = some u ∧ Lists.Reads w u (cl L i)
theorem Cs.on {w w' : World} {b o : Nat} {L : Ls} {i : Nat} (h : Cs w b o L i) (hb : Below w.heap.size w w') (hB : b < w.heap.size) : Cs w' b o L i := by
  obtain ⟨h1, h2, u, hu, hr⟩ := h
  exact ⟨(hb.cell (p := ⟨b, o + i * 3 + 1, none⟩) hB).trans h1, (hb.cell (p := ⟨b, o + i * 3 + 2, none⟩) hB).trans h2, u, (hb.cell (p := ⟨b, o + i * 3, none⟩) hB).trans hu, hr.on hb⟩
def Reads (w : World) (v : Value) (L : Ls) : Prop :=
  (L = [] ∧ ∃ a cap, v = .slice a 0 cap) ∨ ∃ b o cap, v = .slice (some ⟨b, o, none⟩) L.length cap ∧ L.length ≤ cap ∧ cap ≤ maxLen ∧ b < w.heap.size ∧ ∀ i, i < L.length → Cs w b o L i
theorem Reads.on {w w' : World} {v : Value} {L : Ls} (h : Reads w v L) (hb : Below w.heap.size w w') : Reads w' v L := by
  rcases h with h | ⟨b, o, cap, h1, h2, h3, h4, h5⟩
  · exact Or.inl h
  · exact Or.inr ⟨b, o, cap, h1, h2, h3, Nat.lt_of_lt_of_le h4 hb.size, fun i hi => (h5 i hi).on hb h4⟩
theorem Reads.form {w : World} {v : Value} {L : Ls} (h : Reads w v L) : ∃ a cap, v = .slice a L.length cap := by
  rcases h with ⟨rfl, a, cap, rfl⟩ | ⟨b, o, cap, rfl, _⟩
  · exact ⟨_, _, rfl⟩
  · exact ⟨_, _, rfl⟩
theorem Reads.fits {w : World} {v : Value} {L : Ls} (h : Reads w v L) : L.length < 9223372036854775808 := by
  rcases h with ⟨rfl, _⟩ | ⟨b, o, c, _, h1, h2, _⟩
  · decide
  · unfold maxLen at h2; omega
theorem lfits {w : World} {v : Value} {L : List Int} (h : Lists.Reads w v L) : L.length < 9223372036854775808 := by
  rcases h with ⟨rfl, _⟩ | ⟨b, o, c, _, h1, h2, _⟩
  · decide
  · unfold maxLen at h2; omega

def Good (w : World) (B : Nat) (xs : List Value) (L : Ls) (j : Nat) : Prop := ∀ i, i < j → xs[i * 3 + 1]? = some (.int .i64 (cz L i 1)) ∧ xs[i * 3 + 2]? = some (.int .i64 (cz L i 2)) ∧ ∃ u, xs[i * 3]? = some u ∧ w.ownsRow B 2 1 u (cl L i).length (ints (cl L i))
def Row (w : World) (base : Nat) (v : Value) (L : Ls) : Prop := ∃ xs, w.ownsRow base 51 3 v L.length xs ∧ Good w base xs L L.length
theorem Good.on {w w' : World} {B : Nat} {xs : List Value} {L : Ls} {j : Nat} (h : Good w B xs L j) (hb : Below w.heap.size w w') : Good w' B xs L j := fun i hi => by
  obtain ⟨h1, h2, u, hu, hr⟩ := h i hi
  exact ⟨h1, h2, u, hu, Rw1.row_on hr hb⟩
theorem row_cases {w : World} {base n : Nat} {e : TypeId} {k : Nat} {v : Value} {xs : List Value} (h : w.ownsRow base e k v n xs) :
    (n = 0 ∧ v = .slice none 0 0) ∨ ∃ g cap, v = .slice (some ⟨g, 0, none⟩) n cap ∧ base ≤ g ∧ g < w.heap.size ∧ n ≤ cap ∧ cap ≤ maxLen := by
  obtain ⟨h0, h⟩ := h
  rcases h with ⟨rfl, hn⟩ | ⟨g, cap, cur, rfl, hb, hh, hc, hm, _⟩
  · exact Or.inl ⟨hn, rfl⟩
  · refine Or.inr ⟨g, cap, rfl, hb, ?_, hc, hm⟩
    by_cases x : g < w.heap.size
    · exact x
    · rw [Array.getElem?_eq_none (by omega)] at hh; cases hh
theorem row_below {B : Nat} {e : TypeId} {k : Nat} {v : Value} {n : Nat} {xs : List Value} {w w' : World} (h : w.ownsRow B e k v n xs) (hb : Below w.heap.size w w') : w'.ownsRow B e k v n xs := by
  refine ⟨h.1, ?_⟩
  rcases h.2 with h2 | ⟨g, cap, cur, h1, h2, h3, h4⟩
  · exact .inl h2
  · have hg : g < w.heap.size := by
      rcases Nat.lt_or_ge g w.heap.size with x | x
      · exact x
      · rw [Array.getElem?_eq_none x] at h3; cases h3
    exact .inr ⟨g, cap, cur, h1, h2, (hb.block g hg).trans h3, h4⟩
theorem Row.on {w w' : World} {base : Nat} {v : Value} {L : Ls} (h : Row w base v L) (hb : Below w.heap.size w w') : Row w' base v L := by
  obtain ⟨xs, h, hg⟩ := h
  exact ⟨xs, row_below h hb, hg.on hb⟩
theorem Row.reads {w : World} {base : Nat} {v : Value} {L : Ls} (h : Row w base v L) : Reads w v L := by
  obtain ⟨xs, h, hg⟩ := h
  rcases row_cases h with ⟨hn, rfl⟩ | ⟨g, cap, rfl, _, h2, h3, h4⟩
  · exact Or.inl ⟨List.eq_nil_of_length_eq_zero hn, _, _, rfl⟩
  · refine Or.inr ⟨g, 0, cap, rfl, h3, h4, h2, fun i hi => ?_⟩
    obtain ⟨h1, h2, u, hu, hr⟩ := hg i hi
    refine ⟨(by rw [Nat.zero_add, h.cellAt (i * 3 + 1) (by omega)]; exact h1), (by rw [Nat.zero_add, h.cellAt (i * 3 + 2) (by omega)]; exact h2), u, ?_, Lists.reads_row hr⟩
    rw [Nat.zero_add, h.cellAt (i * 3) (by omega)]; exact hu

set_option maxHeartbeats 1000000 in
theorem szS_any (v : Value) (L : Ls) (l : Int) (w : World) (h0 : 0 ≤ l) (h1 : l ≤ 1048576) (h : Reads w v L) :
    Calls Try.prog 23 #[v, .int .i64 l] w fun e w' => (∃ r : Int, e = .returned (.int .i64 r) ∧ (0 ≤ r → L.length ≤ 1048576 ∧ ∀ i, i < L.length → (cl L i).length ≤ 1048576) ∧ r ≤ 1048576) ∧ Below w.heap.size w w' := by
  have fit := h.fits
  have hcell : ∃ f : Nat → Nat × Nat, (∀ i, i < L.length → Cs w (f 0).1 (f 0).2 L i) ∧ (0 < L.length → (f 0).1 < w.heap.size ∧ ∃ cap, v = .slice (some ⟨(f 0).1, (f 0).2, none⟩) L.length cap) := by
    rcases h with ⟨rfl, _⟩ | ⟨b, o, cap, h1, h2, h3, h4, h5⟩
    · exact ⟨fun _ => (0, 0), fun i hi => by simp at hi, fun hi => by simp at hi⟩
    · exact ⟨fun _ => (b, o), h5, fun _ => ⟨h4, cap, h1⟩⟩
  obtain ⟨f, hc, hv⟩ := hcell
  obtain ⟨a, cap, rfl⟩ := h.form
  have HC : Hid (∀ i, i < L.length → Cs w (f 0).1 (f 0).2 L i) := hc
  have HV : Hid (0 < L.length → (f 0).1 < w.heap.size ∧ a = some ⟨(f 0).1, (f 0).2, none⟩) := fun hi => by
    obtain ⟨h1, c, h2⟩ := hv hi
    simp at h2
    exact ⟨h1, h2.1⟩
  obtain ⟨n, hn⟩ : ∃ n, n = L.length := ⟨_, rfl⟩
  rw [← hn] at fit ⊢
  have HN : Hid (n = L.length) := hn
  have i2 : IntKind.i64.wrap (l - (n : Int)) = l - (n : Int) := IntWalk.i64_in _ (by omega)
  have BR : Hid (Below w.heap.size w w) := Below.refl _ _
  clear h hc hv hn
  by_cases hl : l - (n : Int) < 0
  · go_enter Try.func23, Try.ntmps23
    go_wp2
    go_ret
    exact ⟨⟨_, rfl, fun h => by omega, by omega⟩, BR.out⟩
  · go_enter Try.func23, Try.ntmps23
    go_wp2_with fail
    go_loopw [1, 5] (fun q i wr => ∃ (m : Int) (k : Nat), k ≤ n ∧ i = .int .i64 k ∧ q = .int .i64 m ∧ 0 ≤ m ∧ m ≤ 1048576 ∧ Hid (∀ j, j < k → (cl L j).length ≤ 1048576) ∧ Hid (Below w.heap.size w wr)) (fun _ i _ => n - (intOf i).toNat)
    case atStart => exact ⟨l - n, 0, by omega, rfl, rfl, by omega, by omega, fun j hj => by omega, BR⟩
    case round =>
      clear i2
      obtain ⟨m, k, hk, rfl, rfl, hm0, hm1, OK, BB⟩ := hrel
      by_cases hlt : k < n
      · have hkl : k < L.length := by rw [← HN.out]; exact hlt
        obtain ⟨v1, v2⟩ := HV.out (by omega)
        subst v2
        have i0 : (0 : Int) ≤ (k : Int) := by omega
        have i1 : (k : Int) < (n : Int) := by omega
        obtain ⟨q1, q2, u, qu, ru⟩ : Cs wr (f 0).1 (f 0).2 L k := (HC.out k hkl).on BB.out v1
        have lf := lfits ru
        obtain ⟨ua, uc, rfl⟩ := ru.form
        have S1 : Hid (Calls Try.prog 43 #[Rw1.sv (cz L k 1) (cz L k 2) (.slice ua (cl L k).length uc), .int .i64 m] wr fun e w' => (∃ r : Int, e = .returned (.int .i64 r) ∧ (0 ≤ r → (cl L k).length ≤ 1048576) ∧ r ≤ 1048576) ∧ Below wr.heap.size wr w') := Rw1.sz_any _ _ _ _ _ _ _ hm0 hm1 lf
        clear ru
        generalize cz L k 1 = x1 at *
        generalize cz L k 2 = x2 at *
        go_wp2_with fail
        refine (Calls.mono S1.out) ?_
        rintro e w5 ⟨⟨r, rfl, hr, hr1⟩, b5⟩
        have B5 : Hid (Below w.heap.size w w5) := BB.out.trans (b5.mono BB.out.size)
        clear b5 S1
        by_cases hr0 : r < 0
        · go_wp2_with fail
          go_ret
          exact ⟨⟨_, rfl, fun h => by omega, by omega⟩, B5.out⟩
        · have OK2 : Hid (∀ j, j < k + 1 → (cl L j).length ≤ 1048576) := fun j hj => by
            by_cases e : j = k
            · subst e; exact hr (by omega)
            · exact OK.out j (by omega)
          go_wp2_with fail
          go_roundw
          case rel => exact ⟨r, k + 1, by omega, by go_num, rfl, by omega, by omega, OK2, B5⟩
          case measure => simp [intOf]; omega
      · go_wp2_with fail
        go_ret
        exact ⟨⟨_, rfl, fun _ => ⟨by omega, fun i hi => OK.out i (by have := HN.out; omega)⟩, by omega⟩, BB.out⟩

theorem Try.infoE : (Try.prog.info? 51).map (fun i => (i.zero, i.size, i.bytes)) = some (some (.agg #[.slice none 0 0, .int .i64 0, .int .i64 0]), 3, 40) := by kernel_rfl
set_option maxHeartbeats 1000000 in
theorem toS_any (w : World) (v : Value) (L : Ls) (h : Reads w v L) (hl : L.length ≤ 1048576) (hi' : ∀ i, i < L.length → (cl L i).length ≤ 1048576) :
    Calls Try.prog 29 #[v] w fun e w' => ∃ v', e = .returned v' ∧ Row w' w.heap.size v' L ∧ Below w.heap.size w w' := by
  obtain ⟨i0, hi, hz0, hz1, hz2⟩ := info_parts Try.infoE
  have hcell : ∃ f : Nat → Nat × Nat, (∀ i, i < L.length → Cs w (f 0).1 (f 0).2 L i) ∧ (0 < L.length → (f 0).1 < w.heap.size ∧ ∃ cap, v = .slice (some ⟨(f 0).1, (f 0).2, none⟩) L.length cap) := by
    rcases h with ⟨rfl, _⟩ | ⟨b, o, cap, h1, h2, h3, h4, h5⟩
    · exact ⟨fun _ => (0, 0), fun i hi => by simp at hi, fun hi => by simp at hi⟩
    · exact ⟨fun _ => (b, o), h5, fun _ => ⟨h4, cap, h1⟩⟩
  obtain ⟨f, hc, hv⟩ := hcell
  obtain ⟨a, cap, rfl⟩ := h.form
  have HC : Hid (∀ i, i < L.length → Cs w (f 0).1 (f 0).2 L i) := hc
  have HI : Hid (∀ i, i < L.length → (cl L i).length ≤ 1048576) := hi'
  have HV : Hid (0 < L.length → (f 0).1 < w.heap.size ∧ a = some ⟨(f 0).1, (f 0).2, none⟩) := fun hi => by
    obtain ⟨h1, c, h2⟩ := hv hi
    simp at h2
    exact ⟨h1, h2.1⟩
  obtain ⟨n, hn⟩ : ∃ n, n = L.length := ⟨_, rfl⟩
  unfold Row
  rw [← hn] at hl ⊢
  have HN : Hid (n = L.length) := hn
  clear h hc hv hn hi'
  go_enter Try.func29, Try.ntmps29
  go_wp2_with (at_make; refine wpList_make_full _ rfl _ _ 30 rfl w.heap.size 51 i0 (.agg #[.slice none 0 0, .int .i64 0, .int .i64 0]) 3 Try.underlying30 hi hz0 hz1 .i64 .i64 (n : Int) (n : Int) n rfl rfl rfl rfl (by rw [hz2]; omega) (by unfold maxLen; omega) (Nat.le_refl _) ?_; intro w4 hown hgrow)
  have R0 : Hid (∃ xs, w4.ownsRow w.heap.size 51 3 (.slice (some ⟨w.heap.size, 0, none⟩) n n) n xs ∧ Good w4 (w.heap.size + 1) xs L 0) := ⟨_, hown, fun i hi => absurd hi (by omega)⟩
  have B0 : Hid (Below w.heap.size w w4) := (Below.refl _ _).grown hgrow (Nat.le_refl _) (fun k hk => by cases hk)
  have Z0 : Hid (w.heap.size + 1 ≤ w4.heap.size) := (hown.lt w.heap.size (by simp [Value.ownBlock])).2
  clear hown hgrow
  go_loopw [4] (fun c wr => ∃ j : Nat, j ≤ n ∧ c = .int .i64 j ∧ Hid (∃ xs, wr.ownsRow w.heap.size 51 3 (.slice (some ⟨w.heap.size, 0, none⟩) n n) n xs ∧ Good wr (w.heap.size + 1) xs L j) ∧ Hid (w.heap.size + 1 ≤ wr.heap.size) ∧ Hid (Below w.heap.size w wr)) (fun c _ => n - (intOf c).toNat)
  case atStart => exact ⟨0, Nat.zero_le _, rfl, R0, Z0, B0⟩
  case round =>
    obtain ⟨j, hj, rfl, R, ZZ, BB⟩ := hrel
    by_cases hlt : j < n
    · have hlt' : j < L.length := by rw [← HN.out]; exact hlt
      obtain ⟨v1, v2⟩ := HV.out (by omega)
      subst v2
      have i0 : (0 : Int) ≤ (j : Int) := by omega
      have i1 : (j : Int) < (n : Int) := by omega
      obtain ⟨q1, q2, u, qu, ru⟩ : Cs wr (f 0).1 (f 0).2 L j := (HC.out j hlt').on BB.out v1
      have T1 : Hid (Calls Try.prog 45 #[Rw1.sv (cz L j 1) (cz L j 2) u] wr fun e w' => ∃ g, e = .returned (Rw1.sv (cz L j 1) (cz L j 2) (.slice (some ⟨g, 0, none⟩) (cl L j).length (cl L j).length)) ∧ w'.ownsRow wr.heap.size 2 1 (.slice (some ⟨g, 0, none⟩) (cl L j).length (cl L j).length) (cl L j).length (ints (cl L j)) ∧ Below wr.heap.size wr w') := Rw1.to_st _ _ (cl L j) u wr ru (HI.out j hlt')
      obtain ⟨ua, uc, rfl⟩ := ru.form
      obtain ⟨xs, RX, GX⟩ := R.out
      have RX' : Hid (wr.ownsRow w.heap.size 51 3 (.slice (some ⟨w.heap.size, 0, none⟩) n n) n xs) := RX
      have GX' : Hid (Good wr (w.heap.size + 1) xs L j) := GX
      clear RX GX R ru
      generalize hx1 : cz L j 1 = x1 at *
      generalize hx2 : cz L j 2 = x2 at *
      have HX : Hid (cz L j 1 = x1 ∧ cz L j 2 = x2) := ⟨hx1, hx2⟩
      clear hx1 hx2
      go_wp2_with fail
      refine (Calls.mono T1.out) ?_
      rintro e w5 ⟨g5, rfl, r5, hb5⟩
      have R5 : Hid (w5.ownsRow w.heap.size 51 3 (.slice (some ⟨w.heap.size, 0, none⟩) n n) n xs) := row_below RX'.out hb5
      have B5 : Hid (Below w.heap.size w w5) := BB.out.trans (hb5.mono BB.out.size)
      have G5 : Hid (Good w5 (w.heap.size + 1) xs L j) := GX'.out.on hb5
      have IR : Hid (w5.ownsRow (w.heap.size + 1) 2 1 (.slice (some ⟨g5, 0, none⟩) (cl L j).length (cl L j).length) (cl L j).length (ints (cl L j))) := Rw1.own_down r5 ZZ.out
      have Z5 : Hid (w.heap.size + 1 ≤ w5.heap.size) := Nat.le_trans ZZ.out hb5.size
      have lx : xs.length = n * 3 := R5.out.1
      obtain ⟨z0, p0⟩ : ∃ z, w5.cell? ⟨w.heap.size, j * 3, none⟩ = some z := ⟨xs[j * 3]'(by omega), by rw [R5.out.cellAt (j * 3) (by omega)]; exact List.getElem?_eq_getElem _⟩
      obtain ⟨z1, p1⟩ : ∃ z, w5.cell? ⟨w.heap.size, j * 3 + 1, none⟩ = some z := ⟨xs[j * 3 + 1]'(by omega), by rw [R5.out.cellAt (j * 3 + 1) (by omega)]; exact List.getElem?_eq_getElem _⟩
      obtain ⟨z2, p2⟩ : ∃ z, w5.cell? ⟨w.heap.size, j * 3 + 2, none⟩ = some z := ⟨xs[j * 3 + 2]'(by omega), by rw [R5.out.cellAt (j * 3 + 2) (by omega)]; exact List.getElem?_eq_getElem _⟩
      have f0 : w5.frozen? ⟨w.heap.size, j * 3, none⟩ = false := R5.out.frozenAt _
      have f1 : w5.frozen? ⟨w.heap.size, j * 3 + 1, none⟩ = false := R5.out.frozenAt _
      have f2 : w5.frozen? ⟨w.heap.size, j * 3 + 2, none⟩ = false := R5.out.frozenAt _
      obtain ⟨w6, hw6⟩ : ∃ w6, w6 = (((w5.setCell ⟨w.heap.size, j * 3, none⟩ (.slice (some ⟨g5, 0, none⟩) (cl L j).length (cl L j).length)).setCell ⟨w.heap.size, j * 3 + 1, none⟩ (.int .i64 x1)).setCell ⟨w.heap.size, j * 3 + 2, none⟩ (.int .i64 x2)) := ⟨_, rfl⟩
      have HW6 : Hid (w6 = (((w5.setCell ⟨w.heap.size, j * 3, none⟩ (.slice (some ⟨g5, 0, none⟩) (cl L j).length (cl L j).length)).setCell ⟨w.heap.size, j * 3 + 1, none⟩ (.int .i64 x1)).setCell ⟨w.heap.size, j * 3 + 2, none⟩ (.int .i64 x2))) := hw6
      have R6 : Hid (w6.ownsRow w.heap.size 51 3 (.slice (some ⟨w.heap.size, 0, none⟩) n n) n ((((xs.set (j * 3) (.slice (some ⟨g5, 0, none⟩) (cl L j).length (cl L j).length)).set (j * 3 + 1) (.int .i64 x1)).set (j * 3 + 2) (.int .i64 x2)))) := (by show World.ownsRow _ _ _ _ _ _ _; rw [hw6]; exact (((R5.out.stored (j * 3) _).1.stored (j * 3 + 1) _).1.stored (j * 3 + 2) _).1)
      have KP : ∀ {u : Value} {m : Nat} {ys : List Value}, w5.ownsRow (w.heap.size + 1) 2 1 u m ys → w6.ownsRow (w.heap.size + 1) 2 1 u m ys := fun {u m ys} hh => by
        rw [hw6]
        exact (Rw1.row_set (Rw1.row_set (Rw1.row_set hh _ _ _ (Nat.lt_succ_self _)) _ _ _ (Nat.lt_succ_self _)) _ _ _ (Nat.lt_succ_self _))
      have G6 : Hid (Good w6 (w.heap.size + 1) ((((xs.set (j * 3) (.slice (some ⟨g5, 0, none⟩) (cl L j).length (cl L j).length)).set (j * 3 + 1) (.int .i64 x1)).set (j * 3 + 2) (.int .i64 x2))) L (j + 1)) := (by
        intro i hi
        by_cases e : i = j
        · subst e
          refine ⟨(by rw [List.getElem?_set_ne (by omega), List.getElem?_set_self (by first | omega | (simp; omega))]; rw [HX.out.1]), (by rw [List.getElem?_set_self (by first | omega | (simp; omega))]; rw [HX.out.2]), _, ?_, KP IR.out⟩
          rw [List.getElem?_set_ne (by omega), List.getElem?_set_ne (by omega), List.getElem?_set_self (by first | omega | (simp; omega))]
        · obtain ⟨h1, h2, u, hu, hr⟩ := G5.out i (by omega)
          refine ⟨(by rw [List.getElem?_set_ne (by omega), List.getElem?_set_ne (by omega), List.getElem?_set_ne (by omega)]; exact h1), (by rw [List.getElem?_set_ne (by omega), List.getElem?_set_ne (by omega), List.getElem?_set_ne (by omega)]; exact h2), u, ?_, KP hr⟩
          rw [List.getElem?_set_ne (by omega), List.getElem?_set_ne (by omega), List.getElem?_set_ne (by omega)]; exact hu)
      have B6 : Hid (Below w.heap.size w w6) := (by show Below _ _ _; rw [hw6]; exact (((B5.out.setCell (p := ⟨w.heap.size, j * 3, none⟩) (Nat.le_refl _) _).setCell (p := ⟨w.heap.size, j * 3 + 1, none⟩) (Nat.le_refl _) _).setCell (p := ⟨w.heap.size, j * 3 + 2, none⟩) (Nat.le_refl _) _))
      have Z6 : Hid (w.heap.size + 1 ≤ w6.heap.size) := (by show _ ≤ _; rw [hw6]; have := Z5.out; simp; omega)
      clear hb5 lx r5 hw6 T1 KP
      go_wp2_with fail
      rw [← HW6.out]
      go_roundw
      case rel => exact ⟨j + 1, by omega, by go_num, ⟨_, R6.out, G6.out⟩, Z6, B6⟩
      case measure => simp [intOf]; omega
    · have hjn : j = n := by omega
      subst hjn
      have RE : Hid (∃ xs, wr.ownsRow w.heap.size 51 3 (.slice (some ⟨w.heap.size, 0, none⟩) j j) j xs ∧ Good wr w.heap.size xs L j) := (by
        obtain ⟨xs, h, g⟩ := R.out
        refine ⟨xs, h, fun i hi => ?_⟩
        obtain ⟨h1, h2, u, hu, hr⟩ := g i hi
        exact ⟨h1, h2, u, hu, Rw1.own_down hr (Nat.le_succ _)⟩)
      clear R
      go_wp2_with fail
      go_ret
      exact ⟨_, rfl, RE.out, BB.out⟩

set_option maxHeartbeats 1000000 in
theorem eq1_any (x1 x2 : Int) (L : List Int) (c1 c2 : Value) (w : World) (hC : Lists.Reads w c1 L) (hD : Lists.Reads w c2 L) :
    Calls Try.prog 57 #[Rw1.sv x1 x2 c1, Rw1.sv x1 x2 c2] w fun e w' => e = .returned (.bool true) ∧ Below w.heap.size w w' := by
  have EI : Hid (∀ w', Below w.heap.size w w' → Calls Try.prog 12 #[c1, c2] w' fun e w'' => e = .returned (.bool true) ∧ ∃ n, w'' = w'.drewN n) := fun w' hb => eq_reads w' c1 c2 L (hC.on hb) (hD.on hb)
  clear hC hD
  have hii : ∀ b : Int, (b != b) = false := fun b => by simp
  obtain ⟨w0, hw0⟩ : ∃ w0, w0 = (w.alloc (Obj.cells #[c1, .int .i64 x1, .int .i64 x2] 51)).alloc (Obj.cells #[c2, .int .i64 x1, .int .i64 x2] 51) := ⟨_, rfl⟩
  have HW0 : Hid (w0 = (w.alloc (Obj.cells #[c1, .int .i64 x1, .int .i64 x2] 51)).alloc (Obj.cells #[c2, .int .i64 x1, .int .i64 x2] 51)) := hw0
  have B0 : Hid (Below w.heap.size w w0) := (by show Below _ _ _; rw [hw0]; exact ((Below.refl _ _).alloc (Nat.le_refl _) _).alloc (by simp) _)
  have X1 : Rw1.Box w0 w.heap.size c1 (.int .i64 x1) (.int .i64 x2) := by rw [hw0]; unfold Rw1.Box; simp [go_sem]
  have X2 : Rw1.Box w0 (w.heap.size + 1) c2 (.int .i64 x1) (.int .i64 x2) := by rw [hw0]; unfold Rw1.Box; simp [go_sem]
  clear hw0
  go_enter Try.func57, Try.ntmps57
  go_wp2_with fail
  rw [← HW0.out]
  refine (EI.out _ B0.out).mono ?_
  rintro e w1 ⟨rfl, n1, hw⟩
  have B1 : Hid (Below w.heap.size w w1) := (by show Below _ _ _; rw [hw]; exact Rw1.below_drewN B0.out _)
  have Y1 : Rw1.Box w1 w.heap.size c1 (.int .i64 x1) (.int .i64 x2) := by rw [hw]; exact X1
  have Y2 : Rw1.Box w1 (w.heap.size + 1) c2 (.int .i64 x1) (.int .i64 x2) := by rw [hw]; exact X2
  obtain ⟨h0, h1, h2⟩ := Y1
  obtain ⟨k0, k1, k2⟩ := Y2
  clear hw X1 X2 HW0 B0 EI
  go_wp2_with fail
  go_ret
  exact ⟨rfl, B1.out⟩
set_option maxHeartbeats 1000000 in
theorem eqS_any (w : World) (v1 v2 : Value) (L : Ls) (h1 : Reads w v1 L) (h2 : Reads w v2 L) :
    Calls Try.prog 37 #[v1, v2] w fun e w' => e = .returned (.bool true) ∧ Below w.heap.size w w' := by
  by_cases hL : L = []
  · subst hL
    obtain ⟨a, cap, rfl⟩ := h1.form
    obtain ⟨a2, cap2, rfl⟩ := h2.form
    clear h1 h2
    go_enter Try.func37, Try.ntmps37
    go_wp2
    go_loop [5] (fun i => i = .int .i64 0) (fun _ => 0)
    case atStart => rfl
    case round =>
      subst hrel
      go_wp2
      go_ret
      exact ⟨rfl, Below.refl _ _⟩
  · rcases h1 with ⟨e, _⟩ | ⟨b1, o1, d1, rfl, x1, x2, x3, x4⟩
    · exact absurd e hL
    rcases h2 with ⟨e, _⟩ | ⟨b2, o2, d2, rfl, y1, y2, y3, y4⟩
    · exact absurd e hL
    have K1 : Hid (b1 < w.heap.size ∧ ∀ i, i < L.length → Cs w b1 o1 L i) := ⟨x3, x4⟩
    have K2 : Hid (b2 < w.heap.size ∧ ∀ i, i < L.length → Cs w b2 o2 L i) := ⟨y3, y4⟩
    obtain ⟨n, hn⟩ : ∃ n, n = L.length := ⟨_, rfl⟩
    rw [← hn] at x1 y1 ⊢
    have HN : Hid (n = L.length) := hn
    unfold maxLen at x2 y2
    clear x4 y4 hn hL
    go_enter Try.func37, Try.ntmps37
    go_wp2
    go_loopw [5] (fun i wr => ∃ k : Nat, k ≤ n ∧ i = .int .i64 k ∧ Hid (Below w.heap.size w wr)) (fun i _ => n - (intOf i).toNat)
    case atStart => exact ⟨0, Nat.zero_le _, rfl, Below.refl _ _⟩
    case round =>
      obtain ⟨k, hk, rfl, BR⟩ := hrel
      by_cases hlt : k < n
      · have i0 : (0 : Int) ≤ (k : Int) := by omega
        have i1 : (k : Int) < (n : Int) := by omega
        have C1 : Hid (Cs wr b1 o1 L k) := (K1.out.2 k (by rw [← HN.out]; exact hlt)).on BR.out K1.out.1
        have C2 : Hid (Cs wr b2 o2 L k) := (K2.out.2 k (by rw [← HN.out]; exact hlt)).on BR.out K2.out.1
        obtain ⟨q1, q2, ua, qa, ra⟩ := C1.out
        obtain ⟨r1, r2, ub, qb, rb⟩ := C2.out
        have E1 : Hid (Calls Try.prog 57 #[Rw1.sv (cz L k 1) (cz L k 2) ua, Rw1.sv (cz L k 1) (cz L k 2) ub] wr.drew fun e w' => e = .returned (.bool true) ∧ Below wr.drew.heap.size wr.drew w') := eq1_any _ _ (cl L k) ua ub wr.drew ra rb
        clear ra rb C1 C2
        generalize cz L k 1 = u1 at *
        generalize cz L k 2 = u2 at *
        go_wp2_with fail
        go_region_held3 (fun w' => w'.cell? ⟨b1, o1 + k * 3, none⟩ = some (ua) ∧ w'.cell? ⟨b1, o1 + k * 3 + 1, none⟩ = some (.int .i64 u1) ∧ w'.cell? ⟨b1, o1 + k * 3 + 2, none⟩ = some (.int .i64 u2) ∧ w'.cell? ⟨b2, o2 + k * 3, none⟩ = some (ub) ∧ w'.cell? ⟨b2, o2 + k * 3 + 1, none⟩ = some (.int .i64 u1) ∧ w'.cell? ⟨b2, o2 + k * 3 + 2, none⟩ = some (.int .i64 u2)) (go_keep)
          ((go_at_call 57; refine (Calls.mono E1.out) ?_; rintro e w1 ⟨rfl, hb1⟩; have B1 : Hid (Below w.heap.size w w1) := (Rw1.below_drewN BR.out 1).trans (hb1.mono BR.out.size); have k1 := Nat.lt_of_lt_of_le K1.out.1 BR.out.size; have k2 := Nat.lt_of_lt_of_le K2.out.1 BR.out.size; have sb10 := (hb1.cell (p := ⟨b1, o1 + k * 3, none⟩) k1).trans qa; have sb11 := (hb1.cell (p := ⟨b1, o1 + k * 3 + 1, none⟩) k1).trans q1; have sb12 := (hb1.cell (p := ⟨b1, o1 + k * 3 + 2, none⟩) k1).trans q2; have sb20 := (hb1.cell (p := ⟨b2, o2 + k * 3, none⟩) k2).trans qb; have sb21 := (hb1.cell (p := ⟨b2, o2 + k * 3 + 1, none⟩) k2).trans r1; have sb22 := (hb1.cell (p := ⟨b2, o2 + k * 3 + 2, none⟩) k2).trans r2; clear hb1 k1 k2))
        go_wp2_with fail
        go_roundw
        case rel => exact ⟨k + 1, by omega, by go_num, B1⟩
        case measure => simp [intOf]; omega
      · go_wp2
        go_ret
        exact ⟨rfl, BR.out⟩

end Go.Proofs.Ytaakiemmodncpaa.Rw
