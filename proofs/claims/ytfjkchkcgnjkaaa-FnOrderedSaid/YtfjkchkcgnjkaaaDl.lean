/- Lists of floats drawn of a code, told by the code alone, up to which missing number. -/
import Derived.Test.YtfjkchkcgnjkaaaFf
import Derived.Test.YtfjkchkcgnjkaaaSd
import Derived.Maps.AppendAt
namespace Go.Proofs.Ytfjkchkcgnjkaaa.Fd
open Go.ChangeShapes Go.WideShapes Go.ChangeAt Go.RowKit
open Flt Fls Srt
attribute [local go_sem] Flt.run_store_float

def DrawsF (B : List UInt8) (F : Nat → Nat × Nat) : Prop := ∀ p, FltD B p (F p).1 (F p).2
theorem float_fn (B : List UInt8) : ∃ F, DrawsF B F := by
  have h : ∀ p, ∃ z : Nat × Nat, FltD B p z.1 z.2 := fun p => by
    obtain ⟨x, p', h⟩ := float_det B p
    exact ⟨(x, p'), h⟩
  obtain ⟨F, hF⟩ := Classical.axiomOfChoice h
  exact ⟨F, hF⟩
def lsf (F : Nat → Nat × Nat) (p : Nat) : Nat → List Nat × Nat
  | 0 => ([], p)
  | k + 1 => ((lsf F p k).1 ++ [(F (lsf F p k).2).1], (F (lsf F p k).2).2)
theorem lsf_len (F : Nat → Nat × Nat) (p : Nat) : ∀ k, (lsf F p k).1.length = k
  | 0 => rfl
  | k + 1 => by simp [lsf, lsf_len F p k]
theorem row_turn {r B n : Nat} {w w' : World} {v : Value} {xs : List Value} (h : w.ownsRow B 31 1 v n xs) (t : Turn r w w') (hr : r < B) : w'.ownsRow B 31 1 v n xs := by
  refine h.kept (row := some r) ⟨t.bel.os, t.bel.tape, t.bel.output, t.bel.size, fun k hk hne => ?_⟩ ?_
  · by_cases e : k < r
    · exact t.bel.block k e
    · have : k ≠ r := fun x => hne (by rw [x])
      exact t.abv k (by omega) hk
  · cases e : v.ownBlock with
    | none => exact Or.inl rfl
    | some k =>
      refine Or.inr fun x => ?_
      have := (h.lt k e).1
      simp at x
      omega
theorem turn_below {r : Nat} {w w2 w3 : World} (t : Turn r w w2) (hb : Below w.heap.size w2 w3) (hr : r < w.heap.size) : Turn r w w3 :=
  ⟨t.bel.trans (hb.mono (by omega)), fun i h1 h2 => (hb.block i h2).trans (t.abv i h1 h2)⟩
/-- what the draw keeps -/
structure LF (B : List UInt8) (w : World) (r : Nat) (X : List Nat) (p : Nat) (v : Value) (n : Nat) (wx : World) : Prop where
  row : ∃ C : List Nat, C.map cn = X ∧ Bd C ∧ wx.ownsRow w.heap.size 31 1 v n (flts C)
  len : X.length = n
  rd : Rd B p r wx
  tn : Turn r w wx
theorem LF.turn {B : List UInt8} {w wx w' : World} {r : Nat} {X : List Nat} {p p' n : Nat} {v : Value} (h : LF B w r X p v n wx) (hr : r < w.heap.size) (k : Rd B p' r w') (t : Turn r wx w') : LF B w r X p' v n w' := by
  obtain ⟨⟨C, hC, bd, R⟩, l, d, t0⟩ := h
  exact ⟨⟨C, hC, bd, row_turn R t hr⟩, l, k, t0.trans t⟩
theorem LF.form {B : List UInt8} {w wx : World} {r : Nat} {X : List Nat} {p n : Nat} {v : Value} (h : LF B w r X p v n wx) : ∃ a c, v = .slice a n c := by
  obtain ⟨⟨C, hC, bd, R⟩, l, _, _⟩ := h
  have e : C.length = n := by rw [← l, ← hC, List.length_map]
  rw [← e] at R ⊢
  exact (reads_row R).form
theorem LF.push {B : List UInt8} {w wx w' : World} {r : Nat} {X C : List Nat} {p n : Nat} {v v' : Value} {a x : Nat} (h : LF B w r X p v n wx) (hr : r < w.heap.size) (hx : cn a = x) (ha : a < 18446744073709551616) (o : Obj)
    (hg : (wx.alloc o).grownBy w' v.ownBlock) (hC : C.map cn = X) (bd : Bd C) (R : wx.ownsRow w.heap.size 31 1 v n (flts C)) (ho : w'.ownsRow w.heap.size 31 1 v' (n + 1) (flts C ++ [.float .f64 a])) : LF B w r (X ++ [x]) p v' (n + 1) w' := by
  have z := h.tn.size
  have BG : Below w.heap.size wx w' := ((Below.refl w.heap.size wx).alloc z _).grown hg (by simp; omega) (fun b hb => (R.lt b hb).1)
  refine ⟨⟨C ++ [a], by simp [hC, hx], fun y hy => ?_, by rw [flts_snoc]; exact ho⟩, by simp [h.len], h.rd.kept BG hr, turn_below h.tn BG hr⟩
  rcases List.mem_append.1 hy with q | q
  · exact bd y q
  · simp at q; rw [q]; exact ha
theorem own_none {w : World} {base : Nat} {v : Value} {n : Nat} {xs : List Value} (h : w.ownsRow base 31 1 v n xs) : ∃ a c, v = .slice a n c ∧ w.ownsRow base 31 1 (.slice a 0 c) 0 [] := by
  obtain ⟨h0, h⟩ := h
  rcases h with ⟨rfl, hn⟩ | ⟨g, cap, cur, rfl, hb, hh, hc, hm, hs, ht⟩
  · exact ⟨none, 0, by rw [hn], rfl, .inl ⟨rfl, rfl⟩⟩
  · exact ⟨_, cap, rfl, rfl, .inr ⟨g, cap, cur, rfl, hb, hh, Nat.zero_le _, hm, hs, by simp⟩⟩

set_option maxRecDepth 20000 in
set_option maxHeartbeats 4000000 in
theorem list_any (B : List UInt8) (F : Nat → Nat × Nat) (hF : DrawsF B F) (p : Nat) : ∃ X p', X.length ≤ 40 ∧ ∀ r w, Rd B p r w → Calls Try.prog 25 #[.pointer (some ⟨r, 0, none⟩), .int .i64 40] w fun e w' => ∃ v, e = .returned v ∧ LF B w r X p' v X.length w' := by
  obtain ⟨i0, hi, hzz⟩ := Option.map_eq_some_iff.1 Fls.Try.info31
  have hz0 : i0.zero = some (.float .f64 0) := congrArg Prod.fst hzz
  have hz1 : i0.size = 1 := congrArg (fun q => q.2.1) hzz
  have hz2 : i0.bytes = 8 := congrArg (fun q => q.2.2) hzz
  clear hzz
  obtain ⟨n, hn⟩ : ∃ n, 1 + bw B p (szm B 8 40) = n := ⟨_, rfl⟩
  obtain ⟨q, hq⟩ : ∃ q, bp B p (szm B 8 40) = q := ⟨_, rfl⟩
  have hn40 : n ≤ 40 := by
    have h1 : 1 ≤ szm B 8 40 := by unfold szm; split <;> omega
    have h2 : szm B 8 40 ≤ 40 := by unfold szm; split <;> omega
    have := bw_lt B p (szm B 8 40) (by omega)
    omega
  obtain ⟨l, hl⟩ : ∃ l, ow B (lsf F q n).2 20 = l := ⟨_, rfl⟩
  obtain ⟨XR, hXR⟩ : ∃ XR, XR = if l then [] else (lsf F q n).1 := ⟨_, rfl⟩
  obtain ⟨pR, hpR⟩ : ∃ pR, pR = bp B (lsf F q n).2 20 := ⟨_, rfl⟩
  refine ⟨XR, pR, by rw [hXR]; split <;> simp [lsf_len]; exact hn40, fun r w h => ?_⟩
  have HXR : Hid (XR = if l then [] else (lsf F q n).1) := hXR
  have HPR : Hid (pR = bp B (lsf F q n).2 20) := hpR
  clear hXR hpR
  have hr := h.lt
  have SZ := size_any B p r w h 8 40 (by omega) (by omega) (by omega) (by omega)
  rw [hn, hq] at SZ
  have O20 : ∀ w, Rd B (lsf F q n).2 r w → Calls Try.prog 26 #[.pointer (some ⟨r, 0, none⟩), .int .i64 (20 : Nat)] w (Gives B r w (.bool l) (bp B (lsf F q n).2 20)) := fun w h => by rw [← hl]; exact once_any B _ r w h 20 (by omega) (by omega)
  have SS : Hid (Calls Try.prog 34 #[.pointer (some ⟨r, 0, none⟩), .int .i64 8, .int .i64 40] w (Gives B r w (.int .i64 ((n : Nat) : Int)) q)) := SZ
  have OO : Hid (∀ w, Rd B (lsf F q n).2 r w → Calls Try.prog 26 #[.pointer (some ⟨r, 0, none⟩), .int .i64 20] w (Gives B r w (.bool l) (bp B (lsf F q n).2 20))) := O20
  clear SZ O20 hn hq hl h
  go_enter Try.func25, Try.ntmps25
  go_wp2_with fail
  refine SS.out.mono ?_
  rintro e w1 ⟨rfl, k1, k2⟩
  have z1 := k2.size
  have D2 : Hid (LF B w r [] q (.slice (some ⟨w1.heap.size, 0, none⟩) 0 0) 0 (w1.alloc (Obj.cells #[] 31))) := (by
    refine ⟨⟨[], rfl, by intro z hz; simp at hz, World.ownsRow_lit w1 #[] 0 z1 (Nat.zero_le _) rfl⟩, rfl, k1.kept ((Below.refl (r + 1) w1).alloc (by omega) _) (by omega), k2.alloc hr _⟩)
  clear k1 k2
  go_wp2_with fail
  go_loopw [6, 7] (fun v i wr => ∃ (k : Nat), k ≤ n ∧ i = .int .i64 k ∧ Hid (LF B w r (lsf F q k).1 (lsf F q k).2 v k wr)) (fun _ i _ => n - (intOf i).toNat)
  case atStart => exact ⟨0, Nat.zero_le _, rfl, D2⟩
  case round =>
    clear D2 SS
    obtain ⟨k, hk, rfl, D⟩ := hrel
    obtain ⟨v, hv⟩ : ∃ v, v = u6 := ⟨_, rfl⟩
    subst hv
    obtain ⟨sa, sc, hv⟩ := D.out.form
    subst hv
    by_cases hlt : k < n
    · have i2 : (k : Int) < (n : Int) := by omega
      have S1 : Hid ((lsf F q (k + 1)).1 = (lsf F q k).1 ++ [(F (lsf F q k).2).1] ∧ (lsf F q (k + 1)).2 = (F (lsf F q k).2).2) := ⟨rfl, rfl⟩
      have FF : Hid (∀ w', Rd B (lsf F q k).2 r w' → Calls Try.prog 35 #[.pointer (some ⟨r, 0, none⟩)] w' fun e wz => ∃ y, e = .returned (.float .f64 y) ∧ cn y = (F (lsf F q k).2).1 ∧ y < 18446744073709551616 ∧ Rd B (F (lsf F q k).2).2 r wz ∧ Turn r w' wz) := fun w' h => hF _ r w' h
      generalize (lsf F q k).1 = X at *
      generalize (lsf F q k).2 = p1 at *
      generalize F p1 = z at *
      clear OO
      go_wp2_with fail
      refine (FF.out _ D.out.rd).mono ?_
      rintro e w3 ⟨y, rfl, hy, hyb, k3, k4⟩
      have D4 : Hid (LF B w r X z.2 (.slice sa k sc) k w3) := D.out.turn hr k3 k4
      have HY : Hid (cn y = z.1 ∧ y < 18446744073709551616) := ⟨hy, hyb⟩
      obtain ⟨⟨C, hC, bd, R⟩, _⟩ := D4.out
      have HC : Hid (C.map cn = X ∧ Bd C) := ⟨hC, bd⟩
      have RH : Hid (w3.ownsRow w.heap.size 31 1 (.slice sa k sc) k (flts C)) := R
      have zz := D4.out.tn.size
      clear k3 k4 D hC bd R hy hyb FF
      go_wp2_with (at_builtin; refine wpList_append_own_at _ rfl _ _ 22 rfl w.heap.size 31 i0 (.float .f64 0) 1 8 Try.underlying22 hi hz0 hz1 hz2 rfl (by decide) _ _ _ rfl (RH.out.alloc _) ⟨w3.heap.size, 0, none⟩ 1 1 [.float .f64 y] rfl rfl (cell_new w3 _ 31) (one_flts [y]) (by unfold maxLen; omega) (by omega) (by simp; omega) ?_)
      intro v' w7 hown hgrow _ _
      have D8 : Hid (LF B w r (lsf F q (k + 1)).1 (lsf F q (k + 1)).2 v' (k + 1) w7) := (by
        rw [S1.out.1, S1.out.2]
        exact D4.out.push hr HY.out.1 HY.out.2 _ hgrow HC.out.1 HC.out.2 RH.out hown)
      clear hown hgrow RH D4
      go_wp2_with fail
      go_roundw
      case rel => exact ⟨k + 1, by omega, by go_num, D8⟩
      case measure => simp [intOf]; omega
    · have i2 : ¬ ((k : Int) < (n : Int)) := by omega
      have hkn : k = n := by omega
      subst hkn
      generalize (lsf F q k).1 = X at *
      generalize (lsf F q k).2 = p1 at *
      go_wp2_with fail
      refine (OO.out _ D.out.rd).mono ?_
      rintro e w3 ⟨rfl, k3, k4⟩
      have D4 : Hid (LF B w r X (bp B p1 20) (.slice sa k sc) k w3) := D.out.turn hr k3 k4
      clear k3 k4 D OO
      cases l
      · have D5 : Hid (LF B w r XR pR (.slice sa k sc) XR.length w3) := (by
          have e : XR = X := by rw [HXR.out]; simp
          rw [e, HPR.out, D4.out.len]
          exact D4.out)
        go_wp2_with fail
        go_ret
        exact ⟨_, rfl, D5.out⟩
      · have D5 : Hid (LF B w r XR pR (.slice sa 0 sc) XR.length w3) := (by
          have e : XR = [] := by rw [HXR.out]; simp
          obtain ⟨⟨C, hC, bd, R⟩, d1, d2, d3⟩ := D4.out
          obtain ⟨a, c, e1, e2⟩ := own_none R
          injection e1 with x1 x2 x3
          subst x1 x3
          rw [e, HPR.out]
          exact ⟨⟨[], rfl, by intro z hz; simp at hz, e2⟩, rfl, d2, d3⟩)
        have hkc : k ≤ sc := (by
          obtain ⟨⟨C, hC, bd, R⟩, _⟩ := D4.out
          rcases R.2 with ⟨e, e2⟩ | ⟨g, cap, cur, e, _, _, hc, _⟩
          · injection e with x1 x2 x3; omega
          · injection e with x1 x2 x3; omega)
        go_wp2_with fail
        go_ret
        exact ⟨_, rfl, D5.out⟩
end Go.Proofs.Ytfjkchkcgnjkaaa.Fd
