/- DrawOrder: for one code the same list, up to which missing number. -/
import Derived.Test.YtfjkchkcgnjkaaaDl
namespace Go.Proofs.Ytfjkchkcgnjkaaa.Fd
open Go.ChangeShapes Go.WideShapes Go.ChangeAt Go.RowKit
open Flt Fls Srt
attribute [local go_sem] Flt.run_store_float

def tenth : Nat := 4591870180066957722
theorem rep_snoc (X : List Nat) (k : Nat) (x : Nat) : X ++ List.replicate (k + 1) x = (X ++ List.replicate k x) ++ [x] := by
  rw [List.replicate_succ', List.append_assoc]
set_option maxRecDepth 20000 in
set_option maxHeartbeats 2000000 in
theorem sum_draw (B : List UInt8) (hB : B.length ≤ 1048576) : ∃ X : List Nat, ∀ a cap w, Cod B a cap w w.heap.size → Calls Try.prog 18 #[.slice a B.length cap] w fun e w' => ∃ v C, e = .returned v ∧ C.map cn = X ∧ Bd C ∧ w'.ownsRow (w.heap.size + 1) 31 1 v (List.length C) (flts C) ∧ Below w.heap.size w w' := by
  obtain ⟨i0, hi, hzz⟩ := Option.map_eq_some_iff.1 Fls.Try.info31
  have hz0 : i0.zero = some (.float .f64 0) := congrArg Prod.fst hzz
  have hz1 : i0.size = 1 := congrArg (fun q => q.2.1) hzz
  have hz2 : i0.bytes = 8 := congrArg (fun q => q.2.2) hzz
  clear hzz
  obtain ⟨F, hF⟩ := float_fn B
  obtain ⟨X, p1, hX, H⟩ := list_any B F hF 0
  obtain ⟨l, hl⟩ : ∃ l, ow B p1 40 = l := ⟨_, rfl⟩
  obtain ⟨p2, hp2⟩ : ∃ q, bp B p1 40 = q := ⟨_, rfl⟩
  obtain ⟨u, hu⟩ : ∃ u, bw B p2 2 = u := ⟨_, rfl⟩
  have hu2 := bw_lt B p2 2 (by omega)
  rw [hu] at hu2
  obtain ⟨n, hn⟩ : ∃ n, n = 4000 + u := ⟨_, rfl⟩
  refine ⟨if l then X ++ List.replicate (n - X.length) tenth else X, fun a cap w hc => ?_⟩
  obtain ⟨XR, hXR⟩ : ∃ XR, XR = if l then X ++ List.replicate (n - X.length) tenth else X := ⟨_, rfl⟩
  have HXR : Hid (XR = if l then X ++ List.replicate (n - X.length) tenth else X) := hXR
  rw [← hXR]
  have O := open_any (.slice a B.length cap) a B.length cap rfl w
  have R := Rd.new hc hB
  have HH : Hid (∀ r w, Rd B 0 r w → Calls Try.prog 25 #[.pointer (some ⟨r, 0, none⟩), .int .i64 40] w fun e w' => ∃ v, e = .returned v ∧ LF B w r X p1 v X.length w') := H
  have ON : Hid (∀ r w, Rd B p1 r w → Calls Try.prog 26 #[.pointer (some ⟨r, 0, none⟩), .int .i64 40] w (Gives B r w (.bool l) p2)) := fun r w h => by rw [← hl, ← hp2]; exact once_any B _ r w h 40 (by omega) (by omega)
  have BE : Hid (∀ r w, Rd B p2 r w → Calls Try.prog 27 #[.pointer (some ⟨r, 0, none⟩), .int .i64 2] w (Gives B r w (.int .i64 (u : Int)) (bp B p2 2))) := fun r w h => below_is h 2 (by omega) (by omega) hu rfl
  have e1 : (4000 : Int) + (u : Int) = (n : Int) := by omega
  have hn1 : n ≤ 4001 := by omega
  obtain ⟨m, hm⟩ : ∃ m, m = X.length := ⟨_, rfl⟩
  have HM : Hid (m = X.length) := hm
  rw [← hm] at HH HXR hX
  have hXn : m ≤ n := by omega
  obtain ⟨g, hg⟩ : ∃ g, g = w.heap.size := ⟨_, rfl⟩
  clear hl hp2 hu hXR hc H hm hn hF hu2
  go_enter Try.func18, Try.ntmps18
  go_wp2_with fail
  refine O.mono ?_
  rintro e w1 ⟨rfl, rfl⟩
  have T1 : Hid (Turn w.heap.size (w.alloc (.cells #[.slice a B.length cap, .int .i64 0] 49)) (w.alloc (.cells #[.slice a B.length cap, .int .i64 0] 49))) := Turn.refl _ _
  have BL0 : Hid (Below w.heap.size w (w.alloc (.cells #[.slice a B.length cap, .int .i64 0] 49))) := (Below.refl _ _).alloc (Nat.le_refl _) _
  have HS : Hid ((w.alloc (.cells #[.slice a B.length cap, .int .i64 0] 49)).heap.size = w.heap.size + 1) := (by show _ = _; simp)
  generalize hw1 : w.alloc (.cells #[.slice a B.length cap, .int .i64 0] 49) = w1 at *
  clear hw1
  go_wp2_with fail
  refine (HH.out _ _ R).mono ?_
  rintro e w2 ⟨v, rfl, D⟩
  have D2 : Hid (LF B w1 w.heap.size X p1 v m w2) := D
  have hr : w.heap.size < w1.heap.size := R.lt
  obtain ⟨sa, sc, hv⟩ := D2.out.form
  subst hv
  clear D R HH
  go_wp2_with fail
  refine (ON.out _ _ D2.out.rd).mono ?_
  rintro e w3 ⟨rfl, k3, k4⟩
  have D3 : Hid (LF B w1 w.heap.size X p2 (.slice sa m sc) m w3) := D2.out.turn hr k3 k4
  clear k3 k4 D2 ON
  cases l
  · have K : Hid (∃ C : List Nat, C.map cn = XR ∧ Bd C ∧ w3.ownsRow (w.heap.size + 1) 31 1 (.slice sa m sc) (List.length C) (flts C)) := (by
      obtain ⟨⟨C, hC, bd, R⟩, _⟩ := D3.out
      have hl : C.length = m := by rw [HM.out, ← hC, List.length_map]
      rw [HS.out] at R
      exact ⟨C, by rw [hC, HXR.out]; simp, bd, by rw [hl]; exact R⟩)
    have BL : Hid (Below w.heap.size w w3) := BL0.out.trans D3.out.tn.bel
    clear D3 BE
    go_wp2_with fail
    go_ret
    obtain ⟨C, hC, bd, R⟩ := K.out
    exact ⟨_, C, rfl, hC, bd, R, BL.out⟩
  · go_wp2_with fail
    refine (BE.out _ _ D3.out.rd).mono ?_
    rintro e w4 ⟨rfl, k3, k4⟩
    have D4 : Hid (LF B w1 w.heap.size X (bp B p2 2) (.slice sa m sc) m w4) := D3.out.turn hr k3 k4
    have D5 : Hid (LF B w1 w.heap.size (X ++ List.replicate 0 tenth) (bp B p2 2) (.slice sa m sc) m w4) := (by show LF _ _ _ _ _ _ _ _; rw [List.replicate_zero, List.append_nil]; exact D4.out)
    generalize bp B p2 2 = p3 at *
    clear k3 k4 D3 BE D4
    go_wp2_with fail
    go_loopw [4] (fun v wr => ∃ k : Nat, m + k ≤ n ∧ Hid (LF B w1 w.heap.size (X ++ List.replicate k tenth) p3 v (m + k) wr)) (fun v _ => match v with | .slice _ k _ => n - k | _ => 0)
    case atStart => exact ⟨0, by omega, D5⟩
    case round =>
      clear D5
      obtain ⟨k, hk, D⟩ := hrel
      obtain ⟨v, hv⟩ : ∃ v, v = u4 := ⟨_, rfl⟩
      subst hv
      obtain ⟨ta, tc, hv⟩ := D.out.form
      subst hv
      by_cases hlt : m + k < n
      · have i2 : (m : Int) + (k : Int) < (n : Int) := by omega
        obtain ⟨⟨C, hC, bd, R⟩, _⟩ := D.out
        have HC : Hid (C.map cn = X ++ List.replicate k tenth ∧ Bd C) := ⟨hC, bd⟩
        have RH : Hid (wr.ownsRow w1.heap.size 31 1 (.slice ta (m + k) tc) (m + k) (flts C)) := R
        have zz := D.out.tn.size
        have e2 : ((m + k : Nat) : Int) < (n : Int) := by omega
        clear hC bd R
        go_wp2_with (at_builtin; refine wpList_append_own_at _ rfl _ _ 22 rfl w1.heap.size 31 i0 (.float .f64 0) 1 8 Try.underlying22 hi hz0 hz1 hz2 rfl (by decide) _ _ _ rfl (RH.out.alloc _) ⟨wr.heap.size, 0, none⟩ 1 1 [.float .f64 4591870180066957722] rfl rfl (cell_new wr _ 31) (one_flts [4591870180066957722]) (by unfold maxLen; omega) (by omega) (by simp; omega) ?_)
        intro v' w7 hown hgrow _ _
        have D8 : Hid (LF B w1 w.heap.size (X ++ List.replicate (k + 1) tenth) p3 v' (m + (k + 1)) w7) := (by
          rw [rep_snoc]
          exact D.out.push hr (by decide +kernel) (by decide) _ hgrow HC.out.1 HC.out.2 RH.out hown)
        clear hown hgrow RH D
        obtain ⟨va, vc, hv'⟩ := D8.out.form
        subst hv'
        go_wp2_with fail
        go_roundw
        case rel => exact ⟨k + 1, by omega, D8⟩
        case measure => simp; omega
      · have i2 : ¬ (m : Int) + (k : Int) < (n : Int) := by omega
        have e2 : ¬ ((m + k : Nat) : Int) < (n : Int) := by omega
        have K : Hid (∃ C : List Nat, C.map cn = XR ∧ Bd C ∧ wr.ownsRow (w.heap.size + 1) 31 1 (.slice ta (m + k) tc) (List.length C) (flts C)) := (by
          obtain ⟨⟨C, hC, bd, R⟩, hl0, _⟩ := D.out
          have hl : C.length = m + k := by rw [← hl0, ← hC, List.length_map]
          rw [HS.out] at R
          exact ⟨C, by rw [hC, HXR.out, show n - m = k by omega]; simp, bd, by rw [hl]; exact R⟩)
        have BL : Hid (Below w.heap.size w wr) := BL0.out.trans D.out.tn.bel
        clear D
        go_wp2_with fail
        go_ret
        obtain ⟨C, hC, bd, R⟩ := K.out
        exact ⟨_, rfl, C, hC, bd, R, BL.out⟩

set_option maxHeartbeats 1000000 in
theorem order_draw (B : List UInt8) (hB : B.length ≤ 1048576) : ∃ X : List Nat, ∀ a cap w, Cod B a cap w w.heap.size → Calls Try.prog 12 #[.slice a B.length cap] w fun e w' => ∃ v C, e = .returned v ∧ C.map cn = X ∧ Bd C ∧ w'.ownsRow (w.heap.size + 1) 31 1 v (List.length C) (flts C) ∧ Below w.heap.size w w' := by
  obtain ⟨X, H⟩ := sum_draw B hB
  refine ⟨X, fun a cap w hc => ?_⟩
  have C1 := H a cap w hc
  clear H hc
  go_enter Try.func12, Try.ntmps12
  go_wp2_with fail
  refine C1.mono ?_
  rintro e w2 ⟨v, C, rfl, h1, h2, h3, h4⟩
  have K : Hid (C.map cn = X ∧ Bd C ∧ w2.ownsRow (w.heap.size + 1) 31 1 v (List.length C) (flts C) ∧ Below w.heap.size w w2) := ⟨h1, h2, h3, h4⟩
  clear h1 h2 h3 h4 C1
  go_wp2_with fail
  go_ret
  exact ⟨_, C, rfl, K.out⟩
end Go.Proofs.Ytfjkchkcgnjkaaa.Fd
