/- Numbers with a point, in the program and in its model. -/
import Derived.Test.YtilgifehilomgaaDoorPadI
import Derived.Deep.RegionWith
import Derived.Deep.RegionHeld3
import Derived.Deep.DrawnRows
import Derived.Deep.Cut
import Derived.Deep.DeepCutAuto
import Derived.Deep.DeepMust
namespace Go.Proofs.YtilgifehilomgaaDoor.Dec
open Go.ChangeShapes Go.WideShapes Go.ChangeAt Go.RowKit
attribute [local go_sem ↓] Go.wp_at_zero Go.wp_at_succ

set_option maxHeartbeats 1000000 in
theorem decn_any (n : Nat) (w : World) (h0 : 0 < n) (h : n ≤ 1000000000000000000) :
    Calls Tryd.prog 33 #[.int .i64 (-(n : Int))] w fun e w' => e = .returned (.string ⟨(45 :: Lib.decDigits n).toArray⟩) ∧ Below w.heap.size w w' := by
  have i0 : ¬ (-(n : Int)) = 0 := by omega
  have i1 : (-(n : Int)) < 0 := by omega
  have hw : IntKind.u64.wrap (-IntKind.u64.wrap (-(n : Int))) = (n : Int) := by
    have e : ∀ x : Int, IntKind.u64.wrap x = x % 18446744073709551616 := fun x => rfl
    rw [e, e]; omega
  go_enter Tryd.func33, Tryd.ntmps33
  go_wp2
  go_loopw [3, 4] (fun s u wr => ∃ (m : Nat) (L : List UInt8), m ≤ n ∧ ds m ++ L = Lib.decDigits n ∧ s = .string ⟨L.toArray⟩ ∧ u = .int .u64 m ∧ Below w.heap.size w wr) (fun _ u _ => (intOf u).toNat)
  case atStart => exact ⟨n, [], Nat.le_refl _, by unfold ds; rw [if_neg (by omega)]; simp, rfl, by go_num, Below.refl _ _⟩
  case round =>
    obtain ⟨m, L, hm, hL, rfl, rfl, hb⟩ := hrel
    by_cases hlt : 0 < m
    · have j0 : (0 : Int) < (m : Int) := by omega
      have HL : Hid (ds m ++ L = Lib.decDigits n) := hL
      have HB : Hid (Below w.heap.size w wr) := hb
      have hcv := conv_digit m wr
      have hlen : ¬ 9223372036854775807 < 1 + L.length := by
        have h1 := dec_len n
        rw [← hL] at h1
        simp at h1
        omega
      clear hL hb
      go_wp2_with fail
      have e1 : (⟨#[dgt m]⟩ : ByteArray) ++ ⟨L.toArray⟩ = ⟨(dgt m :: L).toArray⟩ := cat [dgt m] L
      refine ⟨⟨m / 10, dgt m :: L, by omega, ?_, by rw [e1], by go_num, HB.out.alloc HB.out.size _⟩, by simp [intOf]; omega⟩
      rw [← HL.out, ds_step m hlt, List.append_assoc]
      rfl
    · have j0 : ¬ (0 : Int) < (m : Int) := by omega
      have m0 : m = 0 := by omega
      subst m0
      obtain rfl : L = Lib.decDigits n := hL
      have hlen : ¬ 9223372036854775807 < 1 + (Lib.decDigits n).length := by
        have h1 := dec_len n
        omega
      go_wp2_with fail
      go_ret
      refine ⟨?_, hb⟩
      show Ending.returned (.string (⟨#[45]⟩ ++ ⟨(Lib.decDigits n).toArray⟩)) = _
      exact congrArg _ (congrArg _ (cat [45] (Lib.decDigits n)))

/-- A numeral of so many places behind the point, its sign ahead. -/
def pnt (S D : List UInt8) (p : Nat) : List UInt8 :=
  if p = 0 then S ++ D else S ++ (pad (p + 1) D).take ((pad (p + 1) D).length - p) ++ [46] ++ (pad (p + 1) D).drop ((pad (p + 1) D).length - p)
theorem ext_take (q : List UInt8) (k : Nat) : (⟨q.toArray⟩ : ByteArray).extract 0 k = ⟨(q.take k).toArray⟩ := by
  apply WideShapes.bytes_inj; rw [ByteArray.data_extract]; simp
theorem ext_drop (q : List UInt8) (k m : Nat) (h : m = q.length) : (⟨q.toArray⟩ : ByteArray).extract k m = ⟨(q.drop k).toArray⟩ := by
  subst h; apply WideShapes.bytes_inj; rw [ByteArray.data_extract]; simp; exact List.take_of_length_le (by simp)
theorem pad_len' (k : Nat) (l : List UInt8) : k ≤ (pad k l).length ∧ l.length ≤ (pad k l).length ∧ (pad k l).length ≤ k + l.length := by
  unfold pad; simp; omega
theorem dec_pos (n : Nat) : 0 < (Lib.decDigits n).length := by
  by_cases c : n < 10
  · rw [Lib.decDigits_one c]; simp
  · rw [Lib.decDigits, dif_neg c]; simp

set_option maxHeartbeats 2000000 in
theorem spoint_yes (n p : Nat) (w : World) (hn : n ≤ 1000000000000000) (hp : p ≤ 6) :
    Calls Tryd.prog 17 #[.int .i64 n, .int .i64 p] w fun e w' => e = .returned (.string ⟨(pnt [] (Lib.decDigits n) p).toArray⟩) ∧ Below w.heap.size w w' := by
  have hl := dec_len16 n hn
  have hl0 := dec_pos n
  have DC : Hid (∀ w, Calls Tryd.prog 33 #[.int .i64 n] w fun e w' => e = .returned (.string ⟨(Lib.decDigits n).toArray⟩) ∧ Below w.heap.size w w') := fun w => dec_any n w (by omega)
  generalize Lib.decDigits n = D at *
  have i1 : ¬ (n : Int) < 0 := by omega
  by_cases h0 : p = 0
  · subst h0
    go_enter Tryd.func17, Tryd.ntmps17
    go_wp2_with fail
    refine (DC.out _).mono ?_
    rintro e w1 ⟨rfl, hb⟩
    go_wp2_with fail
    go_ret
    exact ⟨rfl, hb⟩
  · have i0 : ((p : Int) == 0) = false := beq_eq_false_iff_ne.2 (by omega)
    have hpe : pnt [] D p = (pad (p + 1) D).take ((pad (p + 1) D).length - p) ++ [46] ++ (pad (p + 1) D).drop ((pad (p + 1) D).length - p) := by unfold pnt; rw [if_neg h0]; rfl
    go_enter Tryd.func17, Tryd.ntmps17
    go_wp2_with fail
    refine (DC.out _).mono ?_
    rintro e w1 ⟨rfl, hb⟩
    go_wp2_with fail
    go_loop [5] (fun s => ∃ L : List UInt8, pad (p + 1) L = pad (p + 1) D ∧ s = .string ⟨L.toArray⟩ ∧ L.length ≤ 16) (fun s => p + 1 - strSize s)
    case atStart => exact ⟨D, rfl, rfl, hl⟩
    case round =>
      obtain ⟨L, hL, rfl, hLl⟩ := hrel
      by_cases hlt : L.length ≤ p
      · have j0 : (L.length : Int) ≤ (p : Int) := by omega
        have hlen : ¬ 9223372036854775807 < 1 + L.length := by omega
        have HL : Hid (pad (p + 1) L = pad (p + 1) D) := hL
        clear hL
        go_wp2_with fail
        have e1 : (⟨#[48]⟩ : ByteArray) ++ ⟨L.toArray⟩ = ⟨((48 : UInt8) :: L).toArray⟩ := cat [48] L
        refine ⟨⟨48 :: L, by rw [pad_cons (p + 1) L (by omega)]; exact HL.out, by rw [e1], by simp; omega⟩, ?_⟩
        rw [e1]
        simp [strSize]
        omega
      · have j0 : (p : Int) < (L.length : Int) := by omega
        have eq : pad (p + 1) D = L := by rw [← hL, pad_done (p + 1) L (by omega)]
        rw [eq] at hpe
        obtain ⟨k, hk⟩ : ∃ k, L.length - p = k := ⟨_, rfl⟩
        have k1 : (L.length : Int) - (p : Int) = (k : Int) := by omega
        have k2 : k ≤ L.length := by omega
        have k3 : (k : Int) ≤ (L.length : Int) := by omega
        have k4 : (0 : Int) ≤ (k : Int) := by omega
        rw [hk] at hpe
        have EP : Hid (pnt [] D p = L.take k ++ [46] ++ L.drop k) := hpe
        have x1 := ext_take L k
        have x2 := ext_drop L k L.length rfl
        clear hpe eq hL
        go_wp2_with fail
        go_region
        go_wp2_with fail
        go_ret
        refine ⟨?_, hb.drew⟩
        show Ending.returned (.string (⟨#[]⟩ ++ ⟨(L.take k).toArray⟩ ++ ⟨#[46]⟩ ++ ⟨(L.drop k).toArray⟩)) = _
        rw [EP.out, show (⟨#[]⟩ : ByteArray) = ⟨([] : List UInt8).toArray⟩ from rfl, show (⟨#[46]⟩ : ByteArray) = ⟨[(46 : UInt8)].toArray⟩ from rfl]
        simp only [cat, List.nil_append]
set_option maxHeartbeats 2000000 in
theorem spoint_neg (n p : Nat) (w : World) (h00 : 0 < n) (hn : n ≤ 1000000000000000) (hp : p ≤ 6) :
    Calls Tryd.prog 17 #[.int .i64 (-(n : Int)), .int .i64 p] w fun e w' => e = .returned (.string ⟨(pnt [45] (Lib.decDigits n) p).toArray⟩) ∧ Below w.heap.size w w' := by
  have hl := dec_len16 n hn
  have hl0 := dec_pos n
  have DC : Hid (∀ w, Calls Tryd.prog 33 #[.int .i64 (-(n : Int))] w fun e w' => e = .returned (.string ⟨(45 :: Lib.decDigits n).toArray⟩) ∧ Below w.heap.size w w') := fun w => decn_any n w h00 (by omega)
  generalize Lib.decDigits n = D at *
  have i1 : (-(n : Int)) < 0 := by omega
  have x0 : (⟨(45 :: D).toArray⟩ : ByteArray).extract 1 (D.length + 1) = ⟨D.toArray⟩ := ext_drop (45 :: D) 1 (D.length + 1) (by simp)
  by_cases h0 : p = 0
  · subst h0
    go_enter Tryd.func17, Tryd.ntmps17
    go_wp2_with fail
    refine (DC.out _).mono ?_
    rintro e w1 ⟨rfl, hb⟩
    go_wp2_with fail
    go_ret
    exact ⟨rfl, hb⟩
  · have i0 : ((p : Int) == 0) = false := beq_eq_false_iff_ne.2 (by omega)
    have hpe : pnt [45] D p = [45] ++ (pad (p + 1) D).take ((pad (p + 1) D).length - p) ++ [46] ++ (pad (p + 1) D).drop ((pad (p + 1) D).length - p) := by unfold pnt; rw [if_neg h0]
    go_enter Tryd.func17, Tryd.ntmps17
    go_wp2_with fail
    refine (DC.out _).mono ?_
    rintro e w1 ⟨rfl, hb⟩
    go_wp2_with fail
    go_loop [5] (fun s => ∃ L : List UInt8, pad (p + 1) L = pad (p + 1) D ∧ s = .string ⟨L.toArray⟩ ∧ L.length ≤ 16) (fun s => p + 1 - strSize s)
    case atStart => exact ⟨D, rfl, rfl, hl⟩
    case round =>
      obtain ⟨L, hL, rfl, hLl⟩ := hrel
      by_cases hlt : L.length ≤ p
      · have j0 : (L.length : Int) ≤ (p : Int) := by omega
        have hlen : ¬ 9223372036854775807 < 1 + L.length := by omega
        have HL : Hid (pad (p + 1) L = pad (p + 1) D) := hL
        clear hL
        go_wp2_with fail
        have e1 : (⟨#[48]⟩ : ByteArray) ++ ⟨L.toArray⟩ = ⟨((48 : UInt8) :: L).toArray⟩ := cat [48] L
        refine ⟨⟨48 :: L, by rw [pad_cons (p + 1) L (by omega)]; exact HL.out, by rw [e1], by simp; omega⟩, ?_⟩
        rw [e1]
        simp [strSize]
        omega
      · have j0 : (p : Int) < (L.length : Int) := by omega
        have eq : pad (p + 1) D = L := by rw [← hL, pad_done (p + 1) L (by omega)]
        rw [eq] at hpe
        obtain ⟨k, hk⟩ : ∃ k, L.length - p = k := ⟨_, rfl⟩
        have k1 : (L.length : Int) - (p : Int) = (k : Int) := by omega
        have k2 : k ≤ L.length := by omega
        have k3 : (k : Int) ≤ (L.length : Int) := by omega
        have k4 : (0 : Int) ≤ (k : Int) := by omega
        rw [hk] at hpe
        have EP : Hid (pnt [45] D p = [45] ++ L.take k ++ [46] ++ L.drop k) := hpe
        have x1 := ext_take L k
        have x2 := ext_drop L k L.length rfl
        clear hpe eq hL
        go_wp2_with fail
        go_region
        go_wp2_with fail
        go_ret
        refine ⟨?_, hb.drew⟩
        show Ending.returned (.string (⟨#[45]⟩ ++ ⟨(L.take k).toArray⟩ ++ ⟨#[46]⟩ ++ ⟨(L.drop k).toArray⟩)) = _
        rw [EP.out, show (⟨#[45]⟩ : ByteArray) = ⟨[(45 : UInt8)].toArray⟩ from rfl, show (⟨#[46]⟩ : ByteArray) = ⟨[(46 : UInt8)].toArray⟩ from rfl]
        simp only [cat]

abbrev Tk (xs : List (List UInt8)) : Obj := .cells (xs.map fun x => Value.string ⟨x.toArray⟩).toArray 9

set_option maxHeartbeats 2000000 in
theorem ipoint {T : World → Prop} (X : LibC T) (z : Int) (S : List UInt8) (n p : Nat) (w : World) (hT : T w) (hz : z = n ∧ S = [] ∨ z = -(n : Int) ∧ 0 < n ∧ S = [45]) (hn : n ≤ 1000000000000000) (hp : p ≤ 6) :
    Calls Tryd.prog 23 #[.int .i64 z, .int .i64 p] w fun e w' => e = .returned (.string ⟨(pnt S (Lib.decDigits n) p).toArray⟩) ∧ Below w.heap.size w w' := by
  have hl := dec_len16 n hn
  have hl0 := dec_pos n
  have PD : Hid (Calls Tryd.prog 37 #[.int .i64 n, .int .i64 ((p : Int) + 1)] w fun e w' => e = .returned (.string ⟨(pad (p + 1) (Lib.decDigits n)).toArray⟩) ∧ Below w.heap.size w w') := padded_any X n (p + 1) w hT hn (by omega)
  have hpl := pad_len' (p + 1) (Lib.decDigits n)
  have hp1 : p = 0 → pad (p + 1) (Lib.decDigits n) = Lib.decDigits n := fun h => pad_done _ _ (by omega)
  have hsl : S.length ≤ 1 := by rcases hz with ⟨_, rfl⟩ | ⟨_, _, rfl⟩ <;> simp
  have eP : pnt S (Lib.decDigits n) p = if p = 0 then S ++ Lib.decDigits n else S ++ (pad (p + 1) (Lib.decDigits n)).take ((pad (p + 1) (Lib.decDigits n)).length - p) ++ [46] ++ (pad (p + 1) (Lib.decDigits n)).drop ((pad (p + 1) (Lib.decDigits n)).length - p) := rfl
  generalize Lib.decDigits n = D at *
  generalize hq : pad (p + 1) D = q at *
  have HJ2 : Hid (∀ w : World, Calls Tryd.prog 28 #[.slice (some ⟨w.heap.size, 0, none⟩) 2 2] (w.alloc (.cells #[.string ⟨S.toArray⟩, .string ⟨q.toArray⟩] 9)) fun e w' => e = .returned (.string ⟨(S ++ q).toArray⟩) ∧ Below (w.alloc (.cells #[.string ⟨S.toArray⟩, .string ⟨q.toArray⟩] 9)).heap.size (w.alloc (.cells #[.string ⟨S.toArray⟩, .string ⟨q.toArray⟩] 9)) w') := fun w => by
    refine (joined_any X w.heap.size 2 2 [S, q] _ rfl ?_ (by simp) (by simp) (by simp) (by simp; omega)).mono ?_
    · intro j x hj
      rcases (by have := (List.getElem?_eq_some_iff.1 hj).1; simp at this; omega : j = 0 ∨ j = 1) with rfl | rfl
      · simp at hj; subst hj; simp [go_sem]
      · simp at hj; subst hj; simp [go_sem]
    · rintro e w' ⟨rfl, hb⟩
      exact ⟨by simp, hb⟩
  obtain ⟨k, hk⟩ : ∃ k, q.length - p = k := ⟨_, rfl⟩
  have HJ4 : Hid (∀ w : World, Calls Tryd.prog 28 #[.slice (some ⟨w.heap.size, 0, none⟩) 4 4] (w.alloc (.cells #[.string ⟨S.toArray⟩, .string ⟨(q.take k).toArray⟩, .string ⟨#[46]⟩, .string ⟨(q.drop k).toArray⟩] 9)) fun e w' => e = .returned (.string ⟨(S ++ q.take k ++ [46] ++ q.drop k).toArray⟩) ∧ Below (w.alloc (.cells #[.string ⟨S.toArray⟩, .string ⟨(q.take k).toArray⟩, .string ⟨#[46]⟩, .string ⟨(q.drop k).toArray⟩] 9)).heap.size (w.alloc (.cells #[.string ⟨S.toArray⟩, .string ⟨(q.take k).toArray⟩, .string ⟨#[46]⟩, .string ⟨(q.drop k).toArray⟩] 9)) w') := fun w => by
    refine (joined_any X w.heap.size 4 4 [S, q.take k, [46], q.drop k] _ rfl ?_ (by simp) (by simp) (by simp) (by simp; omega)).mono ?_
    · intro j x hj
      rcases (by have := (List.getElem?_eq_some_iff.1 hj).1; simp at this; omega : j = 0 ∨ j = 1 ∨ j = 2 ∨ j = 3) with rfl | rfl | rfl | rfl
      all_goals (simp at hj; subst hj; simp [go_sem])
    · rintro e w' ⟨rfl, hb⟩
      exact ⟨by simp, hb⟩
  have k1 : (q.length : Int) - (p : Int) = (k : Int) := by omega
  have k2 : k ≤ q.length := by omega
  have k3 : (k : Int) ≤ (q.length : Int) := by omega
  have k4 : (0 : Int) ≤ (k : Int) := by omega
  have qb : q.length ≤ 23 := by omega
  have k5 : (k : Int) ≤ 23 := by omega
  have x1 := ext_take q k
  have x2 := ext_drop q k q.length rfl
  rw [hk] at eP
  have EP : Hid (pnt S D p = if p = 0 then S ++ D else S ++ q.take k ++ [46] ++ q.drop k) := eP
  have HP1 : Hid (p = 0 → q = D) := hp1
  clear eP hq hpl hk hp1 hT
  rcases hz with ⟨rfl, rfl⟩ | ⟨rfl, hn0, rfl⟩
  · have i1 : ¬ (n : Int) < 0 := by omega
    by_cases h0 : p = 0
    · have E : Hid (pnt [] D p = [] ++ q) := (by show _ = _; rw [EP.out, if_pos h0, HP1.out h0])
      subst h0
      go_enter Tryd.func23, Tryd.ntmps23
      go_wp2_with fail
      refine PD.out.mono ?_
      rintro e w1 ⟨rfl, hb1⟩
      have B1 : Hid (Below w.heap.size w w1) := hb1
      clear hb1
      go_wp2_with fail
      refine (HJ2.out _).mono ?_
      rintro e w2 ⟨rfl, hb2⟩
      have B2 : Hid (Below w.heap.size w w2) := (B1.out.alloc B1.out.size _).trans (hb2.mono (B1.out.alloc B1.out.size _).size)
      clear hb2
      go_wp2_with fail
      go_ret
      exact ⟨by rw [E.out]; rfl, B2.out⟩
    · have E : Hid (pnt [] D p = [] ++ q.take k ++ [46] ++ q.drop k) := (by show _ = _; rw [EP.out, if_neg h0])
      have i0 : ((p : Int) == 0) = false := beq_eq_false_iff_ne.2 (by omega)
      go_enter Tryd.func23, Tryd.ntmps23
      go_wp2_with fail
      refine PD.out.mono ?_
      rintro e w1 ⟨rfl, hb1⟩
      have B1 : Hid (Below w.heap.size w w1) := hb1
      clear hb1
      go_upto_region 8 with fail
      go_cut [4] (fun t wx => t = .string ⟨([] ++ q.take k ++ [46] ++ q.drop k).toArray⟩ ∧ Below w.heap.size w wx)
      case first =>
        have sz1 : (⟨q.toArray⟩ : ByteArray).size = q.length := by simp [ByteArray.size]
        go_region_held3 (fun _ => True) (trivial)
          (first
          | (go_at_call 28; refine (HJ4.out w1.drew).mono ?_; rintro e w2 ⟨rfl, hb2⟩; have B2 : Hid (Below w.heap.size w w2) := ((B1.out.drew).alloc (B1.out.drew).size _).trans (hb2.mono ((B1.out.drew).alloc (B1.out.drew).size _).size); clear hb2))
        all_goals
          go_wp2_with fail
          go_meet
          exact ⟨by simp, B2.out⟩
      case rest =>
        obtain ⟨rfl, hbc⟩ := hcut
        have BC : Hid (Below w.heap.size w wc) := hbc
        clear hbc
        go_wp2_with fail
        go_ret
        exact ⟨by rw [E.out]; rfl, BC.out⟩
  · have i1 : (-(n : Int)) < 0 := by omega
    have i2 : - -(n : Int) = (n : Int) := by omega
    by_cases h0 : p = 0
    · have E : Hid (pnt [45] D p = [45] ++ q) := (by show _ = _; rw [EP.out, if_pos h0, HP1.out h0])
      subst h0
      go_enter Tryd.func23, Tryd.ntmps23
      go_wp2_with fail
      refine PD.out.mono ?_
      rintro e w1 ⟨rfl, hb1⟩
      have B1 : Hid (Below w.heap.size w w1) := hb1
      clear hb1
      go_wp2_with fail
      refine (HJ2.out _).mono ?_
      rintro e w2 ⟨rfl, hb2⟩
      have B2 : Hid (Below w.heap.size w w2) := (B1.out.alloc B1.out.size _).trans (hb2.mono (B1.out.alloc B1.out.size _).size)
      clear hb2
      go_wp2_with fail
      go_ret
      exact ⟨by rw [E.out]; rfl, B2.out⟩
    · have E : Hid (pnt [45] D p = [45] ++ q.take k ++ [46] ++ q.drop k) := (by show _ = _; rw [EP.out, if_neg h0])
      have i0 : ((p : Int) == 0) = false := beq_eq_false_iff_ne.2 (by omega)
      go_enter Tryd.func23, Tryd.ntmps23
      go_wp2_with fail
      refine PD.out.mono ?_
      rintro e w1 ⟨rfl, hb1⟩
      have B1 : Hid (Below w.heap.size w w1) := hb1
      clear hb1
      go_upto_region 8 with fail
      go_cut [4] (fun t wx => t = .string ⟨([45] ++ q.take k ++ [46] ++ q.drop k).toArray⟩ ∧ Below w.heap.size w wx)
      case first =>
        have sz1 : (⟨q.toArray⟩ : ByteArray).size = q.length := by simp [ByteArray.size]
        go_region_held3 (fun _ => True) (trivial)
          (first
          | (go_at_call 28; refine (HJ4.out w1.drew).mono ?_; rintro e w2 ⟨rfl, hb2⟩; have B2 : Hid (Below w.heap.size w w2) := ((B1.out.drew).alloc (B1.out.drew).size _).trans (hb2.mono ((B1.out.drew).alloc (B1.out.drew).size _).size); clear hb2))
        all_goals
          go_wp2_with fail
          go_meet
          exact ⟨by simp, B2.out⟩
      case rest =>
        obtain ⟨rfl, hbc⟩ := hcut
        have BC : Hid (Below w.heap.size w wc) := hbc
        clear hbc
        go_wp2_with fail
        go_ret
        exact ⟨by rw [E.out]; rfl, BC.out⟩
end Go.Proofs.YtilgifehilomgaaDoor.Dec
