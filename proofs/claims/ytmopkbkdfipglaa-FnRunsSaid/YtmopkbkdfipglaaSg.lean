/- The model's bits of some bytes, and numbers read off them. -/
import Derived.Test.YtmopkbkdfipglaaFr
namespace Go.Proofs.Ytmopkbkdfipglaa.Lists
open Go.ChangeShapes Go.WideShapes Go.ChangeAt Go.RowKit
open Go.Proofs.Ytmopkbkdfipglaa.Bytes (bys)

def biK (D : List Int) (k : Nat) : List Int := (List.range (8 * k)).map (bA D)
theorem biK_len (D : List Int) (k : Nat) : (biK D k).length = 8 * k := by simp [biK]
theorem biK_succ (D : List Int) (k : Nat) : biK D (k + 1) = biK D k ++ bts (D.getD k 0) 8 := by
  unfold biK bts btk
  rw [show 8 * (k + 1) = 8 * k + 8 by omega, List.range_add, List.map_append, List.map_map]
  congr 1
  refine List.map_congr_left fun i hi => ?_
  have hi8 : i < 8 := by simpa using hi
  show bA D (8 * k + i) = btA (D.getD k 0) 8 i
  unfold bA btA
  rw [show (8 * k + i) / 8 = k by omega, show 7 - (8 * k + i) % 8 = 8 - 1 - i by omega]
theorem biK_get (D : List Int) (k p : Nat) (h : p < 8 * k) : (biK D k).getD p 0 = bA D p := by simp [biK, List.getD_eq_getElem?_getD, h]
theorem biK_01 (D : List Int) (k : Nat) : B01 (biK D k) := by
  intro x hx
  simp [biK] at hx
  obtain ⟨i, _, rfl⟩ := hx
  exact bA_01 D i

set_option maxHeartbeats 1000000 in
theorem sbits_any (w : World) (v : Value) (D : List Int) (h : Bytes.Reads w v D) (hD : By D) (hl : D.length ≤ 1048576) :
    Calls Try.prog 26 #[v] w fun e w' => ∃ v', e = .returned v' ∧ w'.ownsRow w.heap.size 5 1 v' (8 * D.length) (bys (biK D D.length)) ∧ Below w.heap.size w w' := by
  obtain ⟨a, cap, rfl⟩ := h.form
  have HC : Hid (∀ W, Below w.heap.size w W → ∀ i, i < D.length → ∃ b o, a = some ⟨b, o, none⟩ ∧ D.length ≤ cap ∧ cap ≤ maxLen ∧ W.cell? ⟨b, o + i, none⟩ = some (.int .u8 (D.getD i 0))) := fun W hW i hi => by
    rcases h with ⟨rfl, _⟩ | ⟨b, o, cap', h1, h2, h3, h4, h5⟩
    · simp at hi
    · injection h1 with q1 q2 q3
      subst q3
      exact ⟨b, o, q1, h2, h3, (hW.cell (p := ⟨b, o + i, none⟩) h4).trans (h5 i hi)⟩
  obtain ⟨n, hn⟩ : ∃ n, n = D.length := ⟨_, rfl⟩
  have HN : Hid (n = D.length) := hn
  have HD : Hid (By D) := hD
  rw [← hn] at hl HC ⊢
  have R0 : Hid ((w.alloc (.cells #[] 5)).ownsRow w.heap.size 5 1 (.slice (some ⟨w.heap.size, 0, none⟩) 0 0) (biK D 0).length (bys (biK D 0))) := empty_row 5
  have B0 : Hid (Below w.heap.size w (w.alloc (.cells #[] 5)) ∧ w.heap.size ≤ (w.alloc (.cells #[] 5)).heap.size) := ⟨(Below.refl _ _).alloc (Nat.le_refl _) _, by simp⟩
  clear h hn hD
  go_enter Try.func26, Try.ntmps26
  go_wp2_with fail
  go_loopw [3, 4] (fun v i wr => ∃ k : Nat, k ≤ n ∧ i = .int .i64 (k : Int) ∧ Hid (wr.ownsRow w.heap.size 5 1 v (biK D k).length (bys (biK D k))) ∧ Hid (Below w.heap.size w wr ∧ w.heap.size ≤ wr.heap.size)) (fun _ i _ => n - (intOf i).toNat)
  case atStart => exact ⟨0, Nat.zero_le _, rfl, R0, B0⟩
  case round =>
    clear R0 B0
    obtain ⟨k, hk, rfl, O, BB⟩ := hrel
    obtain ⟨vv, hvv⟩ : ∃ vv, vv = u3 := ⟨_, rfl⟩
    subst hvv
    obtain ⟨va, vc, ev⟩ := row_form O.out
    by_cases hlt : k < n
    · obtain ⟨b, o, rfl, x1, x2, q0⟩ := HC.out wr BB.out.1 k hlt
      unfold maxLen at x2
      have i0 : (0 : Int) ≤ (k : Int) := by omega
      have i1 : (k : Int) < (n : Int) := by omega
      have zb := getD_by HD.out k
      obtain ⟨z, hz⟩ : ∃ z, z = D.getD k 0 := ⟨_, rfl⟩
      have lk := biK_len D k
      have P6 : Hid (Calls Try.prog 24 #[vv, .int .i64 z, .int .i64 8] wr fun e w' => ∃ v', e = .returned v' ∧ w'.ownsRow w.heap.size 5 1 v' (biK D k ++ bts z 8).length (bys (biK D k ++ bts z 8)) ∧ (v'.ownBlock = vv.ownBlock ∨ ∀ k, v'.ownBlock = some k → wr.heap.size ≤ k) ∧ wr.grownBy w' vv.ownBlock) :=
        sput_any wr w.heap.size vv (biK D k) z 8 (by rw [hz]; omega) (by omega) (by omega) BB.out.2 O.out
      have BS : Hid (biK D (k + 1) = biK D k ++ bts z 8) := (by show _ = _; rw [hz]; exact biK_succ D k)
      rw [← hz] at q0 zb
      clear hz lk
      obtain ⟨m, hm⟩ : ∃ m, m = (biK D k).length := ⟨_, rfl⟩
      rw [← hm] at ev
      subst ev
      clear hm
      go_wp2_with fail
      refine P6.out.mono ?_
      rintro e w7 ⟨v7, rfl, o7, _, g7⟩
      have O7 : Hid (w7.ownsRow w.heap.size 5 1 v7 (biK D (k + 1)).length (bys (biK D (k + 1)))) := (by show World.ownsRow _ _ _ _ _ _ _; rw [BS.out]; exact o7)
      have B7 : Hid (Below w.heap.size w w7 ∧ w.heap.size ≤ w7.heap.size) := ⟨BB.out.1.grown g7 BB.out.2 (fun b hb => (O.out.lt b hb).1), Nat.le_trans BB.out.2 g7.size⟩
      clear o7 g7 P6 O BB
      go_wp2_with fail
      go_roundw
      case rel => exact ⟨k + 1, by omega, by go_num, O7, B7⟩
      case measure => simp [intOf]; omega
    · have ek : k = n := by omega
      subst ek
      have a1 : ¬ (k : Int) < (k : Int) := by omega
      have FN : Hid (wr.ownsRow w.heap.size 5 1 vv (8 * k) (bys (biK D k))) := (by show World.ownsRow _ _ _ _ _ _ _; have := O.out; rw [biK_len] at this; exact this)
      rw [biK_len] at ev
      obtain ⟨m, hm⟩ : ∃ m, m = 8 * k := ⟨_, rfl⟩
      have HM : Hid (m = 8 * k) := hm
      rw [← hm] at ev
      subst ev
      clear O HC hm
      go_wp2_with fail
      go_ret
      exact ⟨.slice va m vc, rfl, FN.out, BB.out.1⟩
/-- a walk over the bits of some bytes -/
def GB (w : World) (b : Nat) (vb : Value) (p : Nat) : Prop := Bl w b 48 #[.slice none 0 0, .slice none 0 0, .slice none 0 0, vb, .bool false, .int .i64 (p : Int), .int .i64 0, .int .i64 0, .int .i64 0, .int .i64 0]
set_option maxHeartbeats 1000000 in
theorem sget_any (w : World) (b : Nat) (ga : Option Addr) (cap N p n : Nat) (D : List Int) (hn : n ≤ 48) (hp : p + n ≤ 8 * N) (hN : N ≤ 1048576) (hB : GB w b (.slice ga (8 * N) cap) p)
    (hc : ∀ i, i < 8 * N → ∃ g, ga = some ⟨g, 0, none⟩ ∧ 8 * N ≤ cap ∧ cap ≤ maxLen ∧ g ≠ b ∧ g < w.heap.size ∧ w.cell? ⟨g, i, none⟩ = some (.int .u8 (bA D i))) :
    Calls Try.prog 27 #[.pointer (some ⟨b, 0, none⟩), .int .i64 (n : Int)] w fun e w' => e = .returned (.int .i64 (nm D p n)) ∧ GB w' b (.slice ga (8 * N) cap) (p + n) ∧ KB (fun k => k = b) w w' := by
  have G0 : Hid (GB w b (.slice ga (8 * N) cap) (p + 0)) := hB
  have K0 : Hid (KB (fun k => k = b) w w) := KB.refl _ _
  have HC : Hid (∀ W, KB (fun k => k = b) w W → ∀ i, i < 8 * N → ∃ g, ga = some ⟨g, 0, none⟩ ∧ 8 * N ≤ cap ∧ cap ≤ maxLen ∧ W.cell? ⟨g, i, none⟩ = some (.int .u8 (bA D i))) := fun W k i hi => by
    obtain ⟨g, q1, q2, q3, q4, q5, q6⟩ := hc i hi
    exact ⟨g, q1, q2, q3, (k.cell (p := ⟨g, i, none⟩) q5 q4).trans q6⟩
  obtain ⟨M, hM⟩ : ∃ M, M = 8 * N := ⟨_, rfl⟩
  rw [← hM] at hp G0 HC ⊢
  have mb : M ≤ 8388608 := by omega
  clear hB hc hM
  go_enter Try.func27, Try.ntmps27
  go_wp2_with fail
  go_loopw [5, 6] (fun u i wr => ∃ k : Nat, k ≤ n ∧ i = .int .i64 (k : Int) ∧ u = .int .i64 (nm D p k) ∧ Hid (GB wr b (.slice ga M cap) (p + k)) ∧ Hid (KB (fun k => k = b) w wr)) (fun _ i _ => n - (intOf i).toNat)
  case atStart => exact ⟨0, Nat.zero_le _, rfl, rfl, G0, K0⟩
  case round =>
    clear G0 K0
    obtain ⟨k, hk, rfl, rfl, GG, KK⟩ := hrel
    by_cases hkn : k < n
    · have j1 : (k : Int) < (n : Int) := by omega
      have c0 := Bl.cell GG.out 3
      have c1 := Bl.cell GG.out 5
      have f1 := Bl.fz GG.out 5
      simp at c0 c1
      obtain ⟨t, ht⟩ : ∃ t, t = p + k := ⟨_, rfl⟩
      have et : (p : Int) + (k : Int) = (t : Int) := by omega
      rw [et] at c1
      obtain ⟨g, rfl, x1, x2, q0⟩ := HC.out wr KK.out t (by omega)
      unfold maxLen at x2
      have l0 : (0 : Int) ≤ (t : Int) := by omega
      have l2 : (t : Int) < (M : Int) := by omega
      obtain ⟨u, hu⟩ : ∃ u, u = nm D p k := ⟨_, rfl⟩
      have ub : 0 ≤ u ∧ u < 281474976710656 := by
        have h1 := nm_b D p k
        have h2 := pow48 k (by omega)
        rw [hu]; omega
      obtain ⟨z, hz⟩ : ∃ z, z = bA D t := ⟨_, rfl⟩
      have z01 : z = 0 ∨ z = 1 := by rw [hz]; exact bA_01 D t
      have zb : 0 ≤ z ∧ z < 2 := by omega
      have NX : Hid (u * 2 + z = nm D p (k + 1)) := (by show _ = _; rw [nm, ← hu, ← ht, hz])
      rw [← hz] at q0
      rw [← hu]
      have HT : Hid (t = p + k) := ht
      have d1 : wr.drew.cell? ⟨b, 5, none⟩ = some (.int .i64 (t : Int)) := c1
      have d2 : wr.drew.frozen? ⟨b, 5, none⟩ = false := f1
      obtain ⟨t1, ht1⟩ : ∃ t1, t1 = t + 1 := ⟨_, rfl⟩
      have et1 : (t : Int) + 1 = (t1 : Int) := by omega
      have G2 : Hid (GB (wr.drew.setCell ⟨b, 5, none⟩ (.int .i64 (t1 : Int))) b (.slice (some ⟨g, 0, none⟩) M cap) (p + (k + 1))) := (by
        show GB _ _ _ _
        have h1 : Bl wr.drew b 48 _ := GG.out
        have := h1.set 5 (.int .i64 (t1 : Int))
        rw [show p + (k + 1) = t1 by omega]
        exact this)
      have K2 : Hid (KB (fun k => k = b) w (wr.drew.setCell ⟨b, 5, none⟩ (.int .i64 (t1 : Int)))) := (KK.out.trans (kb_drewN _ _ 1)).trans (kb_set _ _ _ _)
      clear ht hu hz et ht1 GG KK
      go_wp2_with fail
      go_region
      go_wp2_with fail
      go_roundw
      case rel => exact ⟨k + 1, by omega, by go_num, by rw [NX.out], G2, K2⟩
      case measure => simp [intOf] <;> omega
    · have ek : k = n := by omega
      subst ek
      have i2 : ¬ (k : Int) < (k : Int) := by omega
      go_wp2_with fail
      go_ret
      exact ⟨rfl, GG.out, KK.out⟩
theorem nm_sub (D E : List Int) (q p : Nat) : ∀ k, (∀ i, i < k → bA E (p + i) = bA D (q + p + i)) → nm E p k = nm D (q + p) k
  | 0, _ => rfl
  | k + 1, h => by rw [nm, nm, nm_sub D E q p k (fun i hi => h i (by omega)), h k (by omega)]
theorem bA_sub (D : List Int) (at' m q : Nat) (h : q < 8 * m) : bA ((D.drop at').take m) q = bA D (8 * at' + q) := by
  unfold bA
  rw [show (8 * at' + q) % 8 = q % 8 by omega, show (8 * at' + q) / 8 = at' + q / 8 by omega]
  simp only [List.getD_eq_getElem?_getD, List.getElem?_take, if_pos (show q / 8 < m by omega), List.getElem?_drop]
end Go.Proofs.Ytmopkbkdfipglaa.Lists
