/- What a Packed's codes stand for, as whole numbers: the program. -/
import Derived.Test.YtgajajpcjbpalaaXoM
import Derived.Maps.AppendAt
import Derived.Deep.RegionHeldLaw
import Derived.Deep.AppendLies
namespace Go.Proofs.Ytgajajpcjbpalaa.Pkd
open Go.ChangeShapes Go.WideShapes Go.ChangeAt Go.RowKit
open Go.Proofs.Ytgajajpcjbpalaa.Lists

theorem ints_snoc (L : List Int) (x : Int) : ints (L ++ [x]) = ints L ++ [.int .i64 x] := by simp [ints]
theorem row_form {w : World} {base n : Nat} {e : TypeId} {v : Value} {xs : List Value} (h : w.ownsRow base e 1 v n xs) : ∃ a cap, v = .slice a n cap := by
  rcases h.2 with ⟨rfl, rfl⟩ | ⟨g, cap, _, rfl, _⟩
  · exact ⟨_, _, rfl⟩
  · exact ⟨_, _, rfl⟩
def wh (r : Int) (d : Nat) (c : Int) : Int := r + c * 2 ^ d
def whs (r : Int) (d : Nat) (L : List Int) : List Int := L.map (wh r d)
theorem whs_len (r : Int) (d : Nat) (L : List Int) : (whs r d L).length = L.length := by simp [whs]
theorem whs_take (r : Int) (d : Nat) (L : List Int) (k : Nat) (hk : k < L.length) : whs r d (L.take (k + 1)) = whs r d (L.take k) ++ [wh r d (L.getD k 0)] := by
  unfold whs
  rw [List.take_succ_eq_append_getElem hk, List.map_append]
  congr 1
  simp [List.getD_eq_getElem?_getD, hk]
theorem pow24 (b : Nat) (hb : b ≤ 24) : (2 : Int) ^ b ≤ 16777216 := by
  have key : ∀ b : Fin 25, (2 : Int) ^ b.val ≤ 16777216 := by decide +kernel
  exact key ⟨b, by omega⟩

theorem pow_bound (b d : Nat) (c : Int) (h : cok (mst b d) c = true) (hb : b ≤ 24) : 0 ≤ c * 2 ^ d ∧ c * 2 ^ d ≤ 4398046511104 ∧ 0 ≤ c ∧ c ≤ 16777216 := by
  rw [cok_iff b d c hb] at h
  simp at h
  obtain ⟨⟨h1, h2⟩, h3⟩ := h
  have p0 : (0 : Int) < 2 ^ d := Int.pow_pos (by decide)
  have b0 := pow24 b hb
  refine ⟨Int.mul_nonneg h1 (by omega), ?_, h1, by omega⟩
  have h4 : c * 2 ^ d ≤ 4398046511104 / 2 ^ d * 2 ^ d := Int.mul_le_mul_of_nonneg_right h3 (by omega)
  have h5 : (4398046511104 : Int) / 2 ^ d * 2 ^ d ≤ 4398046511104 := Int.ediv_mul_le _ (by omega)
  omega

set_option maxHeartbeats 1000000 in
theorem unp_any (a c r : Int) (b d : Nat) (tv cv : Value) (L : List Int) (w : World) (hd : d ≤ 41) (hb : b ≤ 24) (hr0 : -1099511627776 ≤ r) (hr1 : r ≤ 1099511627776) (hC : Lists.Reads w cv L) (l2 : L.length ≤ 4096) (hk : L.all (cok (mst b d)) = true) :
    Calls Try.prog 97 #[.agg #[.int .i64 (b : Int)], .agg #[.int .i64 a, .int .i64 c, .int .i64 r, .int .i64 (d : Int), .int .i64 (b : Int), tv, cv]] w fun e w' => ∃ v, e = .returned v ∧ w'.ownsRow w.heap.size 2 1 v L.length (ints (whs r d L)) ∧ Below w.heap.size w w' := by
  obtain ⟨i0, hi, hz0, hz1, hz2⟩ := info_parts Try.info2
  obtain ⟨x, cap2, rfl⟩ := hC.form
  obtain ⟨w1, hw1⟩ : ∃ w1, w1 = (w.alloc (Obj.cells #[.int .i64 (b : Int)] 52)).alloc (Obj.cells #[.int .i64 a, .int .i64 c, .int .i64 r, .int .i64 (d : Int), .int .i64 (b : Int), tv, .slice x L.length cap2] 26) := ⟨_, rfl⟩
  have BW : Hid (Below w.heap.size w w1) := (by show Below _ _ _; rw [hw1]; exact ((Below.refl _ _).alloc (Nat.le_refl _) _).alloc (by simp) _)
  have RC := hC.on BW.out
  have C2 : w1.cell? ⟨w.heap.size + 1, 2, none⟩ = some (.int .i64 r) := by rw [hw1]; simp [go_sem]
  have C3 : w1.cell? ⟨w.heap.size + 1, 3, none⟩ = some (.int .i64 (d : Int)) := by rw [hw1]; simp [go_sem]
  have C6 : w1.cell? ⟨w.heap.size + 1, 6, none⟩ = some (.slice x L.length cap2) := by rw [hw1]; simp [go_sem]
  have z1 : w1.heap.size = w.heap.size + 2 := by rw [hw1]; simp
  have hcc : ∃ f : Nat → Nat × Nat, (0 < L.length → x = some ⟨(f 0).1, (f 0).2, none⟩ ∧ (f 0).1 < w.heap.size) ∧ ∀ i, i < L.length → w.cell? ⟨(f 0).1, (f 0).2 + i, none⟩ = some (.int .i64 (L.getD i 0)) := by
    rcases hC with ⟨h, _⟩ | ⟨b, o, cap, h1, h2, h3, h4, h5⟩
    · have : L.length = 0 := by rw [h]; rfl
      exact ⟨fun _ => (0, 0), fun hi => by omega, fun i hi => by omega⟩
    · refine ⟨fun _ => (b, o), fun _ => ?_, h5⟩
      simp at h1
      exact ⟨h1.1, h4⟩
  obtain ⟨g, gx, gc⟩ := hcc
  have PB : Hid (∀ z ∈ L, 0 ≤ z * 2 ^ d ∧ z * 2 ^ d ≤ 4398046511104 ∧ 0 ≤ z ∧ z ≤ 16777216) := fun z hz => pow_bound b d z (by rw [List.all_eq_true] at hk; exact hk z hz) hb
  obtain ⟨n, hn⟩ : ∃ n, n = L.length := ⟨_, rfl⟩
  have HN : Hid (n = L.length) := hn
  rw [← hn] at gx gc l2 C6 hw1 ⊢
  have GX : Hid (0 < n → x = some ⟨(g 0).1, (g 0).2, none⟩ ∧ (g 0).1 < w.heap.size) := gx
  have GC : Hid (∀ i, i < n → w.cell? ⟨(g 0).1, (g 0).2 + i, none⟩ = some (.int .i64 (L.getD i 0))) := gc
  have HW1 : Hid (w1 = (w.alloc (Obj.cells #[.int .i64 (b : Int)] 52)).alloc (Obj.cells #[.int .i64 a, .int .i64 c, .int .i64 r, .int .i64 (d : Int), .int .i64 (b : Int), tv, .slice x n cap2] 26)) := hw1
  clear gx gc hn hk hC RC hw1
  go_enter Try.func97, Try.ntmps97
  go_wp2_with fail
  rw [← HW1.out]
  clear HW1
  have e0 : whs r d (L.take 0) = [] := rfl
  go_loopw [5, 11] (fun v i wr => ∃ k : Nat, k ≤ n ∧ i = .int .i64 k ∧ Hid (wr.ownsRow w.heap.size 2 1 v k (ints (whs r d (L.take k)))) ∧ (∀ gb, v.ownBlock = some gb → w.heap.size + 2 ≤ gb) ∧ Hid (Below w.heap.size w wr) ∧ wr.cell? ⟨w.heap.size + 1, 2, none⟩ = some (.int .i64 r) ∧ wr.cell? ⟨w.heap.size + 1, 3, none⟩ = some (.int .i64 (d : Int)) ∧ w.heap.size + 2 ≤ wr.heap.size) (fun _ i _ => n - (intOf i).toNat)
  case atStart => exact ⟨0, Nat.zero_le _, rfl, World.ownsRow_nil _ _ _ _, (fun gb h => by simp [Value.ownBlock] at h), BW, C2, C3, by omega⟩
  case round =>
    obtain ⟨k, hk, rfl, O, HV, BB, D2, D3, zr⟩ := hrel
    obtain ⟨sa, sc, rfl⟩ := row_form O.out
    by_cases hlt : k < n
    · obtain ⟨hx, hg⟩ := GX.out (by omega)
      subst hx
      have hkl : k < L.length := by rw [← HN.out]; exact hlt
      have q1 : wr.cell? ⟨(g 0).1, (g 0).2 + k, none⟩ = some (.int .i64 (L.getD k 0)) := (BB.out.cell (p := ⟨(g 0).1, (g 0).2 + k, none⟩) hg).trans (GC.out k hlt)
      have i0' : (0 : Int) ≤ (k : Int) := by omega
      have i1 : (k : Int) < (n : Int) := by omega
      have me : L.getD k 0 ∈ L := (by simp [List.getD_eq_getElem?_getD, hkl])
      obtain ⟨p0, p1, p2, p3⟩ := PB.out _ me
      have TK : Hid (whs r d (L.take (k + 1)) = whs r d (L.take k) ++ [wh r d (L.getD k 0)]) := whs_take r d L k hkl
      generalize L.getD k 0 = z at *
      obtain ⟨y, hy⟩ : ∃ y, y = z * 2 ^ d := ⟨_, rfl⟩
      rw [← hy] at p0 p1
      have HY : Hid (IntKind.i64.wrap (r + IntKind.i64.wrap (z * 2 ^ d)) = wh r d z) := (by
        show _ = _
        unfold wh
        rw [← hy, IntWalk.i64_in y (by omega), IntWalk.i64_in (r + y) (by omega)])
      clear me hkl hy
      go_wp2_with fail
      go_region_held_law (fun w' => w'.cell? ⟨w.heap.size + 1, 2, none⟩ = some (.int .i64 r) ∧ w'.cell? ⟨w.heap.size + 1, 3, none⟩ = some (.int .i64 (d : Int))) (first | go_keep | (go_split_ands; refine ⟨?_, ?_⟩ <;> (rw [hgrow.cell_far _ (by simp; omega) (fun h => by have := HV _ h.symm; simp at this)]; assumption))) ((refine step_append_lies _ (by rfl) _ _ 24 (by rfl) w.heap.size 2 i0 (.int .i64 0) 1 8 Try.underlying24 hi hz0 hz1 hz2 rfl (by decide) _ _ _ (by rfl) (O.out.alloc _) ⟨wr.heap.size, 0, none⟩ 1 1 [.int .i64 (IntKind.i64.wrap (r + IntKind.i64.wrap (z * 2 ^ d)))] (by rfl) rfl (cell_one_new wr (.int .i64 (IntKind.i64.wrap (r + IntKind.i64.wrap (z * 2 ^ d)))) 2) (by intro u hu; simp at hu; subst hu; rfl) (by decide) (by unfold maxLen; omega) (by omega) (by simp; omega) (wr.heap.size + 1) (by simp) ?_; intro g2 cap3 w2 hown hgrow hat hlt2))
      have O2 : Hid (w2.ownsRow w.heap.size 2 1 (.slice (some ⟨g2, 0, none⟩) (k + 1) cap3) (k + 1) (ints (whs r d (L.take (k + 1))))) := (by
        show World.ownsRow _ _ _ _ _ _ _
        rw [TK.out, ints_snoc, ← HY.out]; exact hown)
      rename_i hH
      obtain ⟨E2, E3⟩ := hH
      have zs := hgrow.size
      have zs2 : w.heap.size + 2 ≤ w2.heap.size := by simp at zs; omega
      have HV2 : ∀ gb, (Value.slice (some ⟨g2, 0, none⟩) (k + 1) cap3).ownBlock = some gb → w.heap.size + 2 ≤ gb := fun gb h => by
        simp [Value.ownBlock] at h
        subst h
        rcases hat with h | h
        · exact HV _ h
        · omega
      have B2 : Hid (Below w.heap.size w w2) := (below_drewN (BB.out.alloc BB.out.size _) 1).grown hgrow (by simp; omega) (fun b hb => (O.out.lt b hb).1)
      clear hown hgrow hat O BB zs HV
      go_wp2_with fail
      go_roundw
      case rel => exact ⟨k + 1, by omega, by go_num, O2, HV2, B2, E2, E3, zs2⟩
      case measure => simp [intOf]; omega
    · have e1 : L.take k = L := List.take_of_length_le (by rw [← HN.out]; omega)
      have hkn : k = n := by omega
      subst hkn
      have O2 : Hid (wr.ownsRow w.heap.size 2 1 (.slice sa k sc) k (ints (whs r d L))) := (by have := O.out; rw [e1] at this; exact this)
      clear O e1
      go_wp2_with fail
      go_ret
      exact ⟨_, rfl, O2.out, BB.out⟩
end Go.Proofs.Ytgajajpcjbpalaa.Pkd
