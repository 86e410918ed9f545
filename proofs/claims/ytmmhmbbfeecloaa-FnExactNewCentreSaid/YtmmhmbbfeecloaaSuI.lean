/- subsOf: the subscribers of routes, rising (the program). -/
import Derived.Test.YtmmhmbbfeecloaaSu
import Derived.Shelf.SortM.SortNone
import Derived.Deep.AppendLies
namespace Go.Proofs.Ytmmhmbbfeecloaa.Su
open Go.Sort Go.ChangeShapes Go.WideShapes Go.ChangeAt Go.RowKit Rt Ro
def Ints (w : World) (v : Value) (S : List Int) : Prop := (S = [] ∧ ∃ a cap, v = .slice a 0 cap) ∨ ∃ b cap, v = .slice (some ⟨b, 0, none⟩) S.length cap ∧ b < w.heap.size ∧ ∀ i, i < S.length → w.cell? ⟨b, i, none⟩ = some (.int .i64 (S.getD i 0))
theorem Try.infoI : (Try.prog.info? 2).map (fun i => (i.zero, i.size, i.bytes)) = some (some (.int .i64 0), 1, 8) := by kernel_rfl
theorem cell_one (w : World) (v0 : Value) (t : TypeId) : ∀ j u, [v0][j]? = some u → (w.alloc (Obj.cells #[v0] t)).cell? ((⟨w.heap.size, 0, none⟩ : Addr).add j) = some u := by
  intro j u hj
  match j, hj with
  | 0, hj => simp at hj; subst hj; simp [Addr.add]
theorem one_one (x : Int) : ∀ u ∈ [Value.int .i64 x], u.oneCell' = true := by intro u hu; simp at hu; subst hu; rfl
theorem ints_of_row {w : World} {B n : Nat} {g c : Nat} {S Z : List Int} (h : w.ownsRow B 2 1 (.slice (some ⟨g, 0, none⟩) n c) n (ints (S ++ Z))) (hn : S.length ≤ n) : Ints w (.slice (some ⟨g, 0, none⟩) S.length c) S := by
  refine .inr ⟨g, c, rfl, (h.lt g rfl).2, fun i hi => ?_⟩
  rw [h.cellAt i (by omega)]
  simp [ints, List.getElem?_append_left, List.getD_eq_getElem?_getD, hi]
set_option maxRecDepth 20000 in
set_option maxHeartbeats 4000000 in
theorem isubs_any (L : Ls) (v : Value) (w : World) (h : Reads w v L) (ho : Ok L) : Calls Try.prog 19 #[v] w fun e w' => ∃ v', e = .returned v' ∧ Ints w' v' (su L 1000) ∧ Below w.heap.size w w' := by
  obtain ⟨i0, hi, hz0, hz1, hz2⟩ := info_parts Try.infoI
  obtain ⟨a, c, rfl⟩ := h.form
  have hl := ho.1
  have HD : Hid (Lib.compact (srt (sn L L.length)) = su L 1000) := subs_one ho
  obtain ⟨n, hn⟩ : ∃ n, n = L.length := ⟨_, rfl⟩
  have HM : Hid (n = L.length) := hn
  have HC : Hid (∀ i, i < n → ∃ b o, a = some ⟨b, o, none⟩ ∧ ∀ w', Below w.heap.size w w' → Cs w' b o L i) := fun i hi => (by
    rw [HM.out] at hi
    rcases h with ⟨rfl, _⟩ | ⟨b, o, c', e, e1, _, x, y⟩
    · simp at hi
    · simp at e; exact ⟨b, o, e.1, fun w' hb => (y i hi).below hb x⟩)
  rw [← hn] at hl HD ⊢
  clear h hn ho
  have R0 : Hid (w.ownsRow w.heap.size 2 1 (.slice none 0 0) 0 (ints (sn L 0))) := ⟨by simp [sn], Or.inl ⟨rfl, rfl⟩⟩
  go_enter Try.func19, Try.ntmps19
  go_wp2_with fail
  go_loopw [3, 8] (fun q i wr => ∃ (k : Nat) (sv : Value), k ≤ n ∧ i = .int .i64 k ∧ sv = q ∧ Hid (wr.ownsRow w.heap.size 2 1 sv k (ints (sn L k))) ∧ Hid (Below w.heap.size w wr)) (fun _ i _ => n - (intOf i).toNat)
  case atStart => exact ⟨0, _, Nat.zero_le _, rfl, rfl, R0, Below.refl _ _⟩
  case round =>
    clear R0
    obtain ⟨k, sv, hk, rfl, hq, RR, BB⟩ := hrel
    subst hq
    by_cases hlt : k < n
    · obtain ⟨b, o, rfl, qq⟩ := HC.out k hlt
      obtain ⟨q0, q1⟩ := qq wr BB.out
      clear qq
      have i1 : (0 : Int) ≤ (k : Int) := by omega
      have i2 : (k : Int) < (n : Int) := by omega
      have HE : Hid (sn L (k + 1) = sn L k ++ [c1 L k]) := sn_next L k
      generalize sn L k = D at *
      generalize c0 L k = y0 at *
      generalize c1 L k = y1 at *
      obtain ⟨wy, hwy⟩ : ∃ wy, wy = wr.alloc (.cells #[.string y0, .int .i64 y1] 46) := ⟨_, rfl⟩
      have HY : Hid (wy = wr.alloc (.cells #[.string y0, .int .i64 y1] 46)) := hwy
      have g0 : wy.cell? ⟨wr.heap.size, 0, none⟩ = some (.string y0) := by rw [hwy]; simp
      have g1 : wy.cell? ⟨wr.heap.size, 1, none⟩ = some (.int .i64 y1) := by rw [hwy]; simp
      have QY : Hid (Below wr.heap.size wr wy) := (by show Below _ _ _; rw [hwy]; exact (Below.refl _ _).alloc (Nat.le_refl _) _)
      have RY : Hid (wy.ownsRow w.heap.size 2 1 sv k (ints D)) := (by rw [hwy]; exact RR.out.alloc _)
      clear hwy
      have BY : Hid (Below w.heap.size w wy) := BB.out.trans (QY.out.mono BB.out.size)
      have hsz : w.heap.size ≤ wy.heap.size := BY.out.size
      go_upto_region 5 with fail
      rw [← HY.out]
      clear q0 q1 HY RR
      go_wp2_with (at_builtin; refine wpList_append_own _ rfl _ _ 41 rfl w.heap.size 2 i0 (.int .i64 0) 1 8 Try.underlying41 hi hz0 hz1 hz2 rfl (by decide) _ _ _ rfl (RY.out.alloc _) ⟨wy.heap.size, 0, none⟩ 1 1 [.int .i64 y1] rfl rfl (cell_one wy _ 2) (one_one _) (by unfold maxLen; omega) (by omega) (by simp; omega) ?_)
      intro v' w3 hown hgrow _
      have B3 : Hid (Below w.heap.size w w3) := (BY.out.alloc BY.out.size _).grown hgrow (by simp; omega) (fun b hb => (RY.out.lt b hb).1)
      have R3 : Hid (w3.ownsRow w.heap.size 2 1 v' (k + 1) (ints (D ++ [y1]))) := (by show World.ownsRow _ _ _ _ _ _ _; simpa using hown)
      clear hown hgrow g0 g1 hsz
      go_wp2_with fail
      go_roundw
      case rel => exact ⟨k + 1, _, by omega, by go_num, rfl, by rw [HE.out]; exact R3.out, B3⟩
      case measure => simp [intOf]; omega
    · have ek : k = n := by omega
      subst ek
      have hlen := sn_len L k
      by_cases hk0 : k = 0
      · subst hk0
        obtain ⟨a2, c2, hv⟩ : ∃ a c, sv = .slice a 0 c := by
          rcases row_cases RR.out with ⟨_, h1⟩ | ⟨g, c, h1, _⟩
          · exact ⟨_, _, h1⟩
          · exact ⟨_, _, h1⟩
        subst hv
        have HS : Hid (∀ w', Ints w' (.slice a2 0 c2) (su L 1000)) := fun w' => (by rw [← HD.out]; exact .inl ⟨List.eq_nil_of_length_eq_zero (by have := comp_len (srt (sn L 0)); rw [srt_len, sn_len] at this; omega), _, _, rfl⟩)
        have C2 : Hid (∀ w, Calls Try.prog 34 #[.slice a2 0 c2] w fun e w' => e = .returned (.tuple #[]) ∧ w' = w) := fun w => AnyM.slices_Sort_int_none Try.laysSlM5_f50 a2 c2 w
        have C3 : Hid (∀ w, Calls Try.prog 35 #[.slice a2 0 c2] w fun e w' => e = .returned (.slice a2 0 c2) ∧ w' = w) := fun w => AnyG.slices_Compact_int_empty Try.laysSlN43_f51 a2 c2 w
        clear RR HD
        go_wp2_with (first | (go_at_call 34; refine (C2.out _).mono ?_; rintro e w1 ⟨rfl, hw1⟩; subst hw1) | (go_at_call 35; refine (C3.out _).mono ?_; rintro e w1 ⟨rfl, hw1⟩; subst hw1))
        go_ret
        exact ⟨_, rfl, HS.out _, BB.out⟩
      · generalize sn L k = E at *
        obtain ⟨g, c, hv⟩ : ∃ g c, sv = .slice (some ⟨g, 0, none⟩) E.length c := by
          rcases row_cases RR.out with ⟨h0, _⟩ | ⟨g, c, h1, _⟩
          · omega
          · exact ⟨g, c, by rw [hlen]; exact h1⟩
        rw [← hlen] at RR hl hk
        subst hv
        have C2 : Hid (Calls Try.prog 34 #[.slice (some ⟨g, 0, none⟩) E.length c] wr fun e w' => e = .returned (.tuple #[]) ∧ w'.ownsRow w.heap.size 2 1 (.slice (some ⟨g, 0, none⟩) E.length c) E.length (ints (srt E)) ∧ Below w.heap.size w w') := sort_any E c wr w w.heap.size g BB.out RR.out (by omega)
        have C3 : Hid (∀ w', w'.ownsRow w.heap.size 2 1 (.slice (some ⟨g, 0, none⟩) E.length c) E.length (ints (srt E)) → Below w.heap.size w w' → Calls Try.prog 35 #[.slice (some ⟨g, 0, none⟩) E.length c] w' fun e w'' => e = .returned (.slice (some ⟨g, 0, none⟩) (Lib.compact (srt E)).length c) ∧ w''.ownsRow w.heap.size 2 1 (.slice (some ⟨g, 0, none⟩) E.length c) E.length (ints (Lib.compact (srt E) ++ List.replicate (E.length - (Lib.compact (srt E)).length) 0)) ∧ Below w.heap.size w w'') := fun w' h hb => by
          have := compact_any (srt E) c w' w w.heap.size g hb (by rw [srt_len]; exact h) (by rw [srt_len]; omega)
          rw [srt_len] at this
          exact this
        have hcl : (Lib.compact (srt E)).length ≤ E.length := Nat.le_trans (comp_len (srt E)) (by rw [srt_len]; exact Nat.le_refl _)
        rw [HD.out] at C3 hcl
        generalize hZ : List.replicate (E.length - (su L 1000).length) (0 : Int) = Z at *
        clear hZ HD
        obtain ⟨K, hK⟩ : ∃ K, K = su L 1000 := ⟨_, rfl⟩
        rw [← hK] at C3 hcl
        have HK0 : Hid (K = su L 1000) := hK
        generalize ints (srt E) = SE at *
        obtain ⟨kk, hkk⟩ : ∃ kk, K.length = kk := ⟨_, rfl⟩
        have HK1 : Hid (K.length = kk) := hkk
        rw [hkk] at C3 hcl
        clear hkk hK
        generalize E.length = m at *
        subst hlen
        clear RR BB HC
        go_wp2_with fail
        refine C2.out.mono ?_
        rintro e w3 ⟨rfl, hr, hb⟩
        have C4 : Hid (Calls Try.prog 35 #[.slice (some ⟨g, 0, none⟩) m c] w3 fun e w'' => e = .returned (.slice (some ⟨g, 0, none⟩) kk c) ∧ w''.ownsRow w.heap.size 2 1 (.slice (some ⟨g, 0, none⟩) m c) m (ints (K ++ Z)) ∧ Below w.heap.size w w'') := C3.out w3 hr hb
        clear hr hb C3 C2
        go_wp2_with fail
        refine C4.out.mono ?_
        rintro e w4 ⟨rfl, hr, hb⟩
        have RE : Hid (Ints w4 (.slice (some ⟨g, 0, none⟩) kk c) K) := (by show Ints _ _ _; rw [← HK1.out]; exact ints_of_row hr (by rw [HK1.out]; exact hcl))
        have BE : Hid (Below w.heap.size w w4) := hb
        clear hr hb C4
        go_wp2_with fail
        go_ret
        exact ⟨_, rfl, by rw [← HK0.out]; exact RE.out, BE.out⟩
end Go.Proofs.Ytmmhmbbfeecloaa.Su
