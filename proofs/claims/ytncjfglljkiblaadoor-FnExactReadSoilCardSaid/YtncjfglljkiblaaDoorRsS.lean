/- A soil read of its text: the model. -/
import Derived.Test.YtncjfglljkiblaaDoorRsP
import Derived.Deep.RegionHeld3
import Derived.Deep.RegionWith
namespace Go.Proofs.YtncjfglljkiblaaDoor.Rs
open Go.ChangeShapes Go.WideShapes Go.ChangeAt Go.RowKit
open Go.Proofs.YtncjfglljkiblaaDoor.So Go.Proofs.YtncjfglljkiblaaDoor.Dec Go.Proofs.YtncjfglljkiblaaDoor.Head Go.Proofs.YtncjfglljkiblaaDoor.Fig

set_option maxHeartbeats 400000 in
theorem snum (s : ByteArray) (w : World) (hl : s.size ≤ 1048576) : Calls Tryd.prog 8 #[.string s] w fun e w' => e = .returned (.int .i64 (num s)) ∧ w' = w := by
  unfold num
  by_cases h0 : s.size = 0
  · rw [if_pos (.inl h0)]
    have e0 : ((s.size : Int) == 0) = true := by rw [h0]; rfl
    clear h0
    go_enter Tryd.func8, Tryd.ntmps8
    go_wp2_with fail
    go_ret
    exact ⟨rfl, rfl⟩
  · by_cases h1 : 15 < s.size
    · rw [if_pos (.inr h1)]
      have e0 : ((s.size : Int) == 0) = false := beq_eq_false_iff_ne.2 (by omega)
      have e1 : (15 : Int) < (s.size : Int) := by omega
      go_enter Tryd.func8, Tryd.ntmps8
      go_wp2_with fail
      go_ret
      exact ⟨rfl, rfl⟩
    · rw [if_neg (by omega)]
      exact sfig s w (by omega) (by omega)
theorem five {s : ByteArray} (h : (pcs s).length = 5) : ∃ p0 p1 p2 p3 p4, pcs s = [p0, p1, p2, p3, p4] := by
  match hq : pcs s, h with
  | [p0, p1, p2, p3, p4], _ => exact ⟨p0, p1, p2, p3, p4, rfl⟩
theorem pc_len (l : List UInt8) : ∀ acc, ∀ x ∈ cutB acc l, x.length ≤ acc.length + l.length := by
  induction l with
  | nil => intro acc x hx; simp [cutB] at hx; subst hx; simp
  | cons b l ih =>
    intro acc x hx
    unfold cutB at hx
    split at hx
    · rcases List.mem_cons.1 hx with rfl | hx
      · simp
      · have := ih [] x hx; simp at this ⊢; omega
    · have := ih _ x hx; simp at this ⊢; omega
theorem pcs_size {s p : ByteArray} (h : p ∈ pcs s) : p.size ≤ s.size := by
  unfold pcs at h
  obtain ⟨l, hl, rfl⟩ := List.mem_map.1 h
  have := pc_len s.data.toList [] l hl
  have e : (⟨l.toArray⟩ : ByteArray).size = l.length := by show l.toArray.size = _; simp
  rw [e]
  simpa using this
theorem str_ne {t s : ByteArray} (h : t ≠ s) : (t.toList != s.toList) = true := by
  simp only [bne_iff_ne, ne_eq]
  intro e
  apply h
  apply ByteArray.ext
  apply Array.ext'
  rwa [Lib.toList_data, Lib.toList_data] at e
/-- The box of the answer: five numbers. -/
structure RB (w wx : World) (a b c d f : Int) : Prop where
  r : wx.cell? ⟨w.heap.size, 0, none⟩ = some (.int .i64 a) ∧ wx.cell? ⟨w.heap.size, 1, none⟩ = some (.int .i64 b) ∧ wx.cell? ⟨w.heap.size, 2, none⟩ = some (.int .i64 c) ∧ wx.cell? ⟨w.heap.size, 3, none⟩ = some (.int .i64 d) ∧ wx.cell? ⟨w.heap.size, 4, none⟩ = some (.int .i64 f)
  k : ∀ o, wx.frozen? ⟨w.heap.size, o, none⟩ = false
  z : w.heap.size < wx.heap.size
  b : Below w.heap.size w wx
theorem RB.start (w : World) : RB w (w.alloc (Obj.cells #[.int .i64 0, .int .i64 0, .int .i64 0, .int .i64 0, .int .i64 0] 23)) 0 0 0 0 0 :=
  ⟨by simp [go_sem], fun o => by simp [go_sem], by simp, (Below.refl _ _).alloc (Nat.le_refl _) _⟩
theorem RB.on {w wx wy : World} {a b c d f : Int} (h : RB w wx a b c d f) (hb : Below wx.heap.size wx wy) : RB w wy a b c d f := by
  have z := h.z
  have L0 : ∀ o, wy.cell? ⟨w.heap.size, o, none⟩ = wx.cell? ⟨w.heap.size, o, none⟩ := fun o => hb.cell (p := ⟨w.heap.size, o, none⟩) z
  have F0 : ∀ o, wy.frozen? ⟨w.heap.size, o, none⟩ = wx.frozen? ⟨w.heap.size, o, none⟩ := fun o => hb.frozen (p := ⟨w.heap.size, o, none⟩) z
  exact ⟨by rw [L0, L0, L0, L0, L0]; exact h.r, fun o => by rw [F0]; exact h.k o, Nat.lt_of_lt_of_le z hb.size, h.b.trans (hb.mono (Nat.le_of_lt z))⟩
theorem RB.put {w wx : World} {a b c d f : Int} (h : RB w wx a b c d f) (a' b' c' d' f' : Int) :
    RB w (((((wx.setCell ⟨w.heap.size, 0, none⟩ (.int .i64 a')).setCell ⟨w.heap.size, 1, none⟩ (.int .i64 b')).setCell ⟨w.heap.size, 2, none⟩ (.int .i64 c')).setCell ⟨w.heap.size, 3, none⟩ (.int .i64 d')).setCell ⟨w.heap.size, 4, none⟩ (.int .i64 f')) a' b' c' d' f' := by
  obtain ⟨r0, r1, r2, r3, r4⟩ := h.r
  have k := h.k
  refine ⟨?_, fun o => ?_, by simpa using h.z, ?_⟩
  · simp [go_sem, r0, r1, r2, r3, r4]
  · simp [go_sem, k]
  · exact ((((h.b.setCell (Nat.le_refl _) _).setCell (Nat.le_refl _) _).setCell (Nat.le_refl _) _).setCell (Nat.le_refl _) _).setCell (Nat.le_refl _) _

theorem n5_on {g : Nat} {n0 n1 n2 n3 n4 : Int} {w w' : World} (h : (w.cell? ⟨g, 0, none⟩ = some (.int .i64 n0) ∧ w.cell? ⟨g, 1, none⟩ = some (.int .i64 n1) ∧ w.cell? ⟨g, 2, none⟩ = some (.int .i64 n2) ∧ w.cell? ⟨g, 3, none⟩ = some (.int .i64 n3) ∧ w.cell? ⟨g, 4, none⟩ = some (.int .i64 n4)) ∧ g < w.heap.size) (hb : Below w.heap.size w w') :
    (w'.cell? ⟨g, 0, none⟩ = some (.int .i64 n0) ∧ w'.cell? ⟨g, 1, none⟩ = some (.int .i64 n1) ∧ w'.cell? ⟨g, 2, none⟩ = some (.int .i64 n2) ∧ w'.cell? ⟨g, 3, none⟩ = some (.int .i64 n3) ∧ w'.cell? ⟨g, 4, none⟩ = some (.int .i64 n4)) ∧ g < w'.heap.size := by
  have L : ∀ o, w'.cell? ⟨g, o, none⟩ = w.cell? ⟨g, o, none⟩ := fun o => hb.cell (p := ⟨g, o, none⟩) h.2
  exact ⟨by rw [L, L, L, L, L]; exact h.1, Nat.lt_of_lt_of_le h.2 hb.size⟩
set_option maxRecDepth 20000 in
set_option maxHeartbeats 1000000 in
theorem sread_off (s : ByteArray) (w : World) (h : 100 < s.size ∨ (s.size ≤ 100 ∧ (pcs s).length ≠ 5)) : Calls Tryd.prog 4 #[.string s] w fun e w' => e = .returned (.tuple #[sv 0 0 0 0 0, .bool false]) ∧ Below w.heap.size w w' := by
  rcases h with h | ⟨h, h5⟩
  · have h' : (100 : Int) < (s.size : Int) := by omega
    go_enter Tryd.func4, Tryd.ntmps4
    go_wp2_with fail
    exact bodyPost_ret (v := .tuple #[sv 0 0 0 0 0, .bool false]) (by simp [results, Tryd.results4, go_sem]) rfl ⟨rfl, (Below.refl _ _).alloc (Nat.le_refl _) _⟩
  · have h' : ¬ (100 : Int) < (s.size : Int) := by omega
    have SP : Hid (∀ w, Calls Tryd.prog 7 #[.string s] w fun e w' => ∃ a cap, e = .returned (.slice a (pcs s).length cap) ∧ Below w.heap.size w w') := fun w => (spieces s w (by omega)).mono (by
      rintro e w' ⟨v, rfl, hr, hb⟩
      obtain ⟨a, cap, rfl⟩ := row_form hr
      exact ⟨a, cap, rfl, hb⟩)
    have n5 : (((pcs s).length : Int) != 5) = true := by simp; omega
    generalize (pcs s).length = n at *
    obtain ⟨w0, hw0⟩ : ∃ w0, w0 = w.alloc (Obj.cells #[.int .i64 0, .int .i64 0, .int .i64 0, .int .i64 0, .int .i64 0] 23) := ⟨_, rfl⟩
    have HW0 : Hid (w0 = w.alloc (Obj.cells #[.int .i64 0, .int .i64 0, .int .i64 0, .int .i64 0, .int .i64 0] 23)) := hw0
    have R0 : Hid (RB w w0 0 0 0 0 0) := (by show RB _ _ _ _ _ _ _; rw [hw0]; exact RB.start w)
    clear hw0
    go_enter Tryd.func4, Tryd.ntmps4
    go_wp2_with fail
    rw [← HW0.out]
    refine (SP.out w0).mono ?_
    rintro e w1 ⟨a, cap, rfl, b1⟩
    have R1 : Hid (RB w w1 0 0 0 0 0) := R0.out.on b1
    obtain ⟨c0, c1, c2, c3, c4⟩ := R1.out.r
    have fz := R1.out.k
    have f0 := fz 0
    have f1 := fz 1
    have f2 := fz 2
    have f3 := fz 3
    have f4 := fz 4
    clear b1 R0 HW0 fz
    go_wp2_with fail
    have V : Hid (RB w _ 0 0 0 0 0) := R1.out.put 0 0 0 0 0
    clear c0 c1 c2 c3 c4 f0 f1 f2 f3 f4 R1
    generalize World.setCell _ _ _ = wz at V ⊢
    obtain ⟨r0, r1, r2, r3, r4⟩ := V.out.r
    exact bodyPost_ret (v := .tuple #[sv 0 0 0 0 0, .bool false]) (by simp [results, Tryd.results4, go_sem, r0, r1, r2, r3, r4]) rfl ⟨rfl, V.out.b⟩
set_option maxRecDepth 20000 in
set_option maxHeartbeats 2000000 in
theorem sread_five (s p0 p1 p2 p3 p4 : ByteArray) (w : World) (hs : s.size ≤ 100) (h5 : pcs s = [p0, p1, p2, p3, p4]) (a b c d f : Int) (B : Bool) (hB : (okB (num p0) (num p1) (num p2) (num p3) (num p4) = true ∧ s.data.toList = tx (num p0) (num p1) (num p2) (num p3) (num p4) ∧ B = true ∧ a = num p0 ∧ b = num p1 ∧ c = num p2 ∧ d = num p3 ∧ f = num p4) ∨ (¬ (okB (num p0) (num p1) (num p2) (num p3) (num p4) = true ∧ s.data.toList = tx (num p0) (num p1) (num p2) (num p3) (num p4)) ∧ B = false ∧ a = 0 ∧ b = 0 ∧ c = 0 ∧ d = 0 ∧ f = 0)) :
    Calls Tryd.prog 4 #[.string s] w fun e w' => e = .returned (.tuple #[sv a b c d f, .bool B]) ∧ Below w.heap.size w w' := by
  have h' : ¬ (100 : Int) < (s.size : Int) := by omega
  have SP : Hid (∀ w, Calls Tryd.prog 7 #[.string s] w fun e w' => ∃ g cap, e = .returned (.slice (some ⟨g, 0, none⟩) 5 cap) ∧ 5 ≤ cap ∧ g < w'.heap.size ∧ (w'.cell? ⟨g, 0, none⟩ = some (.string p0) ∧ w'.cell? ⟨g, 1, none⟩ = some (.string p1) ∧ w'.cell? ⟨g, 2, none⟩ = some (.string p2) ∧ w'.cell? ⟨g, 3, none⟩ = some (.string p3) ∧ w'.cell? ⟨g, 4, none⟩ = some (.string p4)) ∧ Below w.heap.size w w') := fun w => (spieces s w (by omega)).mono (by
    rintro e w' ⟨v, rfl, hr, hb⟩
    rw [h5] at hr
    obtain ⟨h0, hr2⟩ := id hr
    rcases hr2 with ⟨_, hn⟩ | ⟨g, cap, cur, rfl, hg, hh, hc, hm, _⟩
    · simp at hn
    · have lt : g < w'.heap.size := by
        by_cases x : g < w'.heap.size
        · exact x
        · rw [Array.getElem?_eq_none (by omega)] at hh; cases hh
      refine ⟨g, cap, rfl, hc, lt, ⟨?_, ?_, ?_, ?_, ?_⟩, hb⟩
      · exact (hr.cellAt 0 (by simp)).trans rfl
      · exact (hr.cellAt 1 (by simp)).trans rfl
      · exact (hr.cellAt 2 (by simp)).trans rfl
      · exact (hr.cellAt 3 (by simp)).trans rfl
      · exact (hr.cellAt 4 (by simp)).trans rfl)
  have ps : ∀ p ∈ [p0, p1, p2, p3, p4], p.size ≤ 1048576 := fun p hp => by have := pcs_size (s := s) (p := p) (by rw [h5]; exact hp); omega
  have F0 : Hid (∀ w, Calls Tryd.prog 8 #[.string p0] w fun e w' => e = .returned (.int .i64 (num p0)) ∧ w' = w) := fun w => snum p0 w (ps p0 (by simp))
  have F1 : Hid (∀ w, Calls Tryd.prog 8 #[.string p1] w fun e w' => e = .returned (.int .i64 (num p1)) ∧ w' = w) := fun w => snum p1 w (ps p1 (by simp))
  have F2 : Hid (∀ w, Calls Tryd.prog 8 #[.string p2] w fun e w' => e = .returned (.int .i64 (num p2)) ∧ w' = w) := fun w => snum p2 w (ps p2 (by simp))
  have F3 : Hid (∀ w, Calls Tryd.prog 8 #[.string p3] w fun e w' => e = .returned (.int .i64 (num p3)) ∧ w' = w) := fun w => snum p3 w (ps p3 (by simp))
  have F4 : Hid (∀ w, Calls Tryd.prog 8 #[.string p4] w fun e w' => e = .returned (.int .i64 (num p4)) ∧ w' = w) := fun w => snum p4 w (ps p4 (by simp))
  generalize num p0 = n0 at *
  generalize num p1 = n1 at *
  generalize num p2 = n2 at *
  generalize num p3 = n3 at *
  generalize num p4 = n4 at *
  obtain ⟨K, hK⟩ : ∃ K, okB n0 n1 n2 n3 n4 = K := ⟨_, rfl⟩
  have OK : Hid (∀ w, Calls Tryd.prog 9 #[sv n0 n1 n2 n3 n4] w fun e w' => e = .returned (.bool K) ∧ Below w.heap.size w w') := fun w => by have := sok_any n0 n1 n2 n3 n4 w; rwa [hK] at this
  have TX : Hid (K = true → ∀ w, Calls Tryd.prog 10 #[sv n0 n1 n2 n3 n4] w fun e w' => e = .returned (.string ⟨(tx n0 n1 n2 n3 n4).toArray⟩) ∧ Below w.heap.size w w') := fun h w => stext_yes n0 n1 n2 n3 n4 w (hK.trans h)
  rw [hK] at hB
  have ht : s.data.toList = tx n0 n1 n2 n3 n4 ↔ (⟨(tx n0 n1 n2 n3 n4).toArray⟩ : ByteArray) = s := ⟨fun h => by rw [← h], fun h => by rw [← h]⟩
  rw [ht] at hB
  generalize (⟨(tx n0 n1 n2 n3 n4).toArray⟩ : ByteArray) = t at *
  clear ht
  have HB : Hid ((K = true ∧ t = s ∧ B = true ∧ a = n0 ∧ b = n1 ∧ c = n2 ∧ d = n3 ∧ f = n4) ∨ (¬ (K = true ∧ t = s) ∧ B = false ∧ a = 0 ∧ b = 0 ∧ c = 0 ∧ d = 0 ∧ f = 0)) := hB
  obtain ⟨w0, hw0⟩ : ∃ w0, w0 = w.alloc (Obj.cells #[.int .i64 0, .int .i64 0, .int .i64 0, .int .i64 0, .int .i64 0] 23) := ⟨_, rfl⟩
  have HW0 : Hid (w0 = w.alloc (Obj.cells #[.int .i64 0, .int .i64 0, .int .i64 0, .int .i64 0, .int .i64 0] 23)) := hw0
  have R0 : Hid (RB w w0 0 0 0 0 0) := (by show RB _ _ _ _ _ _ _; rw [hw0]; exact RB.start w)
  clear hw0 h5 ps hB hK hs
  go_enter Tryd.func4, Tryd.ntmps4
  go_wp2_with fail
  rw [← HW0.out]
  refine (SP.out w0).mono ?_
  rintro e w1 ⟨g, cap, rfl, hcap, hg, ⟨q0, q1, q2, q3, q4⟩, b1⟩
  have R1 : Hid (RB w w1 0 0 0 0 0) := R0.out.on b1
  have i5 : (5 : Int) ≤ (cap : Int) := by omega
  clear b1 R0 HW0
  go_upto_region 6 with fail
  go_region_held3 (fun w' => w'.cell? ⟨g, 0, none⟩ = some (.string p0) ∧ w'.cell? ⟨g, 1, none⟩ = some (.string p1) ∧ w'.cell? ⟨g, 2, none⟩ = some (.string p2) ∧ w'.cell? ⟨g, 3, none⟩ = some (.string p3) ∧ w'.cell? ⟨g, 4, none⟩ = some (.string p4)) (go_keep)
    (first
    | (go_at_call_of 8 (Value.string p0); refine (F0.out _).mono ?_; rintro e w2 ⟨rfl, hw1⟩; subst hw1)
    | (go_at_call_of 8 (Value.string p1); refine (F1.out _).mono ?_; rintro e w2 ⟨rfl, hw1⟩; subst hw1)
    | (go_at_call_of 8 (Value.string p2); refine (F2.out _).mono ?_; rintro e w2 ⟨rfl, hw1⟩; subst hw1)
    | (go_at_call_of 8 (Value.string p3); refine (F3.out _).mono ?_; rintro e w2 ⟨rfl, hw1⟩; subst hw1)
    | (go_at_call_of 8 (Value.string p4); refine (F4.out _).mono ?_; rintro e w2 ⟨rfl, hw1⟩; subst hw1))
  all_goals
    obtain ⟨wv, hwv⟩ : ∃ wv, wv = (w1.alloc (Obj.cells #[.int .i64 n0, .int .i64 n1, .int .i64 n2, .int .i64 n3, .int .i64 n4] 23)).drew := ⟨_, rfl⟩
    have RV : Hid (RB w wv 0 0 0 0 0) := (by show RB _ _ _ _ _ _ _; rw [hwv]; exact R1.out.on (((Below.refl _ _).alloc (Nat.le_refl _) _).drew))
    have NV : Hid ((wv.cell? ⟨w1.heap.size, 0, none⟩ = some (.int .i64 n0) ∧ wv.cell? ⟨w1.heap.size, 1, none⟩ = some (.int .i64 n1) ∧ wv.cell? ⟨w1.heap.size, 2, none⟩ = some (.int .i64 n2) ∧ wv.cell? ⟨w1.heap.size, 3, none⟩ = some (.int .i64 n3) ∧ wv.cell? ⟨w1.heap.size, 4, none⟩ = some (.int .i64 n4)) ∧ w1.heap.size < wv.heap.size) := (by show _ ∧ _; rw [hwv]; simp [go_sem])
    rw [← hwv]
    clear hwv q0 q1 q2 q3 q4 R1 F0 F1 F2 F3 F4 SP
    obtain ⟨k0, k1, k2, k3, k4⟩ := NV.out.1
    go_wp2_with fail
    clear k0 k1 k2 k3 k4
    refine (OK.out wv).mono ?_
    rintro e w3 ⟨rfl, b3⟩
    have R3 : Hid (RB w w3 0 0 0 0 0) := RV.out.on b3
    have N3 : Hid ((w3.cell? ⟨w1.heap.size, 0, none⟩ = some (.int .i64 n0) ∧ w3.cell? ⟨w1.heap.size, 1, none⟩ = some (.int .i64 n1) ∧ w3.cell? ⟨w1.heap.size, 2, none⟩ = some (.int .i64 n2) ∧ w3.cell? ⟨w1.heap.size, 3, none⟩ = some (.int .i64 n3) ∧ w3.cell? ⟨w1.heap.size, 4, none⟩ = some (.int .i64 n4)) ∧ w1.heap.size < w3.heap.size) := n5_on NV.out b3
    clear b3 RV NV
    cases K
    · obtain ⟨_, rfl, rfl, rfl, rfl, rfl, rfl⟩ := HB.out.resolve_left (fun h => by cases h.1)
      obtain ⟨c0, c1, c2, c3, c4⟩ := R3.out.r
      have fz := R3.out.k
      have f0 := fz 0
      have f1 := fz 1
      have f2 := fz 2
      have f3 := fz 3
      have f4 := fz 4
      clear fz
      go_wp2_with fail
      have V : Hid (RB w _ 0 0 0 0 0) := R3.out.put 0 0 0 0 0
      clear c0 c1 c2 c3 c4 f0 f1 f2 f3 f4 R3
      generalize World.setCell _ _ _ = wz at V ⊢
      obtain ⟨r0, r1, r2, r3, r4⟩ := V.out.r
      exact bodyPost_ret (v := .tuple #[sv 0 0 0 0 0, .bool false]) (by simp [results, Tryd.results4, go_sem, r0, r1, r2, r3, r4]) rfl ⟨rfl, V.out.b⟩
    · obtain ⟨k0, k1, k2, k3, k4⟩ := N3.out.1
      go_wp2_with fail
      clear k0 k1 k2 k3 k4
      refine (TX.out (by simp) w3).mono ?_
      rintro e w4 ⟨rfl, b4⟩
      have R4 : Hid (RB w w4 0 0 0 0 0) := R3.out.on b4
      have N4 : Hid ((w4.cell? ⟨w1.heap.size, 0, none⟩ = some (.int .i64 n0) ∧ w4.cell? ⟨w1.heap.size, 1, none⟩ = some (.int .i64 n1) ∧ w4.cell? ⟨w1.heap.size, 2, none⟩ = some (.int .i64 n2) ∧ w4.cell? ⟨w1.heap.size, 3, none⟩ = some (.int .i64 n3) ∧ w4.cell? ⟨w1.heap.size, 4, none⟩ = some (.int .i64 n4)) ∧ w1.heap.size < w4.heap.size) := n5_on N3.out b4
      clear b4 R3 N3
      by_cases hts : t = s
      · obtain ⟨_, _, rfl, rfl, rfl, rfl, rfl, rfl⟩ := HB.out.resolve_right (fun h => h.1 ⟨by simp, hts⟩)
        have ne : (t.toList != s.toList) = false := by rw [hts]; simp
        obtain ⟨k0, k1, k2, k3, k4⟩ := N4.out.1
        clear hts
        obtain ⟨c0, c1, c2, c3, c4⟩ := R4.out.r
        have fz := R4.out.k
        have f0 := fz 0
        have f1 := fz 1
        have f2 := fz 2
        have f3 := fz 3
        have f4 := fz 4
        clear fz
        go_wp2_with fail
        clear k0 k1 k2 k3 k4
        have V : Hid (RB w _ a b c d f) := R4.out.put a b c d f
        clear c0 c1 c2 c3 c4 f0 f1 f2 f3 f4 R4
        generalize World.setCell _ _ _ = wz at V ⊢
        obtain ⟨r0, r1, r2, r3, r4⟩ := V.out.r
        exact bodyPost_ret (v := .tuple #[sv a b c d f, .bool true]) (by simp [results, Tryd.results4, go_sem, r0, r1, r2, r3, r4]) rfl ⟨rfl, V.out.b⟩
      · obtain ⟨_, rfl, rfl, rfl, rfl, rfl, rfl⟩ := HB.out.resolve_left (fun h => hts h.2.1)
        have ne : (t.toList != s.toList) = true := str_ne hts
        have ne2 : (t.toList == s.toList) = false := by simpa using ne
        have ne3 : ¬ t.toList = s.toList := by simpa using ne
        clear hts
        obtain ⟨c0, c1, c2, c3, c4⟩ := R4.out.r
        have fz := R4.out.k
        have f0 := fz 0
        have f1 := fz 1
        have f2 := fz 2
        have f3 := fz 3
        have f4 := fz 4
        clear fz
        go_wp2_with fail
        have V : Hid (RB w _ 0 0 0 0 0) := R4.out.put 0 0 0 0 0
        clear c0 c1 c2 c3 c4 f0 f1 f2 f3 f4 R4
        generalize World.setCell _ _ _ = wz at V ⊢
        obtain ⟨r0, r1, r2, r3, r4⟩ := V.out.r
        exact bodyPost_ret (v := .tuple #[sv 0 0 0 0 0, .bool false]) (by simp [results, Tryd.results4, go_sem, r0, r1, r2, r3, r4]) rfl ⟨rfl, V.out.b⟩
end Go.Proofs.YtncjfglljkiblaaDoor.Rs
