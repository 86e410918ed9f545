/- A wind's and a rain's sentence read: the program. -/
import Derived.Test.YtnbhfjcpimdnlaaDoorRp
import Derived.Test.YtnbhfjcpimdnlaaDoorRd
namespace Go.Proofs.YtnbhfjcpimdnlaaDoor.Ph
open Go.ChangeShapes Go.WideShapes Go.ChangeAt Go.RowKit
open Go.Proofs.YtnbhfjcpimdnlaaDoor.Rd (Turn)
def SY (w : World) (r : Nat) (x0 x1 x2 x3 x4 : Int) : Prop := w.heap[r]? = some (.cells #[.int .i64 x0, .int .i64 x1, .int .i64 x2, .int .i64 x3, .int .i64 x4] 23 (0, 0))
theorem SY.lt {w : World} {r : Nat} {x0 x1 x2 x3 x4 : Int} (h : SY w r x0 x1 x2 x3 x4) : r < w.heap.size := lt_of_block h
theorem SY.on {w : World} {r : Nat} {x0 x1 x2 x3 x4 : Int} {w' : World} {B : Nat} (h : SY w r x0 x1 x2 x3 x4) (hb : Below B w w') (hr : r < B) : SY w' r x0 x1 x2 x3 x4 := (hb.block r hr).trans h
theorem SY.new (w : World) (x0 x1 x2 x3 x4 : Int) : SY (w.alloc (.cells #[.int .i64 x0, .int .i64 x1, .int .i64 x2, .int .i64 x3, .int .i64 x4] 23)) w.heap.size x0 x1 x2 x3 x4 := heap_alloc_new w _
theorem SY.keep {w : World} {r : Nat} {x0 x1 x2 x3 x4 : Int} (h : SY w r x0 x1 x2 x3 x4) {r' : Nat} (hne : r ≠ r') (o : Nat) (x : Value) : SY (w.setCell ⟨r', o, none⟩ x) r x0 x1 x2 x3 x4 := (Below.heap_setCell w ⟨r', o, none⟩ x r hne).trans h
theorem SY.cells {w : World} {r : Nat} {x0 x1 x2 x3 x4 : Int} (h : SY w r x0 x1 x2 x3 x4) : w.cell? ⟨r, 0, none⟩ = some (.int .i64 x0) ∧ w.cell? ⟨r, 1, none⟩ = some (.int .i64 x1) ∧ w.cell? ⟨r, 2, none⟩ = some (.int .i64 x2) ∧ w.cell? ⟨r, 3, none⟩ = some (.int .i64 x3) ∧ w.cell? ⟨r, 4, none⟩ = some (.int .i64 x4) ∧ ∀ o, w.frozen? ⟨r, o, none⟩ = false := by
  unfold SY at h
  simp [World.cell?, World.frozen?, h]
theorem SY.s0 {w : World} {r : Nat} {x0 x1 x2 x3 x4 : Int} (h : SY w r x0 x1 x2 x3 x4) (z : Int) : SY (w.setCell ⟨r, 0, none⟩ (.int .i64 z)) r z x1 x2 x3 x4 := by
  have hlt := h.lt
  unfold SY at h ⊢
  have h' : w.heap[r] = .cells #[.int .i64 x0, .int .i64 x1, .int .i64 x2, .int .i64 x3, .int .i64 x4] 23 (0, 0) := by simpa [Array.getElem?_eq_getElem hlt] using h
  show (w.heap.modify r _)[r]? = _
  rw [Array.getElem?_eq_getElem (by simpa using hlt), Array.getElem_modify_self, h']
  rfl
theorem SY.s1 {w : World} {r : Nat} {x0 x1 x2 x3 x4 : Int} (h : SY w r x0 x1 x2 x3 x4) (z : Int) : SY (w.setCell ⟨r, 1, none⟩ (.int .i64 z)) r x0 z x2 x3 x4 := by
  have hlt := h.lt
  unfold SY at h ⊢
  have h' : w.heap[r] = .cells #[.int .i64 x0, .int .i64 x1, .int .i64 x2, .int .i64 x3, .int .i64 x4] 23 (0, 0) := by simpa [Array.getElem?_eq_getElem hlt] using h
  show (w.heap.modify r _)[r]? = _
  rw [Array.getElem?_eq_getElem (by simpa using hlt), Array.getElem_modify_self, h']
  rfl
theorem SY.s2 {w : World} {r : Nat} {x0 x1 x2 x3 x4 : Int} (h : SY w r x0 x1 x2 x3 x4) (z : Int) : SY (w.setCell ⟨r, 2, none⟩ (.int .i64 z)) r x0 x1 z x3 x4 := by
  have hlt := h.lt
  unfold SY at h ⊢
  have h' : w.heap[r] = .cells #[.int .i64 x0, .int .i64 x1, .int .i64 x2, .int .i64 x3, .int .i64 x4] 23 (0, 0) := by simpa [Array.getElem?_eq_getElem hlt] using h
  show (w.heap.modify r _)[r]? = _
  rw [Array.getElem?_eq_getElem (by simpa using hlt), Array.getElem_modify_self, h']
  rfl
theorem SY.s3 {w : World} {r : Nat} {x0 x1 x2 x3 x4 : Int} (h : SY w r x0 x1 x2 x3 x4) (z : Int) : SY (w.setCell ⟨r, 3, none⟩ (.int .i64 z)) r x0 x1 x2 z x4 := by
  have hlt := h.lt
  unfold SY at h ⊢
  have h' : w.heap[r] = .cells #[.int .i64 x0, .int .i64 x1, .int .i64 x2, .int .i64 x3, .int .i64 x4] 23 (0, 0) := by simpa [Array.getElem?_eq_getElem hlt] using h
  show (w.heap.modify r _)[r]? = _
  rw [Array.getElem?_eq_getElem (by simpa using hlt), Array.getElem_modify_self, h']
  rfl
theorem SY.s4 {w : World} {r : Nat} {x0 x1 x2 x3 x4 : Int} (h : SY w r x0 x1 x2 x3 x4) (z : Int) : SY (w.setCell ⟨r, 4, none⟩ (.int .i64 z)) r x0 x1 x2 x3 z := by
  have hlt := h.lt
  unfold SY at h ⊢
  have h' : w.heap[r] = .cells #[.int .i64 x0, .int .i64 x1, .int .i64 x2, .int .i64 x3, .int .i64 x4] 23 (0, 0) := by simpa [Array.getElem?_eq_getElem hlt] using h
  show (w.heap.modify r _)[r]? = _
  rw [Array.getElem?_eq_getElem (by simpa using hlt), Array.getElem_modify_self, h']
  rfl
theorem SY.all {w : World} {r : Nat} {x0 x1 x2 x3 x4 : Int} (h : SY w r x0 x1 x2 x3 x4) (y0 y1 y2 y3 y4 : Int) : SY (((((w.setCell ⟨r, 0, none⟩ (.int .i64 y0)).setCell ⟨r, 1, none⟩ (.int .i64 y1)).setCell ⟨r, 2, none⟩ (.int .i64 y2)).setCell ⟨r, 3, none⟩ (.int .i64 y3)).setCell ⟨r, 4, none⟩ (.int .i64 y4)) r y0 y1 y2 y3 y4 := (((((h.s0 y0).s1 y1).s2 y2).s3 y3).s4 y4)

theorem ext_drop (q : List UInt8) (k m : Nat) (h : m = q.length) : (⟨q.toArray⟩ : ByteArray).extract k m = ⟨(q.drop k).toArray⟩ := by
  subst h; apply WideShapes.bytes_inj; rw [ByteArray.data_extract]; simp; exact List.take_of_length_le (by simp)
set_option maxHeartbeats 1000000 in
theorem cutlite (s p : List UInt8) (w : World) (hs : s.length ≤ 2000000) : Calls Tryd.prog 43 #[.string ⟨s.toArray⟩, .string ⟨p.toArray⟩] w fun e w' => e = .returned (.tuple #[.string ⟨(if Lib.hasPrefix s p = true then s.drop p.length else s).toArray⟩, .bool (Lib.hasPrefix s p)]) ∧ w' = w := by
  have H := Tryd.stringslite_HasPrefix ⟨s.toArray⟩ ⟨p.toArray⟩ w
  have HH : Hid (Calls Tryd.prog 54 #[.string ⟨s.toArray⟩, .string ⟨p.toArray⟩] w fun e w' => e = .returned (.bool (Lib.hasPrefix s p)) ∧ w' = w) := H
  clear H
  cases hp : Lib.hasPrefix s p
  · rw [hp] at HH
    rw [if_neg (by decide)]
    go_enter Tryd.func43, Tryd.ntmps43
    go_wp2_with fail
    refine HH.out.mono ?_
    rintro e w1 ⟨rfl, hw⟩
    subst hw
    go_wp2_with fail
    go_ret2
    exact ⟨rfl, rfl⟩
  · rw [hp] at HH
    rw [if_pos rfl]
    have hl : p.length ≤ s.length := by
      unfold Lib.hasPrefix at hp
      rw [List.isPrefixOf_iff_prefix] at hp
      exact hp.length_le
    obtain ⟨S, hS⟩ : ∃ S : ByteArray, S = ⟨s.toArray⟩ := ⟨_, rfl⟩
    obtain ⟨Q, hQ⟩ : ∃ Q : ByteArray, Q = ⟨p.toArray⟩ := ⟨_, rfl⟩
    obtain ⟨D, hD⟩ : ∃ D : ByteArray, D = ⟨(s.drop p.length).toArray⟩ := ⟨_, rfl⟩
    have sS : S.size = s.length := by rw [hS]; simp [ByteArray.size]
    have sQ : Q.size = p.length := by rw [hQ]; simp [ByteArray.size]
    have ex : S.extract Q.size S.size = D := by rw [sQ, sS, hS, hD]; exact ext_drop s p.length _ rfl
    rw [← hS, ← hQ] at HH ⊢
    rw [← hD]
    have g1 : (Q.size : Int) ≤ (S.size : Int) := by omega
    have g2 : S.size ≤ 2000000 := by omega
    clear hS hQ hD hp hl hs sS sQ
    go_enter Tryd.func43, Tryd.ntmps43
    go_wp2_with fail
    refine HH.out.mono ?_
    rintro e w1 ⟨rfl, hw⟩
    subst hw
    go_wp2_with fail
    go_ret2
    exact ⟨by rw [← ex]; rfl, rfl⟩
set_option maxHeartbeats 1000000 in
theorem cutpre (s p : List UInt8) (w : World) (hs : s.length ≤ 2000000) : Calls Tryd.prog 35 #[.string ⟨s.toArray⟩, .string ⟨p.toArray⟩] w fun e w' => e = .returned (.tuple #[.string ⟨(if Lib.hasPrefix s p = true then s.drop p.length else s).toArray⟩, .bool (Lib.hasPrefix s p)]) ∧ w' = w := by
  have H : Hid (Calls Tryd.prog 43 #[.string ⟨s.toArray⟩, .string ⟨p.toArray⟩] w fun e w' => e = .returned (.tuple #[.string ⟨(if Lib.hasPrefix s p = true then s.drop p.length else s).toArray⟩, .bool (Lib.hasPrefix s p)]) ∧ w' = w) := cutlite s p w hs
  generalize (if Lib.hasPrefix s p = true then s.drop p.length else s) = x at *
  generalize Lib.hasPrefix s p = b at *
  go_enter Tryd.func35, Tryd.ntmps35
  go_wp2_with fail
  refine H.out.mono ?_
  rintro e w1 ⟨rfl, hw⟩
  subst hw
  go_wp2_with fail
  go_ret2
  exact ⟨rfl, rfl⟩
set_option maxHeartbeats 1000000 in
theorem numeral (s : List UInt8) (w : World) (hs : s.length ≤ 2000000) : Calls Tryd.prog 36 #[.string ⟨s.toArray⟩] w fun e w' => e = .returned (.int .i64 (num s)) ∧ w' = w := by
  unfold num
  obtain ⟨S, hS⟩ : ∃ S : ByteArray, S = ⟨s.toArray⟩ := ⟨_, rfl⟩
  have sS : S.size = s.length := by rw [hS]; simp [ByteArray.size]
  rw [← hS]
  by_cases h : 3 < s.length
  · rw [if_pos h]
    have g : (3 : Int) < (S.size : Int) := by omega
    clear hS sS
    go_enter Tryd.func36, Tryd.ntmps36
    go_wp2_with fail
    go_ret
    exact ⟨rfl, rfl⟩
  · rw [if_neg h]
    have g : ¬ (3 : Int) < (S.size : Int) := by omega
    have C : Hid (Calls Tryd.prog 44 #[.string S] w fun e w' => e = .returned (.int .i64 (Fig.fig S)) ∧ w' = w) := Fig.ifig S w (by omega)
    clear hS sS
    generalize Fig.fig S = n at *
    go_enter Tryd.func36, Tryd.ntmps36
    go_wp2_with fail
    refine C.out.mono ?_
    rintro e w1 ⟨rfl, hw⟩
    subst hw
    go_wp2_with fail
    go_ret
    exact ⟨rfl, rfl⟩
theorem cut_any (s p : List UInt8) (w : World) (hT : Tb w) (hs : s.length ≤ 2000000) : Calls Tryd.prog 19 #[.string ⟨s.toArray⟩, .string ⟨p.toArray⟩] w fun e w' => e = .returned (.tuple #[.string ⟨(cutp s p).1.toArray⟩, .string ⟨(cutp s p).2.1.toArray⟩, .bool (cutp s p).2.2]) ∧ Below w.heap.size w w' := by
  obtain ⟨m, hm⟩ := hT.2.2
  refine (Tryd.strings_Cut ⟨s.toArray⟩ ⟨p.toArray⟩ m w (by simp [ByteArray.size]; omega) hm).mono ?_
  rintro e w' ⟨rfl, n, rfl⟩
  have e1 : Lib.cut (⟨s.toArray⟩ : ByteArray).data.toList (⟨p.toArray⟩ : ByteArray).data.toList = cutp s p := by simp [cut_p]
  rw [e1]
  exact ⟨rfl, ⟨rfl, rfl, rfl, Nat.le_refl _, fun _ _ => rfl⟩⟩
theorem cutp_len (s p : List UInt8) : (cutp s p).1.length ≤ s.length ∧ (cutp s p).2.1.length ≤ s.length := by
  unfold cutp
  split
  · simp; omega
  · simp
theorem Tb.turn {b : Nat} {w w' : World} (h : Tb w) (t : Turn b w w') (hb : 1 < b) : Tb w' := by
  obtain ⟨m, e⟩ := h.2.2
  exact ⟨var?_below t.bel gP hb h.1, Nat.lt_of_lt_of_le h.2.1 t.size, m, (t.bel.cell (p := ⟨0, 0, none⟩) (by show 0 < b; omega)).trans e⟩
theorem turn_of {b : Nat} {w w1 w2 : World} (t : Turn b w w1) (hb : Below w1.heap.size w1 w2) (hl : b < w1.heap.size) : Turn b w w2 := t.trans (Turn.of hb (Nat.le_refl _) (Nat.le_of_lt hl))
theorem blk_turn {r k : Nat} {w w' : World} {o : Obj} (h : w.heap[k]? = some o) (t : Turn r w w') (hk : k ≠ r) : w'.heap[k]? = some o := by
  have hlt := lt_of_block h
  rw [← h]
  by_cases hb : k < r
  · exact t.bel.block k hb
  · exact t.abv k (by omega) hlt
theorem turn_set {b : Nat} {w w1 : World} (t : Turn b w w1) (o : Nat) (x : Value) : Turn b w (w1.setCell ⟨b, o, none⟩ x) :=
  ⟨t.bel.setCell (p := ⟨b, o, none⟩) (Nat.le_refl _) _, fun k h1 h2 => (Below.heap_setCell w1 ⟨b, o, none⟩ x k (by show k ≠ b; omega)).trans (t.abv k h1 h2)⟩
theorem drop_len (x p : List UInt8) (b : Bool) : (if b = true then x.drop p.length else x).length ≤ x.length := by split <;> simp
/-- the lexicon's box -/
def LXB (G : Nat → List UInt8) (w : World) (g : Nat) : Prop := w.heap[g]? = some (.cells #[.string ⟨(G 0).toArray⟩, .string ⟨(G 1).toArray⟩, .string ⟨(G 2).toArray⟩, .string ⟨(G 3).toArray⟩, .string ⟨(G 4).toArray⟩, .string ⟨(G 5).toArray⟩, .string ⟨(G 6).toArray⟩, .string ⟨(G 7).toArray⟩, .string ⟨(G 8).toArray⟩, .string ⟨(G 9).toArray⟩, .string ⟨(G 10).toArray⟩, .string ⟨(G 11).toArray⟩, .string ⟨(G 12).toArray⟩, .string ⟨(G 13).toArray⟩, .string ⟨(G 14).toArray⟩, .string ⟨(G 15).toArray⟩, .string ⟨(G 16).toArray⟩, .string ⟨(G 17).toArray⟩, .string ⟨(G 18).toArray⟩, .string ⟨(G 19).toArray⟩] 42)
theorem lx_cell {G : Nat → List UInt8} {w' : World} {g i : Nat} (h : LXB G w' g) (hi : i < 20) : w'.cell? ⟨g, i, none⟩ = some (.string ⟨(G i).toArray⟩) := by
  unfold LXB at h
  rcases (by omega : i = 0 ∨ i = 1 ∨ i = 2 ∨ i = 3 ∨ i = 4 ∨ i = 5 ∨ i = 6 ∨ i = 7 ∨ i = 8 ∨ i = 9 ∨ i = 10 ∨ i = 11 ∨ i = 12 ∨ i = 13 ∨ i = 14 ∨ i = 15 ∨ i = 16 ∨ i = 17 ∨ i = 18 ∨ i = 19) with rfl | rfl | rfl | rfl | rfl | rfl | rfl | rfl | rfl | rfl | rfl | rfl | rfl | rfl | rfl | rfl | rfl | rfl | rfl | rfl
  all_goals simp [World.cell?, h]
theorem two_words (w : World) (a b : List UInt8) : ∀ (j : Nat) x, [a, b][j]? = some x → (w.alloc (.cells #[.string ⟨a.toArray⟩, .string ⟨b.toArray⟩] 9)).cell? ⟨w.heap.size, j, none⟩ = some (.string ⟨x.toArray⟩) := by
  intro j x hj
  have hj' := (List.getElem?_eq_some_iff.1 hj).1
  simp at hj'
  rcases (by omega : j = 0 ∨ j = 1) with rfl | rfl
  all_goals
    simp at hj
    subst hj
    simp [go_sem]
theorem join2 (a b : List UInt8) (w : World) (h : a.length + b.length ≤ 5000) : Calls Tryd.prog 28 #[.slice (some ⟨w.heap.size, 0, none⟩) 2 2] (w.alloc (.cells #[.string ⟨a.toArray⟩, .string ⟨b.toArray⟩] 9)) fun e w' => e = .returned (.string ⟨(a ++ b).toArray⟩) ∧ Below (w.alloc (.cells #[.string ⟨a.toArray⟩, .string ⟨b.toArray⟩] 9)).heap.size (w.alloc (.cells #[.string ⟨a.toArray⟩, .string ⟨b.toArray⟩] 9)) w' := by
  have := joined_any w.heap.size 2 2 [a, b] _ rfl (two_words w a b) (by simp) (by simp) (by simp) (by simp; omega)
  simpa using this
set_option maxRecDepth 20000 in
set_option maxHeartbeats 4000000 in
theorem rwind (G : Nat → List UInt8) (hG : ∀ i, (G i).length ≤ 40) (W : List UInt8) (hW : W.length ≤ 2000000) (b : Nat) (r p : Int) (w : World) (hT : Tb w) (hb1 : 1 < b) (hS : SY w b 0 0 0 r p) :
    Calls Tryd.prog 20 #[.agg #[.string ⟨(G 0).toArray⟩, .string ⟨(G 1).toArray⟩, .string ⟨(G 2).toArray⟩, .string ⟨(G 3).toArray⟩, .string ⟨(G 4).toArray⟩, .string ⟨(G 5).toArray⟩, .string ⟨(G 6).toArray⟩, .string ⟨(G 7).toArray⟩, .string ⟨(G 8).toArray⟩, .string ⟨(G 9).toArray⟩, .string ⟨(G 10).toArray⟩, .string ⟨(G 11).toArray⟩, .string ⟨(G 12).toArray⟩, .string ⟨(G 13).toArray⟩, .string ⟨(G 14).toArray⟩, .string ⟨(G 15).toArray⟩, .string ⟨(G 16).toArray⟩, .string ⟨(G 17).toArray⟩, .string ⟨(G 18).toArray⟩, .string ⟨(G 19).toArray⟩], .string ⟨W.toArray⟩, .pointer (some ⟨b, 0, none⟩)] w fun e w' => (∃ v, e = .returned v) ∧ SY w' b (rwd G W).1 (rwd G W).2.1 (rwd G W).2.2 r p ∧ Turn b w w' := by
  have bl := hS.lt
  obtain ⟨w0, hw0⟩ : ∃ w0, w0 = w.alloc (.cells #[.string ⟨(G 0).toArray⟩, .string ⟨(G 1).toArray⟩, .string ⟨(G 2).toArray⟩, .string ⟨(G 3).toArray⟩, .string ⟨(G 4).toArray⟩, .string ⟨(G 5).toArray⟩, .string ⟨(G 6).toArray⟩, .string ⟨(G 7).toArray⟩, .string ⟨(G 8).toArray⟩, .string ⟨(G 9).toArray⟩, .string ⟨(G 10).toArray⟩, .string ⟨(G 11).toArray⟩, .string ⟨(G 12).toArray⟩, .string ⟨(G 13).toArray⟩, .string ⟨(G 14).toArray⟩, .string ⟨(G 15).toArray⟩, .string ⟨(G 16).toArray⟩, .string ⟨(G 17).toArray⟩, .string ⟨(G 18).toArray⟩, .string ⟨(G 19).toArray⟩] 42) := ⟨_, rfl⟩
  have HW0 : Hid (w0 = w.alloc (.cells #[.string ⟨(G 0).toArray⟩, .string ⟨(G 1).toArray⟩, .string ⟨(G 2).toArray⟩, .string ⟨(G 3).toArray⟩, .string ⟨(G 4).toArray⟩, .string ⟨(G 5).toArray⟩, .string ⟨(G 6).toArray⟩, .string ⟨(G 7).toArray⟩, .string ⟨(G 8).toArray⟩, .string ⟨(G 9).toArray⟩, .string ⟨(G 10).toArray⟩, .string ⟨(G 11).toArray⟩, .string ⟨(G 12).toArray⟩, .string ⟨(G 13).toArray⟩, .string ⟨(G 14).toArray⟩, .string ⟨(G 15).toArray⟩, .string ⟨(G 16).toArray⟩, .string ⟨(G 17).toArray⟩, .string ⟨(G 18).toArray⟩, .string ⟨(G 19).toArray⟩] 42)) := hw0
  have b0 : Below w.heap.size w w0 := by rw [hw0]; exact (Below.refl _ _).alloc (Nat.le_refl _) _
  have T0 : Hid (Turn b w w0) := Turn.of b0 (Nat.le_refl _) (Nat.le_of_lt bl)
  have L0 : Hid (LXB G w0 w.heap.size) := (by show LXB _ _ _; rw [hw0]; exact heap_alloc_new w _)
  have S0 : Hid (SY w0 b 0 0 0 r p) := hS.on b0 bl
  have TB : Hid (∀ w', Turn b w w' → Tb w') := fun w' t => hT.turn t hb1
  have CU : Hid (∀ (x : List UInt8) w', x.length ≤ 40 → Turn b w w' → Calls Tryd.prog 19 #[.string ⟨W.toArray⟩, .string ⟨x.toArray⟩] w' fun e w'' => e = .returned (.tuple #[.string ⟨(cutp W x).1.toArray⟩, .string ⟨(cutp W x).2.1.toArray⟩, .bool (cutp W x).2.2]) ∧ Below w'.heap.size w' w'') := fun x w' _ t => cut_any W x w' (TB.out w' t) hW
  have gne : w.heap.size ≠ b := by omega
  have XL : Hid (∀ w' i, i < 20 → LXB G w' w.heap.size → w'.cell? ⟨w.heap.size, i, none⟩ = some (.string ⟨(G i).toArray⟩)) := fun w' i hi h => lx_cell h hi
  have IX : Hid (∀ k : Nat, k < 8 → ∀ w', (Instr.index 39 (.agg #[.string ⟨(G 2).toArray⟩, .string ⟨(G 3).toArray⟩, .string ⟨(G 4).toArray⟩, .string ⟨(G 5).toArray⟩, .string ⟨(G 6).toArray⟩, .string ⟨(G 7).toArray⟩, .string ⟨(G 8).toArray⟩, .string ⟨(G 9).toArray⟩]) (.int .i64 k)).run Tryd.prog w' = .ok (.string ⟨(G (2 + k)).toArray⟩) w') := fun k hk w' => (by
    rcases (by omega : k = 0 ∨ k = 1 ∨ k = 2 ∨ k = 3 ∨ k = 4 ∨ k = 5 ∨ k = 6 ∨ k = 7) with rfl | rfl | rfl | rfl | rfl | rfl | rfl | rfl
    all_goals rfl)
  have J3 : Hid (∀ (k : Nat) (X : World), Calls Tryd.prog 28 #[.slice (some ⟨X.heap.size, 0, none⟩) 3 3] (X.alloc (.cells #[.string ⟨(G 1).toArray⟩, .string ⟨(G (2 + k)).toArray⟩, .string ⟨(G 10).toArray⟩] 9)) fun e w' => e = .returned (.string ⟨(pfx G k).toArray⟩) ∧ Below (X.alloc (.cells #[.string ⟨(G 1).toArray⟩, .string ⟨(G (2 + k)).toArray⟩, .string ⟨(G 10).toArray⟩] 9)).heap.size (X.alloc (.cells #[.string ⟨(G 1).toArray⟩, .string ⟨(G (2 + k)).toArray⟩, .string ⟨(G 10).toArray⟩] 9)) w') := fun k X => join3 (G 1) (G (2 + k)) (G 10) X (by have := hG 1; have := hG (2 + k); have := hG 10; omega)
  have g11 := hG 11
  have g12 := hG 12
  clear hT hS b0 hw0 hG
  obtain ⟨NW, hNW⟩ : ∃ x, x = (cutW G W).1 := ⟨_, rfl⟩
  obtain ⟨AF, hAF⟩ : ∃ x, x = (cutW G W).2.1 := ⟨_, rfl⟩
  obtain ⟨CH, hCH⟩ : ∃ x, x = (cutW G W).2.2 := ⟨_, rfl⟩
  have lN : NW.length ≤ 2000000 := by rw [hNW]; unfold cutW; split <;> exact Nat.le_trans (cutp_len _ _).1 hW
  have lA : AF.length ≤ 2000000 := by rw [hAF]; unfold cutW; split <;> exact Nat.le_trans (cutp_len _ _).2 hW
  have CY : Hid ((cutp W (G 11)).2.2 = true → (cutp W (G 11)).1 = NW ∧ (cutp W (G 11)).2.1 = AF ∧ CH = true) := fun h => (by
    have e : cutW G W = cutp W (G 11) := by unfold cutW; rw [if_pos h]
    rw [hNW, hAF, hCH, e]; exact ⟨rfl, rfl, h⟩)
  have CN : Hid ((cutp W (G 11)).2.2 = false → (cutp W (G 12)).1 = NW ∧ (cutp W (G 12)).2.1 = AF ∧ (cutp W (G 12)).2.2 = CH) := fun h => (by
    have e : cutW G W = cutp W (G 12) := by unfold cutW; rw [if_neg (by rw [h]; decide)]
    rw [hNW, hAF, hCH, e]; exact ⟨rfl, rfl, rfl⟩)
  have RW : Hid (rwd G W = ((dfs G NW 8).1, (dfs G NW 8).2, if CH = true then num AF else (dfs G NW 8).2)) := (by show _ = _; unfold rwd; rw [hNW, hAF, hCH])
  obtain ⟨dd, hdd⟩ : ∃ x, (dfs G NW 8).1 = x := ⟨_, rfl⟩
  obtain ⟨ff, hff⟩ : ∃ x, (dfs G NW 8).2 = x := ⟨_, rfl⟩
  obtain ⟨na, hna⟩ : ∃ x, num AF = x := ⟨_, rfl⟩
  rw [RW.out, hdd, hff, hna]
  have HDD : Hid ((dfs G NW 8).1 = dd ∧ (dfs G NW 8).2 = ff ∧ num AF = na) := ⟨hdd, hff, hna⟩
  clear hNW hAF hCH RW hdd hff hna
  have x11 := XL.out w0 11 (by omega) L0.out
  go_enter Tryd.func20, Tryd.ntmps20
  go_upto_region 1 with fail
  rw [← HW0.out]
  go_wp2_with fail
  refine (CU.out (G 11) w0 g11 T0.out).mono ?_
  rintro e w1 ⟨rfl, b1⟩
  have z0 := S0.out.lt
  have T1 : Hid (Turn b w w1) := turn_of T0.out b1 z0
  have L1 : Hid (LXB G w1 w.heap.size) := (b1.block _ (lt_of_block L0.out)).trans L0.out
  have S1 : Hid (SY w1 b 0 0 0 r p) := S0.out.on b1 z0
  clear b1 z0 x11 T0 L0 S0 HW0
  generalize (cutp W (G 11)).1 = n1 at *
  generalize (cutp W (G 11)).2.1 = a1 at *
  generalize (cutp W (G 11)).2.2 = f1 at *
  go_upto_if 22 with fail
  go_cut [6, 7, 8] (fun x6 x7 x8 wx => x6 = .string ⟨NW.toArray⟩ ∧ x7 = .string ⟨AF.toArray⟩ ∧ x8 = .bool CH ∧ Hid (SY wx b 0 0 0 r p) ∧ Hid (LXB G wx w.heap.size) ∧ Hid (Turn b w wx))
  case first =>
    cases f1
    · have x12 := XL.out w1 12 (by omega) L1.out
      go_wp2_with fail
      refine (CU.out (G 12) w1 g12 T1.out).mono ?_
      rintro e w2 ⟨rfl, b2⟩
      have z1 := S1.out.lt
      have T2 : Hid (Turn b w w2) := turn_of T1.out b2 z1
      have L2 : Hid (LXB G w2 w.heap.size) := (b2.block _ (lt_of_block L1.out)).trans L1.out
      have S2 : Hid (SY w2 b 0 0 0 r p) := S1.out.on b2 z1
      obtain ⟨q1, q2, q3⟩ := CN.out (by first | exact trivial | rfl)
      rw [q1, q2, q3]
      clear b2 x12 q1 q2 q3
      go_wp2_with fail
      go_meet
      exact ⟨rfl, rfl, rfl, S2, L2, T2⟩
    · obtain ⟨q1, q2, q3⟩ := CY.out (by first | exact trivial | rfl)
      subst q1 q2 q3
      go_wp2_with fail
      go_meet
      exact ⟨rfl, rfl, rfl, S1, L1, T1⟩
  case rest =>
    obtain ⟨rfl, rfl, rfl, hS, hL, hT⟩ := hcut
    have y2 := XL.out wc 2 (by omega) hL.out
    have y3 := XL.out wc 3 (by omega) hL.out
    have y4 := XL.out wc 4 (by omega) hL.out
    have y5 := XL.out wc 5 (by omega) hL.out
    have y6 := XL.out wc 6 (by omega) hL.out
    have y7 := XL.out wc 7 (by omega) hL.out
    have y8 := XL.out wc 8 (by omega) hL.out
    have y9 := XL.out wc 9 (by omega) hL.out
    clear S1 L1 T1 CY CN CU
    go_wp2_with fail
    clear y2 y3 y4 y5 y6 y7 y8 y9
    go_loopw [33] (fun i wr => ∃ k : Nat, k ≤ 8 ∧ i = .int .i64 k ∧ Hid (SY wr b (dfs G NW k).1 (dfs G NW k).2 0 r p) ∧ Hid (LXB G wr w.heap.size) ∧ Hid (Turn b w wr)) (fun i _ => 8 - (intOf i).toNat)
    case atStart => exact ⟨0, Nat.zero_le _, rfl, hS, hL, hT⟩
    case round =>
      obtain ⟨k, hk, rfl, SK, LK, TK⟩ := hrel
      by_cases hlt : k < 8
      · have i2 : (k : Int) < 8 := by omega
        have ix := IX.out k hlt
        have x1 := XL.out wr 1 (by omega) LK.out
        have x10 := XL.out wr 10 (by omega) LK.out
        have DN : Hid (Lib.hasPrefix NW (pfx G k) = false → dfs G NW (k + 1) = dfs G NW k) := fun h => (by show (if _ then _ else _) = _; rw [if_neg (by rw [h]; decide)])
        have DY : Hid (Lib.hasPrefix NW (pfx G k) = true → dfs G NW (k + 1) = ((k : Int) + 1, num (NW.drop (pfx G k).length))) := fun h => (by show (if _ then _ else _) = _; rw [if_pos h])
        go_wp2_with fail
        refine (J3.out k wr).mono ?_
        rintro e w5 ⟨rfl, b5⟩
        have b5' : Below wr.heap.size wr w5 := ((Below.refl _ _).alloc (Nat.le_refl _) _).trans (b5.mono (by simp))
        have zk := SK.out.lt
        have T5 : Hid (Turn b w w5) := turn_of TK.out b5' zk
        have L5 : Hid (LXB G w5 w.heap.size) := (b5'.block _ (lt_of_block LK.out)).trans LK.out
        have S5 : Hid (SY w5 b (dfs G NW k).1 (dfs G NW k).2 0 r p) := SK.out.on b5' zk
        have CP : Hid (Calls Tryd.prog 35 #[.string ⟨NW.toArray⟩, .string ⟨(pfx G k).toArray⟩] w5 fun e w' => e = .returned (.tuple #[.string ⟨(if Lib.hasPrefix NW (pfx G k) = true then NW.drop (pfx G k).length else NW).toArray⟩, .bool (Lib.hasPrefix NW (pfx G k))]) ∧ w' = w5) := cutpre NW (pfx G k) w5 lN
        have ld : (NW.drop (pfx G k).length).length ≤ 2000000 := by simp; omega
        clear b5 b5' x1 x10 ix SK LK TK
        generalize pfx G k = PX at *
        go_wp2_with fail
        cases hp : Lib.hasPrefix NW PX
        · rw [hp, if_neg (by decide)] at CP
          refine CP.out.mono ?_
          rintro e w6 ⟨rfl, hw⟩
          have hw' := hw.symm
          subst hw'
          have S6 : Hid (SY w5 b (dfs G NW (k + 1)).1 (dfs G NW (k + 1)).2 0 r p) := (by rw [DN.out hp]; exact S5)
          clear S5
          go_wp2_with fail
          go_roundw
          case rel => exact ⟨k + 1, by omega, by go_num, S6, L5, T5⟩
          case measure => simp [intOf]; omega
        · rw [hp, if_pos rfl] at CP
          have NU : Hid (Calls Tryd.prog 36 #[.string ⟨(NW.drop PX.length).toArray⟩] w5 fun e w' => e = .returned (.int .i64 (num (NW.drop PX.length))) ∧ w' = w5) := numeral _ w5 ld
          have e2 := DY.out hp
          generalize NW.drop PX.length = D at *
          generalize num D = nd at *
          have S6 : Hid (SY ((w5.setCell ⟨b, 0, none⟩ (.int .i64 ((k : Int) + 1))).setCell ⟨b, 1, none⟩ (.int .i64 nd)) b (dfs G NW (k + 1)).1 (dfs G NW (k + 1)).2 0 r p) := (by rw [e2]; exact (S5.out.s0 _).s1 _)
          have L6 : Hid (LXB G ((w5.setCell ⟨b, 0, none⟩ (.int .i64 ((k : Int) + 1))).setCell ⟨b, 1, none⟩ (.int .i64 nd)) w.heap.size) := (Below.heap_setCell _ ⟨b, 1, none⟩ _ w.heap.size gne).trans ((Below.heap_setCell _ ⟨b, 0, none⟩ _ w.heap.size gne).trans L5.out)
          have T6 : Hid (Turn b w ((w5.setCell ⟨b, 0, none⟩ (.int .i64 ((k : Int) + 1))).setCell ⟨b, 1, none⟩ (.int .i64 nd))) := turn_set (turn_set T5.out _ _) _ _
          obtain ⟨c0, c1, c2, c3, c4, cf⟩ := S5.out.cells
          have f0 := cf 0
          have f1 := cf 1
          clear e2 cf hp
          refine CP.out.mono ?_
          rintro e w6 ⟨rfl, hw⟩
          have hw' := hw.symm
          subst hw'
          go_wp2_with fail
          refine NU.out.mono ?_
          rintro e w6 ⟨rfl, hw⟩
          have hw' := hw.symm
          subst hw'
          go_wp2_with fail
          go_roundw
          case rel => exact ⟨k + 1, by omega, by go_num, S6, L6, T6⟩
          case measure => simp [intOf]; omega
      · have e : k = 8 := by omega
        subst e
        rw [HDD.out.1, HDD.out.2.1] at SK
        obtain ⟨c0, c1, c2, c3, c4, cf⟩ := SK.out.cells
        have f2 := cf 2
        have NU : Hid (∀ w', Calls Tryd.prog 36 #[.string ⟨AF.toArray⟩] w' fun e w'' => e = .returned (.int .i64 na) ∧ w'' = w') := fun w' => (by rw [← HDD.out.2.2]; exact numeral AF w' lA)
        clear cf
        obtain ⟨w7, hw7⟩ : ∃ w7, w7 = wr.setCell ⟨b, 2, none⟩ (.int .i64 ff) := ⟨_, rfl⟩
        have HW7 : Hid (w7 = wr.setCell ⟨b, 2, none⟩ (.int .i64 ff)) := hw7
        have S7 : Hid (SY w7 b dd ff ff r p) := (by show SY _ _ _ _ _ _ _; rw [hw7]; exact SK.out.s2 _)
        have T7 : Hid (Turn b w w7) := (by show Turn _ _ _; rw [hw7]; exact turn_set TK.out _ _)
        clear hw7
        go_upto_region 12 with fail
        rw [← HW7.out]
        clear HW7 c0 c1 c2 c3 c4 f2
        cases CH
        · go_wp2_with fail
          go_end0
          exact ⟨⟨_, rfl⟩, S7.out, T7.out⟩
        · obtain ⟨c0, c1, c2, c3, c4, cf⟩ := S7.out.cells
          have f2 := cf 2
          clear cf
          have S8 : Hid (SY (w7.setCell ⟨b, 2, none⟩ (.int .i64 na)) b dd ff na r p) := S7.out.s2 _
          have T8 : Hid (Turn b w (w7.setCell ⟨b, 2, none⟩ (.int .i64 na))) := turn_set T7.out _ _
          go_wp2_with fail
          refine (NU.out _).mono ?_
          rintro e w8 ⟨rfl, hw⟩
          have hw' := hw.symm
          subst hw'
          go_wp2_with fail
          go_end0
          exact ⟨⟨_, rfl⟩, S8.out, T8.out⟩
set_option maxRecDepth 20000 in
set_option maxHeartbeats 4000000 in
theorem rrain (G : Nat → List UInt8) (hG : ∀ i, (G i).length ≤ 40) (W : List UInt8) (hW : W.length ≤ 2000000) (b : Nat) (d f l : Int) (w : World) (hT : Tb w) (hb1 : 1 < b) (hS : SY w b d f l 0 0) :
    Calls Tryd.prog 21 #[.agg #[.string ⟨(G 0).toArray⟩, .string ⟨(G 1).toArray⟩, .string ⟨(G 2).toArray⟩, .string ⟨(G 3).toArray⟩, .string ⟨(G 4).toArray⟩, .string ⟨(G 5).toArray⟩, .string ⟨(G 6).toArray⟩, .string ⟨(G 7).toArray⟩, .string ⟨(G 8).toArray⟩, .string ⟨(G 9).toArray⟩, .string ⟨(G 10).toArray⟩, .string ⟨(G 11).toArray⟩, .string ⟨(G 12).toArray⟩, .string ⟨(G 13).toArray⟩, .string ⟨(G 14).toArray⟩, .string ⟨(G 15).toArray⟩, .string ⟨(G 16).toArray⟩, .string ⟨(G 17).toArray⟩, .string ⟨(G 18).toArray⟩, .string ⟨(G 19).toArray⟩], .string ⟨W.toArray⟩, .pointer (some ⟨b, 0, none⟩)] w fun e w' => (∃ v, e = .returned v) ∧ SY w' b d f l (rrn G W 3).1 (rrn G W 3).2 ∧ Turn b w w' := by
  have bl := hS.lt
  obtain ⟨w0, hw0⟩ : ∃ w0, w0 = w.alloc (.cells #[.string ⟨(G 0).toArray⟩, .string ⟨(G 1).toArray⟩, .string ⟨(G 2).toArray⟩, .string ⟨(G 3).toArray⟩, .string ⟨(G 4).toArray⟩, .string ⟨(G 5).toArray⟩, .string ⟨(G 6).toArray⟩, .string ⟨(G 7).toArray⟩, .string ⟨(G 8).toArray⟩, .string ⟨(G 9).toArray⟩, .string ⟨(G 10).toArray⟩, .string ⟨(G 11).toArray⟩, .string ⟨(G 12).toArray⟩, .string ⟨(G 13).toArray⟩, .string ⟨(G 14).toArray⟩, .string ⟨(G 15).toArray⟩, .string ⟨(G 16).toArray⟩, .string ⟨(G 17).toArray⟩, .string ⟨(G 18).toArray⟩, .string ⟨(G 19).toArray⟩] 42) := ⟨_, rfl⟩
  have HW0 : Hid (w0 = w.alloc (.cells #[.string ⟨(G 0).toArray⟩, .string ⟨(G 1).toArray⟩, .string ⟨(G 2).toArray⟩, .string ⟨(G 3).toArray⟩, .string ⟨(G 4).toArray⟩, .string ⟨(G 5).toArray⟩, .string ⟨(G 6).toArray⟩, .string ⟨(G 7).toArray⟩, .string ⟨(G 8).toArray⟩, .string ⟨(G 9).toArray⟩, .string ⟨(G 10).toArray⟩, .string ⟨(G 11).toArray⟩, .string ⟨(G 12).toArray⟩, .string ⟨(G 13).toArray⟩, .string ⟨(G 14).toArray⟩, .string ⟨(G 15).toArray⟩, .string ⟨(G 16).toArray⟩, .string ⟨(G 17).toArray⟩, .string ⟨(G 18).toArray⟩, .string ⟨(G 19).toArray⟩] 42)) := hw0
  have b0 : Below w.heap.size w w0 := by rw [hw0]; exact (Below.refl _ _).alloc (Nat.le_refl _) _
  have T0 : Hid (Turn b w w0) := Turn.of b0 (Nat.le_refl _) (Nat.le_of_lt bl)
  have L0 : Hid (LXB G w0 w.heap.size) := (by show LXB _ _ _; rw [hw0]; exact heap_alloc_new w _)
  have S0 : Hid (SY w0 b d f l 0 0) := hS.on b0 bl
  have TB : Hid (∀ w', Turn b w w' → Tb w') := fun w' t => hT.turn t hb1
  have gne : w.heap.size ≠ b := by omega
  have XL : Hid (∀ w' i, i < 20 → LXB G w' w.heap.size → w'.cell? ⟨w.heap.size, i, none⟩ = some (.string ⟨(G i).toArray⟩)) := fun w' i hi h => lx_cell h hi
  have IX : Hid (∀ k : Nat, k < 3 → ∀ w', (Instr.index 40 (.agg #[.string ⟨(G 14).toArray⟩, .string ⟨(G 15).toArray⟩, .string ⟨(G 16).toArray⟩]) (.int .i64 k)).run Tryd.prog w' = .ok (.string ⟨(G (14 + k)).toArray⟩) w') := fun k hk w' => (by
    rcases (by omega : k = 0 ∨ k = 1 ∨ k = 2) with rfl | rfl | rfl
    all_goals rfl)
  have J2 : Hid (∀ (k : Nat) (X : World), Calls Tryd.prog 28 #[.slice (some ⟨X.heap.size, 0, none⟩) 2 2] (X.alloc (.cells #[.string ⟨(G (14 + k)).toArray⟩, .string ⟨(G 17).toArray⟩] 9)) fun e w' => e = .returned (.string ⟨(pfr G k).toArray⟩) ∧ Below (X.alloc (.cells #[.string ⟨(G (14 + k)).toArray⟩, .string ⟨(G 17).toArray⟩] 9)).heap.size (X.alloc (.cells #[.string ⟨(G (14 + k)).toArray⟩, .string ⟨(G 17).toArray⟩] 9)) w') := fun k X => join2 (G (14 + k)) (G 17) X (by have := hG (14 + k); have := hG 17; omega)
  clear hT hS b0 hw0 hG
  obtain ⟨rr, hrr⟩ : ∃ x, (rrn G W 3).1 = x := ⟨_, rfl⟩
  obtain ⟨pp, hpp⟩ : ∃ x, (rrn G W 3).2 = x := ⟨_, rfl⟩
  rw [hrr, hpp]
  have HDD : Hid ((rrn G W 3).1 = rr ∧ (rrn G W 3).2 = pp) := ⟨hrr, hpp⟩
  clear hrr hpp
  have y14 := XL.out w0 14 (by omega) L0.out
  have y15 := XL.out w0 15 (by omega) L0.out
  have y16 := XL.out w0 16 (by omega) L0.out
  go_enter Tryd.func21, Tryd.ntmps21
  go_upto_region 1 with fail
  rw [← HW0.out]
  go_wp2_with fail
  clear y14 y15 y16 HW0
  go_loopw [15] (fun i wr => ∃ k : Nat, k ≤ 3 ∧ i = .int .i64 k ∧ Hid (SY wr b d f l (rrn G W k).1 (rrn G W k).2) ∧ Hid (LXB G wr w.heap.size) ∧ Hid (Turn b w wr)) (fun i _ => 3 - (intOf i).toNat)
  case atStart => exact ⟨0, Nat.zero_le _, rfl, S0, L0, T0⟩
  case round =>
    obtain ⟨k, hk, rfl, SK, LK, TK⟩ := hrel
    by_cases hlt : k < 3
    · have i2 : (k : Int) < 3 := by omega
      have ix := IX.out k hlt
      have x17 := XL.out wr 17 (by omega) LK.out
      have DN : Hid (Lib.hasPrefix W (pfr G k) = false → rrn G W (k + 1) = rrn G W k) := fun h => (by show (if _ then _ else _) = _; rw [if_neg (by rw [h]; decide)])
      have DY : Hid (Lib.hasPrefix W (pfr G k) = true → rrn G W (k + 1) = ((k : Int) + 1, num (cutp (W.drop (pfr G k).length) [32]).1)) := fun h => (by show (if _ then _ else _) = _; rw [if_pos h])
      go_wp2_with fail
      refine (J2.out k wr).mono ?_
      rintro e w5 ⟨rfl, b5⟩
      have b5' : Below wr.heap.size wr w5 := ((Below.refl _ _).alloc (Nat.le_refl _) _).trans (b5.mono (by simp))
      have zk := SK.out.lt
      have T5 : Hid (Turn b w w5) := turn_of TK.out b5' zk
      have L5 : Hid (LXB G w5 w.heap.size) := (b5'.block _ (lt_of_block LK.out)).trans LK.out
      have S5 : Hid (SY w5 b d f l (rrn G W k).1 (rrn G W k).2) := SK.out.on b5' zk
      have CP : Hid (Calls Tryd.prog 35 #[.string ⟨W.toArray⟩, .string ⟨(pfr G k).toArray⟩] w5 fun e w' => e = .returned (.tuple #[.string ⟨(if Lib.hasPrefix W (pfr G k) = true then W.drop (pfr G k).length else W).toArray⟩, .bool (Lib.hasPrefix W (pfr G k))]) ∧ w' = w5) := cutpre W (pfr G k) w5 hW
      have ld : (W.drop (pfr G k).length).length ≤ 2000000 := by simp; omega
      clear b5 b5' x17 ix SK LK TK
      generalize pfr G k = PX at *
      go_wp2_with fail
      cases hp : Lib.hasPrefix W PX
      · rw [hp, if_neg (by decide)] at CP
        refine CP.out.mono ?_
        rintro e w6 ⟨rfl, hw⟩
        have hw' := hw.symm
        subst hw'
        have S6 : Hid (SY w5 b d f l (rrn G W (k + 1)).1 (rrn G W (k + 1)).2) := (by rw [DN.out hp]; exact S5)
        clear S5
        go_wp2_with fail
        go_roundw
        case rel => exact ⟨k + 1, by omega, by go_num, S6, L5, T5⟩
        case measure => simp [intOf]; omega
      · rw [hp, if_pos rfl] at CP
        have e2 := DY.out hp
        generalize W.drop PX.length = D at *
        have CU : Hid (Calls Tryd.prog 19 #[.string ⟨D.toArray⟩, .string ⟨#[32]⟩] w5 fun e w'' => e = .returned (.tuple #[.string ⟨(cutp D [32]).1.toArray⟩, .string ⟨(cutp D [32]).2.1.toArray⟩, .bool (cutp D [32]).2.2]) ∧ Below w5.heap.size w5 w'') := cut_any D [32] w5 (TB.out w5 T5.out) ld
        have lq : (cutp D [32]).1.length ≤ 2000000 := Nat.le_trans (cutp_len D [32]).1 ld
        generalize (cutp D [32]).1 = Q at *
        generalize (cutp D [32]).2.1 = Q2 at *
        generalize (cutp D [32]).2.2 = Q3 at *
        have NU : Hid (∀ w', Calls Tryd.prog 36 #[.string ⟨Q.toArray⟩] w' fun e w'' => e = .returned (.int .i64 (num Q)) ∧ w'' = w') := fun w' => numeral Q w' lq
        generalize num Q = nd at *
        have E2 : Hid (rrn G W (k + 1) = ((k : Int) + 1, nd)) := e2
        clear e2 hp
        refine CP.out.mono ?_
        rintro e w6 ⟨rfl, hw⟩
        have hw' := hw.symm
        subst hw'
        go_wp2_with fail
        refine CU.out.mono ?_
        rintro e w7 ⟨rfl, b7⟩
        have z5 := S5.out.lt
        have T7 : Hid (Turn b w w7) := turn_of T5.out b7 z5
        have L7 : Hid (LXB G w7 w.heap.size) := (b7.block _ (lt_of_block L5.out)).trans L5.out
        have S7 := S5.out.on b7 z5
        have S8 : Hid (SY ((w7.setCell ⟨b, 3, none⟩ (.int .i64 ((k : Int) + 1))).setCell ⟨b, 4, none⟩ (.int .i64 nd)) b d f l (rrn G W (k + 1)).1 (rrn G W (k + 1)).2) := (by rw [E2.out]; exact (S7.s3 _).s4 _)
        have L8 : Hid (LXB G ((w7.setCell ⟨b, 3, none⟩ (.int .i64 ((k : Int) + 1))).setCell ⟨b, 4, none⟩ (.int .i64 nd)) w.heap.size) := (Below.heap_setCell _ ⟨b, 4, none⟩ _ w.heap.size gne).trans ((Below.heap_setCell _ ⟨b, 3, none⟩ _ w.heap.size gne).trans L7.out)
        have T8 : Hid (Turn b w ((w7.setCell ⟨b, 3, none⟩ (.int .i64 ((k : Int) + 1))).setCell ⟨b, 4, none⟩ (.int .i64 nd))) := turn_set (turn_set T7.out _ _) _ _
        obtain ⟨c0, c1, c2, c3, c4, cf⟩ := S7.cells
        have f3 := cf 3
        have f4 := cf 4
        clear cf b7 S7
        go_wp2_with fail
        refine (NU.out _).mono ?_
        rintro e w8 ⟨rfl, hw⟩
        have hw' := hw.symm
        subst hw'
        go_wp2_with fail
        go_roundw
        case rel => exact ⟨k + 1, by omega, by go_num, S8, L8, T8⟩
        case measure => simp [intOf]; omega
    · have e : k = 3 := by omega
      subst e
      rw [HDD.out.1, HDD.out.2] at SK
      go_wp2_with fail
      go_end0
      exact ⟨⟨_, rfl⟩, SK.out, TK.out⟩
end Go.Proofs.YtnbhfjcpimdnlaaDoor.Ph
