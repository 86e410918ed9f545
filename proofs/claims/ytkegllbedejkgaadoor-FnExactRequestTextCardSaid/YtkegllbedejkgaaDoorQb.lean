/- What both sides say of a request. -/
import Derived.Test.YtkegllbedejkgaaDoorQm
import Derived.Test.YtkegllbedejkgaaDoorWr
namespace Go.Proofs.YtkegllbedejkgaaDoor.Ix
open Go.ChangeShapes Go.WideShapes Go.ChangeAt Go.RowKit
open Stamp (Tb Tb.keep)
open Al Eo
/-- what a time is told as -/
noncomputable def st (t : Int) : ByteArray := Classical.choose (Stamp.both t)
theorem st_is (t : Int) : (st t).size ≤ 20 ∧ (∀ w, Calls Tryd.prog 12 #[.int .i64 t] w fun e w' => e = .returned (.string (st t)) ∧ Below w.heap.size w w') ∧
    (∀ w, Tb w → Calls Tryd.prog 21 #[.int .i64 t] w fun e w' => e = .returned (.string (st t)) ∧ Below w.heap.size w w') := Classical.choose_spec (Stamp.both t)
def dc (n : Int) : ByteArray := ⟨(Lib.decDigits n.toNat).toArray⟩
theorem dc_size (n : Int) (h1 : n ≤ 1100) : (dc n).size ≤ 20 := by
  have := Dec.dec_len4 n.toNat (by omega)
  show (Lib.decDigits n.toNat).toArray.size ≤ 20
  rw [List.size_toArray]
  omega
theorem sdc (n : Int) (h0 : 0 ≤ n) (h1 : n ≤ 1100) (w : World) : Calls Tryd.prog 32 #[.int .i64 n] w fun e w' => e = .returned (.string (dc n)) ∧ Below w.heap.size w w' := by
  obtain ⟨m, rfl⟩ : ∃ m : Nat, n = m := ⟨n.toNat, by omega⟩
  exact Dec.dec_any m w (by omega)
set_option maxHeartbeats 400000 in
theorem idc (n : Int) (h0 : 0 ≤ n) (h1 : n ≤ 1100) (w : World) (hT : Tb w) : Calls Tryd.prog 22 #[.int .i64 n] w fun e w' => e = .returned (.string (dc n)) ∧ Below w.heap.size w w' := by
  obtain ⟨m, rfl⟩ : ∃ m : Nat, n = m := ⟨n.toNat, by omega⟩
  have C : Hid (Calls Tryd.prog 43 #[.int .i64 m, .int .i64 10] w fun e w' => e = .returned (.string (dc m)) ∧ Below w.heap.size w w') := Stamp.lib.fmt m w (by omega) hT
  go_enter Tryd.func22, Tryd.ntmps22
  go_wp2_with fail
  refine C.out.mono ?_
  rintro e w1 ⟨rfl, hb⟩
  go_wp2_with fail
  go_ret
  exact ⟨rfl, hb⟩
set_option maxHeartbeats 400000 in
theorem iclone (s : ByteArray) (hs : s.size ≤ 20) (w : World) : Calls Tryd.prog 19 #[.string s] w fun e w' => e = .returned (.string (id s)) ∧ Below w.heap.size w w' := by
  have C : Hid (Calls Tryd.prog 40 #[.string s] w fun e w' => e = .returned (.string s) ∧ Below w.heap.size w w') := Tryd.stringslite_Clone s w (by omega)
  go_enter Tryd.func19, Tryd.ntmps19
  go_wp2_with fail
  refine C.out.mono ?_
  rintro e w1 ⟨rfl, hb⟩
  go_wp2_with fail
  go_ret
  exact ⟨rfl, hb⟩
theorem okI_get {P : Int → Bool} {L : List Int} (h : okI P L = true) : L.length ≤ 40 ∧ ∀ i, i < L.length → P (L.getD i 0) = true := by
  unfold okI allI at h
  rw [Bool.and_eq_true, List.all_eq_true] at h
  refine ⟨by simpa using h.1, fun i hi => ?_⟩
  have := h.2 i (by simpa using hi)
  unfold wI at this
  rw [Bool.and_eq_true] at this
  exact this.1
theorem okP_get {L : List ByteArray} (h : okP L = true) : L.length ≤ 40 ∧ ∀ i, i < L.length → (L.getD i ⟨#[]⟩).size ≤ 20 := by
  unfold okP allP at h
  rw [Bool.and_eq_true, List.all_eq_true] at h
  refine ⟨by simpa using h.1, fun i hi => ?_⟩
  have := h.2 i (by simpa using hi)
  unfold wP pok at this
  simp only [Bool.and_eq_true, decide_eq_true_eq] at this
  omega
theorem map_size (f : Int → ByteArray) (L : List Int) (h : ∀ i, i < L.length → (f (L.getD i 0)).size ≤ 20) : ∀ i, i < (L.map f).length → ((L.map f).getD i ⟨#[]⟩).size ≤ 20 := fun i hi => by
  have h1 : i < L.length := by simpa using hi
  have e : (L.map f).getD i ⟨#[]⟩ = f (L.getD i 0) := by simp [List.getD_eq_getElem?_getD, h1]
  rw [e]
  exact h i h1
theorem part_len (wd : List UInt8) (L : List ByteArray) (hw : wd.length ≤ 10) (hl : L.length ≤ 40) (h : ∀ i, i < L.length → (L.getD i ⟨#[]⟩).size ≤ 20) : (part wd L).length ≤ 1000 := by
  unfold part
  split
  · simp
  · have := acc_len wd L h L.length (Nat.le_refl _)
    omega
abbrev kP : List UInt8 := [112, 97, 114, 97, 109]
abbrev kT : List UInt8 := [116, 105, 109, 101]
abbrev kS : List UInt8 := [115, 116, 101, 112]
abbrev kL : List UInt8 := [108, 101, 118, 101, 108]
/-- the text of a request -/
noncomputable def txt (R : Rq) : List UInt8 := if okR R then Lib.join (kept [part kP R.1, part kT (R.2.1.map st), part kS (R.2.2.1.map dc), part kL (R.2.2.2.map dc)]) [44] else []

set_option maxHeartbeats 400000 in
theorem sreq_no (pa ta sa la : Option Addr) (np pc nt tc ns sc nl lc : Nat) (w : World)
    (C0 : Hid (∀ W, Below w.heap.size w W → Calls Tryd.prog 11 #[.agg #[.slice pa np pc, .slice ta nt tc, .slice sa ns sc, .slice la nl lc]] W fun e w' => e = .returned (.bool false) ∧ Below W.heap.size W w')) :
    Calls Tryd.prog 5 #[.agg #[.slice pa np pc, .slice ta nt tc, .slice sa ns sc, .slice la nl lc]] w fun e w' => e = .returned (.string ⟨#[]⟩) ∧ Below w.heap.size w w' := by
  have B0 : Below w.heap.size w (w.alloc (Obj.cells #[.slice pa np pc, .slice ta nt tc, .slice sa ns sc, .slice la nl lc] 28)) := (Below.refl _ _).alloc (Nat.le_refl _) _
  go_enter Tryd.func5, Tryd.ntmps5
  go_wp2_with fail
  refine (C0.out _ B0).mono ?_
  rintro e w1 ⟨rfl, hb⟩
  have B1 : Below w.heap.size w w1 := B0.trans (hb.mono B0.size)
  clear hb
  go_wp2_with fail
  go_ret
  exact ⟨rfl, B1⟩

set_option maxHeartbeats 400000 in
theorem ireq_no (pa ta sa la : Option Addr) (np pc nt tc ns sc nl lc : Nat) (w : World)
    (C0 : Hid (∀ W, Below w.heap.size w W → Calls Tryd.prog 17 #[.agg #[.slice pa np pc, .slice ta nt tc, .slice sa ns sc, .slice la nl lc]] W fun e w' => e = .returned (.bool false) ∧ Below W.heap.size W w')) :
    Calls Tryd.prog 7 #[.agg #[.slice pa np pc, .slice ta nt tc, .slice sa ns sc, .slice la nl lc]] w fun e w' => e = .returned (.string ⟨#[]⟩) ∧ Below w.heap.size w w' := by
  have B0 : Below w.heap.size w (w.alloc (Obj.cells #[.slice pa np pc, .slice ta nt tc, .slice sa ns sc, .slice la nl lc] 28)) := (Below.refl _ _).alloc (Nat.le_refl _) _
  go_enter Tryd.func7, Tryd.ntmps7
  go_wp2_with fail
  refine (C0.out _ B0).mono ?_
  rintro e w1 ⟨rfl, hb⟩
  have B1 : Below w.heap.size w w1 := B0.trans (hb.mono B0.size)
  clear hb
  go_wp2_with fail
  go_ret
  exact ⟨rfl, B1⟩

theorem okR_get {R : Rq} (h : okR R = true) : okP R.1 = true ∧ okI (fun n => inn n 0 52596000) R.2.1 = true ∧ okI (fun n => inn n 0 360) R.2.2.1 = true ∧ okI (fun n => inn n 0 1100) R.2.2.2 = true := by
  unfold okR at h
  simpa [Bool.and_eq_true] using h
theorem smodel_any (R : Rq) (vP vT vS vL : Value) (w : World) (h : RqR w vP vT vS vL R) :
    Calls Tryd.prog 5 #[.agg #[vP, vT, vS, vL]] w fun e w' => e = .returned (.string ⟨(txt R).toArray⟩) ∧ Below w.heap.size w w' := by
  have C0 : ∀ W, Below w.heap.size w W → Calls Tryd.prog 11 #[.agg #[vP, vT, vS, vL]] W fun e w' => e = .returned (.bool (okR R)) ∧ Below W.heap.size W w' := fun W hb => sreq_any R vP vT vS vL W (h.on hb)
  obtain ⟨pa, pc, e1⟩ := h.p.form
  obtain ⟨ta, tc, e2⟩ := h.t.form
  obtain ⟨sa, sc, e3⟩ := h.s.form
  obtain ⟨la, lc, e4⟩ := h.l.form
  subst e1 e2 e3 e4
  cases ok : okR R
  · rw [ok] at C0
    have e : txt R = [] := by rw [txt, ok]; rfl
    rw [e]
    exact sreq_no pa ta sa la _ pc _ tc _ sc _ lc w C0
  · rw [ok] at C0
    obtain ⟨o1, o2, o3, o4⟩ := okR_get ok
    obtain ⟨l1, g1⟩ := okP_get o1
    obtain ⟨l2, _⟩ := okI_get o2
    obtain ⟨l3, g3⟩ := okI_get o3
    obtain ⟨l4, g4⟩ := okI_get o4
    have m2 := map_size st R.2.1 (fun i _ => (st_is _).1)
    have m3 := map_size dc R.2.2.1 (fun i hi => dc_size _ (by have := (inn_iff _ _ _).1 (g3 i hi); omega))
    have m4 := map_size dc R.2.2.2 (fun i hi => dc_size _ (by have := (inn_iff _ _ _).1 (g4 i hi); omega))
    have e : txt R = Lib.join (kept [part kP R.1, part kT (R.2.1.map st), part kS (R.2.2.1.map dc), part kL (R.2.2.2.map dc)]) [44] := by rw [txt, ok]; rfl
    rw [e]
    exact sreq_yes pa ta sa la _ pc _ tc _ sc _ lc (part kP R.1) (part kT (R.2.1.map st)) (part kS (R.2.2.1.map dc)) (part kL (R.2.2.2.map dc)) st R.2.1 (R.2.2.1.map dc) (R.2.2.2.map dc) w rfl l2 h.t C0
      (fun i _ w => (st_is _).2.1 w)
      (fun W hb => spart_any kP _ R.1 W (h.on hb).p (by decide) l1 g1)
      (fun W v r => spart_any kT v (R.2.1.map st) W r (by decide) (by rw [List.length_map]; exact l2) m2)
      (fun W hb => (sdecs_any dc _ R.2.2.1 W (h.on hb).s l3 (fun i hi w => by have := (inn_iff _ _ _).1 (g3 i hi); exact sdc _ (by omega) (by omega) w)).mono fun e w' ⟨⟨v', he, ro⟩, hb'⟩ => ⟨⟨v', he, sreads_row ro⟩, hb'⟩)
      (fun W v r => spart_any kS v (R.2.2.1.map dc) W r (by decide) (by rw [List.length_map]; exact l3) m3)
      (fun W hb => (sdecs_any dc _ R.2.2.2 W (h.on hb).l l4 (fun i hi w => by have := (inn_iff _ _ _).1 (g4 i hi); exact sdc _ (by omega) (by omega) w)).mono fun e w' ⟨⟨v', he, ro⟩, hb'⟩ => ⟨⟨v', he, sreads_row ro⟩, hb'⟩)
      (fun W v r => spart_any kL v (R.2.2.2.map dc) W r (by decide) (by rw [List.length_map]; exact l4) m4)
      (fun x hx => by
        simp only [List.mem_cons, List.not_mem_nil, or_false] at hx
        rcases hx with rfl | rfl | rfl | rfl
        · exact part_len kP _ (by decide) l1 g1
        · exact part_len kT _ (by decide) (by rw [List.length_map]; exact l2) m2
        · exact part_len kS _ (by decide) (by rw [List.length_map]; exact l3) m3
        · exact part_len kL _ (by decide) (by rw [List.length_map]; exact l4) m4)
theorem imodel_any (R : Rq) (vP vT vS vL : Value) (w : World) (hT : Tb w) (h : RqR w vP vT vS vL R) :
    Calls Tryd.prog 7 #[.agg #[vP, vT, vS, vL]] w fun e w' => e = .returned (.string ⟨(txt R).toArray⟩) ∧ Below w.heap.size w w' := by
  have C0 : ∀ W, RqR W vP vT vS vL R → Calls Tryd.prog 17 #[.agg #[vP, vT, vS, vL]] W fun e w' => e = .returned (.bool (okR R)) ∧ Below W.heap.size W w' := fun W hr => requestOk_any R vP vT vS vL W hr
  obtain ⟨pa, pc, e1⟩ := h.p.form
  obtain ⟨ta, tc, e2⟩ := h.t.form
  obtain ⟨sa, sc, e3⟩ := h.s.form
  obtain ⟨la, lc, e4⟩ := h.l.form
  subst e1 e2 e3 e4
  cases ok : okR R
  · rw [ok] at C0
    have e : txt R = [] := by rw [txt, ok]; rfl
    rw [e]
    exact ireq_no pa ta sa la _ pc _ tc _ sc _ lc w (fun W hb => C0 W (h.on hb))
  · rw [ok] at C0
    obtain ⟨o1, o2, o3, o4⟩ := okR_get ok
    obtain ⟨l1, g1⟩ := okP_get o1
    obtain ⟨l2, _⟩ := okI_get o2
    obtain ⟨l3, g3⟩ := okI_get o3
    obtain ⟨l4, g4⟩ := okI_get o4
    have m2 := map_size st R.2.1 (fun i _ => (st_is _).1)
    have m3 := map_size dc R.2.2.1 (fun i hi => dc_size _ (by have := (inn_iff _ _ _).1 (g3 i hi); omega))
    have m4 := map_size dc R.2.2.2 (fun i hi => dc_size _ (by have := (inn_iff _ _ _).1 (g4 i hi); omega))
    have e : txt R = Lib.join (kept [part kP R.1, part kT (R.2.1.map st), part kS (R.2.2.1.map dc), part kL (R.2.2.2.map dc)]) [44] := by rw [txt, ok]; rfl
    rw [e]
    have P1 : ∀ W, Tb W ∧ RqR W (.slice pa R.1.length pc) (.slice ta R.2.1.length tc) (.slice sa R.2.2.1.length sc) (.slice la R.2.2.2.length lc) R → Calls Tryd.prog 18 #[.string ⟨#[112, 97, 114, 97, 109]⟩, .slice pa R.1.length pc, .func (.func 19) #[] #[]] W fun e w' => e = .returned (.string ⟨(part kP R.1).toArray⟩) ∧ Below W.heap.size W w' := fun W hw => by
      have := ilistS_any kP id _ R.1 W hw.1 hw.2.p (by decide) l1 (by rw [List.map_id]; exact g1) (fun i hi w _ => iclone _ (g1 i hi) w)
      rw [List.map_id] at this
      exact this
    exact ireq_yes pa ta sa la _ pc _ tc _ sc _ lc (part kP R.1) (part kT (R.2.1.map st)) (part kS (R.2.2.1.map dc)) (part kL (R.2.2.2.map dc)) w (fun W => Tb W ∧ RqR W (.slice pa R.1.length pc) (.slice ta R.2.1.length tc) (.slice sa R.2.2.1.length sc) (.slice la R.2.2.2.length lc) R)
      (fun a b ha hb => ⟨Tb.keep a b ha.1 hb, ha.2.on hb⟩) ⟨hT, h⟩ (fun W hw => C0 W hw.2) P1
      (fun W hw => ilistT_any kT st _ R.2.1 W hw.1 hw.2.t (by decide) l2 m2 (fun i _ w ht => (st_is _).2.2 w ht))
      (fun W hw => ilistN_any kS dc _ R.2.2.1 W hw.1 hw.2.s (by decide) l3 m3 (fun i hi w ht => by have := (inn_iff _ _ _).1 (g3 i hi); exact idc _ (by omega) (by omega) w ht))
      (fun W hw => ilistN_any kL dc _ R.2.2.2 W hw.1 hw.2.l (by decide) l4 m4 (fun i hi w ht => by have := (inn_iff _ _ _).1 (g4 i hi); exact idc _ (by omega) (by omega) w ht))
      (fun x hx => by
        simp only [List.mem_cons, List.not_mem_nil, or_false] at hx
        rcases hx with rfl | rfl | rfl | rfl
        · exact part_len kP _ (by decide) l1 g1
        · exact part_len kT _ (by decide) (by rw [List.length_map]; exact l2) m2
        · exact part_len kS _ (by decide) (by rw [List.length_map]; exact l3) m3
        · exact part_len kL _ (by decide) (by rw [List.length_map]; exact l4) m4)
end Go.Proofs.YtkegllbedejkgaaDoor.Ix
