/- A sky drawn of a code; two skies drawn. -/
import Derived.Test.YtgfcimbhfbgnfaaLd
import Derived.Test.YtgfcimbhfbgnfaaRdJ
import Derived.Deep.RegionWith
import Derived.Deep.RegionHeld3
import Derived.Deep.DrawnRows
import Derived.Deep.DeepMust
import Derived.Deep.RegionHeldLaw
namespace Go.Proofs.Ytgfcimbhfbgnfaa.Sk
open Go.ChangeShapes Go.WideShapes Go.ChangeAt Go.RowKit
open Go.Proofs.Ytgfcimbhfbgnfaa.Al Go.Proofs.Ytgfcimbhfbgnfaa.Rd

theorem SB.turn {w w' : World} {r k : Nat} {d p v : Int} {W C : ByteArray} {b : Int} (h : SB w k d p v W C b) (t : Turn r w w') (hk : k ≠ r) : SB w' k d p v W C b := by
  have hlt := h.lt
  unfold SB at h ⊢
  rw [← h]
  by_cases hb : k < r
  · exact t.bel.block k hb
  · exact t.abv k (by omega) hlt
/-- what the draw keeps: the answer's block, the sky's, the reader -/
structure SK (r s : Nat) (W : World) (d p v : Int) (Wt C : ByteArray) (b : Int) (wx : World) : Prop where
  an : SB wx W.heap.size 0 0 0 E E 0
  sk : SB wx s d p v Wt C b
  rd : Rd r wx
  tn : Turn r W wx
  lt : r < W.heap.size
  hs : W.heap.size < s
theorem SK.sz {r s : Nat} {W : World} {d p v : Int} {Wt C : ByteArray} {b : Int} {wx : World} (h : SK r s W d p v Wt C b wx) : s < wx.heap.size := h.sk.lt
theorem SK.turn {r s : Nat} {W : World} {d p v : Int} {Wt C : ByteArray} {b : Int} {wx w' : World} (h : SK r s W d p v Wt C b wx) (t : Turn r wx w') (k : Rd r w') : SK r s W d p v Wt C b w' :=
  have := h.lt
  have := h.hs
  ⟨h.an.turn t (by omega), h.sk.turn t (by omega), k, h.tn.trans t, h.lt, h.hs⟩
theorem SK.alloc {r s : Nat} {W : World} {d p v : Int} {Wt C : ByteArray} {b : Int} {wx : World} (h : SK r s W d p v Wt C b wx) (o : Obj) : SK r s W d p v Wt C b (wx.alloc o) :=
  have hl := h.lt
  have hs := h.sz
  have hh := h.hs
  ⟨h.an.on ((Below.refl _ _).alloc (Nat.le_refl _) o) (by omega), h.sk.on ((Below.refl _ _).alloc (Nat.le_refl _) o) (by omega), h.rd.kept ((Below.refl (r + 1) wx).alloc (by omega) _) (by omega), h.tn.alloc hl _, hl, hh⟩
theorem SK.drewN {r s : Nat} {W : World} {d p v : Int} {Wt C : ByteArray} {b : Int} {wx : World} (h : SK r s W d p v Wt C b wx) (n : Nat) : SK r s W d p v Wt C b (wx.drewN n) := h.turn ((Turn.refl r wx).drewN n) (h.rd.drewN n)
theorem SK.on {r s : Nat} {W : World} {d p v : Int} {Wt C : ByteArray} {b : Int} {wx w' : World} (h : SK r s W d p v Wt C b wx) (hb : Below wx.heap.size wx w') : SK r s W d p v Wt C b w' :=
  have := h.lt
  have := h.hs
  have := h.sz
  h.turn (Turn.of hb (Nat.le_refl _) (by omega)) (h.rd.kept hb (by omega))
theorem SK.st {r s : Nat} {W : World} {d p v : Int} {Wt C : ByteArray} {b : Int} {wx : World} (h : SK r s W d p v Wt C b wx) {d' p' v' : Int} {Wt' C' : ByteArray} {b' : Int} (o : Nat) (x : Value) (hs : SB (wx.setCell ⟨s, o, none⟩ x) s d' p' v' Wt' C' b') : SK r s W d' p' v' Wt' C' b' (wx.setCell ⟨s, o, none⟩ x) :=
  have hl := h.lt
  have hh := h.hs
  ⟨h.an.keep (by omega) _ _, hs, h.rd.kept ((Below.refl (r + 1) wx).setCell (p := ⟨s, o, none⟩) (by show r + 1 ≤ s; omega) _) (by omega), h.tn.setCell (p := ⟨s, o, none⟩) (by show W.heap.size ≤ s; omega) hl _, hl, hh⟩
theorem SK.s0 {r s : Nat} {W : World} {d p v : Int} {Wt C : ByteArray} {b : Int} {wx : World} (h : SK r s W d p v Wt C b wx) (x : Int) : SK r s W x p v Wt C b (wx.setCell ⟨s, 0, none⟩ (.int .i64 x)) := h.st 0 _ (h.sk.s0 x)
theorem SK.s1 {r s : Nat} {W : World} {d p v : Int} {Wt C : ByteArray} {b : Int} {wx : World} (h : SK r s W d p v Wt C b wx) (x : Int) : SK r s W d x v Wt C b (wx.setCell ⟨s, 1, none⟩ (.int .i64 x)) := h.st 1 _ (h.sk.s1 x)
theorem SK.s2 {r s : Nat} {W : World} {d p v : Int} {Wt C : ByteArray} {b : Int} {wx : World} (h : SK r s W d p v Wt C b wx) (x : Int) : SK r s W d p x Wt C b (wx.setCell ⟨s, 2, none⟩ (.int .i64 x)) := h.st 2 _ (h.sk.s2 x)
theorem SK.s3 {r s : Nat} {W : World} {d p v : Int} {Wt C : ByteArray} {b : Int} {wx : World} (h : SK r s W d p v Wt C b wx) (x : ByteArray) : SK r s W d p v x C b (wx.setCell ⟨s, 3, none⟩ (.string x)) := h.st 3 _ (h.sk.s3 x)
theorem SK.s4 {r s : Nat} {W : World} {d p v : Int} {Wt C : ByteArray} {b : Int} {wx : World} (h : SK r s W d p v Wt C b wx) (x : ByteArray) : SK r s W d p v Wt x b (wx.setCell ⟨s, 4, none⟩ (.string x)) := h.st 4 _ (h.sk.s4 x)
theorem SK.s5 {r s : Nat} {W : World} {d p v : Int} {Wt C : ByteArray} {b : Int} {wx : World} (h : SK r s W d p v Wt C b wx) (x : Int) : SK r s W d p v Wt C x (wx.setCell ⟨s, 5, none⟩ (.int .i64 x)) := h.st 5 _ (h.sk.s5 x)
theorem SK.cells {r s : Nat} {W : World} {d p v : Int} {Wt C : ByteArray} {b : Int} {wx : World} (h : SK r s W d p v Wt C b wx) : wx.cell? ⟨s, 0, none⟩ = some (.int .i64 d) ∧ wx.cell? ⟨s, 1, none⟩ = some (.int .i64 p) ∧ wx.cell? ⟨s, 2, none⟩ = some (.int .i64 v) ∧ wx.cell? ⟨s, 3, none⟩ = some (.string Wt) ∧ wx.cell? ⟨s, 4, none⟩ = some (.string C) ∧ wx.cell? ⟨s, 5, none⟩ = some (.int .i64 b) ∧ wx.frozen? ⟨s, 0, none⟩ = false ∧ wx.frozen? ⟨s, 1, none⟩ = false ∧ wx.frozen? ⟨s, 2, none⟩ = false ∧ wx.frozen? ⟨s, 3, none⟩ = false ∧ wx.frozen? ⟨s, 4, none⟩ = false ∧ wx.frozen? ⟨s, 5, none⟩ = false :=
  have ⟨a0, a1, a2, a3, a4, a5, a6⟩ := h.sk.cells
  ⟨a0, a1, a2, a3, a4, a5, a6 0, a6 1, a6 2, a6 3, a6 4, a6 5⟩
/-- the draw's beginning -/
theorem SK.start {r : Nat} {w w1 : World} (h : Rd r w) (hb : Below (w.alloc (.cells #[.int .i64 0, .int .i64 0, .int .i64 0, .string E, .string E, .int .i64 0] 25)).heap.size (w.alloc (.cells #[.int .i64 0, .int .i64 0, .int .i64 0, .string E, .string E, .int .i64 0] 25)) w1) (d p v : Int) (Wt C : ByteArray) (b : Int) : SK r w1.heap.size w d p v Wt C b (w1.alloc (.cells #[.int .i64 d, .int .i64 p, .int .i64 v, .string Wt, .string C, .int .i64 b] 25)) := by
  have hl := h.lt
  have hz := hb.size
  simp at hz
  refine ⟨((SB.new w 0 0 0 E E 0).on hb (by simp)).on ((Below.refl _ _).alloc (Nat.le_refl _) _) (by omega), SB.new _ _ _ _ _ _ _, ?_, ?_, hl, by omega⟩
  · exact h.kept ((((Below.refl (r + 1) w).alloc (by omega) _).trans (hb.mono (by simp; omega))).alloc (by omega) _) (by omega)
  · exact (((Turn.refl r w).alloc hl _).trans (Turn.of hb (Nat.le_refl _) (by simp; omega))).alloc hl _
abbrev Some (r s : Nat) (W wx : World) : Prop := ∃ d p v Wt C b, SK r s W d p v Wt C b wx
theorem pk3 (x : Int) (z : Int) (h0 : 0 ≤ z) (h1 : z < 3) : ∃ q, ∀ W : World, (W.alloc (Obj.cells #[.int .i64 x, .int .i64 99, .int .i64 0] 2)).cell? ⟨W.heap.size, z.toNat, none⟩ = some (.int .i64 q) := by
  have : z = 0 ∨ z = 1 ∨ z = 2 := by omega
  rcases this with rfl | rfl | rfl
  · exact ⟨x, fun W => by simp [go_sem]⟩
  · exact ⟨99, fun W => by simp [go_sem]⟩
  · exact ⟨0, fun W => by simp [go_sem]⟩
theorem pkW (z : Int) (h0 : 0 ≤ z) (h1 : z < 10) : ∃ q, ∀ W : World, (W.alloc (Obj.cells #[.string ⟨#[78, 83, 87]⟩, .string ⟨#[82, 65]⟩, .string ⟨#[45, 82, 65]⟩, .string ⟨#[43, 82, 65]⟩, .string ⟨#[83, 78]⟩, .string ⟨#[45, 83, 78]⟩, .string ⟨#[43, 83, 78]⟩, .string ⟨#[84, 83, 82, 65]⟩, .string ⟨#[70, 71]⟩, .string ⟨#[66, 82]⟩] 9)).cell? ⟨W.heap.size, z.toNat, none⟩ = some (.string q) := by
  have : z = 0 ∨ z = 1 ∨ z = 2 ∨ z = 3 ∨ z = 4 ∨ z = 5 ∨ z = 6 ∨ z = 7 ∨ z = 8 ∨ z = 9 := by omega
  rcases this with rfl | rfl | rfl | rfl | rfl | rfl | rfl | rfl | rfl | rfl
  · exact ⟨⟨#[78, 83, 87]⟩, fun W => by simp [go_sem]⟩
  · exact ⟨⟨#[82, 65]⟩, fun W => by simp [go_sem]⟩
  · exact ⟨⟨#[45, 82, 65]⟩, fun W => by simp [go_sem]⟩
  · exact ⟨⟨#[43, 82, 65]⟩, fun W => by simp [go_sem]⟩
  · exact ⟨⟨#[83, 78]⟩, fun W => by simp [go_sem]⟩
  · exact ⟨⟨#[45, 83, 78]⟩, fun W => by simp [go_sem]⟩
  · exact ⟨⟨#[43, 83, 78]⟩, fun W => by simp [go_sem]⟩
  · exact ⟨⟨#[84, 83, 82, 65]⟩, fun W => by simp [go_sem]⟩
  · exact ⟨⟨#[70, 71]⟩, fun W => by simp [go_sem]⟩
  · exact ⟨⟨#[66, 82]⟩, fun W => by simp [go_sem]⟩
theorem pkC (z : Int) (h0 : 0 ≤ z) (h1 : z < 5) : ∃ q, ∀ W : World, (W.alloc (Obj.cells #[.string ⟨#[83, 75, 67]⟩, .string ⟨#[70, 69, 87]⟩, .string ⟨#[83, 67, 84]⟩, .string ⟨#[66, 75, 78]⟩, .string ⟨#[79, 86, 67]⟩] 9)).cell? ⟨W.heap.size, z.toNat, none⟩ = some (.string q) := by
  have : z = 0 ∨ z = 1 ∨ z = 2 ∨ z = 3 ∨ z = 4 := by omega
  rcases this with rfl | rfl | rfl | rfl | rfl
  · exact ⟨⟨#[83, 75, 67]⟩, fun W => by simp [go_sem]⟩
  · exact ⟨⟨#[70, 69, 87]⟩, fun W => by simp [go_sem]⟩
  · exact ⟨⟨#[83, 67, 84]⟩, fun W => by simp [go_sem]⟩
  · exact ⟨⟨#[66, 75, 78]⟩, fun W => by simp [go_sem]⟩
  · exact ⟨⟨#[79, 86, 67]⟩, fun W => by simp [go_sem]⟩

theorem held25 : Try.prog.stoodInHeld 25 = false := by kernel_rfl
theorem under25 : Try.prog.underlying 25 = some (.struct (Try.prog.fieldsOf 25)) := by kernel_rfl
theorem guard25 : Try.prog.eqGuardType Try.prog.depth 25 = false := by kernel_rfl
/-- the same sky -/
def sm (d p v : Int) (W C : ByteArray) (b d2 p2 v2 : Int) (W2 C2 : ByteArray) (b2 : Int) : Bool := (d == d2) && ((p == p2) && ((v == v2) && ((W.toList == W2.toList) && ((C.toList == C2.toList) && (b == b2)))))
theorem eqlU (d p v : Int) (W C : ByteArray) (b d2 p2 v2 : Int) (W2 C2 : ByteArray) (b2 : Int) (w : World) : (binOp .eql 25 (sk d p v W C b) (sk d2 p2 v2 W2 C2 b2)).run Try.prog w = .ok (.bool (sm d p v W C b d2 p2 v2 W2 C2 b2)) w := by
  rw [run_eql_struct, run_equalIn_struct w 9999 25 _ _ under25 held25]
  simp only [Program.fieldsOf, Try.underlying25]
  simp [go_sem, Op.eqFields, part]
  unfold sm
  by_cases h1 : d = d2 <;> by_cases h2 : p = p2 <;> by_cases h3 : v = v2 <;> by_cases h4 : W.toList = W2.toList <;> by_cases h5 : C.toList = C2.toList <;> by_cases h6 : b = b2 <;> simp [h1, h2, h3, h4, h5, h6]
theorem neqU (d p v : Int) (W C : ByteArray) (b d2 p2 v2 : Int) (W2 C2 : ByteArray) (b2 : Int) (w : World) : (binOp .neq 25 (sk d p v W C b) (sk d2 p2 v2 W2 C2 b2)).run Try.prog w = .ok (.bool (!sm d p v W C b d2 p2 v2 W2 C2 b2)) w := by
  rw [run_neq_struct, run_equalIn_struct w 9999 25 _ _ under25 held25]
  simp only [Program.fieldsOf, Try.underlying25]
  simp [go_sem, Op.eqFields, part]
  unfold sm
  by_cases h1 : d = d2 <;> by_cases h2 : p = p2 <;> by_cases h3 : v = v2 <;> by_cases h4 : W.toList = W2.toList <;> by_cases h5 : C.toList = C2.toList <;> by_cases h6 : b = b2 <;> simp [h1, h2, h3, h4, h5, h6]
set_option maxHeartbeats 1000000 in
theorem sunsaid_any (w : World) : Calls Try.prog 21 #[] w fun e w' => e = .returned (sk (-1) 0 (-1) E E 0) ∧ Below w.heap.size w w' := by
  go_enter Try.func21, Try.ntmps21
  go_wp2_with fail
  refine bodyPost_ret (v := sk (-1) 0 (-1) E E 0) (by simp [results, Try.results21, go_sem]) rfl ⟨rfl, ?_⟩
  repeat' first | exact Below.refl _ _ | refine Below.setCell ?_ (by simp <;> omega) _ | refine Below.alloc ?_ (by simp <;> omega) _
end Go.Proofs.Ytgfcimbhfbgnfaa.Sk
