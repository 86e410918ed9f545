/- A box drawn of bytes. -/
import Derived.Test.YtagkbglgdmajhaaDrC
import Derived.Test.YtagkbglgdmajhaaRdJ
namespace Go.Proofs.Ytagkbglgdmajhaa.Dr
open Go.ChangeShapes Go.WideShapes Go.ChangeAt Go.RowKit
open Go.Proofs.Ytagkbglgdmajhaa.Lists Go.Proofs.Ytagkbglgdmajhaa.Rd Go.Proofs.Ytagkbglgdmajhaa.Wn

set_option maxRecDepth 20000 in
set_option maxHeartbeats 1000000 in
theorem drain_any (a : Option Addr) (n cap : Nat) (w : World) (h : Rd.Code w a n cap) (hn : n ≤ 1048576) :
    Calls Try.prog 15 #[.slice a n cap] w fun e w' => (∃ (x y : Int) (v : Value) (L : List Int), e = .returned (Bx.sv x y v) ∧ L.length ≤ 90 ∧ Lists.Reads w' v L) ∧ Below w.heap.size w w' := by
  have H : Hid (Rd.Code w a n cap) := h
  have HN : Hid (n ≤ 1048576) := hn
  clear h hn
  go_enter Try.func15, Try.ntmps15
  go_wp2_with fail
  refine (open_any _ a n cap rfl _).mono ?_
  rintro e w1 ⟨rfl, hw1⟩
  have B0 : Below w.heap.size w (w.alloc (Obj.cells #[.int .i64 0, .int .i64 0, .slice none 0 0] 28)) := (Below.refl _ _).alloc (Nat.le_refl _) _
  have K1 : Hid (Rd.Rd (w.heap.size + 1) w1) := (by show Rd.Rd _ _; rw [hw1]; have := Rd.new H.out HN.out B0; simpa using this)
  have B1 : Hid (Below w.heap.size w w1) := (by show Below _ _ _; rw [hw1]; exact B0.alloc (by simp) _)
  have E1 : Hid (w1.heap[w.heap.size]? = some (Obj.cells #[.int .i64 0, .int .i64 0, .slice none 0 0] 28) ∧ w1.heap.size = w.heap.size + 1 + 1) := (by
    show _ ∧ _
    rw [hw1]
    refine ⟨?_, by simp⟩
    rw [Below.heap_alloc _ _ _ (by simp)]
    exact World.alloc_heap_new w _)
  clear hw1 B0 H HN
  simp only [World.size_alloc]
  go_wp2_with fail
  refine (draw_any _ _ K1.out).mono ?_
  rintro e w2 ⟨⟨x, y, v, L, rfl, hl, hv, li⟩, k2, t2⟩
  obtain ⟨sa, sc, hv'⟩ := li.1.form
  subst hv'
  have o2 := turn_out t2
  have eR := (o2.block w.heap.size (by have := E1.out.2; omega) (by omega)).trans E1.out.1
  have r0 : w2.cell? ⟨w.heap.size, 0, none⟩ = some (.int .i64 0) := by simp only [World.cell?, eR]; rfl
  have r1 : w2.cell? ⟨w.heap.size, 1, none⟩ = some (.int .i64 0) := by simp only [World.cell?, eR]; rfl
  have r2 : w2.cell? ⟨w.heap.size, 2, none⟩ = some (.slice none 0 0) := by simp only [World.cell?, eR]; rfl
  have rf : ∀ i, w2.frozen? ⟨w.heap.size, i, none⟩ = false := fun i => by simp [World.frozen?, eR]
  have f0 := rf 0
  have f1 := rf 1
  have f2 := rf 2
  have LI : Hid (Lies (w.heap.size + 1) w2 (.slice sa L.length sc) L) := li
  have HV : Hid (∀ g' o l c, Value.slice sa L.length sc = .slice (some ⟨g', o, none⟩) l c → 0 < l → g' ≠ w.heap.size) := fun g' o l c e _ => (by have := hv g' o l c e; have := E1.out.2; omega)
  have B2 : Hid (Below w.heap.size w w2) := B1.out.trans (t2.bel.mono (by omega))
  have HL : Hid (L.length ≤ 90) := hl
  clear eR rf li hv hl E1 K1 k2 t2 o2 B1
  go_wp2_with fail
  refine bodyPost_ret (v := Bx.sv x y (.slice sa L.length sc)) (by simp [results, Try.results15, go_sem, r0, r1, r2]) rfl ⟨⟨x, y, .slice sa L.length sc, L, rfl, HL.out, ?_⟩, ?_⟩
  · exact (lies_put (lies_put (lies_put LI.out 0 _ HV.out) 1 _ HV.out) 2 _ HV.out).1
  · exact ((B2.out.setCell (p := ⟨w.heap.size, 0, none⟩) (Nat.le_refl _) _).setCell (p := ⟨w.heap.size, 1, none⟩) (Nat.le_refl _) _).setCell (p := ⟨w.heap.size, 2, none⟩) (Nat.le_refl _) _
end Go.Proofs.Ytagkbglgdmajhaa.Dr
