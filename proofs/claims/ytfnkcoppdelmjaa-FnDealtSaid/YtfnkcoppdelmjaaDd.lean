/- What DrawDeal draws. -/
import Derived.Test.YtfnkcoppdelmjaaAw
import Derived.Test.YtfnkcoppdelmjaaDs
namespace Go.Proofs.Ytfnkcoppdelmjaa.Ed
open Go.ChangeShapes Go.WideShapes Go.ChangeAt Go.RowKit
open Go.Proofs.Ytfnkcoppdelmjaa.Rd Go.Proofs.Ytfnkcoppdelmjaa.Eo Go.Proofs.Ytfnkcoppdelmjaa.Ky
theorem DA.below {r : Nat} {W wx : World} {v : Value} {L : En.Ls} (h : DA r W wx v L) : En.Reads wx v L := h.row.reads
theorem bud4 (z : Int) (h0 : 0 ≤ z) (h1 : z < 4) : ∃ q : Int, (-1 ≤ q ∧ q ≤ 1000000000001) ∧ ([.int .i64 (-1), .int .i64 0, .int .i64 1000000000000, .int .i64 1000000000001] : List Value)[z.toNat]? = some (.int .i64 q) := by
  have : z = 0 ∨ z = 1 ∨ z = 2 ∨ z = 3 := by omega
  rcases this with rfl | rfl | rfl | rfl
  · exact ⟨-1, by omega, rfl⟩
  · exact ⟨0, by omega, rfl⟩
  · exact ⟨1000000000000, by omega, rfl⟩
  · exact ⟨1000000000001, by omega, rfl⟩
theorem slot3 (z : Int) (h0 : 0 ≤ z) (h1 : z < 3) : ∃ q : Int, (0 ≤ q ∧ q ≤ 101) ∧ ([.int .i64 0, .int .i64 100, .int .i64 101] : List Value)[z.toNat]? = some (.int .i64 q) := by
  have : z = 0 ∨ z = 1 ∨ z = 2 := by omega
  rcases this with rfl | rfl | rfl
  · exact ⟨0, by omega, rfl⟩
  · exact ⟨100, by omega, rfl⟩
  · exact ⟨101, by omega, rfl⟩

set_option maxRecDepth 20000 in
set_option maxHeartbeats 2000000 in
theorem drawdeal_any (HE : EntryC) (a : Option Addr) (n0 cap : Nat) (w : World) (hc : Go.Proofs.Ytfnkcoppdelmjaa.Rd.Code w a n0 cap) (hn0 : n0 ≤ 1048576) : Calls Try.prog 11 #[.slice a n0 cap] w fun e w' => ∃ v L, ∃ B S : Int, e = .returned (.tuple #[v, .int .i64 B, .int .i64 S]) ∧ En.Reads w' v L ∧ Ft L ∧ (-1 ≤ B ∧ B ≤ 1000000000001) ∧ (0 ≤ S ∧ S ≤ 101) ∧ Below w.heap.size w w' := by
  have O : Hid (Calls Try.prog 14 #[.slice a n0 cap] w fun e w' => e = .returned (.pointer (some ⟨w.heap.size, 0, none⟩)) ∧ w' = w.alloc (.cells #[.slice a n0 cap, .int .i64 0] 61)) := open_any _ a n0 cap rfl w
  have K0 : Hid (Rd w.heap.size (w.alloc (.cells #[.slice a n0 cap, .int .i64 0] 61))) := Rd.new hc hn0 (Below.refl _ _)
  have B0 : Hid (Below w.heap.size w (w.alloc (.cells #[.slice a n0 cap, .int .i64 0] 61))) := (Below.refl _ _).alloc (Nat.le_refl _) _
  have E0 : Hid EntryC := HE
  clear hc HE
  go_enter Try.func11, Try.ntmps11
  go_wp2_with fail
  refine O.out.mono ?_
  rintro e w1 ⟨rfl, hw⟩
  rw [← hw] at K0 B0
  clear hw O
  obtain ⟨r, hr0⟩ : ∃ r, r = w.heap.size := ⟨_, rfl⟩
  have HR : Hid (r = w.heap.size) := hr0
  rw [← hr0] at K0 ⊢
  clear hr0
  have hr := K0.out.lt
  go_wp2_with fail
  refine (drawarch_any E0.out r _ K0.out).mono ?_
  rintro e w2 ⟨v, L, rfl, d2⟩
  have D2 : Hid (DA r w1 w2 v L) := d2
  obtain ⟨sa, sc, hv⟩ := d2.row.form
  subst hv
  have FIN : Hid (∀ w', DA r w1 w' (.slice sa L.length sc) L → En.Reads w' (.slice sa L.length sc) L ∧ Ft L ∧ Below w.heap.size w w') := fun w' d => ⟨d.row.reads, d.ft, by have h1 := HR.out; exact B0.out.trans (d.tn.bel.mono (by omega))⟩
  obtain ⟨m, hm⟩ : ∃ m, m = L.length := ⟨_, rfl⟩
  rw [← hm] at D2 FIN ⊢
  clear d2 K0 B0 E0 hm
  go_wp2_with fail
  refine (below_all r _ D2.out.rd 200 (by omega) (by omega)).mono ?_
  rintro e w3 ⟨⟨b, ⟨hb1, hb2⟩, rfl⟩, k3, t3⟩
  have D3 : Hid (DA r w1 w3 (.slice sa m sc) L) := D2.out.turn t3 k3
  clear D2 t3 k3
  go_wp2_with fail
  refine (below_all r _ D3.out.rd 5 (by omega) (by omega)).mono ?_
  rintro e w4 ⟨⟨s, ⟨hs1, hs2⟩, rfl⟩, k4, t4⟩
  have D4 : Hid (DA r w1 w4 (.slice sa m sc) L) := D3.out.turn t4 k4
  clear D3 t4 k4
  go_wp2_with fail
  refine (below_all r _ D4.out.rd 14 (by omega) (by omega)).mono ?_
  rintro e w5 ⟨⟨u, ⟨hu1, hu2⟩, rfl⟩, k5, t5⟩
  have D5 : Hid (DA r w1 w5 (.slice sa m sc) L) := D4.out.turn t5 k5
  have n5 : r < w5.heap.size := k5.lt
  clear D4 t5 k5 hu2
  by_cases u0 : u = 0
  · subst u0
    have DB : Hid (DA r w1 (w5.alloc (Obj.cells #[.int .i64 (-1), .int .i64 0, .int .i64 1000000000000, .int .i64 1000000000001] 2)) (.slice sa m sc) L) := D5.out.alloc _
    go_wp2_with fail
    refine (below_all r _ DB.out.rd 4 (by omega) (by omega)).mono ?_
    rintro e w6 ⟨⟨z, ⟨hz1, hz2⟩, rfl⟩, k6, t6⟩
    replace hz2 : z < 4 := hz2
    obtain ⟨q, hq, hc⟩ := bud4 z hz1 hz2
    have c6 := turn_cell t6 n5 hc
    have D6 : Hid (DA r w1 w6 (.slice sa m sc) L) := DB.out.turn t6 k6
    clear hc k6 t6 DB D5
    go_wp2_with fail
    exact bodyPost_ret (v := .tuple #[.slice sa m sc, .int .i64 q, .int .i64 (1 + s)]) (by simp [results, Try.results11, go_sem]) rfl ⟨_, L, q, 1 + s, rfl, (FIN.out _ D6.out).1, (FIN.out _ D6.out).2.1, hq, by omega, (FIN.out _ D6.out).2.2⟩
  have e0 : (u == 0) = false := by simpa using u0
  by_cases u1 : u = 1
  · subst u1
    have DB : Hid (DA r w1 (w5.alloc (Obj.cells #[.int .i64 0, .int .i64 100, .int .i64 101] 2)) (.slice sa m sc) L) := D5.out.alloc _
    go_wp2_with fail
    refine (below_all r _ DB.out.rd 3 (by omega) (by omega)).mono ?_
    rintro e w6 ⟨⟨z, ⟨hz1, hz2⟩, rfl⟩, k6, t6⟩
    replace hz2 : z < 3 := hz2
    obtain ⟨q, hq, hc⟩ := slot3 z hz1 hz2
    have c6 := turn_cell t6 n5 hc
    have D6 : Hid (DA r w1 w6 (.slice sa m sc) L) := DB.out.turn t6 k6
    clear hc k6 t6 DB D5
    go_wp2_with fail
    exact bodyPost_ret (v := .tuple #[.slice sa m sc, .int .i64 b, .int .i64 q]) (by simp [results, Try.results11, go_sem]) rfl ⟨_, L, b, q, rfl, (FIN.out _ D6.out).1, (FIN.out _ D6.out).2.1, by omega, hq, (FIN.out _ D6.out).2.2⟩
  have e1 : (u == 1) = false := by simpa using u1
  go_wp2_with fail
  exact bodyPost_ret (v := .tuple #[.slice sa m sc, .int .i64 b, .int .i64 (1 + s)]) (by simp [results, Try.results11, go_sem]) rfl ⟨_, L, b, 1 + s, rfl, (FIN.out _ D5.out).1, (FIN.out _ D5.out).2.1, by omega, by omega, (FIN.out _ D5.out).2.2⟩
end Go.Proofs.Ytfnkcoppdelmjaa.Ed
