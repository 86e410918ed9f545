/- Heights that are kept behind a lock. -/
import Derived.Test.YtlgcikmimmcmkaaHm
import Derived.Test.YtlgcikmimmcmkaaKm
import Derived.Test.YtlgcikmimmcmkaaLocks
import Derived.Conc.MuLone
import Derived.Maps.OwnSet
namespace Go.Proofs.Ytlgcikmimmcmkaa.Ca
open Go.ChangeShapes Go.WideShapes Go.ChangeAt Go.RowKit
open Go.MuLone
open Go.Proofs.Ytlgcikmimmcmkaa.Flt Go.Proofs.Ytlgcikmimmcmkaa.Wa Go.Proofs.Ytlgcikmimmcmkaa.An Go.Proofs.Ytlgcikmimmcmkaa.Co Go.Proofs.Ytlgcikmimmcmkaa.Ho Go.Proofs.Ytlgcikmimmcmkaa.Km

attribute [local go_sem] Flt.run_store_float
def Ch (sb bm : Nat) (w w' : World) : Prop := Below 0 w w' ∧ ∀ k, k < w.heap.size → k ≠ sb → k ≠ bm → w'.heap[k]? = w.heap[k]?
theorem Ch.refl (sb bm : Nat) (w : World) : Ch sb bm w w := ⟨Below.refl _ _, fun _ _ _ _ => rfl⟩
theorem Ch.trans {sb bm : Nat} {a b c : World} (h : Ch sb bm a b) (k : Ch sb bm b c) : Ch sb bm a c := ⟨h.1.trans k.1, fun i h1 h2 h3 => (k.2 i (Nat.lt_of_lt_of_le h1 h.1.size) h2 h3).trans (h.2 i h1 h2 h3)⟩
theorem Ch.below {sb bm B : Nat} {w w' : World} (h : Ch sb bm w w') (h1 : B ≤ sb) (h2 : B ≤ bm) (h3 : B ≤ w.heap.size) : Below B w w' := ⟨h.1.os, h.1.tape, h.1.output, h.1.size, fun k hk => h.2 k (by omega) (by omega) (by omega)⟩
theorem Ch.of_below {sb bm : Nat} {w w' : World} (h : Below w.heap.size w w') : Ch sb bm w w' := ⟨h.mono (Nat.zero_le _), fun k hk _ _ => h.block k hk⟩
theorem Ch.of_set {sb bm : Nat} {w : World} (o : Nat) (u : Value) : Ch sb bm w (w.setCell ⟨sb, o, none⟩ u) := ⟨(Below.refl 0 w).setCell (p := ⟨sb, o, none⟩) (Nat.zero_le _) u, fun k _ h1 _ => Below.heap_setCell w ⟨sb, o, none⟩ u k h1⟩
theorem Ch.of_grown {sb bm : Nat} {w w' : World} (h : w.grownBy w' (some bm)) : Ch sb bm w w' := ⟨⟨h.os, h.tape, h.output, h.size, fun k hk => absurd hk (by omega)⟩, fun k hk _ h2 => h.block k hk (fun e => h2 (by have := Option.some.inj e; omega))⟩
/- the struct that keeps them, its lock free or held -/
def St (w : World) (sb bm : Nat) (v : Value) (l : Int) : Prop := w.cell? ⟨sb, 0, none⟩ = some (.int .i32 l) ∧ w.cell? ⟨sb, 2, none⟩ = some v ∧ w.cell? ⟨sb, 3, none⟩ = some (.map (some bm)) ∧ w.frozen? ⟨sb, 0, none⟩ = false ∧ sb < w.heap.size
theorem St.heap {w w' : World} {sb bm : Nat} {v : Value} {l : Int} (h : St w sb bm v l) (e : w'.heap[sb]? = w.heap[sb]?) (hs : w.heap.size ≤ w'.heap.size) : St w' sb bm v l := by
  obtain ⟨h0, h1, h2, h3, h4⟩ := h
  refine ⟨?_, ?_, ?_, ?_, by omega⟩
  · rw [← h0]; simp only [World.cell?, e]
  · rw [← h1]; simp only [World.cell?, e]
  · rw [← h2]; simp only [World.cell?, e]
  · rw [← h3]; simp only [World.frozen?, e]
theorem St.set {w : World} {sb bm : Nat} {v : Value} {l : Int} (h : St w sb bm v l) (m : Int) : St (w.setCell ⟨sb, 0, none⟩ (.int .i32 m)) sb bm v m := by
  obtain ⟨h0, h1, h2, h3, h4⟩ := h
  refine ⟨World.cell?_setCell_same w ⟨sb, 0, none⟩ _ h0, (World.cell?_setCell_other w ⟨sb, 0, none⟩ ⟨sb, 2, none⟩ _ (by simp)).trans h1, (World.cell?_setCell_other w ⟨sb, 0, none⟩ ⟨sb, 3, none⟩ _ (by simp)).trans h2, by simp [h3], by simpa using h4⟩
theorem hs_mod (L : Co.Ls) (h : Int) : ∀ k, hs L (h % 36) k = hs L h k
  | 0 => rfl
  | k + 1 => by
    have e : (Co.c0 L k * (h % 36)) % 36 = (Co.c0 L k * h) % 36 := by rw [Int.mul_emod, Int.emod_emod, ← Int.mul_emod]
    have e9 : (Co.c0 L k * (h % 36) + 9) % 36 = (Co.c0 L k * h + 9) % 36 := by omega
    show opF .add (hs L (h % 36) k) (trm L (h % 36) k) = opF .add (hs L h k) (trm L h k)
    unfold trm
    rw [hs_mod L h k, e, e9]
set_option maxRecDepth 20000 in
set_option maxHeartbeats 2000000 in
theorem at_any (L : Co.Ls) (sb bm n : Nat) (h : Int) (v : Value) (w : World) (hbs : bm ≠ sb) (hSt : St w sb bm v 0) (hM : KM w bm n fun s => hs L s L.length) (hn : n < 1000000) (hL : ∀ w', Ch sb bm w w' → Co.Reads w' v L) (hok : okP L = true) (_ : -1000000 ≤ h ∧ h ≤ 1000000) :
    Calls Try.prog 21 #[.pointer (some ⟨sb, 0, none⟩), .int .i64 h] w fun e w' => ∃ x, e = .returned (.float .f64 x) ∧ cn x = hs L h L.length ∧ Ch sb bm w w' ∧ St w' sb bm v 0 ∧ KM w' bm (n + 1) (fun s => hs L s L.length) := by
  have HM0 : Hid (∀ k, hs L (h % 36) k = hs L h k) := fun k => hs_mod L h k
  have r0 := Int.emod_nonneg h (show (36 : Int) ≠ 0 by omega)
  have r1 := Int.emod_lt_of_pos h (show (0 : Int) < 36 by omega)
  have IM : Hid (∀ w, Calls Try.prog 30 #[.int .i64 h, .int .i64 36] w fun e w' => e = .returned (.int .i64 (h % 36)) ∧ w' = w) := fun w => imod h w
  have IH : Hid (∀ w', Ch sb bm w w' → Calls Try.prog 31 #[v, .int .i64 (h % 36)] w' fun e w'' => ∃ x, e = .returned (.float .f64 x) ∧ cn x = hs L (h % 36) L.length ∧ Below w'.heap.size w' w'') := fun w' hc => iat_any L (h % 36) v w' (hL w' hc) hok (by rw [inn_iff]; omega)
  obtain ⟨a, cap, rfl⟩ := (hL w (Ch.refl _ _ _)).form
  have HS0 : Hid (St w sb bm (.slice a L.length cap) 0) := hSt
  obtain ⟨c0, _, _, f0, _⟩ := HS0.out
  obtain ⟨W1, hW1⟩ : ∃ W1, W1 = w.setCell ⟨sb, 0, none⟩ (.int .i32 1) := ⟨_, rfl⟩
  have HW1 : Hid (W1 = w.setCell ⟨sb, 0, none⟩ (.int .i32 1)) := hW1
  have S1 : Hid (St W1 sb bm (.slice a L.length cap) 1) := (by rw [hW1]; exact St.set HS0.out 1)
  have C1 : Hid (Ch sb bm w W1) := (by rw [hW1]; exact Ch.of_set 0 _)
  have M1 : Hid (KM W1 bm n fun s => hs L s L.length) := (by rw [hW1]; exact hM.heap (Below.heap_setCell w ⟨sb, 0, none⟩ _ bm hbs))
  obtain ⟨x, q, lk, hq⟩ := M1.out.look (h % 36) (by unfold ok; omega)
  have HQ : Hid (q = true → cn x = hs L h L.length) := fun e => (hq e).trans (HM0.out _)
  have LK := lk
  obtain ⟨d0, d2, d3, g0, _⟩ := S1.out
  have HBS : Hid (bm ≠ sb) := hbs
  clear hq lk hL hM hW1 hSt
  have hH : Hid (∀ k, hs L (h % 36) k = hs L h k) := HM0
  generalize hr : h % 36 = r at *
  clear hr
  cases q
  · go_enter_defers Try.func21, Try.ntmps21
    go_wp2_with (go_at_call 28; refine (lock_free Try.muLib ⟨sb, 0, none⟩ _ c0 f0).mono ?_; rintro e w' ⟨rfl, rfl⟩; rw [← HW1.out])
    refine (IM.out W1).mono ?_
    rintro e w2 ⟨rfl, hw2⟩
    have hw3 := hw2.symm
    subst hw3
    go_wp2_with fail
    refine (IH.out W1 C1.out).mono ?_
    rintro e w3 ⟨y, rfl, hy, b3⟩
    have HY : Hid (cn y = hs L h L.length) := hy.trans (hH.out _)
    have C3 : Hid (Ch sb bm w w3) := C1.out.trans (Ch.of_below b3)
    have S3 : Hid (St w3 sb bm (.slice a L.length cap) 1) := S1.out.heap (b3.block sb S1.out.2.2.2.2) b3.size
    have M3 : Hid (KM w3 bm n fun s => hs L s L.length) := M1.out.heap (b3.block bm M1.out.lt)
    obtain ⟨w4, st4, m4, gr4⟩ := M3.out.store (by unfold maxLen; omega) r y (by unfold ok; omega) (by rw [HY.out, ← hH.out])
    have C4 : Hid (Ch sb bm w w4) := C3.out.trans (Ch.of_grown gr4)
    have S4 : Hid (St w4 sb bm (.slice a L.length cap) 1) := S3.out.heap (gr4.block sb S3.out.2.2.2.2 (fun e => HBS.out (by have := Option.some.inj e; omega))) gr4.size
    have M4 : Hid (KM w4 bm (n + 1) fun s => hs L s L.length) := m4
    obtain ⟨e0, e2, e3, k0, _⟩ := S3.out
    clear b3 hy m4 gr4
    go_wp2_with fail
    refine leaves_cons (f := 29) (args := #[.pointer (some ⟨sb, 0, none⟩)]) (by simp) (by simp [go_sem]) ?_
    refine (unlock_deferred Try.muLib ⟨sb, 0, none⟩ .returning _ S4.out.1 S4.out.2.2.2.1).mono ?_
    rintro e u' w'' ⟨rfl, rfl, rfl⟩
    exact ⟨_, results_tmp rfl _ _ _, y, rfl, HY.out, C4.out.trans (Ch.of_set 0 _), St.set S4.out 0, M4.out.heap (Below.heap_setCell w4 ⟨sb, 0, none⟩ _ bm HBS.out)⟩
  · have HX : Hid (cn x = hs L h L.length) := HQ.out rfl
    go_enter_defers Try.func21, Try.ntmps21
    go_wp2_with (go_at_call 28; refine (lock_free Try.muLib ⟨sb, 0, none⟩ _ c0 f0).mono ?_; rintro e w' ⟨rfl, rfl⟩; rw [← HW1.out])
    refine (IM.out W1).mono ?_
    rintro e w2 ⟨rfl, hw2⟩
    have hw3 := hw2.symm
    subst hw3
    go_wp2_with fail
    refine leaves_cons (f := 29) (args := #[.pointer (some ⟨sb, 0, none⟩)]) (by simp) (by simp [go_sem]) ?_
    refine (unlock_deferred Try.muLib ⟨sb, 0, none⟩ .returning _ S1.out.1 S1.out.2.2.2.1).mono ?_
    rintro e u' w'' ⟨rfl, rfl, rfl⟩
    exact ⟨_, results_tmp rfl _ _ _, x, rfl, HX.out, C1.out.trans (Ch.of_set 0 _), St.set S1.out 0, (M1.out.heap (Below.heap_setCell W1 ⟨sb, 0, none⟩ _ bm HBS.out)).mono (Nat.le_succ _)⟩
end Go.Proofs.Ytlgcikmimmcmkaa.Ca
