/- Heights: the program; the model. -/
import Derived.Test.YtlgcikmimmcmkaaHo
namespace Go.Proofs.Ytlgcikmimmcmkaa.Ho
open Go.ChangeShapes Go.WideShapes Go.ChangeAt Go.RowKit
open Go.Proofs.Ytlgcikmimmcmkaa.Flt Go.Proofs.Ytlgcikmimmcmkaa.Wa Go.Proofs.Ytlgcikmimmcmkaa.An Go.Proofs.Ytlgcikmimmcmkaa.Co

attribute [local go_sem] Flt.run_store_float
attribute [local go_sem ↓] Go.wp_at_zero Go.wp_at_succ
set_option maxHeartbeats 2000000 in
theorem iat_any (L : Co.Ls) (h : Int) (v : Value) (w : World) (hL : Co.Reads w v L) (hok : okP L = true) (hh : inn h (-1000000) 1000000 = true) :
    Calls Try.prog 31 #[v, .int .i64 h] w fun e w' => ∃ x, e = .returned (.float .f64 x) ∧ cn x = hs L h L.length ∧ Below w.heap.size w w' := by
  have hf := hL.fits
  have o := (okP_iff L).1 hok
  have HT : Hid (∀ i w', i < L.length → Calls Try.prog 36 #[.agg #[.int .i64 (Co.c0 L i), .float .f64 (Co.c1 L i), .float .f64 (Co.c2 L i)], .int .i64 h] w' fun e w'' => ∃ a c, e = .returned (.complex .f64 a c) ∧ cn a = trm L h i ∧ Below w'.heap.size w' w'') := fun i w' hi => by
    refine (turned_any _ h _ _ w' (turn_in (o.2 i hi) hh)).mono ?_
    rintro e w'' ⟨a, c, rfl, ha, _, hb⟩
    exact ⟨a, c, rfl, ha, hb⟩
  have AT : Hid (∀ w' i, Below w.heap.size w w' → i < L.length → ∃ b o cap, v = .slice (some ⟨b, o, none⟩) L.length cap ∧ Co.Cs w' b o L i) := fun w' i hb hi => by
    obtain ⟨b, o, cap, e, hbb, hc⟩ := at_of hL (by omega)
    exact ⟨b, o, cap, e, (hc i hi).below hb hbb⟩
  have kA := hA
  obtain ⟨a, cap, rfl⟩ := hL.form
  obtain ⟨n, hn⟩ : ∃ n, n = L.length := ⟨_, rfl⟩
  rw [← hn] at AT HT hf ⊢
  clear hL hn o hok hh
  go_enter Try.func31, Try.ntmps31
  go_wp2_with fail
  go_loopw [5, 10] (fun s i wr => ∃ k x : Nat, k ≤ n ∧ i = .int .i64 k ∧ s = .float .f64 x ∧ Hid (cn x = hs L h k) ∧ Hid (Below w.heap.size w wr)) (fun _ i _ => n - (intOf i).toNat)
  case atStart => exact ⟨0, 0, by omega, rfl, rfl, cn_zero, Below.refl _ _⟩
  case round =>
    obtain ⟨k, x, hk, rfl, rfl, HS, BR⟩ := hrel
    by_cases hlt : k < n
    · obtain ⟨b, o, cp, e, q0, q1, q2⟩ := AT.out wr k BR.out hlt
      simp at e
      obtain ⟨rfl, rfl⟩ := e
      have i1 : (0 : Int) ≤ (k : Int) := by omega
      have i2 : (k : Int) < (n : Int) := by omega
      have C := HT.out k (wr.alloc (Obj.cells #[.int .i64 (Co.c0 L k), .float .f64 (Co.c1 L k), .float .f64 (Co.c2 L k)] 41)) hlt
      have HE : Hid (hs L h (k + 1) = opF .add (hs L h k) (trm L h k)) := rfl
      have BA : Below w.heap.size w (wr.alloc (Obj.cells #[.int .i64 (Co.c0 L k), .float .f64 (Co.c1 L k), .float .f64 (Co.c2 L k)] 41)) := BR.out.alloc BR.out.size _
      have HBA : Hid (Below w.heap.size w (wr.alloc (Obj.cells #[.int .i64 (Co.c0 L k), .float .f64 (Co.c1 L k), .float .f64 (Co.c2 L k)] 41))) := BA
      generalize Co.c0 L k = z0 at *
      generalize Co.c1 L k = z1 at *
      generalize Co.c2 L k = z2 at *
      have HC : Hid (Calls Try.prog 36 #[.agg #[.int .i64 z0, .float .f64 z1, .float .f64 z2], .int .i64 h] (wr.alloc (Obj.cells #[.int .i64 z0, .float .f64 z1, .float .f64 z2] 41)) fun e w'' => ∃ a c, e = .returned (.complex .f64 a c) ∧ cn a = trm L h k ∧ Below (wr.alloc (Obj.cells #[.int .i64 z0, .float .f64 z1, .float .f64 z2] 41)).heap.size (wr.alloc (Obj.cells #[.int .i64 z0, .float .f64 z1, .float .f64 z2] 41)) w'') := C
      clear C BA
      go_wp2_with fail
      refine HC.out.mono ?_
      rintro e w1 ⟨t0, t1, rfl, ht, hb⟩
      have HT0 : Hid (cn t0 = trm L h k) := ht
      have B1 : Hid (Below w.heap.size w w1) := HBA.out.trans (hb.mono HBA.out.size)
      clear ht hb HC HBA
      go_wp2_with fail
      go_roundw
      case rel => exact ⟨k + 1, _, by omega, by go_num, rfl, by show cn _ = _; rw [cn_op, HS.out, HT0.out, HE.out], below_drewN B1.out _⟩
      case measure => simp [intOf]; omega
    · have hkn : k = n := by omega
      subst hkn
      go_wp2_with fail
      go_ret
      exact ⟨x, rfl, HS.out, BR.out⟩

end Go.Proofs.Ytlgcikmimmcmkaa.Ho
