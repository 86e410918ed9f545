/- Heights: the program; the model. -/
import Derived.Test.YtpmgbbhoplicgaaHo
namespace Go.Proofs.Ytpmgbbhoplicgaa.Ho
open Go.ChangeShapes Go.WideShapes Go.ChangeAt Go.RowKit
open Go.Proofs.Ytpmgbbhoplicgaa.Flt Go.Proofs.Ytpmgbbhoplicgaa.Wa Go.Proofs.Ytpmgbbhoplicgaa.An Go.Proofs.Ytpmgbbhoplicgaa.Co

attribute [local go_sem] Flt.run_store_float
attribute [local go_sem ↓] Go.wp_at_zero Go.wp_at_succ
set_option maxHeartbeats 2000000 in
theorem iat_any (L : Co.Ls) (h : Int) (v : Value) (w : World) (hL : Co.Reads w v L) (hok : okP L = true) (hh : inn h (-1000000) 1000000 = true) :
    Calls Try.prog 23 #[v, .int .i64 h] w fun e w' => ∃ x, e = .returned (.float .f64 x) ∧ cn x = hs L h L.length ∧ Below w.heap.size w w' := by
  have hf := hL.fits
  have o := (okP_iff L).1 hok
  have HT : Hid (∀ i w', i < L.length → Calls Try.prog 25 #[.agg #[.int .i64 (Co.c0 L i), .float .f64 (Co.c1 L i), .float .f64 (Co.c2 L i)], .int .i64 h] w' fun e w'' => ∃ a c, e = .returned (.complex .f64 a c) ∧ cn a = trm L h i ∧ Below w'.heap.size w' w'') := fun i w' hi => by
    refine (turned_any _ h _ _ w' (turn_in (o.2 i hi) hh)).mono ?_
    rintro e w'' ⟨a, c, rfl, ha, _, hb⟩
    exact ⟨a, c, rfl, ha, hb⟩
  have AT : Hid (∀ w' i, Below w.heap.size w w' → i < L.length → ∃ b o cap, v = .slice (some ⟨b, o, none⟩) L.length cap ∧ Co.Cs w' b o L i) := fun w' i hb hi => by
    obtain ⟨b, o, cap, e, hbb, hc⟩ := at_of hL (by omega)
    exact ⟨b, o, cap, e, (hc i hi).below hb hbb⟩
  have kA := hA
  obtain ⟨a, cap, rfl⟩ := hL.form
  obtain ⟨n, hn⟩ : ∃ n, n = L.length := ⟨_, rfl⟩
  rw [← hn] at AT HT hf ⊢
  clear hL hn o hok hh
  go_enter Try.func23, Try.ntmps23
  go_wp2_with fail
  go_loopw [5, 10] (fun s i wr => ∃ k x : Nat, k ≤ n ∧ i = .int .i64 k ∧ s = .float .f64 x ∧ Hid (cn x = hs L h k) ∧ Hid (Below w.heap.size w wr)) (fun _ i _ => n - (intOf i).toNat)
  case atStart => exact ⟨0, 0, by omega, rfl, rfl, cn_zero, Below.refl _ _⟩
  case round =>
    obtain ⟨k, x, hk, rfl, rfl, HS, BR⟩ := hrel
    by_cases hlt : k < n
    · obtain ⟨b, o, cp, e, q0, q1, q2⟩ := AT.out wr k BR.out hlt
      simp at e
      obtain ⟨rfl, rfl⟩ := e
      have i1 : (0 : Int) ≤ (k : Int) := by omega
      have i2 : (k : Int) < (n : Int) := by omega
      have C := HT.out k (wr.alloc (Obj.cells #[.int .i64 (Co.c0 L k), .float .f64 (Co.c1 L k), .float .f64 (Co.c2 L k)] 33)) hlt
      have HE : Hid (hs L h (k + 1) = opF .add (hs L h k) (trm L h k)) := rfl
      have BA : Below w.heap.size w (wr.alloc (Obj.cells #[.int .i64 (Co.c0 L k), .float .f64 (Co.c1 L k), .float .f64 (Co.c2 L k)] 33)) := BR.out.alloc BR.out.size _
      have HBA : Hid (Below w.heap.size w (wr.alloc (Obj.cells #[.int .i64 (Co.c0 L k), .float .f64 (Co.c1 L k), .float .f64 (Co.c2 L k)] 33))) := BA
      generalize Co.c0 L k = z0 at *
      generalize Co.c1 L k = z1 at *
      generalize Co.c2 L k = z2 at *
      have HC : Hid (Calls Try.prog 25 #[.agg #[.int .i64 z0, .float .f64 z1, .float .f64 z2], .int .i64 h] (wr.alloc (Obj.cells #[.int .i64 z0, .float .f64 z1, .float .f64 z2] 33)) fun e w'' => ∃ a c, e = .returned (.complex .f64 a c) ∧ cn a = trm L h k ∧ Below (wr.alloc (Obj.cells #[.int .i64 z0, .float .f64 z1, .float .f64 z2] 33)).heap.size (wr.alloc (Obj.cells #[.int .i64 z0, .float .f64 z1, .float .f64 z2] 33)) w'') := C
      clear C BA
      go_wp2_with fail
      refine HC.out.mono ?_
      rintro e w1 ⟨t0, t1, rfl, ht, hb⟩
      have HT0 : Hid (cn t0 = trm L h k) := ht
      have B1 : Hid (Below w.heap.size w w1) := HBA.out.trans (hb.mono HBA.out.size)
      clear ht hb HC HBA
      go_wp2_with fail
      go_roundw
      case rel => exact ⟨k + 1, _, by omega, by go_num, rfl, by show cn _ = _; rw [cn_op, HS.out, HT0.out, HE.out], below_drewN B1.out _⟩
      case measure => simp [intOf]; omega
    · have hkn : k = n := by omega
      subst hkn
      go_wp2_with fail
      go_ret
      exact ⟨x, rfl, HS.out, BR.out⟩

set_option maxHeartbeats 1000000 in
theorem ihei_any (L : Co.Ls) (h : Int) (v : Value) (w : World) (hL : Co.Reads w v L) :
    Calls Try.prog 8 #[v, .int .i64 h] w fun e w' => ∃ x, e = .returned (.float .f64 x) ∧ cn x = H0 L h ∧ Below w.heap.size w w' := by
  have C : Hid (Calls Try.prog 20 #[v] w fun e w' => e = .returned (.bool (okP L)) ∧ Below w.heap.size w w') := iok_any L v w hL
  have C2 : Hid (∀ w, Calls Try.prog 21 #[.int .i64 h] w fun e w' => e = .returned (.bool (inn h (-1000000) 1000000)) ∧ w' = w) := fun w => ihour h w
  have C3 : Hid (∀ w, Calls Try.prog 22 #[] w fun e w' => e = .returned (.float .f64 qn) ∧ w' = w) := fun w => nan_any w
  have C4 : Hid (okP L = true → inn h (-1000000) 1000000 = true → ∀ w', Below w.heap.size w w' → Calls Try.prog 23 #[v, .int .i64 h] w' fun e w'' => ∃ x, e = .returned (.float .f64 x) ∧ cn x = hs L h L.length ∧ Below w'.heap.size w' w'') := fun h1 h2 w' hb => iat_any L h v w' (hL.on hb) h1 h2
  have E0 : Hid (okP L = false ∨ inn h (-1000000) 1000000 = false → H0 L h = qn) := (by intro h'; show _ = _; unfold H0; rcases h' with e | e <;> rw [e] <;> simp)
  have E1 : Hid (okP L = true → inn h (-1000000) 1000000 = true → H0 L h = hs L h L.length) := (by intro e1 e2; show _ = _; unfold H0; rw [e1, e2]; rfl)
  obtain ⟨a, cap, rfl⟩ := hL.form
  clear hL
  generalize L.length = n at *
  cases ho : okP L
  · have e := E0.out (Or.inl ho)
    have HE : Hid (H0 L h = qn) := e
    rw [ho] at C
    clear ho e E0 E1
    go_enter Try.func8, Try.ntmps8
    go_wp2_with fail
    refine C.out.mono ?_
    rintro e w1 ⟨rfl, hb⟩
    have B1 : Hid (Below w.heap.size w w1) := hb
    clear hb
    go_wp2_with fail
    refine (C3.out _).mono ?_
    rintro e w2 ⟨rfl, hw⟩
    subst hw
    go_wp2_with fail
    go_ret
    exact ⟨qn, rfl, by rw [HE.out]; exact cn_nan nan_qn, B1.out⟩
  · rw [ho] at C
    cases hi : inn h (-1000000) 1000000
    · have e := E0.out (Or.inr hi)
      have HE : Hid (H0 L h = qn) := e
      rw [hi] at C2
      clear ho hi e E0 E1
      go_enter Try.func8, Try.ntmps8
      go_wp2_with fail
      refine C.out.mono ?_
      rintro e w1 ⟨rfl, hb⟩
      have B1 : Hid (Below w.heap.size w w1) := hb
      clear hb
      go_wp2_with fail
      refine (C2.out _).mono ?_
      rintro e w2 ⟨rfl, hw⟩
      subst hw
      go_wp2_with fail
      refine (C3.out _).mono ?_
      rintro e w2 ⟨rfl, hw⟩
      subst hw
      go_wp2_with fail
      go_ret
      exact ⟨qn, rfl, by rw [HE.out]; exact cn_nan nan_qn, B1.out⟩
    · have e := E1.out ho hi
      have HE : Hid (H0 L h = hs L h n) := e
      have K : Hid (∀ w', Below w.heap.size w w' → Calls Try.prog 23 #[.slice a n cap, .int .i64 h] w' fun e w'' => ∃ x, e = .returned (.float .f64 x) ∧ cn x = hs L h n ∧ Below w'.heap.size w' w'') := C4.out ho hi
      rw [hi] at C2
      clear ho hi e E0 E1 C4
      go_enter Try.func8, Try.ntmps8
      go_wp2_with fail
      refine C.out.mono ?_
      rintro e w1 ⟨rfl, hb⟩
      have B1 : Hid (Below w.heap.size w w1) := hb
      clear hb
      go_wp2_with fail
      refine (C2.out _).mono ?_
      rintro e w2 ⟨rfl, hw⟩
      have hw' := hw.symm
      subst hw'
      go_wp2_with fail
      refine (K.out w1 B1.out).mono ?_
      rintro e w3 ⟨x, rfl, hx, hb⟩
      have HX : Hid (cn x = hs L h n) := hx
      have B3 : Hid (Below w.heap.size w w3) := B1.out.trans (hb.mono B1.out.size)
      clear hx hb
      go_wp2_with fail
      go_ret
      exact ⟨x, rfl, by rw [HE.out]; exact HX.out, B3.out⟩
end Go.Proofs.Ytpmgbbhoplicgaa.Ho
