/- What a Packed unpacks to, as the program tells it. -/
import Derived.Test.YtgajajpcjbpalaaXoW
namespace Go.Proofs.Ytgajajpcjbpalaa.Pkd
open Go.ChangeShapes Go.WideShapes Go.ChangeAt Go.RowKit
open Go.Proofs.Ytgajajpcjbpalaa.Lists Go.Proofs.Ytgajajpcjbpalaa.Flt Go.Proofs.Ytgajajpcjbpalaa.Fls

theorem run_store_float {P : Program} (w : World) (a : Addr) (m : Mode) (k : FloatKind) (b : Nat) : (store a (.float k b) m).run P w = stored P w a (.float k b) m := run_store P w a _ m rfl
attribute [local go_sem] run_store_float
theorem Try.info40 : (Try.prog.info? 40).map (fun i => (i.zero, i.size, i.bytes)) = some (some (.float .f64 0), 1, 8) := by kernel_rfl

theorem cell_far (w : World) (a p : Addr) (v : Value) (h : p.block ≠ a.block) : (w.setCell a v).cell? p = w.cell? p := World.cell?_of_block (Below.heap_setCell w a v p.block h)

set_option maxHeartbeats 1000000 in
theorem iup_no (p : Pk) (tv cv : Value) (w : World) (hT : Bytes.Reads w tv p.th) (hC : Lists.Reads w cv p.cd) (l1 : p.th.length ≤ 1048576) (l2 : p.cd.length ≤ 1048576) (ho : okI p = false) :
    Calls Try.prog 16 #[pkv p tv cv] w fun e w' => e = .returned (.tuple #[.slice none 0 0, .bool false]) ∧ Below w.heap.size w w' := by
  obtain ⟨w1, hw1⟩ : ∃ w1, w1 = w.alloc (Obj.cells #[.int .i64 p.cnt, .int .i64 p.dec, .int .i64 p.ref, .int .i64 p.exp, .int .i64 p.bits, tv, cv] 26) := ⟨_, rfl⟩
  have B1 : Hid (Below w.heap.size w w1) := (by show Below _ _ _; rw [hw1]; exact (Below.refl _ _).alloc (Nat.le_refl _) _)
  have HP : Hid (Calls Try.prog 37 #[pkv p tv cv] w1 fun e w' => e = .returned (.bool false) ∧ Below w1.heap.size w1 w') := (by show Calls _ _ _ _ _; rw [← ho]; exact ipok_any p tv cv w1 (hT.on B1.out) (hC.on B1.out) l1 l2)
  have HW1 : Hid (w1 = w.alloc (Obj.cells #[.int .i64 p.cnt, .int .i64 p.dec, .int .i64 p.ref, .int .i64 p.exp, .int .i64 p.bits, tv, cv] 26)) := hw1
  clear hw1 ho hT hC
  unfold pkv at HP ⊢
  go_enter Try.func16, Try.ntmps16
  go_wp2_with fail
  rw [← HW1.out]
  refine HP.out.mono ?_
  rintro e w2 ⟨rfl, b2⟩
  have B2 : Hid (Below w.heap.size w w2) := B1.out.trans (b2.mono B1.out.size)
  clear b2 HW1 HP
  go_wp2_with fail
  go_ret2
  exact ⟨rfl, B2.out⟩

set_option maxHeartbeats 1000000 in
set_option maxRecDepth 20000 in
theorem iup_empty (dec r : Int) (n b d : Nat) (T L : List Int) (tv cv : Value) (w : World) (hT : Bytes.Reads w tv T) (hC : Lists.Reads w cv L) (hB : byts T)
    (h2 : n ≤ 4096) (h3 : -3 ≤ dec) (h4 : dec ≤ 6) (h5 : 1 ≤ b) (h6 : b ≤ 24) (h7 : d ≤ 41) (h8 : -1099511627776 ≤ r) (h9 : r ≤ 1099511627776) (h0 : T.length = 0) (hth : thB (n : Int) T L.length = true) (hk : L.all (cok (mst b d)) = true) :
    Calls Try.prog 16 #[.agg #[.int .i64 (n : Int), .int .i64 dec, .int .i64 r, .int .i64 (d : Int), .int .i64 (b : Int), tv, cv]] w fun e w' => ∃ v, e = .returned (.tuple #[v, .bool true]) ∧ w'.ownsRow w.heap.size 40 1 v n (flts (outs dec r d T L n)) ∧ Below w.heap.size w w' := by
  obtain ⟨i0, hi, hz0, hz1, hz2⟩ := info_parts Try.info40
  obtain ⟨l2, l1⟩ := nc_le n T L.length hB hth (by omega)
  obtain ⟨w1, hw1⟩ : ∃ w1, w1 = w.alloc (Obj.cells #[.int .i64 (n : Int), .int .i64 dec, .int .i64 r, .int .i64 (d : Int), .int .i64 (b : Int), tv, cv] 26) := ⟨_, rfl⟩
  have B1 : Hid (Below w.heap.size w w1) := (by show Below _ _ _; rw [hw1]; exact (Below.refl _ _).alloc (Nat.le_refl _) _)
  have z1 : w1.heap.size = w.heap.size + 1 := by rw [hw1]; simp
  have ho : okI ⟨n, dec, r, d, b, T, L⟩ = true := by
    unfold okI heads inn
    simp only [Int.toNat_natCast]
    rw [hth, hk]
    simp [h3, h4, h8, h9]
    omega
  have HP : Hid (Calls Try.prog 37 #[.agg #[.int .i64 (n : Int), .int .i64 dec, .int .i64 r, .int .i64 (d : Int), .int .i64 (b : Int), tv, cv]] w1 fun e w' => e = .returned (.bool true) ∧ Below w1.heap.size w1 w') := (by show Calls _ _ _ _ _; rw [← ho]; exact ipok_any ⟨n, dec, r, d, b, T, L⟩ tv cv w1 (hT.on B1.out) (hC.on B1.out) (by simp only; omega) (by simp only; omega))
  have HQ : Hid (∀ w', Below w.heap.size w w' → Calls Try.prog 38 #[.iface 52 (.agg #[.int .i64 (b : Int)]), .agg #[.int .i64 (n : Int), .int .i64 dec, .int .i64 r, .int .i64 (d : Int), .int .i64 (b : Int), tv, cv]] w' fun e w'' => ∃ v, e = .returned (.tuple #[v, .bool true]) ∧ w''.ownsRow w'.heap.size 2 1 v L.length (ints (whs r d L)) ∧ Below w'.heap.size w' w'') := fun w' hb' => back_any w' n dec r b d tv cv L h7 h6 h8 h9 (hC.on hb') (by omega) hk
  have k0 : w1.cell? ⟨w.heap.size, 0, none⟩ = some (.int .i64 (n : Int)) := by rw [hw1]; simp [go_sem]
  have k1 : w1.cell? ⟨w.heap.size, 1, none⟩ = some (.int .i64 dec) := by rw [hw1]; simp [go_sem]
  have k2 : w1.cell? ⟨w.heap.size, 2, none⟩ = some (.int .i64 r) := by rw [hw1]; simp [go_sem]
  have k3 : w1.cell? ⟨w.heap.size, 3, none⟩ = some (.int .i64 (d : Int)) := by rw [hw1]; simp [go_sem]
  have k4 : w1.cell? ⟨w.heap.size, 4, none⟩ = some (.int .i64 (b : Int)) := by rw [hw1]; simp [go_sem]
  have k5 : w1.cell? ⟨w.heap.size, 5, none⟩ = some (tv) := by rw [hw1]; simp [go_sem]
  have k6 : w1.cell? ⟨w.heap.size, 6, none⟩ = some (cv) := by rw [hw1]; simp [go_sem]
  have HW1 : Hid (w1 = w.alloc (Obj.cells #[.int .i64 (n : Int), .int .i64 dec, .int .i64 r, .int .i64 (d : Int), .int .i64 (b : Int), tv, cv] 26)) := hw1
  clear hw1 ho hC
  obtain ⟨O, hO⟩ : ∃ O, O = outs dec r d T L n := ⟨_, rfl⟩
  have ol : O.length = n := by rw [hO, outs_len]
  have FZ : Hid ((madeCells (Value.float .f64 0).cells (n * 1)).toList = flts (wmid O 0)) := (by have := wmid_zero O; rw [ol] at this; exact this)
  rw [← hO]
  have HO : Hid (O = outs dec r d T L n) := hO
  have HOL : Hid (O.length = n) := ol
  have HE : Hid (∀ k, k < n → O.getD k 0 = el dec r d T L k) := fun k hk => (by rw [hO]; exact outs_get dec r d T L n k hk)
  have HPL : Hid (∀ k, k < n → T.length = 0 ∨ k < T.length) := fun k hk => th_place n T L.length k hB hth (by omega)
  have HLT : Hid (∀ k, k < n → miss T k = false → nz T k < L.length) := fun k hk hm => nz_lt n T L.length k hB hth (by omega) hm
  have HWB : Hid (∀ i, i < L.length → (wh r d (L.getD i 0)).natAbs < 9007199254740992) := fun i hi => wh_bound b d r L h6 h8 h9 hk i hi
  have hng : IntKind.i64.wrap (-dec) = -dec := IntWalk.i64_in _ (by omega)
  have hng2 : wrap64 (-dec) = -dec := IntWalk.wrap64_in _ (by omega)
  clear hO ol hth hk hB
  go_enter Try.func16, Try.ntmps16
  go_wp2_with fail
  rw [← HW1.out]
  refine HP.out.mono ?_
  rintro e w2 ⟨rfl, b2⟩
  have B2 : Hid (Below w.heap.size w w2) := B1.out.trans (b2.mono B1.out.size)
  have z2 : w.heap.size + 1 ≤ w2.heap.size := by have := b2.size; omega
  have m0 : w2.cell? ⟨w.heap.size, 0, none⟩ = some (.int .i64 (n : Int)) := (b2.cell (p := ⟨w.heap.size, 0, none⟩) (by show w.heap.size < _; omega)).trans k0
  have m1 : w2.cell? ⟨w.heap.size, 1, none⟩ = some (.int .i64 dec) := (b2.cell (p := ⟨w.heap.size, 1, none⟩) (by show w.heap.size < _; omega)).trans k1
  have m2 : w2.cell? ⟨w.heap.size, 2, none⟩ = some (.int .i64 r) := (b2.cell (p := ⟨w.heap.size, 2, none⟩) (by show w.heap.size < _; omega)).trans k2
  have m3 : w2.cell? ⟨w.heap.size, 3, none⟩ = some (.int .i64 (d : Int)) := (b2.cell (p := ⟨w.heap.size, 3, none⟩) (by show w.heap.size < _; omega)).trans k3
  have m4 : w2.cell? ⟨w.heap.size, 4, none⟩ = some (.int .i64 (b : Int)) := (b2.cell (p := ⟨w.heap.size, 4, none⟩) (by show w.heap.size < _; omega)).trans k4
  have m5 : w2.cell? ⟨w.heap.size, 5, none⟩ = some (tv) := (b2.cell (p := ⟨w.heap.size, 5, none⟩) (by show w.heap.size < _; omega)).trans k5
  have m6 : w2.cell? ⟨w.heap.size, 6, none⟩ = some (cv) := (b2.cell (p := ⟨w.heap.size, 6, none⟩) (by show w.heap.size < _; omega)).trans k6
  clear b2 HW1 HP k0 k1 k2 k3 k4 k5 k6 B1 z1
  go_wp2_with fail
  refine (HQ.out w2 B2.out).mono ?_
  rintro e w3 ⟨lv, rfl, o3, b3⟩
  have B3 : Hid (Below w.heap.size w w3) := B2.out.trans (b3.mono B2.out.size)
  have z3 : w.heap.size + 1 ≤ w3.heap.size := by have := b3.size; omega
  have n0 : w3.cell? ⟨w.heap.size, 0, none⟩ = some (.int .i64 (n : Int)) := (b3.cell (p := ⟨w.heap.size, 0, none⟩) (by show w.heap.size < _; omega)).trans m0
  have n1 : w3.cell? ⟨w.heap.size, 1, none⟩ = some (.int .i64 dec) := (b3.cell (p := ⟨w.heap.size, 1, none⟩) (by show w.heap.size < _; omega)).trans m1
  have n2 : w3.cell? ⟨w.heap.size, 2, none⟩ = some (.int .i64 r) := (b3.cell (p := ⟨w.heap.size, 2, none⟩) (by show w.heap.size < _; omega)).trans m2
  have n3 : w3.cell? ⟨w.heap.size, 3, none⟩ = some (.int .i64 (d : Int)) := (b3.cell (p := ⟨w.heap.size, 3, none⟩) (by show w.heap.size < _; omega)).trans m3
  have n4 : w3.cell? ⟨w.heap.size, 4, none⟩ = some (.int .i64 (b : Int)) := (b3.cell (p := ⟨w.heap.size, 4, none⟩) (by show w.heap.size < _; omega)).trans m4
  have n5 : w3.cell? ⟨w.heap.size, 5, none⟩ = some (tv) := (b3.cell (p := ⟨w.heap.size, 5, none⟩) (by show w.heap.size < _; omega)).trans m5
  have n6 : w3.cell? ⟨w.heap.size, 6, none⟩ = some (cv) := (b3.cell (p := ⟨w.heap.size, 6, none⟩) (by show w.heap.size < _; omega)).trans m6
  have RT := hT.on B3.out
  rw [← whs_len r d L] at o3
  have RX := Lists.reads_row o3
  clear b3 HQ m0 m1 m2 m3 m4 m5 m6 B2 z2 o3 hT
  obtain ⟨y, cap, rfl⟩ := RT.form
  have H0 : Hid (T.length = 0) := h0
  rw [h0] at n5
  simp only [h0]
  clear h0
  obtain ⟨x, capx, rfl⟩ := RX.form
  go_wp2_with (at_make; refine wpList_make_full _ rfl _ _ 22 rfl w3.heap.size 40 i0 (.float .f64 0) 1 Try.underlying22 hi hz0 hz1 .i64 .i64 (n : Int) (n : Int) n rfl rfl rfl rfl (by rw [hz2]; omega) (by unfold maxLen; omega) (Nat.le_refl _) ?_; intro w4 hown hgrow)
  rw [FZ.out] at hown
  have R0 : Hid (w4.ownsRow w3.heap.size 40 1 (.slice (some ⟨w3.heap.size, 0, none⟩) n n) n (flts (wmid O 0))) := hown
  have B0 : Hid (Below w3.heap.size w3 w4) := (Below.refl _ _).grown hgrow (Nat.le_refl _) (fun k hk => by cases hk)
  have hct : ∃ f : Nat → Nat × Nat, (0 < T.length → y = some ⟨(f 0).1, (f 0).2, none⟩ ∧ (f 0).1 < w3.heap.size) ∧ ∀ i, i < T.length → w3.cell? ⟨(f 0).1, (f 0).2 + i, none⟩ = some (.int .u8 (T.getD i 0)) := by
    rcases RT with ⟨h, _⟩ | ⟨b, o, cap, h1, h2, h3, h4, h5⟩
    · have : T.length = 0 := by rw [h]; rfl
      exact ⟨fun _ => (0, 0), fun hi => by omega, fun i hi => by omega⟩
    · refine ⟨fun _ => (b, o), fun _ => ?_, h5⟩
      simp at h1
      exact ⟨h1.1, h4⟩
  have hcx : ∃ g : Nat → Nat × Nat, (0 < L.length → x = some ⟨(g 0).1, (g 0).2, none⟩ ∧ (g 0).1 < w3.heap.size ∧ L.length ≤ capx ∧ capx ≤ maxLen) ∧ ∀ i, i < L.length → w3.cell? ⟨(g 0).1, (g 0).2 + i, none⟩ = some (.int .i64 (wh r d (L.getD i 0))) := by
    rcases RX with ⟨h, _⟩ | ⟨b, o, cap, h1, h2, h3, h4, h5⟩
    · have : L.length = 0 := by rw [← whs_len r d L, h]; rfl
      exact ⟨fun _ => (0, 0), fun hi => by omega, fun i hi => by omega⟩
    · rw [whs_len] at h1 h2
      simp at h1
      obtain ⟨e1, e2, e3⟩ := h1
      refine ⟨fun _ => (b, o), fun _ => ⟨e1, h4, by omega, by omega⟩, fun i hi => ?_⟩
      rw [h5 i (by rw [whs_len]; exact hi)]
      simp [whs, List.getD_eq_getElem?_getD, hi]
  obtain ⟨f, fx, fc⟩ := hct
  obtain ⟨g, gx, gc⟩ := hcx
  have FX : Hid (0 < T.length → y = some ⟨(f 0).1, (f 0).2, none⟩ ∧ (f 0).1 < w3.heap.size) := fx
  have FC : Hid (∀ i, i < T.length → w3.cell? ⟨(f 0).1, (f 0).2 + i, none⟩ = some (.int .u8 (T.getD i 0))) := fc
  have GX : Hid (0 < L.length → x = some ⟨(g 0).1, (g 0).2, none⟩ ∧ (g 0).1 < w3.heap.size ∧ L.length ≤ capx ∧ capx ≤ maxLen) := gx
  have GC : Hid (∀ i, i < L.length → w3.cell? ⟨(g 0).1, (g 0).2 + i, none⟩ = some (.int .i64 (wh r d (L.getD i 0)))) := gc
  clear fx fc gx gc hown hgrow RT RX
  rw [whs_len]
  go_loopw [4, 25] (fun v i wr => ∃ k : Nat, ∃ a c, k ≤ n ∧ i = .int .i64 k ∧ v = .slice a (L.length - nz T k) c ∧ Hid (nz T k < L.length → a = some ⟨(g 0).1, (g 0).2 + nz T k, none⟩ ∧ c = capx - nz T k) ∧ Hid (wr.ownsRow w3.heap.size 40 1 (.slice (some ⟨w3.heap.size, 0, none⟩) n n) n (flts (wmid O k))) ∧ Hid (Below w3.heap.size w3 wr)) (fun _ i _ => n - (intOf i).toNat)
  case atStart => exact ⟨0, x, capx, Nat.zero_le _, rfl, by rw [nz_zero]; rfl, (fun h => by rw [nz_zero] at h ⊢; exact ⟨(GX.out h).1, rfl⟩), R0, B0⟩
  case round =>
    obtain ⟨k, xa, xc, hk, rfl, rfl, HA, R, BB⟩ := hrel
    by_cases hlt : k < n
    · have i0' : (0 : Int) ≤ (k : Int) := by omega
      have i1 : (k : Int) < (n : Int) := by omega
      have q5 : wr.cell? ⟨w.heap.size, 5, none⟩ = some (.slice y 0 cap) := (BB.out.cell (p := ⟨w.heap.size, 5, none⟩) (by show w.heap.size < _; omega)).trans n5
      have q1 : wr.cell? ⟨w.heap.size, 1, none⟩ = some (.int .i64 dec) := (BB.out.cell (p := ⟨w.heap.size, 1, none⟩) (by show w.heap.size < _; omega)).trans n1
      have qz : ∃ z, wr.cell? ⟨w3.heap.size, k, none⟩ = some (.float .f64 z) := by
        have := R.out.cellAt k (by omega)
        rw [this]
        have hl : k < (wmid O k).length := by rw [wmid_len, HOL.out]; exact hlt
        exact ⟨(wmid O k)[k], by simp [flts, List.getElem?_map, List.getElem?_eq_getElem hl]⟩
      obtain ⟨zo, qz⟩ := qz
      have qf : wr.frozen? ⟨w3.heap.size, k, none⟩ = false := R.out.frozenAt k
      have R' : Hid ((wr.setCell ⟨w3.heap.size, k, none⟩ (.float .f64 (el dec r d T L k))).ownsRow w3.heap.size 40 1 (.slice (some ⟨w3.heap.size, 0, none⟩) n n) n (flts (wmid O (k + 1)))) := by
        show World.ownsRow _ _ _ _ _ _ _
        rw [← wmid_set, ← flts_set, HE.out k hlt]
        exact (R.out.stored k _).1
      have B' : Hid (Below w3.heap.size w3 (wr.setCell ⟨w3.heap.size, k, none⟩ (.float .f64 (el dec r d T L k)))) := BB.out.setCell (p := ⟨w3.heap.size, k, none⟩) (Nat.le_refl _) _
      have HPL2 : Hid (T.length = 0 ∨ k < T.length) := HPL.out k hlt
      cases hm : miss T k
      · have hnl := HLT.out k hlt hm
        obtain ⟨ha1, ha2⟩ := HA.out hnl
        subst ha1 ha2
        obtain ⟨hx0, hg, hcp, hcm⟩ := GX.out (by omega)
        clear hx0
        have ee : el dec r d T L k = vl dec (wh r d (L.getD (nz T k) 0)) := by unfold el; rw [hm]; rfl
        have HZB : Hid ((wh r d (L.getD (nz T k) 0)).natAbs < 9007199254740992) := HWB.out _ hnl
        have qx : wr.cell? ⟨(g 0).1, (g 0).2 + nz T k, none⟩ = some (.int .i64 (wh r d (L.getD (nz T k) 0))) := (BB.out.cell (p := ⟨(g 0).1, (g 0).2 + nz T k, none⟩) hg).trans (GC.out _ hnl)
        have HNZ : Hid (nz T (k + 1) = nz T k + 1) := nz_yes T k HPL2.out hm
        rw [ee] at R' B'
        have RR : Hid (∀ q, ((wr.setCell ⟨w3.heap.size, k, none⟩ (.float .f64 (vl dec (wh r d (L.getD (nz T k) 0))))).drewN q).ownsRow w3.heap.size 40 1 (.slice (some ⟨w3.heap.size, 0, none⟩) n n) n (flts (wmid O (k + 1)))) := fun q => R'.out
        have BR : Hid (∀ q, Below w3.heap.size w3 ((wr.setCell ⟨w3.heap.size, k, none⟩ (.float .f64 (vl dec (wh r d (L.getD (nz T k) 0))))).drewN q)) := fun q => below_drewN B'.out q
        have QT : Hid ((f 0).1 < w3.heap.size → k < T.length → wr.cell? ⟨(f 0).1, (f 0).2 + k, none⟩ = some (.int .u8 (T.getD k 0))) := fun hf hk => (BB.out.cell (p := ⟨(f 0).1, (f 0).2 + k, none⟩) hf).trans (FC.out k hk)
        clear ee R R' B' BB
        generalize wh r d (L.getD (nz T k) 0) = z at *
        generalize nz T k = t at *
        obtain ⟨m, hm2⟩ : ∃ m, m = L.length - t := ⟨_, rfl⟩
        obtain ⟨cx, hcx⟩ : ∃ cx, cx = capx - t := ⟨_, rfl⟩
        have m1 : 1 ≤ m := by omega
        have m2 : m ≤ cx := by omega
        have m3 : cx ≤ 9223372036854775807 := by unfold maxLen at hcm; omega
        rw [← hm2, ← hcx]
        have HMM : Hid (m = L.length - t) := hm2
        have HCX : Hid (cx = capx - t) := hcx
        have hzd : Hid (z.natAbs < 9007199254740992) := HZB
        clear hm2 hcx hnl
        have s1 : (wr.setCell ⟨w3.heap.size, k, none⟩ (.float .f64 (vl dec z))).cell? ⟨w.heap.size, 1, none⟩ = some (.int .i64 dec) := (cell_far _ _ _ _ (by simp; omega)).trans q1
        have s2 : (wr.setCell ⟨w3.heap.size, k, none⟩ (.float .f64 (vl dec z))).cell? ⟨(g 0).1, (g 0).2 + t, none⟩ = some (.int .i64 z) := (cell_far _ _ _ _ (by simp; omega)).trans qx
        have m1i : 0 < m := by omega
        go_wp2_with fail
        go_region_held3 (fun w' => w'.cell? ⟨w.heap.size, 1, none⟩ = some (.int .i64 dec) ∧ w'.cell? ⟨(g 0).1, (g 0).2 + t, none⟩ = some (.int .i64 z)) (go_keep) ((go_at_call 40; refine (scaled_any z dec hzd.out h3 h4 _).mono ?_; rintro e w' ⟨rfl, hw⟩; subst hw))
        rename_i hH
        clear hH
        by_cases hcx1 : cx = 1
        · subst hcx1
          obtain rfl : m = 1 := by omega
          go_wp2_with fail
          go_roundw
          case rel => exact ⟨k + 1, _, _, by omega, by go_num, (by rw [HNZ.out]; have := HMM.out; congr 1; omega), (fun h => by exfalso; rw [HNZ.out] at h; have := HMM.out; omega), RR.out 1, BR.out 1⟩
          case measure => simp [intOf]; omega
        · have hc2 : ¬ cx = 1 := hcx1
          go_wp2_with fail
          go_roundw
          case rel => exact ⟨k + 1, _, _, by omega, by go_num, (by rw [HNZ.out]; have := HMM.out; congr 1; omega), (fun h => by rw [HNZ.out] at h ⊢; have := HMM.out; have := HCX.out; exact ⟨by congr 2, by omega⟩), RR.out 1, BR.out 1⟩
          case measure => simp [intOf]; omega
      · exfalso
        have e0 := H0.out
        unfold miss at hm
        rw [e0] at hm
        simp at hm
    · have hkn : k = n := by omega
      subst hkn
      have RE : Hid (wr.ownsRow w.heap.size 40 1 (.slice (some ⟨w3.heap.size, 0, none⟩) k k) k (flts O)) := (by
        have h := R.out
        have e := wmid_all O
        rw [HOL.out] at e
        rw [e] at h
        refine ⟨h.1, ?_⟩
        rcases h.2 with h | ⟨gx, cap, cur, h1, h2, h3⟩
        · exact .inl h
        · exact .inr ⟨gx, cap, cur, h1, by omega, h3⟩)
      have BE : Hid (Below w.heap.size w wr) := B3.out.trans (BB.out.mono (by omega))
      clear R
      go_wp2_with fail
      go_ret2
      exact ⟨_, rfl, RE.out, BE.out⟩

set_option maxHeartbeats 1000000 in
set_option maxRecDepth 20000 in
theorem iup_full (dec r : Int) (n b d : Nat) (T L : List Int) (tv cv : Value) (w : World) (hT : Bytes.Reads w tv T) (hC : Lists.Reads w cv L) (hB : byts T)
    (h2 : n ≤ 4096) (h3 : -3 ≤ dec) (h4 : dec ≤ 6) (h5 : 1 ≤ b) (h6 : b ≤ 24) (h7 : d ≤ 41) (h8 : -1099511627776 ≤ r) (h9 : r ≤ 1099511627776) (h0 : T.length ≠ 0) (hth : thB (n : Int) T L.length = true) (hk : L.all (cok (mst b d)) = true) :
    Calls Try.prog 16 #[.agg #[.int .i64 (n : Int), .int .i64 dec, .int .i64 r, .int .i64 (d : Int), .int .i64 (b : Int), tv, cv]] w fun e w' => ∃ v, e = .returned (.tuple #[v, .bool true]) ∧ w'.ownsRow w.heap.size 40 1 v n (flts (outs dec r d T L n)) ∧ Below w.heap.size w w' := by
  obtain ⟨i0, hi, hz0, hz1, hz2⟩ := info_parts Try.info40
  obtain ⟨l2, l1⟩ := nc_le n T L.length hB hth (by omega)
  obtain ⟨w1, hw1⟩ : ∃ w1, w1 = w.alloc (Obj.cells #[.int .i64 (n : Int), .int .i64 dec, .int .i64 r, .int .i64 (d : Int), .int .i64 (b : Int), tv, cv] 26) := ⟨_, rfl⟩
  have B1 : Hid (Below w.heap.size w w1) := (by show Below _ _ _; rw [hw1]; exact (Below.refl _ _).alloc (Nat.le_refl _) _)
  have z1 : w1.heap.size = w.heap.size + 1 := by rw [hw1]; simp
  have ho : okI ⟨n, dec, r, d, b, T, L⟩ = true := by
    unfold okI heads inn
    simp only [Int.toNat_natCast]
    rw [hth, hk]
    simp [h3, h4, h8, h9]
    omega
  have HP : Hid (Calls Try.prog 37 #[.agg #[.int .i64 (n : Int), .int .i64 dec, .int .i64 r, .int .i64 (d : Int), .int .i64 (b : Int), tv, cv]] w1 fun e w' => e = .returned (.bool true) ∧ Below w1.heap.size w1 w') := (by show Calls _ _ _ _ _; rw [← ho]; exact ipok_any ⟨n, dec, r, d, b, T, L⟩ tv cv w1 (hT.on B1.out) (hC.on B1.out) (by simp only; omega) (by simp only; omega))
  have HQ : Hid (∀ w', Below w.heap.size w w' → Calls Try.prog 38 #[.iface 52 (.agg #[.int .i64 (b : Int)]), .agg #[.int .i64 (n : Int), .int .i64 dec, .int .i64 r, .int .i64 (d : Int), .int .i64 (b : Int), tv, cv]] w' fun e w'' => ∃ v, e = .returned (.tuple #[v, .bool true]) ∧ w''.ownsRow w'.heap.size 2 1 v L.length (ints (whs r d L)) ∧ Below w'.heap.size w' w'') := fun w' hb' => back_any w' n dec r b d tv cv L h7 h6 h8 h9 (hC.on hb') (by omega) hk
  have k0 : w1.cell? ⟨w.heap.size, 0, none⟩ = some (.int .i64 (n : Int)) := by rw [hw1]; simp [go_sem]
  have k1 : w1.cell? ⟨w.heap.size, 1, none⟩ = some (.int .i64 dec) := by rw [hw1]; simp [go_sem]
  have k2 : w1.cell? ⟨w.heap.size, 2, none⟩ = some (.int .i64 r) := by rw [hw1]; simp [go_sem]
  have k3 : w1.cell? ⟨w.heap.size, 3, none⟩ = some (.int .i64 (d : Int)) := by rw [hw1]; simp [go_sem]
  have k4 : w1.cell? ⟨w.heap.size, 4, none⟩ = some (.int .i64 (b : Int)) := by rw [hw1]; simp [go_sem]
  have k5 : w1.cell? ⟨w.heap.size, 5, none⟩ = some (tv) := by rw [hw1]; simp [go_sem]
  have k6 : w1.cell? ⟨w.heap.size, 6, none⟩ = some (cv) := by rw [hw1]; simp [go_sem]
  have HW1 : Hid (w1 = w.alloc (Obj.cells #[.int .i64 (n : Int), .int .i64 dec, .int .i64 r, .int .i64 (d : Int), .int .i64 (b : Int), tv, cv] 26)) := hw1
  clear hw1 ho hC
  obtain ⟨O, hO⟩ : ∃ O, O = outs dec r d T L n := ⟨_, rfl⟩
  have ol : O.length = n := by rw [hO, outs_len]
  have FZ : Hid ((madeCells (Value.float .f64 0).cells (n * 1)).toList = flts (wmid O 0)) := (by have := wmid_zero O; rw [ol] at this; exact this)
  rw [← hO]
  have HO : Hid (O = outs dec r d T L n) := hO
  have HOL : Hid (O.length = n) := ol
  have HE : Hid (∀ k, k < n → O.getD k 0 = el dec r d T L k) := fun k hk => (by rw [hO]; exact outs_get dec r d T L n k hk)
  have HPL : Hid (∀ k, k < n → T.length = 0 ∨ k < T.length) := fun k hk => th_place n T L.length k hB hth (by omega)
  have HLT : Hid (∀ k, k < n → miss T k = false → nz T k < L.length) := fun k hk hm => nz_lt n T L.length k hB hth (by omega) hm
  have HWB : Hid (∀ i, i < L.length → (wh r d (L.getD i 0)).natAbs < 9007199254740992) := fun i hi => wh_bound b d r L h6 h8 h9 hk i hi
  have hng : IntKind.i64.wrap (-dec) = -dec := IntWalk.i64_in _ (by omega)
  have hng2 : wrap64 (-dec) = -dec := IntWalk.wrap64_in _ (by omega)
  clear hO ol hth hk hB
  go_enter Try.func16, Try.ntmps16
  go_wp2_with fail
  rw [← HW1.out]
  refine HP.out.mono ?_
  rintro e w2 ⟨rfl, b2⟩
  have B2 : Hid (Below w.heap.size w w2) := B1.out.trans (b2.mono B1.out.size)
  have z2 : w.heap.size + 1 ≤ w2.heap.size := by have := b2.size; omega
  have m0 : w2.cell? ⟨w.heap.size, 0, none⟩ = some (.int .i64 (n : Int)) := (b2.cell (p := ⟨w.heap.size, 0, none⟩) (by show w.heap.size < _; omega)).trans k0
  have m1 : w2.cell? ⟨w.heap.size, 1, none⟩ = some (.int .i64 dec) := (b2.cell (p := ⟨w.heap.size, 1, none⟩) (by show w.heap.size < _; omega)).trans k1
  have m2 : w2.cell? ⟨w.heap.size, 2, none⟩ = some (.int .i64 r) := (b2.cell (p := ⟨w.heap.size, 2, none⟩) (by show w.heap.size < _; omega)).trans k2
  have m3 : w2.cell? ⟨w.heap.size, 3, none⟩ = some (.int .i64 (d : Int)) := (b2.cell (p := ⟨w.heap.size, 3, none⟩) (by show w.heap.size < _; omega)).trans k3
  have m4 : w2.cell? ⟨w.heap.size, 4, none⟩ = some (.int .i64 (b : Int)) := (b2.cell (p := ⟨w.heap.size, 4, none⟩) (by show w.heap.size < _; omega)).trans k4
  have m5 : w2.cell? ⟨w.heap.size, 5, none⟩ = some (tv) := (b2.cell (p := ⟨w.heap.size, 5, none⟩) (by show w.heap.size < _; omega)).trans k5
  have m6 : w2.cell? ⟨w.heap.size, 6, none⟩ = some (cv) := (b2.cell (p := ⟨w.heap.size, 6, none⟩) (by show w.heap.size < _; omega)).trans k6
  clear b2 HW1 HP k0 k1 k2 k3 k4 k5 k6 B1 z1
  go_wp2_with fail
  refine (HQ.out w2 B2.out).mono ?_
  rintro e w3 ⟨lv, rfl, o3, b3⟩
  have B3 : Hid (Below w.heap.size w w3) := B2.out.trans (b3.mono B2.out.size)
  have z3 : w.heap.size + 1 ≤ w3.heap.size := by have := b3.size; omega
  have n0 : w3.cell? ⟨w.heap.size, 0, none⟩ = some (.int .i64 (n : Int)) := (b3.cell (p := ⟨w.heap.size, 0, none⟩) (by show w.heap.size < _; omega)).trans m0
  have n1 : w3.cell? ⟨w.heap.size, 1, none⟩ = some (.int .i64 dec) := (b3.cell (p := ⟨w.heap.size, 1, none⟩) (by show w.heap.size < _; omega)).trans m1
  have n2 : w3.cell? ⟨w.heap.size, 2, none⟩ = some (.int .i64 r) := (b3.cell (p := ⟨w.heap.size, 2, none⟩) (by show w.heap.size < _; omega)).trans m2
  have n3 : w3.cell? ⟨w.heap.size, 3, none⟩ = some (.int .i64 (d : Int)) := (b3.cell (p := ⟨w.heap.size, 3, none⟩) (by show w.heap.size < _; omega)).trans m3
  have n4 : w3.cell? ⟨w.heap.size, 4, none⟩ = some (.int .i64 (b : Int)) := (b3.cell (p := ⟨w.heap.size, 4, none⟩) (by show w.heap.size < _; omega)).trans m4
  have n5 : w3.cell? ⟨w.heap.size, 5, none⟩ = some (tv) := (b3.cell (p := ⟨w.heap.size, 5, none⟩) (by show w.heap.size < _; omega)).trans m5
  have n6 : w3.cell? ⟨w.heap.size, 6, none⟩ = some (cv) := (b3.cell (p := ⟨w.heap.size, 6, none⟩) (by show w.heap.size < _; omega)).trans m6
  have RT := hT.on B3.out
  rw [← whs_len r d L] at o3
  have RX := Lists.reads_row o3
  clear b3 HQ m0 m1 m2 m3 m4 m5 m6 B2 z2 o3 hT
  obtain ⟨y, cap, rfl⟩ := RT.form
  obtain ⟨x, capx, rfl⟩ := RX.form
  go_wp2_with (at_make; refine wpList_make_full _ rfl _ _ 22 rfl w3.heap.size 40 i0 (.float .f64 0) 1 Try.underlying22 hi hz0 hz1 .i64 .i64 (n : Int) (n : Int) n rfl rfl rfl rfl (by rw [hz2]; omega) (by unfold maxLen; omega) (Nat.le_refl _) ?_; intro w4 hown hgrow)
  rw [FZ.out] at hown
  have R0 : Hid (w4.ownsRow w3.heap.size 40 1 (.slice (some ⟨w3.heap.size, 0, none⟩) n n) n (flts (wmid O 0))) := hown
  have B0 : Hid (Below w3.heap.size w3 w4) := (Below.refl _ _).grown hgrow (Nat.le_refl _) (fun k hk => by cases hk)
  have hct : ∃ f : Nat → Nat × Nat, (0 < T.length → y = some ⟨(f 0).1, (f 0).2, none⟩ ∧ (f 0).1 < w3.heap.size) ∧ ∀ i, i < T.length → w3.cell? ⟨(f 0).1, (f 0).2 + i, none⟩ = some (.int .u8 (T.getD i 0)) := by
    rcases RT with ⟨h, _⟩ | ⟨b, o, cap, h1, h2, h3, h4, h5⟩
    · have : T.length = 0 := by rw [h]; rfl
      exact ⟨fun _ => (0, 0), fun hi => by omega, fun i hi => by omega⟩
    · refine ⟨fun _ => (b, o), fun _ => ?_, h5⟩
      simp at h1
      exact ⟨h1.1, h4⟩
  have hcx : ∃ g : Nat → Nat × Nat, (0 < L.length → x = some ⟨(g 0).1, (g 0).2, none⟩ ∧ (g 0).1 < w3.heap.size ∧ L.length ≤ capx ∧ capx ≤ maxLen) ∧ ∀ i, i < L.length → w3.cell? ⟨(g 0).1, (g 0).2 + i, none⟩ = some (.int .i64 (wh r d (L.getD i 0))) := by
    rcases RX with ⟨h, _⟩ | ⟨b, o, cap, h1, h2, h3, h4, h5⟩
    · have : L.length = 0 := by rw [← whs_len r d L, h]; rfl
      exact ⟨fun _ => (0, 0), fun hi => by omega, fun i hi => by omega⟩
    · rw [whs_len] at h1 h2
      simp at h1
      obtain ⟨e1, e2, e3⟩ := h1
      refine ⟨fun _ => (b, o), fun _ => ⟨e1, h4, by omega, by omega⟩, fun i hi => ?_⟩
      rw [h5 i (by rw [whs_len]; exact hi)]
      simp [whs, List.getD_eq_getElem?_getD, hi]
  obtain ⟨f, fx, fc⟩ := hct
  obtain ⟨g, gx, gc⟩ := hcx
  have FX : Hid (0 < T.length → y = some ⟨(f 0).1, (f 0).2, none⟩ ∧ (f 0).1 < w3.heap.size) := fx
  have FC : Hid (∀ i, i < T.length → w3.cell? ⟨(f 0).1, (f 0).2 + i, none⟩ = some (.int .u8 (T.getD i 0))) := fc
  have GX : Hid (0 < L.length → x = some ⟨(g 0).1, (g 0).2, none⟩ ∧ (g 0).1 < w3.heap.size ∧ L.length ≤ capx ∧ capx ≤ maxLen) := gx
  have GC : Hid (∀ i, i < L.length → w3.cell? ⟨(g 0).1, (g 0).2 + i, none⟩ = some (.int .i64 (wh r d (L.getD i 0)))) := gc
  clear fx fc gx gc hown hgrow RT RX
  rw [whs_len]
  go_loopw [4, 25] (fun v i wr => ∃ k : Nat, ∃ a c, k ≤ n ∧ i = .int .i64 k ∧ v = .slice a (L.length - nz T k) c ∧ Hid (nz T k < L.length → a = some ⟨(g 0).1, (g 0).2 + nz T k, none⟩ ∧ c = capx - nz T k) ∧ Hid (wr.ownsRow w3.heap.size 40 1 (.slice (some ⟨w3.heap.size, 0, none⟩) n n) n (flts (wmid O k))) ∧ Hid (Below w3.heap.size w3 wr)) (fun _ i _ => n - (intOf i).toNat)
  case atStart => exact ⟨0, x, capx, Nat.zero_le _, rfl, by rw [nz_zero]; rfl, (fun h => by rw [nz_zero] at h ⊢; exact ⟨(GX.out h).1, rfl⟩), R0, B0⟩
  case round =>
    obtain ⟨k, xa, xc, hk, rfl, rfl, HA, R, BB⟩ := hrel
    by_cases hlt : k < n
    · have i0' : (0 : Int) ≤ (k : Int) := by omega
      have i1 : (k : Int) < (n : Int) := by omega
      have q5 : wr.cell? ⟨w.heap.size, 5, none⟩ = some (.slice y T.length cap) := (BB.out.cell (p := ⟨w.heap.size, 5, none⟩) (by show w.heap.size < _; omega)).trans n5
      have q1 : wr.cell? ⟨w.heap.size, 1, none⟩ = some (.int .i64 dec) := (BB.out.cell (p := ⟨w.heap.size, 1, none⟩) (by show w.heap.size < _; omega)).trans n1
      have qz : ∃ z, wr.cell? ⟨w3.heap.size, k, none⟩ = some (.float .f64 z) := by
        have := R.out.cellAt k (by omega)
        rw [this]
        have hl : k < (wmid O k).length := by rw [wmid_len, HOL.out]; exact hlt
        exact ⟨(wmid O k)[k], by simp [flts, List.getElem?_map, List.getElem?_eq_getElem hl]⟩
      obtain ⟨zo, qz⟩ := qz
      have qf : wr.frozen? ⟨w3.heap.size, k, none⟩ = false := R.out.frozenAt k
      have R' : Hid ((wr.setCell ⟨w3.heap.size, k, none⟩ (.float .f64 (el dec r d T L k))).ownsRow w3.heap.size 40 1 (.slice (some ⟨w3.heap.size, 0, none⟩) n n) n (flts (wmid O (k + 1)))) := by
        show World.ownsRow _ _ _ _ _ _ _
        rw [← wmid_set, ← flts_set, HE.out k hlt]
        exact (R.out.stored k _).1
      have B' : Hid (Below w3.heap.size w3 (wr.setCell ⟨w3.heap.size, k, none⟩ (.float .f64 (el dec r d T L k)))) := BB.out.setCell (p := ⟨w3.heap.size, k, none⟩) (Nat.le_refl _) _
      have hpl := HPL.out k hlt
      cases hm : miss T k
      · have hnl := HLT.out k hlt hm
        obtain ⟨ha1, ha2⟩ := HA.out hnl
        subst ha1 ha2
        obtain ⟨hx0, hg, hcp, hcm⟩ := GX.out (by omega)
        clear hx0
        have ee : el dec r d T L k = vl dec (wh r d (L.getD (nz T k) 0)) := by unfold el; rw [hm]; rfl
        have HZB : Hid ((wh r d (L.getD (nz T k) 0)).natAbs < 9007199254740992) := HWB.out _ hnl
        have qx : wr.cell? ⟨(g 0).1, (g 0).2 + nz T k, none⟩ = some (.int .i64 (wh r d (L.getD (nz T k) 0))) := (BB.out.cell (p := ⟨(g 0).1, (g 0).2 + nz T k, none⟩) hg).trans (GC.out _ hnl)
        have HNZ : Hid (nz T (k + 1) = nz T k + 1) := nz_yes T k hpl hm
        rw [ee] at R' B'
        have RR : Hid (∀ q, ((wr.setCell ⟨w3.heap.size, k, none⟩ (.float .f64 (vl dec (wh r d (L.getD (nz T k) 0))))).drewN q).ownsRow w3.heap.size 40 1 (.slice (some ⟨w3.heap.size, 0, none⟩) n n) n (flts (wmid O (k + 1)))) := fun q => R'.out
        have BR : Hid (∀ q, Below w3.heap.size w3 ((wr.setCell ⟨w3.heap.size, k, none⟩ (.float .f64 (vl dec (wh r d (L.getD (nz T k) 0))))).drewN q)) := fun q => below_drewN B'.out q
        have QT : Hid ((f 0).1 < w3.heap.size → k < T.length → wr.cell? ⟨(f 0).1, (f 0).2 + k, none⟩ = some (.int .u8 (T.getD k 0))) := fun hf hk => (BB.out.cell (p := ⟨(f 0).1, (f 0).2 + k, none⟩) hf).trans (FC.out k hk)
        clear ee R R' B' BB
        generalize wh r d (L.getD (nz T k) 0) = z at *
        generalize nz T k = t at *
        obtain ⟨m, hm2⟩ : ∃ m, m = L.length - t := ⟨_, rfl⟩
        obtain ⟨cx, hcx⟩ : ∃ cx, cx = capx - t := ⟨_, rfl⟩
        have m1 : 1 ≤ m := by omega
        have m2 : m ≤ cx := by omega
        have m3 : cx ≤ 9223372036854775807 := by unfold maxLen at hcm; omega
        rw [← hm2, ← hcx]
        have HMM : Hid (m = L.length - t) := hm2
        have HCX : Hid (cx = capx - t) := hcx
        have hzd : Hid (z.natAbs < 9007199254740992) := HZB
        clear hm2 hcx hnl
        have s1 : (wr.setCell ⟨w3.heap.size, k, none⟩ (.float .f64 (vl dec z))).cell? ⟨w.heap.size, 1, none⟩ = some (.int .i64 dec) := (cell_far _ _ _ _ (by simp; omega)).trans q1
        have s2 : (wr.setCell ⟨w3.heap.size, k, none⟩ (.float .f64 (vl dec z))).cell? ⟨(g 0).1, (g 0).2 + t, none⟩ = some (.int .i64 z) := (cell_far _ _ _ _ (by simp; omega)).trans qx
        have m1i : 0 < m := by omega
        have tk : k < T.length := by omega
        obtain ⟨hy, hf⟩ := FX.out (by omega)
        subst hy
        have tz : T.getD k 0 ≠ 0 := by
          intro h
          unfold miss at hm
          rw [h, decide_eq_true (show 0 < T.length by omega)] at hm
          simp at hm
        have qt : wr.cell? ⟨(f 0).1, (f 0).2 + k, none⟩ = some (.int .u8 (T.getD k 0)) := QT.out hf tk
        have tzz : (T.getD k 0 == 0) = false := by simpa using tz
        have t0' : (0 : Int) < (T.length : Int) := by omega
        have t0n : 0 < T.length := by omega
        have t2 : (k : Int) < (T.length : Int) := by omega
        generalize T.getD k 0 = tb at *
        generalize T.length = tl at *
        clear hm
        go_wp2_with fail
        go_region_held3 (fun w' => w'.cell? ⟨w.heap.size, 1, none⟩ = some (.int .i64 dec) ∧ w'.cell? ⟨(g 0).1, (g 0).2 + t, none⟩ = some (.int .i64 z)) (go_keep) ((go_at_call 40; refine (scaled_any z dec hzd.out h3 h4 _).mono ?_; rintro e w' ⟨rfl, hw⟩; subst hw))
        rename_i hH
        clear hH
        by_cases hcx1 : cx = 1
        · subst hcx1
          obtain rfl : m = 1 := by omega
          go_wp2_with fail
          go_roundw
          case rel => exact ⟨k + 1, _, _, by omega, by go_num, (by rw [HNZ.out]; have := HMM.out; congr 1; omega), (fun h => by exfalso; rw [HNZ.out] at h; have := HMM.out; omega), RR.out 1, BR.out 1⟩
          case measure => simp [intOf]; omega
        · have hc2 : ¬ cx = 1 := hcx1
          go_wp2_with fail
          go_roundw
          case rel => exact ⟨k + 1, _, _, by omega, by go_num, (by rw [HNZ.out]; have := HMM.out; congr 1; omega), (fun h => by rw [HNZ.out] at h ⊢; have := HMM.out; have := HCX.out; exact ⟨by congr 2, by omega⟩), RR.out 1, BR.out 1⟩
          case measure => simp [intOf]; omega
      · have hm' := hm
        unfold miss at hm'
        simp only [Bool.and_eq_true, decide_eq_true_eq] at hm'
        obtain ⟨t0, t1⟩ := hm'
        obtain ⟨hy, hf⟩ := FX.out t0
        subst hy
        have qt : wr.cell? ⟨(f 0).1, (f 0).2 + k, none⟩ = some (.int .u8 0) := by rw [BB.out.cell (p := ⟨(f 0).1, (f 0).2 + k, none⟩) hf, FC.out k (by omega), t1]
        have ee : el dec r d T L k = qn := by unfold el; rw [hm]; rfl
        have t0' : (0 : Int) < (T.length : Int) := by omega
        have t2 : (k : Int) < (T.length : Int) := by omega
        have nzk : nz T (k + 1) = nz T k := nz_miss T k hpl hm
        rw [ee] at R' B'
        have HNZ : Hid (nz T (k + 1) = nz T k) := nzk
        clear hm t1 ee nzk R
        generalize T.length = tl at *
        go_wp2_with (go_at_call 39; refine (nan_any _).mono ?_; rintro e w' ⟨rfl, hw⟩; subst hw)
        go_roundw
        case rel => exact ⟨k + 1, xa, xc, by omega, by go_num, by rw [HNZ.out], by rw [HNZ.out]; exact HA, R', B'⟩
        case measure => simp [intOf]; omega
    · have hkn : k = n := by omega
      subst hkn
      have RE : Hid (wr.ownsRow w.heap.size 40 1 (.slice (some ⟨w3.heap.size, 0, none⟩) k k) k (flts O)) := (by
        have h := R.out
        have e := wmid_all O
        rw [HOL.out] at e
        rw [e] at h
        refine ⟨h.1, ?_⟩
        rcases h.2 with h | ⟨gx, cap, cur, h1, h2, h3⟩
        · exact .inl h
        · exact .inr ⟨gx, cap, cur, h1, by omega, h3⟩)
      have BE : Hid (Below w.heap.size w wr) := B3.out.trans (BB.out.mono (by omega))
      clear R
      go_wp2_with fail
      go_ret2
      exact ⟨_, rfl, RE.out, BE.out⟩
end Go.Proofs.Ytgajajpcjbpalaa.Pkd
