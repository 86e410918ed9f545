/- Deal, the model. -/
import Derived.Test.YtfnkcoppdelmjaaDi
import Derived.Maps.AppendAt
namespace Go.Proofs.Ytfnkcoppdelmjaa.Dl
open Go.ChangeShapes Go.WideShapes Go.ChangeAt Go.RowKit
open Al Eo
open Go.Proofs.Ytfnkcoppdelmjaa.Lists (ints)

theorem lit_row (w : World) (base : Nat) (h : base ≤ w.heap.size) : (w.alloc (Obj.cells #[] 2)).ownsRow base 2 1 (.slice (some ⟨w.heap.size, 0, none⟩) 0 0) 0 (ints []) := World.ownsRow_lit w #[] 0 h (Nat.zero_le _) rfl
theorem form_of {w : World} {B k : Nat} {v : Value} {L : List Int} (h : w.ownsRow B 2 1 v k (ints L)) (hL : L.length = k) : ∃ a c, v = .slice a k c := by
  have := Lists.reads_row (L := L) (by rw [hL]; exact h)
  obtain ⟨a, c, e⟩ := this.form
  rw [hL] at e
  exact ⟨a, c, e⟩
theorem cell_one (w : World) (v0 : Value) (t : TypeId) : ∀ j u, [v0][j]? = some u → (w.alloc (Obj.cells #[v0] t)).cell? ((⟨w.heap.size, 0, none⟩ : Addr).add j) = some u := by
  intro j u hj
  match j, hj with
  | 0, hj => simp at hj; subst hj; simp [Addr.add]
theorem one_one (x : Int) : ∀ u ∈ [Value.int .i64 x], u.oneCell' = true := by intro u hu; simp at hu; subst hu; rfl

set_option maxHeartbeats 1000000 in
theorem sdeal_no (L : En.Ls) (v : Value) (B S : Int) (w : World) (h : En.Reads w v L) (hno : (decide (L.length ≤ 300) && (inn B 0 1000000000000 && inn S 1 100)) = false) :
    Calls Try.prog 12 #[v, .int .i64 B, .int .i64 S] w fun e w' => ∃ u0, e = .returned (.tuple #[u0, .bool false]) ∧ w'.ownsRow w.heap.size 2 1 u0 0 (ints []) ∧ Below w.heap.size w w' := by
  have BB : Hid (Below w.heap.size w (w.alloc (Obj.cells #[] 2))) := (Below.refl _ _).alloc (Nat.le_refl _) _
  have RB : Hid ((w.alloc (Obj.cells #[] 2)).ownsRow w.heap.size 2 1 (.slice (some ⟨w.heap.size, 0, none⟩) 0 0) 0 (ints [])) := lit_row w _ (Nat.le_refl _)
  obtain ⟨a, cap, rfl⟩ := h.form
  obtain ⟨q1, hq1⟩ : ∃ q, q = inn B 0 1000000000000 := ⟨_, rfl⟩
  obtain ⟨q2, hq2⟩ : ∃ q, q = inn S 1 100 := ⟨_, rfl⟩
  have C1 : Hid (∀ w : World, Calls Try.prog 30 #[.int .i64 B, .int .i64 0, .int .i64 1000000000000] w fun e w' => e = .returned (.bool q1) ∧ w' = w) := fun w => hq1 ▸ s_in _ _ _ w
  have C2 : Hid (∀ w : World, Calls Try.prog 30 #[.int .i64 S, .int .i64 1, .int .i64 100] w fun e w' => e = .returned (.bool q2) ∧ w' = w) := fun w => hq2 ▸ s_in _ _ _ w
  rw [← hq1, ← hq2] at hno
  have HNO : Hid ((decide (L.length ≤ 300) && (q1 && q2)) = false) := hno
  have fl := h.fits
  clear h hq1 hq2 hno
  generalize List.length L = n at *
  by_cases h3 : n ≤ 300
  · have j3 : ¬ (300 : Int) < (n : Int) := by omega
    rw [decide_eq_true h3] at HNO
    go_enter Try.func12, Try.ntmps12
    go_wp2_with fail
    refine (C1.out _).mono ?_
    rintro e w2 ⟨rfl, hw⟩
    subst hw
    cases q1
    · go_wp2_with fail
      go_ret2
      exact ⟨_, rfl, RB.out, BB.out⟩
    · go_wp2_with fail
      refine (C2.out _).mono ?_
      rintro e w2 ⟨rfl, hw⟩
      subst hw
      cases q2
      · go_wp2_with fail
        go_ret2
        exact ⟨_, rfl, RB.out, BB.out⟩
      · exact absurd HNO.out (by simp)
  · have j3 : (300 : Int) < (n : Int) := by omega
    go_enter Try.func12, Try.ntmps12
    go_wp2_with fail
    go_ret2
    exact ⟨_, rfl, RB.out, BB.out⟩

/-- What the rounds keep: the slots, what has been dealt. -/
structure DM (U D : List Int) (w : World) (base g1 n : Nat) (wr : World) (v : Value) (k : Nat) : Prop where
  us : wr.ownsRow base 2 1 (.slice (some ⟨g1, 0, none⟩) n n) n (ints U)
  ou : wr.ownsRow base 2 1 v k (ints D)
  ap : v.ownBlock ≠ some g1
  bl : Below base w wr
theorem DM.on {U D : List Int} {w : World} {base g1 n : Nat} {wr w' : World} {v : Value} {k : Nat} (h : DM U D w base g1 n wr v k) (hb : Below wr.heap.size wr w') (hs : base ≤ wr.heap.size) : DM U D w base g1 n w' v k :=
  ⟨row_on h.us hb, row_on h.ou hb, h.ap, h.bl.trans (hb.mono hs)⟩
theorem DM.drew {U D : List Int} {w : World} {base g1 n : Nat} {wr : World} {v : Value} {k : Nat} (h : DM U D w base g1 n wr v k) : DM U D w base g1 n wr.drew v k := ⟨h.us, h.ou, h.ap, h.bl.drew⟩

set_option maxRecDepth 20000 in
set_option maxHeartbeats 2000000 in
theorem sdeal_any (L : En.Ls) (v : Value) (B : Int) (n : Nat) (w : World) (h : En.Reads w v L) (hf : Ft L) (l3 : L.length ≤ 300) (ok1 : inn B 0 1000000000000 = true) (ok2 : inn n 1 100 = true) (X : List Int)
    (hX : X = if okE L then dls L B n L.length else []) :
    Calls Try.prog 12 #[v, .int .i64 B, .int .i64 n] w fun e w' => ∃ u0, e = .returned (.tuple #[u0, .bool (okE L)]) ∧ w'.ownsRow w.heap.size 2 1 u0 X.length (ints X) ∧ Below w.heap.size w w' := by
  have C1 : Hid (∀ w : World, Calls Try.prog 30 #[.int .i64 B, .int .i64 0, .int .i64 1000000000000] w fun e w' => e = .returned (.bool true) ∧ w' = w) := fun w => ok1 ▸ s_in _ _ _ w
  have C2 : Hid (∀ w : World, Calls Try.prog 30 #[.int .i64 n, .int .i64 1, .int .i64 100] w fun e w' => e = .returned (.bool true) ∧ w' = w) := fun w => ok2 ▸ s_in _ _ _ w
  have B01 := (inn_iff _ _ _).1 ok1
  have S01 := (inn_iff _ _ _).1 ok2
  have HF : Hid (Ft L) := hf
  have BB : Hid (Below w.heap.size w (w.alloc (Obj.cells #[] 2))) := (Below.refl _ _).alloc (Nat.le_refl _) _
  have RB : Hid ((w.alloc (Obj.cells #[] 2)).ownsRow w.heap.size 2 1 (.slice (some ⟨w.heap.size, 0, none⟩) 0 0) 0 (ints [])) := lit_row w _ (Nat.le_refl _)
  have ZZ : Hid (w.heap.size < (w.alloc (Obj.cells #[] 2)).heap.size) := (by show _ < _; simp)
  obtain ⟨i0, hi, hz0, hz1, hz2⟩ := info_parts Lists.Try.info2
  obtain ⟨a, cap, rfl⟩ := h.form
  have HC : Hid (∀ (w' : World) (i : Nat), Below w.heap.size w w' → i < L.length → ∃ b o, a = some ⟨b, o, none⟩ ∧ b < w.heap.size ∧ En.Cs w' b o L i) := fun w' i hb hi => (by
      rcases h with ⟨rfl, _⟩ | ⟨b, o, c, e, _, _, x, y⟩
      · simp at hi
      · simp at e; exact ⟨b, o, e.1, x, (y i hi).below hb x⟩)
  have FN : Hid ((madeCells (Value.int .i64 0).cells (n * 1)).toList = ints (us L B n 0)) := (by
    show _ = _
    apply List.ext_getElem
    · simp [madeCells, ints, us]
    · intro i h1 h2
      simp [madeCells, ints, us, Value.cells, Nat.mod_one])
  obtain ⟨q, hq⟩ : ∃ q, q = okE L := ⟨_, rfl⟩
  have HQ : Hid (q = okE L) := hq
  have HX : Hid (X = if okE L then dls L B n L.length else []) := hX
  rw [← hq]
  clear h hf ok1 ok2 hq hX
  obtain ⟨m, hm⟩ : ∃ m, m = L.length := ⟨_, rfl⟩
  have HM : Hid (m = L.length) := hm
  have HKO : Hid (okE L = alls L m) := (by show _ = _; unfold okE; rw [decide_eq_true l3, hm]; rfl)
  rw [← hm] at l3 HC HX ⊢
  have j3 : ¬ (300 : Int) < (m : Int) := by omega
  clear hm
  obtain ⟨w0, hw0⟩ : ∃ w0, w0 = w.alloc (Obj.cells #[] 2) := ⟨_, rfl⟩
  have HW0 : Hid (w0 = w.alloc (Obj.cells #[] 2)) := hw0
  rw [← hw0] at BB RB ZZ
  clear hw0
  go_enter Try.func12, Try.ntmps12
  go_wp2_with fail
  rw [← HW0.out]
  refine (C1.out _).mono ?_
  rintro e w1 ⟨rfl, hw⟩
  subst hw
  go_wp2_with fail
  refine (C2.out _).mono ?_
  rintro e w0 ⟨rfl, hw⟩
  subst hw
  go_wp2_with (at_make; refine wpList_make_full _ rfl _ _ 33 rfl w.heap.size 2 i0 (.int .i64 0) 1 Try.underlying33 hi hz0 hz1 .i64 .i64 (n : Int) (n : Int) n rfl rfl rfl rfl (by rw [hz2]; omega) (by unfold maxLen; omega) (Nat.le_of_lt ZZ.out) ?_; intro w2 hown hgrow)
  rw [FN.out] at hown
  have D0 : Hid (DM (us L B n 0) (dls L B n 0) w w.heap.size w0.heap.size n w2 (.slice (some ⟨w.heap.size, 0, none⟩) 0 0) 0) := ⟨hown, RB.out.kept hgrow (Or.inr (by intro e; cases e)), (by intro e; have := ZZ.out; simp [Value.ownBlock] at e; omega), BB.out.grown hgrow (Nat.le_of_lt ZZ.out) (fun k hk => by cases hk)⟩
  have G0 : Hid (w.heap.size < w0.heap.size ∧ w0.heap.size < w2.heap.size) := ⟨ZZ.out, (hown.lt w0.heap.size rfl).2⟩
  generalize w0.heap.size = g1 at *
  clear hown hgrow ZZ RB BB FN HW0
  go_wp2_with fail
  go_loopw [8, 10] (fun u i wr => ∃ k : Nat, k ≤ m ∧ i = .int .i64 k ∧ Hid (alls L k = true) ∧ Hid (DM (us L B n k) (dls L B n k) w w.heap.size g1 n wr u k)) (fun _ i _ => m - (intOf i).toNat)
  case atStart => exact ⟨0, Nat.zero_le _, rfl, rfl, D0⟩
  case round =>
    obtain ⟨k, hk, rfl, AK, D⟩ := hrel
    obtain ⟨va, vc, ev⟩ := form_of D.out.ou (dls_len L B n k)
    subst ev
    clear D0
    by_cases hlt : k < m
    · have i0' : (0 : Int) ≤ (k : Int) := by omega
      have i1 : (k : Int) < (m : Int) := by omega
      have hlt' : k < L.length := by rw [← HM.out]; exact hlt
      obtain ⟨b, o, rfl, hbw, q0, q1, q2, q3, q4⟩ := HC.out wr k D.out.bl hlt
      have HQC : Hid (∀ w', Below wr.heap.size wr w' → En.Cs w' b o L k) := fun w' hb => (HC.out w' k (D.out.bl.trans (hb.mono D.out.bl.size)) hlt).elim fun b' x => x.elim fun o' y => by
        have := y.1
        simp at this
        obtain ⟨rfl, rfl⟩ := this
        exact y.2.2
      obtain ⟨qq, hqq⟩ : ∃ q, q = ek L k := ⟨_, rfl⟩
      have CK : Hid (∀ w : World, Calls Try.prog 20 #[.agg #[.string (En.c0 L k), .int .i64 (En.c1 L k), .int .i64 (En.c2 L k), .int .i64 (En.c3 L k), .int .i64 (En.c4 L k)]] w fun e w' => e = .returned (.bool qq) ∧ Below w.heap.size w w') := fun w => hqq ▸ sentry_any _ _ _ _ _ w (HF.out k hlt')
      have HQQ : Hid (qq = ek L k) := hqq
      have BU : Hid (Bd (us L B n k) B) := us_bd L B n B01.1 k (fun i hi => (ek_size (by have := AK.out; unfold alls at this; rw [List.all_eq_true] at this; exact this i (by simpa using hi))).1)
      have HZ : Hid (ek L k = true → 0 ≤ En.c4 L k ∧ En.c4 L k ≤ 1000000000) := fun h => ek_size h
      have HDS : Hid (dls L B n (k + 1) = dls L B n k ++ [aw (us L B n k) (En.c4 L k) B]) := dls_succ L B n k
      have HUN : Hid (us L B n (k + 1) = nxt (us L B n k) (En.c4 L k) B) := rfl
      have HUL : Hid ((us L B n k).length = n) := us_len L B n k
      have SB : Hid (w.heap.size ≤ wr.heap.size) := D.out.bl.size
      have HX4 : Hid (∀ w', Below w.heap.size w w' → w'.cell? ⟨b, o + k * 5 + 4, none⟩ = some (.int .i64 (En.c4 L k))) := fun w' hb => (HC.out w' k hb hlt).elim fun b' x => x.elim fun o' y => by
        have := y.1
        simp at this
        obtain ⟨rfl, rfl⟩ := this
        exact y.2.2.2.2.2.2
      clear hqq
      unfold En.Cs at HQC
      generalize En.c0 L k = x0 at *
      generalize En.c1 L k = x1 at *
      generalize En.c2 L k = x2 at *
      generalize En.c3 L k = x3 at *
      generalize En.c4 L k = x4 at *
      generalize us L B n k = U at *
      go_wp2_with fail
      refine (CK.out _).mono ?_
      rintro e w3 ⟨rfl, hb3⟩
      have D3 : Hid (DM U (dls L B n k) w w.heap.size g1 n w3 (.slice va k vc) k) := D.out.on hb3 SB.out
      have E3 : Hid (∀ w', Below w3.heap.size w3 w' → True) := fun _ _ => trivial
      clear q0 q1 q2 q3 q4
      obtain ⟨q0, q1, q2, q3, q4⟩ := HQC.out w3 hb3
      have BW3 : Hid (b < w.heap.size ∧ w.heap.size ≤ w3.heap.size) := ⟨hbw, D3.out.bl.size⟩
      clear D hb3 E3
      cases qq
      · have EO : Hid (q = false) := (by show _ = _; rw [HQ.out, HKO.out]; exact alls_at hlt HQQ.out.symm)
        have EX : Hid (X = []) := (by show _ = _; rw [HX.out, ← HQ.out, EO.out]; rfl)
        have RB3 : Hid ((w3.alloc (Obj.cells #[] 2)).ownsRow w.heap.size 2 1 (.slice (some ⟨w3.heap.size, 0, none⟩) 0 0) 0 (ints [])) := lit_row w3 _ BW3.out.2
        have BB3 : Hid (Below w.heap.size w (w3.alloc (Obj.cells #[] 2))) := D3.out.bl.alloc BW3.out.2 _
        go_wp2_with fail
        go_ret2
        exact ⟨_, by rw [EO.out]; rfl, by rw [EX.out]; exact RB3.out, BB3.out⟩
      · have AN : Hid (alls L (k + 1) = true) := (by show _ = _; rw [alls_succ, AK.out, ← HQQ.out]; rfl)
        have BZ := HZ.out HQQ.out.symm
        clear HZ
        obtain ⟨wo, hwo⟩ : ∃ wo, wo = w3 := ⟨_, rfl⟩
        subst hwo
        have HW : Hid (w.heap.size ≤ wo.heap.size) := BW3.out.2
        clear q0 q1 q2 q3 q4 HQC
        obtain ⟨wz, hwz⟩ : ∃ wz, wz = wr := ⟨_, rfl⟩
        subst hwz
        go_wp2_with fail
        go_loopw [11, 12] (fun t i wr => ∃ s : Nat, s ≤ n ∧ i = .int .i64 s ∧ ((t = .int .i64 (-1) ∧ Hid (∀ j, j < s → B < U.getD j 0 + x4) ∧ Hid (DM U (dls L B n k) w w.heap.size g1 n wr (.slice va k vc) k)) ∨ (∃ f : Nat, t = .int .i64 f ∧ Hid (f < n ∧ fnd U x4 B = f) ∧ Hid (DM (nxt U x4 B) (dls L B n k) w w.heap.size g1 n wr (.slice va k vc) k)))) (fun _ i _ => n - (intOf i).toNat)
        case atStart => exact ⟨0, Nat.zero_le _, rfl, Or.inl ⟨rfl, fun j hj => by omega, D3⟩⟩
        case round =>
          obtain ⟨s, hs, rfl, hh⟩ := hrel
          have ul := HUL.out
          rcases hh with ⟨rfl, NB, D4⟩ | ⟨f, rfl, FF, D4⟩
          · by_cases hsn : s < n
            · have s0 : (0 : Int) ≤ (s : Int) := by omega
              have s1 : (s : Int) < (n : Int) := by omega
              have c4 := HX4.out wr D4.out.bl
              have cu : wr.cell? ⟨g1, s, none⟩ = some (.int .i64 (U.getD s 0)) := Lists.row_cell (L := U) (cap := n) (base := w.heap.size) (by rw [ul]; exact D4.out.us) _ (by omega)
              have fu : wr.frozen? ⟨g1, s, none⟩ = false := D4.out.us.frozenAt _
              have bu := BU.out s (by omega)
              by_cases hy : U.getD s 0 + x4 ≤ B
              · have FS : Hid (s < n ∧ fnd U x4 B = s) := ⟨hsn, fnd_at (by omega) NB.out hy⟩
                have D5 : Hid (DM (nxt U x4 B) (dls L B n k) w w.heap.size g1 n (wr.setCell ⟨g1, s, none⟩ (.int .i64 (U.getD s 0 + x4))) (.slice va k vc) k) := (by
                  refine ⟨?_, row_set D4.out.ou _ _ D4.out.ap, D4.out.ap, D4.out.bl.setCell (p := ⟨g1, s, none⟩) (Nat.le_of_lt G0.out.1) _⟩
                  unfold nxt; rw [FS.out.2, ← Lists.ints_set]
                  exact (D4.out.us.stored _ _).1)
                generalize U.getD s 0 = uz at *
                have ew : IntKind.i64.wrap (uz + x4) = uz + x4 := IntWalk.i64_in _ (by omega)
                clear NB
                go_wp2_with fail
                go_region
                all_goals go_wp2_with fail
                all_goals go_region
                all_goals go_wp2_with fail
                all_goals go_roundw
                case rel => exact ⟨s + 1, by omega, by go_num, Or.inr ⟨s, rfl, FS, D5.out.drew.drew⟩⟩
                case measure => simp [intOf]; omega
              · have NB' : Hid (∀ j, j < s + 1 → B < U.getD j 0 + x4) := fun j hj => by
                  by_cases e : j = s
                  · subst e; omega
                  · exact NB.out j (by omega)
                generalize U.getD s 0 = uz at *
                have ew : IntKind.i64.wrap (uz + x4) = uz + x4 := IntWalk.i64_in _ (by omega)
                have hy' : B < uz + x4 := by omega
                clear NB
                go_wp2_with fail
                go_region
                all_goals go_wp2_with fail
                all_goals go_roundw
                case rel => exact ⟨s + 1, by omega, by go_num, Or.inl ⟨rfl, NB', D4.out.drew⟩⟩
                case measure => simp [intOf]; omega
            · have hfn : fnd U x4 B = U.length := fnd_none (fun j hj => NB.out j (by omega))
              have haw : Hid (aw U x4 B = -1) := (by show _ = _; unfold aw; rw [hfn, if_neg (by omega)])
              have hnx : Hid (nxt U x4 B = U) := (by show _ = _; unfold nxt; rw [List.set_eq_of_length_le (by omega)])
              have js : ¬ (s : Int) < (n : Int) := by omega
              clear NB hfn
              have z6 : w.heap.size ≤ wr.heap.size := D4.out.bl.size
              go_wp2_with (at_builtin; refine wpList_append_own_at _ rfl _ _ 33 rfl w.heap.size 2 i0 (.int .i64 0) 1 8 Try.underlying33 hi hz0 hz1 hz2 rfl (by decide) _ _ _ rfl (D4.out.ou.alloc _) ⟨wr.heap.size, 0, none⟩ 1 1 [.int .i64 (-1)] rfl rfl (cell_one wr _ 2) (one_one _) (by unfold maxLen; omega) (by omega) (by simp; omega) ?_)
              · intro v' w7 hown hgrow _ hat
                have D7 : Hid (DM (us L B n (k + 1)) (dls L B n (k + 1)) w w.heap.size g1 n w7 v' (k + 1)) := (by
                  have ap := D4.out.ap
                  have gl : g1 < wr.heap.size := (D4.out.us.lt g1 rfl).2
                  refine ⟨?_, ?_, ?_, ?_⟩
                  · rw [HUN.out, hnx.out]
                    refine (D4.out.us.alloc _).kept hgrow (Or.inr ?_)
                    intro e; exact ap e.symm
                  · rw [HDS.out, haw.out]
                    have : ints (dls L B n k ++ [(-1 : Int)]) = ints (dls L B n k) ++ [.int .i64 (-1)] := by simp [ints]
                    rw [this]
                    exact hown
                  · intro e
                    rcases hat with x | x
                    · exact ap (x.symm.trans e)
                    · rw [x] at e
                      simp at e
                      omega
                  · exact (D4.out.bl.alloc z6 _).grown hgrow (by simp; omega) (fun c hc => (D4.out.ou.lt c hc).1))
                clear hown hgrow hat HDS HUN
                go_wp2_with fail
                go_roundw
                case rel => exact ⟨k + 1, by omega, by go_num, AN, D7⟩
                case measure => simp [intOf]; omega
          · have haw : Hid (aw U x4 B = (f : Int)) := (by show _ = _; unfold aw; rw [FF.out.2, if_pos (by rw [ul]; exact FF.out.1)])
            have jf : ¬ (f : Int) < 0 := by omega
            by_cases hsn : s < n
            · have s1 : (s : Int) < (n : Int) := by omega
              have z6 : w.heap.size ≤ wr.heap.size := D4.out.bl.size
              go_wp2_with (at_builtin; refine wpList_append_own_at _ rfl _ _ 33 rfl w.heap.size 2 i0 (.int .i64 0) 1 8 Try.underlying33 hi hz0 hz1 hz2 rfl (by decide) _ _ _ rfl (D4.out.ou.alloc _) ⟨wr.heap.size, 0, none⟩ 1 1 [.int .i64 (f)] rfl rfl (cell_one wr _ 2) (one_one _) (by unfold maxLen; omega) (by omega) (by simp; omega) ?_)
              · intro v' w7 hown hgrow _ hat
                have D7 : Hid (DM (us L B n (k + 1)) (dls L B n (k + 1)) w w.heap.size g1 n w7 v' (k + 1)) := (by
                  have ap := D4.out.ap
                  have gl : g1 < wr.heap.size := (D4.out.us.lt g1 rfl).2
                  refine ⟨?_, ?_, ?_, ?_⟩
                  · rw [HUN.out]
                    refine (D4.out.us.alloc _).kept hgrow (Or.inr ?_)
                    intro e; exact ap e.symm
                  · rw [HDS.out, haw.out]
                    have : ints (dls L B n k ++ [(f : Int)]) = ints (dls L B n k) ++ [.int .i64 (f)] := by simp [ints]
                    rw [this]
                    exact hown
                  · intro e
                    rcases hat with x | x
                    · exact ap (x.symm.trans e)
                    · rw [x] at e
                      simp at e
                      omega
                  · exact (D4.out.bl.alloc z6 _).grown hgrow (by simp; omega) (fun c hc => (D4.out.ou.lt c hc).1))
                clear hown hgrow hat HDS HUN
                go_wp2_with fail
                go_roundw
                case rel => exact ⟨k + 1, by omega, by go_num, AN, D7⟩
                case measure => simp [intOf]; omega
            · have s1 : ¬ (s : Int) < (n : Int) := by omega
              have z6 : w.heap.size ≤ wr.heap.size := D4.out.bl.size
              go_wp2_with (at_builtin; refine wpList_append_own_at _ rfl _ _ 33 rfl w.heap.size 2 i0 (.int .i64 0) 1 8 Try.underlying33 hi hz0 hz1 hz2 rfl (by decide) _ _ _ rfl (D4.out.ou.alloc _) ⟨wr.heap.size, 0, none⟩ 1 1 [.int .i64 (f)] rfl rfl (cell_one wr _ 2) (one_one _) (by unfold maxLen; omega) (by omega) (by simp; omega) ?_)
              · intro v' w7 hown hgrow _ hat
                have D7 : Hid (DM (us L B n (k + 1)) (dls L B n (k + 1)) w w.heap.size g1 n w7 v' (k + 1)) := (by
                  have ap := D4.out.ap
                  have gl : g1 < wr.heap.size := (D4.out.us.lt g1 rfl).2
                  refine ⟨?_, ?_, ?_, ?_⟩
                  · rw [HUN.out]
                    refine (D4.out.us.alloc _).kept hgrow (Or.inr ?_)
                    intro e; exact ap e.symm
                  · rw [HDS.out, haw.out]
                    have : ints (dls L B n k ++ [(f : Int)]) = ints (dls L B n k) ++ [.int .i64 (f)] := by simp [ints]
                    rw [this]
                    exact hown
                  · intro e
                    rcases hat with x | x
                    · exact ap (x.symm.trans e)
                    · rw [x] at e
                      simp at e
                      omega
                  · exact (D4.out.bl.alloc z6 _).grown hgrow (by simp; omega) (fun c hc => (D4.out.ou.lt c hc).1))
                clear hown hgrow hat HDS HUN
                go_wp2_with fail
                go_roundw
                case rel => exact ⟨k + 1, by omega, by go_num, AN, D7⟩
                case measure => simp [intOf]; omega
    · have e : k = m := by omega
      have j1 : ¬ (k : Int) < (m : Int) := by omega
      have EO : Hid (q = true) := (by show _ = _; rw [HQ.out, HKO.out, ← e]; exact AK.out)
      have EX : Hid (X = dls L B n k) := (by show _ = _; rw [HX.out, ← HQ.out, EO.out, e]; rfl)
      have RE : Hid (wr.ownsRow w.heap.size 2 1 (.slice va k vc) X.length (ints X)) := (by
        show World.ownsRow _ _ _ _ _ _ _
        rw [EX.out, dls_len]; exact D.out.ou)
      have BE : Hid (Below w.heap.size w wr) := D.out.bl
      clear D EX HX e
      go_wp2_with fail
      go_ret2
      exact ⟨_, by rw [EO.out]; rfl, RE.out, BE.out⟩
end Go.Proofs.Ytfnkcoppdelmjaa.Dl
