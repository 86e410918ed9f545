/- The significant places between two: the model. -/
import Derived.Test.YtjnjpbbpphklhaaSgC
import Derived.Test.YtjnjpbbpphklhaaIvA
import Derived.Laws.AppendOwnNone
namespace Go.Proofs.Ytjnjpbbpphklhaa.Flt
open Go.ChangeShapes Go.WideShapes Go.ChangeAt Go.RowKit
attribute [local go_sem] run_store_float

theorem scS_step (L : Lv) (tol i j k : Nat) (h : i + 1 ≤ k) : scS L tol i j (k + 1 - i - 1) = if gt (dp L i j k) (scS L tol i j (k - i - 1)).2 then ((k : Int), dp L i j k) else scS L tol i j (k - i - 1) := by
  obtain ⟨c, rfl⟩ : ∃ c, k = i + 1 + c := ⟨k - i - 1, by omega⟩
  rw [show i + 1 + c + 1 - i - 1 = c + 1 by omega, show i + 1 + c - i - 1 = c by omega]
  rfl
theorem scS_fit (L : Lv) (tol i j c : Nat) : -1 ≤ (scS L tol i j c).1 ∧ (scS L tol i j c).1 ≤ ((i + c : Nat) : Int) := by
  induction c with
  | zero => exact ⟨Int.le_refl _, by show (-1 : Int) ≤ _; omega⟩
  | succ c ih =>
    have eS : scS L tol i j (c + 1) = if gt (dp L i j (i + 1 + c)) (scS L tol i j c).2 then (((i + 1 + c : Nat) : Int), dp L i j (i + 1 + c)) else scS L tol i j c := rfl
    rw [eS]
    split
    · dsimp only; omega
    · omega
theorem Try.info2 : (Try.prog.info? 2).map (fun i => (i.zero, i.size, i.bytes)) = some (some (.int .i64 0), 1, 8) := by kernel_rfl

theorem sg2_len (L : Lv) (tol : Nat) (h0 : 0 ≤ key tol) : ∀ f i j : Nat, i < j → (sg2 L tol f i j).length ≤ j - i - 1 := by
  intro f
  induction f with
  | zero => intro i j h; exact Nat.zero_le _
  | succ f ih =>
    intro i j h
    have e : sg2 L tol (f + 1) i j = if gt (scI L i j (j - i - 1)).2 tol then sg2 L tol f i (scI L i j (j - i - 1)).1 ++ [((scI L i j (j - i - 1)).1 : Int)] ++ sg2 L tol f (scI L i j (j - i - 1)).1 j else [] := rfl
    rw [e]
    cases g : gt (scI L i j (j - i - 1)).2 tol
    · exact Nat.zero_le _
    · rw [if_pos rfl]
      rcases sc_place L i j (j - i - 1) with ⟨q1, q2⟩ | ⟨q1, q2⟩
      · have := (gt_key _ _).1 g
        rw [q2] at this
        have k0 : key 0 = 0 := by decide +kernel
        omega
      · have i1 := ih i _ q1
        have i2 := ih (scI L i j (j - i - 1)).1 j (by omega)
        simp only [List.length_append, List.length_cons, List.length_nil]
        omega
theorem row_mono {w : World} {base base' : Nat} {e : TypeId} {size : Nat} {v : Value} {n : Nat} {xs : List Value} (h : w.ownsRow base e size v n xs) (hb : base' ≤ base) : w.ownsRow base' e size v n xs := by
  refine ⟨h.1, ?_⟩
  rcases h.2 with h2 | ⟨g, cap, cur, h1, h2, h3⟩
  · exact .inl h2
  · exact .inr ⟨g, cap, cur, h1, Nat.le_trans hb h2, h3⟩
theorem row_empty (w : World) (B : Nat) (hB : B ≤ w.heap.size) : (w.alloc (Obj.cells #[] 2)).ownsRow B 2 1 (.slice (some ⟨w.heap.size, 0, none⟩) 0 0) 0 [] := by
  refine ⟨rfl, .inr ⟨w.heap.size, 0, #[], rfl, hB, ?_, by simp⟩⟩
  unfold World.alloc
  exact Array.getElem?_push_size
theorem ints_app (A B : List Int) : ints (A ++ B) = ints A ++ ints B := by simp [ints]
set_option maxHeartbeats 2000000 in
theorem split_any (tol : Nat) (L : Lv) (ok : ∀ q, q < L.length → okAt L q = true) (hn : L.length ≤ 400) (ht : nan tol = false) (h0 : 0 ≤ key tol) : ∀ (f i j : Nat) (w : World) (v : Value), j - i ≤ f → i < j → j < L.length → Reads w v L →
    Calls Try.prog 22 #[v, .int .i64 i, .int .i64 j, .float .f64 tol] w fun e w' => ∃ v', e = .returned v' ∧ w'.ownsRow w.heap.size 2 1 v' (sg2 L tol f i j).length (ints (sg2 L tol f i j)) ∧ Below w.heap.size w w' := by
  intro f
  induction f with
  | zero => intro i j w v h1 h2; omega
  | succ f ih =>
    intro i j w v hf hij hj h
    have IH : Hid (∀ (i j : Nat) (w : World) (v : Value), j - i ≤ f → i < j → j < L.length → Reads w v L → Calls Try.prog 22 #[v, .int .i64 i, .int .i64 j, .float .f64 tol] w fun e w' => ∃ v', e = .returned v' ∧ w'.ownsRow w.heap.size 2 1 v' (sg2 L tol f i j).length (ints (sg2 L tol f i j)) ∧ Below w.heap.size w w') := ih
    have H0 : Hid (Reads w v L) := h
    have OK : Hid (∀ q, q < L.length → okAt L q = true) := ok
    have HJ : Hid (j < L.length ∧ L.length ≤ 400) := ⟨hj, hn⟩
    have ES : Hid (sg2 L tol (f + 1) i j = if gt (scI L i j (j - i - 1)).2 tol then sg2 L tol f i (scI L i j (j - i - 1)).1 ++ [((scI L i j (j - i - 1)).1 : Int)] ++ sg2 L tol f (scI L i j (j - i - 1)).1 j else []) := rfl
    have SM : Hid _ := sc_same L tol i j ht h0 (j - i - 1)
    have PL : Hid _ := sc_place L i j (j - i - 1)
    obtain ⟨a, cap, rfl⟩ := h.form
    obtain ⟨i0, hi, hz0, hz1, hz2⟩ := info_parts Try.info2
    obtain ⟨n, hnn⟩ : ∃ n, n = L.length := ⟨_, rfl⟩
    rw [← hnn] at H0 ⊢
    have HN : Hid (n = L.length) := hnn
    have hjn : j < 400 := by omega
    clear h ih ok hnn hj hn
    have j1 : IntKind.i64.wrap ((i : Int) + 1) = (i : Int) + 1 := IntWalk.i64_in _ (by omega)
    have e0 : Hid (scS L tol i j (i + 1 - i - 1) = (-1, tol)) := (by show _ = _; rw [show i + 1 - i - 1 = 0 by omega]; rfl)
    obtain ⟨S, hS⟩ : ∃ S, sg2 L tol (f + 1) i j = S := ⟨_, rfl⟩
    rw [hS] at ES ⊢
    clear hS
    go_enter Try.func22, Try.ntmps22
    go_wp2_with fail
    go_loopw [9, 10, 11] (fun q m y wr => ∃ k x : Nat, i + 1 ≤ k ∧ k ≤ j ∧ y = .int .i64 k ∧ q = .int .i64 (scS L tol i j (k - i - 1)).1 ∧ m = .float .f64 x ∧ Al x (scS L tol i j (k - i - 1)).2 ∧ Hid (Below w.heap.size w wr)) (fun _ _ y _ => j - (intOf y).toNat)
    case atStart => exact ⟨i + 1, tol, by omega, by omega, by go_num, by rw [e0.out], rfl, by rw [e0.out]; exact Al.refl _, Below.refl _ _⟩
    case round =>
      obtain ⟨k, x, hk1, hk2, rfl, rfl, rfl, AX, BR⟩ := hrel
      by_cases hlt : k < j
      · have HE : Hid (scS L tol i j (k + 1 - i - 1) = if gt (dp L i j k) (scS L tol i j (k - i - 1)).2 then ((k : Int), dp L i j k) else scS L tol i j (k - i - 1)) := scS_step L tol i j k hk1
        have AXH : Hid (Al x (scS L tol i j (k - i - 1)).2) := AX
        obtain ⟨sc, hsc⟩ : ∃ sc, scS L tol i j (k - i - 1) = sc := ⟨_, rfl⟩
        obtain ⟨sa, sm⟩ := sc
        rw [hsc] at HE AXH ⊢
        dsimp only at HE AXH ⊢
        clear hsc AX
        have a6 : (k : Int) < (j : Int) := by omega
        have a7 : IntKind.i64.wrap ((k : Int) + 1) = (k : Int) + 1 := IntWalk.i64_in _ (by omega)
        have RR : Hid (Reads wr (Value.slice a n cap) L) := H0.out.on BR.out
        go_wp2_with fail
        refine (off_any wr _ L i j k RR.out OK.out (by omega) (by omega) HJ.out.1 HJ.out.2).mono ?_
        rintro e w3 ⟨y, rfl, AY, hb3⟩
        have B3 : Hid (Below w.heap.size w w3) := BR.out.trans (hb3.mono BR.out.size)
        have G : Hid (gt y x = gt (dp L i j k) sm) := gt_al AY AXH.out
        have AYH : Hid (Al y (dp L i j k)) := AY
        clear hb3 AY
        cases c1 : (ord y x == some .gt)
        · have HE2 : Hid (scS L tol i j (k + 1 - i - 1) = (sa, sm)) := (by show _ = _; rw [HE.out, ← G.out]; unfold gt; rw [c1]; rfl)
          go_wp2_with fail
          go_roundw
          case rel => exact ⟨k + 1, x, by omega, by omega, by go_num, by rw [HE2.out], rfl, by rw [HE2.out]; exact AXH.out, B3⟩
          case measure => simp [intOf]; omega
        · have HE2 : Hid (scS L tol i j (k + 1 - i - 1) = ((k : Int), dp L i j k)) := (by show _ = _; rw [HE.out, ← G.out]; unfold gt; rw [c1]; rfl)
          go_wp2_with fail
          go_roundw
          case rel => exact ⟨k + 1, y, by omega, by omega, by go_num, by rw [HE2.out], rfl, by rw [HE2.out]; exact AYH.out, B3⟩
          case measure => simp [intOf]; omega
      · have e : k = j := by omega
        subst e
        have a6 : ¬ (k : Int) < (k : Int) := by omega
        clear AX
        obtain ⟨p, hp⟩ : ∃ p, (scI L i k (k - i - 1)).1 = p := ⟨_, rfl⟩
        have hij' : i < k := hij
        cases g : gt (scI L i k (k - i - 1)).2 tol
        · have E1 : Hid (S = []) := (by show _ = _; rw [ES.out, g]; rfl)
          have E2 : scS L tol i k (k - i - 1) = (-1, tol) := (by have := SM.out.2.2; rw [g] at this; exact this)
          rw [E2]
          dsimp only
          clear ES SM PL
          go_wp2_with fail
          go_ret
          have R0 : (wr.alloc (Obj.cells #[] 2)).ownsRow w.heap.size 2 1 (.slice (some ⟨wr.heap.size, 0, none⟩) 0 0) S.length (ints S) := (by rw [E1.out]; exact row_empty wr _ BR.out.size)
          exact ⟨_, rfl, R0, BR.out.alloc BR.out.size _⟩
        · have E2 : scS L tol i k (k - i - 1) = ((p : Int), (scI L i k (k - i - 1)).2) := (by have := SM.out.2.2; rw [g, hp] at this; exact this)
          have P1 : i < p ∧ p < k := (by
            rcases PL.out with ⟨q1, q2⟩ | ⟨q1, q2⟩
            · have := (gt_key _ _).1 g
              rw [q2] at this
              have k0 : key 0 = 0 := by decide +kernel
              omega
            · rw [hp] at q1 q2; omega)
          have E1 : Hid (S = sg2 L tol f i p ++ [(p : Int)] ++ sg2 L tol f p k) := (by show _ = _; rw [ES.out, g, hp]; rfl)
          rw [E2]
          dsimp only
          clear ES SM PL
          have a8 : ¬ (p : Int) < 0 := by omega
          have RR : Hid (Reads wr (Value.slice a n cap) L) := H0.out.on BR.out
          go_wp2_with fail
          refine (IH.out i p wr _ (by omega) P1.1 (by have := HJ.out.1; omega) RR.out).mono ?_
          rintro e w3 ⟨v3, rfl, own3, hb3⟩
          have B3 : Hid (Below w.heap.size w w3) := BR.out.trans (hb3.mono BR.out.size)
          have R3 : Hid (Reads w3 (Value.slice a n cap) L) := RR.out.on hb3
          have O3 : Hid (w3.ownsRow w.heap.size 2 1 v3 (sg2 L tol f i p).length (ints (sg2 L tol f i p))) := row_mono own3 BR.out.size
          have L1 : (sg2 L tol f i p).length ≤ 400 := (by have := sg2_len L tol h0 f i p P1.1; omega)
          have L2 : (sg2 L tol f p k).length ≤ 400 := (by have := sg2_len L tol h0 f p k P1.2; omega)
          clear own3 hb3 RR
          obtain ⟨A, hA⟩ : ∃ A, sg2 L tol f i p = A := ⟨_, rfl⟩
          rw [hA] at O3 E1 L1
          go_wp2_with (at_builtin; refine wpList_append_own _ rfl _ _ 28 rfl w.heap.size 2 i0 (.int .i64 0) 1 8 Try.underlying28 hi hz0 hz1 hz2 rfl (by decide) _ _ _ rfl (O3.out.alloc _) ⟨w3.heap.size, 0, none⟩ 1 1 [.int .i64 (p : Int)] rfl rfl ?c1 ?c2 ?c3 ?c4 ?c5 ?_)
          case c1 =>
            intro j u hj
            match j, hj with
            | 0, hj => simp at hj; subst hj; simp [Addr.add]
          case c2 => intro u hu; simp at hu; subst hu; rfl
          case c3 => unfold maxLen; omega
          case c4 => omega
          case c5 => have := B3.out.size; simp; omega
          intro v4 w4 hown4 hgrow _
          have B4 : Hid (Below w.heap.size w w4) := (B3.out.alloc B3.out.size _).grown hgrow (by have := B3.out.size; simp; omega) (fun b hb => (O3.out.lt b hb).1)
          have R4 : Hid (Reads w4 (Value.slice a n cap) L) := H0.out.on B4.out
          have O4 : Hid (w4.ownsRow w.heap.size 2 1 v4 (A ++ [(p : Int)]).length (ints (A ++ [(p : Int)]))) := (by show w4.ownsRow _ _ _ _ _ _; rw [ints_app, List.length_append]; exact hown4)
          clear hown4 hgrow O3 R3
          go_wp2_with fail
          refine (IH.out p k w4 _ (by omega) P1.2 (by have := HJ.out.1; omega) R4.out).mono ?_
          rintro e w5 ⟨v5, rfl, own5, hb5⟩
          have B5 : Hid (Below w.heap.size w w5) := B4.out.trans (hb5.mono B4.out.size)
          have O5 : Hid (w5.ownsRow w.heap.size 2 1 v4 (A ++ [(p : Int)]).length (ints (A ++ [(p : Int)]))) := row_below O4.out hb5
          obtain ⟨B, hB⟩ : ∃ B, sg2 L tol f p k = B := ⟨_, rfl⟩
          rw [hB] at own5 E1 L2
          obtain ⟨C, hC⟩ : ∃ C, A ++ [(p : Int)] = C := ⟨_, rfl⟩
          have LC : C.length ≤ 401 := (by rw [← hC]; simp; omega)
          rw [hC] at O5 E1
          clear hb5 O4 hC
          have K5 : Hid (∀ g, v5.ownBlock = some g → ∀ j u, (ints B)[j]? = some u → w5.cell? ((⟨g, 0, none⟩ : Addr).add j) = some u) := fun g hg => own5.cells hg
          rcases row_cases own5 with ⟨hB0, rfl⟩ | ⟨g5, c5, rfl, _, _, _, _⟩
          · go_wp2_with (at_builtin; refine wpList_append_own_none rfl _ _ 28 rfl w.heap.size 2 i0 1 Try.underlying28 hi _ _ _ rfl O5.out rfl ?_)
            go_wp2_with fail
            go_ret
            have O6 : w5.ownsRow w.heap.size 2 1 v4 S.length (ints S) := (by rw [E1.out, List.eq_nil_of_length_eq_zero hB0, List.append_nil]; exact O5.out)
            exact ⟨_, rfl, O6, B5.out⟩
          · go_wp2_with (at_builtin; refine wpList_append_own _ rfl _ _ 28 rfl w.heap.size 2 i0 (.int .i64 0) 1 8 Try.underlying28 hi hz0 hz1 hz2 rfl (by decide) _ _ _ rfl O5.out ⟨g5, 0, none⟩ B.length c5 (ints B) rfl (by simp [ints]) (K5.out g5 rfl) ?c2 ?c3 ?c4 ?c5 ?_)
            case c2 => intro u hu; simp [ints] at hu; obtain ⟨z, _, rfl⟩ := hu; rfl
            case c3 => unfold maxLen; omega
            case c4 => omega
            case c5 => have := B5.out.size; simp; omega
            intro v6 w6 hown6 hgrow _
            have B6 : Hid (Below w.heap.size w w6) := B5.out.grown hgrow B5.out.size (fun b hb => (O5.out.lt b hb).1)
            have O6 : Hid (w6.ownsRow w.heap.size 2 1 v6 S.length (ints S)) := (by show w6.ownsRow _ _ _ _ _ _; rw [E1.out, ints_app, List.length_append]; exact hown6)
            clear hown6 hgrow
            go_wp2_with fail
            go_ret
            exact ⟨_, rfl, O6.out, B6.out⟩
end Go.Proofs.Ytjnjpbbpphklhaa.Flt
