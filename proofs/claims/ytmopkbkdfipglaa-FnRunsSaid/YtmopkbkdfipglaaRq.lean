/- A range over a function whose round may panic: a law for the caller. -/
import Derived.Test.YtmopkbkdfipglaaRp
namespace Go.Proofs.Ytmopkbkdfipglaa.Rp
open Go Go.RowKit
open Go.Proofs.Ytmopkbkdfipglaa.Rf
variable {F : Fence} {n : Nat} {P : Program}
variable {f : FuncId} {Q : Exit → Act → World → Prop} {a : Act} {w : World}

theorem WX.block {id : Nat} {c : Code} (h : WX F n P f c (Exit.inBlock id Q) a w) : WX F n P f (Code.block id c) Q a w := by
  intro b k cs hf hro hb hr
  have h0 : (lone (b.atR a (.code (.block id c) :: k)) cs w).fenced P F := fenced_calm hb hr rfl
  obtain ⟨e, a₁, w₁, hq, harr⟩ := h b (.inBlock id :: k) cs hf hro hb hr
  cases e with
  | normal => exact ⟨.normal, a₁, w₁, hq, .head h0 stepR_block (StepsIn.trans harr (.one (fenced_calm hb hr rfl) stepR_inBlock))⟩
  | exit id' =>
    by_cases hid : id' = id
    · simp only [Exit.inBlock, hid, if_true] at hq
      exact ⟨.normal, a₁, w₁, hq, .head h0 stepR_block (harr.1 k (by simp [exitTo, hid]))⟩
    · simp only [Exit.inBlock, hid, if_false] at hq
      have this : (id == id') = false := by simp; exact fun h => hid h.symm
      have hx : exitTo id' (.inBlock id :: k) = exitTo id' k := by simp [exitTo, this]
      exact ⟨.exit id', a₁, w₁, hq, fun k' hk => .head h0 stepR_block (harr.1 k' (by rw [hx]; exact hk)),
        fun hr' hk => let ⟨k₁, h1, h2⟩ := harr.2 hr' (by rw [hx]; exact hk); ⟨k₁, h1, .head h0 stepR_block h2⟩⟩
  | goto l =>
    have hx : gotoIn l (.inBlock id :: k) = gotoIn l k := by simp [gotoIn]
    exact ⟨_, a₁, w₁, hq, fun k' hk => .head h0 stepR_block (harr.1 k' (by rw [hx]; exact hk)),
      fun hr' hk => let ⟨k₁, h1, h2⟩ := harr.2 hr' (by rw [hx]; exact hk); ⟨k₁, h1, .head h0 stepR_block h2⟩⟩
  | ret => exact ⟨_, a₁, w₁, hq, .of_steps (.one h0 stepR_block) harr⟩
  | panic ch => exact ⟨_, a₁, w₁, hq, .of_steps (.one h0 stepR_block) harr⟩
  | outgrown => exact ⟨_, a₁, w₁, hq, .of_steps (.one h0 stepR_block) harr⟩

/-- The iterator hands out the list xs, whatever the rounds are, as long as they keep all but X; a round that panics leaves it by that panic. -/
def SeqP {α : Type} (F : Fence) (n : Nat) (P : Program) (g : Nat) (lb : Array Value) (encs : α → Array Value) (X : Nat → Nat → Prop) (xs : List α) (w : World) : Prop :=
  ∀ (l : Nat) (J : List α → World → Prop) (E : List PanicEntry → World → Prop) (W : World), w.heap.size ≤ l → l < W.heap.size → Below w.heap.size w W → (∀ s A C, J s A → Below A.heap.size A C → J s C) →
    (∀ pre x W1, J pre W1 → pre ++ [x] <+: xs → YieldAt F (n - 1) P l (encs x) W1 fun e W' => (e = .returned (.bool true) ∧ J (pre ++ [x]) W' ∧ But (X l) W1 W') ∨ ∃ ch, e = .panicked ch ∧ E ch W') →
    J [] W → CallsIn F n P g (#[.func (.yield l) #[] #[]] ++ lb) W fun e W' => ((∃ v, e = .returned v) ∧ J xs W') ∨ ∃ ch, e = .panicked ch ∧ E ch W'

/-- How the body of a round may be left. -/
def onPostP {α : Type} (Y : Nat → Prop) (I : List α → World → Prop) (E : List PanicEntry → World → Prop) (xs : List α) (W : World) : Exit → Act → World → Prop
  | .normal, _, W' => But Y W W' ∧ I xs W'
  | .panic ch, a, W' => a.defers = [] ∧ But Y W W' ∧ E ch W'
  | _, _, _ => False

theorem rangeP {α : Type} {g : Operand} {ps : Array Tmp} {assign body : Code}
    (hro : F.round = none) (h1 : 1 ≤ n) (hex : ∃ fn, P.funcs[f]? = some fn) (hFf : F.fn f) {gf : Nat} {lb : Array Value} (hg : a.eval g = .func (.func gf) #[] lb) (hFg : F.fn gf) (eg : ∀ args w, (callFunc gf args).run P w = .ok (.enter gf args) w)
    {encs : α → Array Value} {Y : Nat → Prop} (hY : ¬ Y w.heap.size ∧ ¬ Y (w.heap.size + 1)) {xs : List α} (hseq : SeqP F (n - 1) P gf lb encs (fun l k => Y k ∨ k = l) xs w)
    (hps : ∀ x, (encs x).size = ps.size)
    (I : List α → World → Prop) (E : List PanicEntry → World → Prop) (hI : ∀ s A C, I s A → A.grownBy C (some (w.heap.size + 1)) → I s C) (h0 : I [] w)
    (Ax : Nat → α → Act → World → Prop) (hAx : ∀ l x a' A C, Ax l x a' A → But (fun k => k = l) A C → Ax l x a' C)
    (hassign : ∀ (l : Nat) (x : α) (W : World) (K : Act → World → Prop), l < W.heap.size → (∀ a' W', Below W.heap.size W W' → Ax l x a' W' → K a' W') →
      assign.wpIn (F.inRound l) (n - 1 - 1) P (Exit.then K (fun _ _ _ => False)) { tmps := (ps.zip (encs x)).foldl (fun t (p, v) => t.setIfInBounds p v) a.tmps, defers := [] } W)
    (hbody : ∀ (l : Nat) (pre : List α) (x : α) (a' : Act) (W : World), l = w.heap.size + 1 → l < W.heap.size → I pre W → Ax l x a' W → pre ++ [x] <+: xs → body.wpIn (F.inRound l) (n - 1 - 1) P (onPostP Y I E (pre ++ [x]) W) a' W)
    (hdone : ∀ (D : Nat) (W : World), w.heap.size ≤ D → I xs W → W.heap[D]? = some (.deferred (some [])) → Q .normal { a with defers := { target := .collected D, args := #[] } :: a.defers } W)
    (hpanic : ∀ (D : Nat) (ch : List PanicEntry) (W : World), w.heap.size ≤ D → E ch W → W.heap[D]? = some (.deferred (some [])) → Q (.panic ch) { a with defers := { target := .collected D, args := #[] } :: a.defers } W) :
    WX F n P f (Code.rangeFunc g ps assign body) Q a w := by
  refine WX.rangeFunc ?_
  rw [hro]
  obtain ⟨rec, hrec⟩ : ∃ rec : LoopState → Option Code → Loop, rec = fun st pe => { state := st, pending := pe, fn := f, tmps := a.tmps, params := ps, assign, body, defers := w.heap.size } := ⟨_, rfl⟩
  obtain ⟨W1, hW1⟩ : ∃ W1, (w.alloc (.deferred (some []))).alloc (.loop (rec .ready none)) = W1 := ⟨_, rfl⟩
  have s1 : W1.heap.size = w.heap.size + 1 + 1 := by rw [← hW1]; simp
  have b1 : Below w.heap.size w W1 := by rw [← hW1]; exact ((Below.refl _ w).alloc (Nat.le_refl _) _).alloc (by simp) _
  have l1 : W1.heap[w.heap.size + 1]? = some (.loop (rec .ready none)) := by
    have := World.alloc_heap_new (w.alloc (.deferred (some []))) (.loop (rec .ready none))
    rw [World.size_alloc] at this
    rw [← hW1]; exact this
  have k1 : W1.heap[w.heap.size]? = some (.deferred (some [])) := by
    rw [← hW1]; exact (Below.heap_alloc _ _ _ (by simp)).trans (World.alloc_heap_new w _)
  refine ⟨w.heap.size + 1, [{ target := .collected w.heap.size, args := #[] }], W1, { target := .fn (.func gf) lb, args := #[.func (.yield (w.heap.size + 1)) #[] #[]] }, W1, gf,
    #[.func (.yield (w.heap.size + 1)) #[] #[]] ++ lb, W1, ?_, ?_, ?_, ?_, fun _ => h1, ?_⟩
  · rw [← hW1, hrec]; exact run_enterLoop_outer _ _ _ _ _
  · simp only [resolve, hg]
    simp [go_sem]
  · intro f' hf'; simp [Target.leads] at hf'; subst hf'; exact hFg
  · simp [invoke, go_sem, eg]
  · refine (hseq (w.heap.size + 1) (fun pre W => I pre W ∧ W.heap[w.heap.size + 1]? = some (.loop (rec .ready none)) ∧ W.heap[w.heap.size]? = some (.deferred (some [])))
      (fun ch W => E ch W ∧ W.heap[w.heap.size]? = some (.deferred (some [])))
      W1 (Nat.le_succ _) (by omega) b1 (fun s A C hs hb => ⟨hI s A C hs.1 (gb_below hb _), (hb.block _ (Array.getElem?_eq_some_iff.1 hs.2.1).1).trans hs.2.1, (hb.block _ (Array.getElem?_eq_some_iff.1 hs.2.2).1).trans hs.2.2⟩)
      ?_ ⟨hI _ _ _ h0 (gb_below b1 _), l1, k1⟩).mono ?_
    · rintro pre x W ⟨hi, hl, hk⟩ hpre
      have hlt : w.heap.size + 1 < W.heap.size := (Array.getElem?_eq_some_iff.1 hl).1
      have hy := run_yield (P := P) (args := encs x) hl (by rw [hrec]; exact hps x)
      rw [hrec] at hy
      refine ⟨f, _, assign, body, hy, roundIn_panics hFf hex (hassign _ x W _ hlt ?_)⟩
      clear hy
      intro a' V hV hax
      have hl2 : V.heap[w.heap.size + 1]? = some (.loop (rec .ready none)) := (hV.block _ hlt).trans hl
      have hk2 : V.heap[w.heap.size]? = some (.deferred (some [])) := (hV.block _ (by omega)).trans hk
      have hlt2 : w.heap.size + 1 < V.heap.size := Nat.lt_of_lt_of_le hlt hV.size
      refine ⟨_, run_beginRound hl2 (by rw [hrec]), ?_⟩
      obtain ⟨U, hU⟩ : ∃ U, V.putObj (w.heap.size + 1) (.loop { rec .ready none with state := .busy }) = U := ⟨_, rfl⟩
      rw [hU]
      have bu : But (fun k => k = w.heap.size + 1) V U := by rw [← hU]; exact But.put _ _ _ rfl
      have bb : V.grownBy U (some (w.heap.size + 1)) := by
        rw [← hU]
        exact grownBy_putObj' V _ _
      have hl3 : U.heap[w.heap.size + 1]? = some (.loop { rec .ready none with state := .busy }) := by rw [← hU]; exact World.putObj_heap_same hlt2
      have hk3 : U.heap[w.heap.size]? = some (.deferred (some [])) := (bu.same _ (by omega) (by omega)).trans hk2
      refine wpIn_mono (hbody _ pre x a' U rfl (Nat.lt_of_lt_of_le hlt2 bu.size) (hI _ _ _ hi (gb_trans (gb_below hV _) bb)) (hAx _ _ _ _ _ hax bu) hpre) ?_
      rintro e a3 V3 hp
      cases e with
      | normal =>
        obtain ⟨hb3, hi3⟩ := hp
        have hus : w.heap.size + 1 < U.heap.size := Nat.lt_of_lt_of_le hlt2 bu.size
        have hl4 : V3.heap[w.heap.size + 1]? = some (.loop { rec .ready none with state := .busy }) := (hb3.same _ hus hY.2).trans hl3
        have hk4 : V3.heap[w.heap.size]? = some (.deferred (some [])) := (hb3.same _ (by omega) hY.1).trans hk3
        have hr := run_endRound (P := P) none hl4
        refine ⟨_, _, hr, .inl ⟨rfl, ⟨?_, ?_, ?_⟩, ?_⟩⟩
        · exact hI _ _ _ hi3 (grownBy_putObj' V3 _ _)
        · rw [World.putObj_heap_same (Array.getElem?_eq_some_iff.1 hl4).1, hrec]
          rfl
        · exact (World.putObj_heap_other (by omega)).trans hk4
        · exact ((((But.of_below hV).trans (bu.mono (fun k e => Or.inr e))).trans (hb3.mono (fun k e => Or.inl e))).trans (But.put _ _ _ (Or.inr rfl)))
      | panic ch =>
        obtain ⟨hd, hb3, he⟩ := hp
        have hus : w.heap.size + 1 < U.heap.size := Nat.lt_of_lt_of_le hlt2 bu.size
        exact ⟨hd, .inr ⟨ch, rfl, he, (hb3.same _ (by omega) hY.1).trans hk3⟩⟩
      | ret => exact hp.elim
      | exit id => exact hp.elim
      | goto t => exact hp.elim
      | outgrown => exact hp.elim
    · rintro e W2 (⟨⟨v, rfl⟩, hi, hl, hk⟩ | ⟨ch, rfl, he, hk⟩)
      · exact ⟨_, by have := run_endLoop (P := P) hl (by rw [hrec]; simp); rw [hrec] at this; exact this, hdone _ _ (Nat.le_refl _) (hI _ _ _ hi (grownBy_putObj' W2 _ _)) ((World.putObj_heap_other (by omega)).trans hk)⟩
      · exact hpanic _ ch W2 (Nat.le_refl _) he hk
end Go.Proofs.Ytmopkbkdfipglaa.Rp
