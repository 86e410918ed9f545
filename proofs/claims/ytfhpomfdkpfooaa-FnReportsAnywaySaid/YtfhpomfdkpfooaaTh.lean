/- Tasks that hold their marks; tasks copied, their lists apart. -/
import Derived.Test.YtfhpomfdkpfooaaTm
namespace Go.Proofs.Ytfhpomfdkpfooaa.Tm
open Go.ChangeShapes Go.WideShapes Go.ChangeAt Go.RowKit
open Go.Proofs.Ytfhpomfdkpfooaa.Lists Go.Proofs.Ytfhpomfdkpfooaa.Tk

theorem rows_at {w : World} {v : Value} {L : Ls} (h : Tk.Reads w v L) : ∃ b o, (∀ i, i < L.length → Tk.Cs w b o L i) ∧ (0 < L.length → b < w.heap.size ∧ ∃ cap, v = .slice (some ⟨b, o, none⟩) L.length cap) := by
  rcases h with ⟨rfl, _⟩ | ⟨b, o, cap, h1, h2, h3, h4, h5⟩
  · exact ⟨0, 0, fun i hi => by simp at hi, fun hi => by simp at hi⟩
  · exact ⟨b, o, h5, fun _ => ⟨h4, cap, h1⟩⟩

end Go.Proofs.Ytfhpomfdkpfooaa.Tm
