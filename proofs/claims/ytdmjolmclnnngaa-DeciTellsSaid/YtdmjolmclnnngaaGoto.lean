/-
  A goto back to one label, at which what is said of every jump holds already when the label is first reached: one walk of what stands behind the label is enough. Nothing of the program.
-/
import Derived.WalkMore
import Derived.ScopeJumps
namespace Go.Proofs.Ytdmjolmclnnngaa

theorem wp_scope_label {P : Program} {a : Act} {w : World} {Q : Exit → Act → World → Prop} {c rest : Code} (l : Nat) (J : Act → World → Prop) (μ : Act → World → Nat) (hf : findLabel c l = some (Code.skip.seq rest))
    (pass : ∀ a w, J a w → rest.wp P (Exit.jump l (fun a' w' => J a' w' ∧ μ a' w' < μ a w) Q) a w)
    (first : (∀ a w, J a w → rest.wp P (Exit.jump l J Q) a w) → c.wp P (Exit.jump l J Q) a w) : (Code.scope c).wp P Q a w := by
  refine wp_scope_jumps l J μ hf (first fun a w h => wp_mono (pass a w h) fun e a' w' he => ?_) fun a w h => wp_seq (wp_skip (pass a w h))
  cases e with
  | goto l' => exact ⟨he.1, he.2.1⟩
  | normal => exact he
  | exit id => exact he
  | ret => exact he
  | panic ch => exact he
  | outgrown => exact he

end Go.Proofs.Ytdmjolmclnnngaa
