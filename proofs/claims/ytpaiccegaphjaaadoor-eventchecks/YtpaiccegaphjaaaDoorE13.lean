/-
  Whether an event is signed: the program's and the document's own answer; Check.
-/
import Derived.Test.YtpaiccegaphjaaaDoorE2
import Derived.Test.YtpaiccegaphjaaaDoorE3
import Derived.Test.YtpaiccegaphjaaaDoorE4
import Derived.Test.YtpaiccegaphjaaaDoorB8
import Derived.Test.YtpaiccegaphjaaaDoorB10
import Derived.Deep.RegionHeld3
namespace Go.Proofs.YtpaiccegaphjaaaDoor
open Go.RowKit Go.Pal Go.Pal.Fr Go.Pal.Ev

/-- Both Verify give one bool. -/
theorem verify_two (pub m s : ByteArray) (hsz : s.size ≤ 281474976710656) (hm : m.size ≤ 1000000) : ∃ b : Bool,
    (∀ W, Tabs W → Calls Tryd.prog 15 #[.string pub, .string m, .string s] W fun e w' => e = .returned (.bool b) ∧ Below W.heap.size W w') ∧
    ∀ W, Calls Tryd.prog 12 #[.string pub, .string m, .string s] W fun e w' => (∃ v, e = .returned (.tuple #[.bool b, v])) ∧ Below W.heap.size W w' := by
  by_cases h : ∃ h leaf, SigOk s h leaf
  · obtain ⟨h, leaf, hs⟩ := h
    exact ⟨_, fun W ht => verify_yes W pub m s h leaf hs hm ht, fun W => (refverify_yes W pub m s h leaf hs hm).mono (fun e w' ⟨⟨_, _, _, a, _⟩, b⟩ => ⟨⟨_, a⟩, b⟩)⟩
  · have hn : ∀ a b, ¬ SigOk s a b := fun a b c => h ⟨a, b, c⟩
    exact ⟨false, fun W _ => verify_no W pub m s hsz hn, fun W => (refverify_no W pub m s hn).mono (fun e w' ⟨a, b⟩ => ⟨⟨_, a⟩, by rw [b]; exact Below.refl _ _⟩)⟩
end Go.Proofs.YtpaiccegaphjaaaDoor
