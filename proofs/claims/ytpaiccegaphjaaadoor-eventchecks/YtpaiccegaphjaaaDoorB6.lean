/-
  Contracts of key: the tree is grown once.
  Contracts of key: New, Public, Used, Left, takeLeaf.
  Contracts of key: Sign.
  Contracts of the document's keys: Named, Leaves, Public, Sign.
  The law's own: awake, long, small; of no key there is nothing.
-/
import Derived.Test.YtpaiccegaphjaaaDoorB5
import Derived.Test.YtpaiccegaphjaaaDoorB1
import Derived.Test.YtpaiccegaphjaaaDoorB2
import Derived.Test.YtpaiccegaphjaaaDoorB3
import Derived.Test.YtpaiccegaphjaaaDoorB4
namespace Go.Proofs.YtpaiccegaphjaaaDoor
open Go.RowKit Go.Pal

end Go.Proofs.YtpaiccegaphjaaaDoor
namespace Go.Proofs.YtpaiccegaphjaaaDoor
open Go.RowKit Go.Pal

end Go.Proofs.YtpaiccegaphjaaaDoor
namespace Go.Proofs.YtpaiccegaphjaaaDoor
open Go.RowKit Go.Pal

theorem own_strs2 {w : World} {base : Nat} {t : TypeId} {v : Value} {n : Nat} {l : List ByteArray} (h : w.ownsRow base t 1 v n (l.map strV)) (hn : l.length = n) : ∃ a cap, v = .slice a l.length cap ∧ StrRow w a l ∧ l.length ≤ cap := by
  subst hn
  rcases h.2 with ⟨rfl, h0⟩ | ⟨g, cap, cur, rfl, hb, hg, hc, _⟩
  · exact ⟨none, 0, by rw [h0], .inl (List.eq_nil_of_length_eq_zero h0), by omega⟩
  · refine ⟨some ⟨g, 0, none⟩, cap, rfl, .inr ⟨g, 0, rfl, (h.lt g rfl).2, fun i hi => ?_⟩, hc⟩
    rw [Nat.zero_add, h.cellAt i (by omega), strs_get? l i hi]

end Go.Proofs.YtpaiccegaphjaaaDoor
namespace Go.Proofs.YtpaiccegaphjaaaDoor
open Go.RowKit Go.Pal

set_option maxHeartbeats 400000 in
theorem refnamed (h : Nat) (root : ByteArray) (hh : h ≤ 4) (hr : root.size ≤ 1000000) (w : World) :
    Calls Tryd.prog 25 #[.int .i64 (h : Int), .string root] w fun e w' => e = .returned (.string (namedB h root)) ∧ Below w.heap.size w w' := by
  have htot : totL [be 1 h, root] ≤ 9000000 := by simp [totL, be_size]; omega
  have HTG := Lib.hid (fun W a c h2 => reftag_any W 5 a c [be 1 h, root] h2 htot (by simp))
  have hp : namedB h root = shaB ⟨(inputL 5 [be 1 h, root]).toArray⟩ := rfl
  have HP := Lib.hid hp
  have hk := numOk_yes (k := 1) (n := (h : Int)) (by omega) (by simp; omega)
  have hB := numB_yes hk
  have hby := number1_any (h : Int)
  rw [hB, hk, Int.toNat_natCast] at hby
  have HBY := Lib.hid hby
  clear htot hp hr hB hk hby
  generalize be 1 h = B at *
  go_enter Tryd.func25, Tryd.ntmps25
  go_wp2_with fail
  refine (HBY.out _).mono ?_
  rintro e w1 ⟨rfl, b1⟩
  have B1 := Lib.hid b1
  clear b1
  go_wp2_with fail
  have c3 := (B1.out).alloc B1.out.size (.cells #[.string B, .string root] 9)
  refine (HTG.out _ _ _ (strs2t _ _ _ _)).mono ?_
  rintro e w4 ⟨rfl, b4⟩
  have C4 := Lib.hid (c3.trans (b4.mono c3.size))
  clear b4 c3
  rw [← HP.out]
  go_wp2
  go_ret
  exact ⟨rfl, C4.out⟩

end Go.Proofs.YtpaiccegaphjaaaDoor
namespace Go.Proofs.YtpaiccegaphjaaaDoor
open Go.RowKit Go.Pal

/-- A height made one from 0 to 2. -/
def smallN (h : Int) : Nat := ((h % 18446744073709551616) % 3).toNat
theorem smallN_le (h : Int) : smallN h ≤ 2 := by unfold smallN; omega
end Go.Proofs.YtpaiccegaphjaaaDoor
