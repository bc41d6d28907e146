/-
  Contracts of package disk: slices.Clone, leave, Cut.
-/
import Derived.Test.YtffnkomnldgcaaaGreatDoorDk5
import Derived.Lib.SliceRun
import Derived.Deep.RegionWith
import Derived.Deep.RegionHeld3
namespace Go.Proofs.YtffnkomnldgcaaaGreatDoor
open Go.RowKit Go.Pal Go.Pal.Dk Go.Maps

theorem own_weak {w : World} {b b' : Nat} {t : TypeId} {size : Nat} {v : Value} {n : Nat} {l : List Value} (h : w.ownsRow b t size v n l) (hb : b' ≤ b) : w.ownsRow b' t size v n l := by
  refine ⟨h.1, ?_⟩
  rcases h.2 with h2 | ⟨g, cap, cur, e, hg, r⟩
  · exact .inl h2
  · exact .inr ⟨g, cap, cur, e, Nat.le_trans hb hg, r⟩
theorem own_made (w : World) (base : Nat) (hb : base ≤ w.heap.size) (t : TypeId) : (w.alloc (.cells #[] t)).ownsRow base t 1 (.slice (some ⟨w.heap.size, 0, none⟩) 0 0) 0 [] :=
  ⟨rfl, .inr ⟨w.heap.size, 0, #[], rfl, hb, by show (w.heap.push _)[w.heap.size]? = _; simp, Nat.le_refl _, by decide, rfl, rfl⟩⟩
theorem oneU8 (l : List UInt8) : ∀ u ∈ l.map byteV, u.oneCell' = true := by
  intro u hu
  obtain ⟨b, _, rfl⟩ := List.mem_map.1 hu
  rfl

set_option maxHeartbeats 400000 in
set_option maxRecDepth 100000 in
theorem clone8_nil (w : World) :
    Calls Tryz.prog 44 #[.slice none 0 0] w fun e w' => e = .returned (.slice none 0 0) ∧ w' = w := by
  have q35 : ∀ (w : World) (a : Option Addr) (n c n' c' : Nat), (binOp .eql 69 (.slice a n c) (.slice none n' c')).run Tryz.prog w = .ok (.bool a.isNone) w := fun w a n c n' c' => Lib.run_eql_slice_nil w _ _ a n c n' c' Tryz.underlying69
  go_enter Tryz.func44, Tryz.ntmps44
  go_wp2
  go_ret
  exact ⟨rfl, rfl⟩
set_option maxHeartbeats 400000 in
set_option maxRecDepth 100000 in
theorem clone8_any (w : World) (g cap : Nat) (l : List UInt8) (hl : l.length ≤ 1000000000) (hc : ∀ j u, (l.map byteV)[j]? = some u → w.cell? ⟨g, j, none⟩ = some u) :
    Calls Tryz.prog 44 #[.slice (some ⟨g, 0, none⟩) l.length cap] w fun e w' => (∃ v, e = .returned v ∧ w'.ownsRow w.heap.size 5 1 v l.length (l.map byteV)) ∧ Below w.heap.size w w' := by
  obtain ⟨i0, hi0, hz0, hz1, hz2⟩ := info_parts (show (Tryz.prog.info? 5).map (fun i => (i.zero, i.size, i.bytes)) = some (some (.int .u8 0), 1, 1) by kernel_rfl)
  have HO := Lib.hid (own_made w w.heap.size (Nat.le_refl _) 5)
  have HC := Lib.hid (show ∀ j u, (l.map byteV)[j]? = some u → (w.alloc (.cells #[] 5)).cell? ((⟨g, 0, none⟩ : Addr).add j) = some u from fun j u h => by
    rw [Addr.add_lit]
    refine Lib.cell?_alloc_some _ ?_
    rw [Nat.zero_add]; exact hc j u h)
  have H1 := Lib.hid (show 0 + l.length ≤ maxLen by unfold maxLen; omega)
  have H2 := Lib.hid (show (0 + l.length) * 1 ≤ 140737488355328 by omega)
  have H3 := Lib.hid (show w.heap.size ≤ (w.alloc (.cells #[] 5)).heap.size by simp)
  have H0 := Lib.hid (oneU8 l)
  have HL := Lib.hid (show (l.map byteV).length = l.length * 1 by simp)
  have I0 := Lib.hid hi0
  have Z0 := Lib.hid hz0
  have Z1 := Lib.hid hz1
  have Z2 := Lib.hid hz2
  have BA := Lib.hid ((Below.refl w.heap.size w).alloc (Nat.le_refl _) (.cells #[] 5))
  clear hc hi0 hz0 hz1 hz2
  have q35 : ∀ (w : World) (a : Option Addr) (n c n' c' : Nat), (binOp .eql 69 (.slice a n c) (.slice none n' c')).run Tryz.prog w = .ok (.bool a.isNone) w := fun w a n c n' c' => Lib.run_eql_slice_nil w _ _ a n c n' c' Tryz.underlying69
  go_enter Tryz.func44, Tryz.ntmps44
  go_wp2_with (at_builtin; refine wpList_append_own _ rfl _ _ 69 rfl w.heap.size 5 i0 (.int .u8 0) 1 1 Tryz.underlying69 I0.out Z0.out Z1.out Z2.out rfl (by decide) _ 0 [] rfl HO.out ⟨g, 0, none⟩ l.length cap (l.map byteV) rfl HL.out HC.out H0.out H1.out H2.out H3.out ?_)
  intro v w1 hown hgr _
  have HV := Lib.hid hown
  have HG := Lib.hid hgr
  clear hown hgr
  go_wp2
  go_ret
  refine ⟨⟨v, rfl, by have := HV.out; simpa using this⟩, ?_⟩
  exact BA.out.grown HG.out (by simp) (by intro k hk; simp [Value.ownBlock] at hk; omega)
end Go.Proofs.YtffnkomnldgcaaaGreatDoor
