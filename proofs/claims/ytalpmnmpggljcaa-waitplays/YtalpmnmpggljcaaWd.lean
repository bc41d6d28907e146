/-
  Contracts of package wait: slices.Delete of one that waits, Drop.
-/
import Derived.Test.YtalpmnmpggljcaaWa7
import Derived.Lib.SliceRun
namespace Go.Proofs.Ytalpmnmpggljcaa
open Go.RowKit Go.Pal Go.Pal.Dk
set_option linter.unusedVariables false

def zero3 : List Value := [.string ⟨#[]⟩, .string ⟨#[]⟩, .map none]
set_option maxRecDepth 100000 in
theorem clear3 (w : World) (g o c : Nat) (cur : Array Value) (hg : w.heap[g]? = some (.cells cur 100 (0, 0))) (hfit : o + 3 ≤ cur.size) (ty : TypeId) :
    (Builtin.clear_ #[96] ty #[.slice (some ⟨g, o, none⟩) 1 c]).run Try.prog w = .ok (.tuple #[]) (w.setRow g (cur.toList.take o ++ zero3 ++ cur.toList.drop (o + 3)).toArray) := by
  have hv : ∀ w, (zeroValue 100).run Try.prog w = .ok (.agg #[.string ⟨#[]⟩, .string ⟨#[]⟩, .map none]) w := fun w => by kernel_rfl
  have hst := run_storeCells_at (P := Try.prog) g o 100 zero3 0 cur w hg (by simpa [zero3] using hfit) (by intro v hv; simp only [zero3, List.mem_cons, List.not_mem_nil, or_false] at hv; rcases hv with rfl | rfl | rfl <;> rfl)
  simp only [Nat.add_zero] at hst
  have hzc : (Builtin.zeroCells (Value.agg #[.string ⟨#[]⟩, .string ⟨#[]⟩, .map none]).cells 1).toList = zero3 := by
    simp [Builtin.zeroCells, Value.cells, zero3]
    rfl
  have hz3 : zero3.length = 3 := rfl
  rw [hz3] at hst
  simp [Builtin.clear_, run_underlying Try.underlying96, hv, hzc, hst]
theorem step_append_row {P : Program} {ops : Array Oper} {o : Oper} {a : Act} {w : World} {K : Act → World → Prop} {Q : Exit → Act → World → Prop} {E : Prop}
    (hg : o.guard = none) (s x : Operand) (t : TypeId) (hop : o.op = Op.call { callee := Callee.builtin Builtin.append, args := #[s, x], argTypes := #[t, t] })
    (e : TypeId) (i : TypeInfo) (h1 : P.underlying t = some (.slice e)) (h2 : P.info? e = some i) (hsz : i.size = 3)
    (b n cap : Nat) (cur : Array Value) (hs : a.eval s = .slice (some ⟨b, 0, none⟩) n cap) (hb : w.heap[b]? = some (.cells cur e (0, 0)))
    (ad : Addr) (m c : Nat) (news : List Value) (hx : a.eval x = .slice (some ad) m c) (hn : news.length = m * 3) (hc : ∀ j u, news[j]? = some u → w.cell? (ad.add j) = some u) (h1c : ∀ u ∈ news, u.oneCell' = true)
    (hroom : n + m ≤ cap) (hfit : n * 3 + news.length ≤ cur.size)
    (hK : K (a.put o.dst (.slice (some ⟨b, 0, none⟩) (n + m) cap)) (w.setRow b (cur.toList.take (n * 3) ++ news ++ cur.toList.drop (n * 3 + news.length)).toArray)) :
    if Region.wanted o (yielded ops a.tmps) = true then Oper.wp P o a w K Q else E := by
  have hw : Region.wanted o (yielded ops a.tmps) = true := by simp [Region.wanted, hg]
  rw [if_pos hw]
  have hr := run_append_room (P := P) w t o.type e i h1 h2 b n cap cur hb ad m c news (by rw [hsz]; exact hn) hc h1c hroom (by rw [hsz]; exact hfit)
  rw [hsz] at hr
  generalize (cur.toList.take (n * 3) ++ news ++ cur.toList.drop (n * 3 + news.length)).toArray = arr at *
  unfold Oper.wp
  simp [execOp, hop, resolve, invoke, builtin, hs, hx, hr, Result.andThen]
  exact hK
theorem erase_take {α : Type} (l : List α) (i : Nat) : l.eraseIdx i = l.take i ++ l.drop (i + 1) := List.eraseIdx_eq_take_drop_succ l i
set_option maxHeartbeats 1000000 in
set_option maxRecDepth 100000 in
theorem wdelete_any {w : World} {base g cap : Nat} {ws : List Wt} {i : Nat} (h : w.ownsRow base 100 3 (.slice (some ⟨g, 0, none⟩) ws.length cap) ws.length (cellsW ws)) (hi : i < ws.length) :
    Calls Try.prog 60 #[.slice (some ⟨g, 0, none⟩) ws.length cap, .int .i64 (i : Int), .int .i64 ((i : Int) + 1)] w fun e w' => e = .returned (.slice (some ⟨g, 0, none⟩) (ws.length - 1) cap) ∧ w'.ownsRow base 100 3 (.slice (some ⟨g, 0, none⟩) (ws.length - 1) cap) (ws.length - 1) (cellsW (ws.eraseIdx i)) ∧ Off (fun x => x = g) w w' := by
  obtain ⟨hlen, hrow⟩ := h
  rcases hrow with ⟨h1, _⟩ | ⟨g', cap', cur, e, hbase, hh, hcap, hcm, hcs, htk⟩
  · cases h1
  cases e
  unfold maxLen at hcm
  obtain ⟨i0, hi0, hz0, hz1, hz2⟩ := info_parts (show (Try.prog.info? 100).map (fun i => (i.zero, i.size, i.bytes)) = some (some (.agg #[.string ⟨#[]⟩, .string ⟨#[]⟩, .map none]), 3, 40) by kernel_rfl)
  have I0 := Lib.hid hi0
  have Z1 := Lib.hid hz1
  have HH := Lib.hid hh
  obtain ⟨n, hn⟩ : ∃ n, ws.length = n + 1 := ⟨ws.length - 1, by omega⟩
  have hdl : (cellsW (ws.drop (i + 1))).length = (n - i) * 3 := by rw [cellsW_length, List.length_drop]; omega
  obtain ⟨news, hnews⟩ : ∃ news, news = cellsW (ws.drop (i + 1)) := ⟨_, rfl⟩
  have HNL := Lib.hid (show news.length = (n - i) * 3 by rw [hnews]; exact hdl)
  have HNO := Lib.hid (show ∀ u ∈ news, u.oneCell' = true by rw [hnews]; exact cellsW_one _)
  have hget : ∀ j, j < (n + 1) * 3 → cur.toList[j]? = (cellsW ws)[j]? := fun j hj => by rw [← htk, List.getElem?_take_of_lt (by rw [hn]; exact hj)]
  have HNC := Lib.hid (show ∀ (wx : World), wx.heap = w.heap → ∀ o : Nat, (o = (i + 1) * 3 ∨ n = i) → ∀ j u, news[j]? = some u → wx.cell? ((⟨g, o, none⟩ : Addr).add j) = some u from fun wx hx o ho j u hu => by
    have hj := (List.getElem?_eq_some_iff.1 hu).1
    rw [HNL.out] at hj
    rcases ho with rfl | ho
    · rw [Go.WideShapes.add_plain]
      have hd : (cellsW ws)[(i + 1) * 3 + j]? = some u := by
        rw [hnews, ← cellsW_drop _ _ (by omega), List.getElem?_drop] at hu; exact hu
      have := hget ((i + 1) * 3 + j) (by omega)
      rw [hd] at this
      have hhx : wx.heap[g]? = some (.cells cur 100 (0, 0)) := by rw [hx]; exact hh
      simp only [World.cell?, hhx]
      rw [← this]; simp
    · omega)
  have HFIT := Lib.hid (show i * 3 + news.length ≤ cur.size by rw [HNL.out]; omega)
  have HCS := Lib.hid hcs
  -- behind the append
  obtain ⟨cur1, hc1⟩ : ∃ cur1, cur1 = (cur.toList.take (i * 3) ++ news ++ cur.toList.drop (i * 3 + news.length)).toArray := ⟨_, rfl⟩
  have hc1s : cur1.size = cap * 3 := by rw [hc1]; simp [HNL.out]; omega
  have htk0 : cur.toList.take (i * 3) = cellsW (ws.take i) := by
    rw [← cellsW_take, ← htk, List.take_take]; congr 1; omega
  have hc1t : cur1.toList.take (n * 3) = cellsW (ws.eraseIdx i) := by
    have hl3 : (cur.toList.take (i * 3) ++ news).length = n * 3 := by simp [HNL.out]; omega
    rw [hc1, List.toList_toArray, List.take_append_of_le_length (by omega), List.take_of_length_le (by omega), htk0, hnews, erase_take, cellsW_append]
  have HC1 := Lib.hid hc1
  have HFIN := Lib.hid (show ∀ (wx : World), wx.heap = (w.setRow g cur1).heap → wx.os = w.os → wx.tape = w.tape → wx.output = w.output → (wx.setRow g (cur1.toList.take (n * 3) ++ zero3 ++ cur1.toList.drop (n * 3 + 3)).toArray).ownsRow base 100 3 (.slice (some ⟨g, 0, none⟩) n cap) n (cellsW (ws.eraseIdx i)) ∧ Off (fun x => x = g) w (wx.setRow g (cur1.toList.take (n * 3) ++ zero3 ++ cur1.toList.drop (n * 3 + 3)).toArray) from fun wx hx h1 h2 h3 => by
    have hgx : wx.heap[g]? = some (.cells cur1 100 (0, 0)) := by rw [hx]; exact setRow_heap w g _ _ _ (0, 0) hh
    refine ⟨⟨by rw [cellsW_length, List.length_eraseIdx_of_lt hi]; omega, .inr ⟨g, cap, _, rfl, hbase, setRow_heap wx g _ _ _ (0, 0) hgx, by omega, by unfold maxLen; omega, by simp [zero3]; omega, ?_⟩⟩, ⟨h1, h2, h3, ?_, fun x hx2 hne => ?_⟩⟩
    · rw [List.toList_toArray, List.append_assoc, List.take_append_of_le_length (by simp; omega), List.take_take, Nat.min_self, hc1t]
    · have := congrArg Array.size hx
      simp [World.setRow] at this ⊢; omega
    · rw [setRow_other wx g x _ hne, hx, setRow_other w g x _ hne])
  have HG1 := Lib.hid (show ∀ (wx : World), wx.heap = (w.setRow g cur1).heap → wx.heap[g]? = some (.cells cur1 100 (0, 0)) from fun wx hx => by rw [hx]; exact setRow_heap w g _ _ _ (0, 0) hh)
  have HC1S := Lib.hid hc1s
  have hcapn : n + 1 ≤ cap := by omega
  have hin : i ≤ n := by omega
  have HROOM := Lib.hid (show i + (n - i) ≤ cap by omega)
  have HIN := Lib.hid (show i + (n - i) = n by omega)
  rw [hn]
  have hn1 : n + 1 - 1 = n := rfl
  rw [hn1]
  clear hlen hh hcs htk hi0 hz0 hz1 hz2 hnews hget hdl hc1 hc1s htk0 hc1t hi hn hn1 hcap
  have i0' : (0 : Int) ≤ (i : Int) := by omega
  have i1 : (i : Int) ≤ (i : Int) + 1 := by omega
  have i2 : (i : Int) + 1 ≤ ((n + 1 : Nat) : Int) := by omega
  have i3 : ((n + 1 : Nat) : Int) ≤ (cap : Int) := by omega
  have ine : ¬ ((i : Int) = (i : Int) + 1) := by omega
  have f1 : i ≤ cap := by omega
  have f2 : i + 1 ≤ n + 1 := by omega
  have f3 : i + 1 ≤ cap := by omega
  have f6 : n ≤ cap := by omega
  have f7 : (0 : Int) ≤ (i : Int) + 1 := by omega
  have f8 : ¬ cap = n := by omega
  have f9 : n ≤ n + 1 := by omega
  have f10 : n + 1 ≤ cap := by omega
  by_cases hc1 : i + 1 < cap
  · have f4 : ¬ cap = i + 1 := by omega
    have f5 : ¬ cap = n + 1 → n < cap := by omega
    go_enter Try.func60, Try.ntmps60
    go_wp2
    go_region_law (refine step_append_row (by rfl) _ _ 96 (by rfl) 100 i0 Try.underlying96 I0.out Z1.out g i cap cur (by rfl) (by exact HH.out) ⟨g, (i + 1) * 3, none⟩ (n - i) (cap - (i + 1)) news (by rfl) HNL.out (HNC.out _ (by rfl) _ (.inl rfl)) HNO.out HROOM.out HFIT.out ?_; rw [← HC1.out, HIN.out])
    all_goals
      have hcl := fun ty => clear3 (w.drew.setRow g cur1) g (n * 3) (cap - n) cur1 (HG1.out _ (by rfl)) (by rw [HC1S.out]; omega) ty
      go_wp2
      go_ret
      have hf := HFIN.out (w.drew.setRow g cur1) (by rfl) rfl rfl rfl
      rw [List.append_assoc] at hf
      exact ⟨rfl, hf.1, hf.2⟩
  · have hce : cap = i + 1 := by omega
    have hne : n = i := by omega
    subst hne
    subst hce
    have f5 : (n : Int) + 1 ≤ (n : Int) + 1 := by omega
    have HZ := Lib.hid (show (n - n) = 0 by omega)
    go_enter Try.func60, Try.ntmps60
    go_wp2
    go_region_law (refine step_append_row (by rfl) _ _ 96 (by rfl) 100 i0 Try.underlying96 I0.out Z1.out g n (n + 1) cur (by rfl) (by exact HH.out) ⟨g, 0, none⟩ (n - n) 0 news (by rw [HZ.out]; rfl) HNL.out (HNC.out _ (by rfl) _ (Or.inr (by trivial))) HNO.out HROOM.out HFIT.out ?_; rw [← HC1.out, HIN.out])
    all_goals
      have hcl := fun ty => clear3 (w.drew.setRow g cur1) g (n * 3) 1 cur1 (HG1.out _ (by rfl)) (by rw [HC1S.out]; omega) ty
      go_wp2
      go_ret
      have hf := HFIN.out (w.drew.setRow g cur1) (by rfl) rfl rfl rfl
      rw [List.append_assoc] at hf
      exact ⟨rfl, hf.1, hf.2⟩
end Go.Proofs.Ytalpmnmpggljcaa
