/-
  P13.2: in whatever order those come for which somebody waits, each leaves by the last one: for every list of acts and every list of ints.
  No condition beside the form's own.
-/
import Derived.Test.YtalpmnmpggljcaaWa7
import Derived.Test.YtalpmnmpggljcaaRf2
import Derived.Test.YtalpmnmpggljcaaGr
import Derived.Test.YtalpmnmpggljcaaWInt
namespace Go.Proofs.Ytalpmnmpggljcaa.WaitLeaves
open Go.ChangeShapes Go.WideShapes Go.ChangeAt Go.RowKit Go.Pal Go.Pal.Dk
open Go.ChangeMaps (open_string shut_string)
set_option linter.unusedVariables false

/-- Texts all of a row's acts wait for. -/
def allM (l : List Wc) : List ByteArray := l.flatMap Wc.miss
theorem allM_take (l : List Wc) (k : Nat) (hk : k < l.length) : allM (l.take (k + 1)) = allM (l.take k) ++ l[k].miss := by
  unfold allM; rw [List.take_succ_eq_append_getElem hk, List.flatMap_append]; simp only [List.flatMap_cons, List.flatMap_nil, List.append_nil]
theorem allM_le (l : List Wc) (h : ∀ c ∈ l, c.miss.length ≤ 60) : (allM l).length ≤ 60 * l.length := by
  induction l with
  | nil => simp [allM]
  | cons a r ih =>
    have h1 := h a (by simp)
    have h2 := ih (fun c hc => h c (by simp [hc]))
    have e : allM (a :: r) = a.miss ++ allM r := rfl
    rw [e, List.length_append, List.length_cons]; omega
/-- Who waits, waits for something of these. -/
structure WsOk (A : List ByteArray) (x : Wt) : Prop where
  ne : x.miss ≠ []
  sub : ∀ s ∈ x.miss, s ∈ A
  len : x.miss.length ≤ 60
  id : x.id.size ≤ maxLen
theorem dedup_ne {m : List ByteArray} (h : m.length ≠ 0) : dedupL m ≠ [] := by
  intro e
  cases m with
  | nil => exact h rfl
  | cons a r =>
    have := (mem_dedup (a :: r) a).2 (by simp)
    rw [e] at this; cases this
theorem came_ok {A : List ByteArray} {ws : List Wt} (h : ∀ x ∈ ws, WsOk A x) (s : ByteArray) : ∀ x ∈ stayW s ws, WsOk (strike A s) x := by
  intro x hx
  unfold stayW at hx
  obtain ⟨hx1, hx2⟩ := List.mem_filter.1 hx
  obtain ⟨y, hy, rfl⟩ := List.mem_map.1 hx1
  have hy2 := h y hy
  refine ⟨?_, fun t ht => ?_, Nat.le_trans (List.length_filter_le _ _) hy2.len, hy2.id⟩
  · intro e
    unfold stays at hx2
    rw [e] at hx2; cases hx2
  · obtain ⟨h1, h2⟩ := mem_strike.1 ht
    exact mem_strike.2 ⟨hy2.sub t h1, h2⟩
theorem stay_left (s : ByteArray) (ws : List Wt) : (leftW s ws).length + (stayW s ws).length = ws.length := by
  unfold leftW stayW
  induction ws with
  | nil => rfl
  | cons a r ih =>
    simp only [List.map_cons, List.length_cons]
    cases h : stays (a.came s) <;> simp [h] <;> omega
theorem strike_lt {l : List ByteArray} {s : ByteArray} (h : s ∈ l) : (strike l s).length < l.length := by
  unfold strike
  rcases Nat.lt_or_ge (l.filter (fun x => decide (x ≠ s))).length l.length with h1 | h1
  · exact h1
  · have e := List.length_filter_le (fun x => decide (x ≠ s)) l
    have e2 := List.length_filter_eq_length_iff.1 (Nat.le_antisymm e h1) s h
    simp at e2

theorem iRow_some {w : World} {a : Option Addr} {l : List Int} (h : IntRow w a l) (h0 : 0 < l.length) : ∃ b off, a = some ⟨b, off, none⟩ ∧ b < w.heap.size ∧ ∀ i (hi : i < l.length), w.cell? ⟨b, off + i, none⟩ = some (.int .i64 l[i]) := by
  rcases h with h | ⟨b, off, rfl, hbl, hc⟩
  · rw [h] at h0; simp at h0
  · refine ⟨b, off, rfl, hbl, fun i hi => ?_⟩
    rw [hc i hi, List.getD_eq_getElem?_getD, List.getElem?_eq_getElem hi]; rfl
def lenV : Value → Nat
  | .slice _ n _ => n
  | _ => 0
/-- As w, but for draws. -/
def Drawn (w wx : World) : Prop := wx.heap = w.heap ∧ wx.os = w.os ∧ wx.tape = w.tape ∧ wx.output = w.output
theorem Drawn.below {w wx : World} (h : Drawn w wx) (n : Nat) : Below n w wx := ⟨h.2.1, h.2.2.1, h.2.2.2, by rw [h.1]; exact Nat.le_refl _, fun g _ => by rw [h.1]⟩
theorem wnew300 (w : World) : Calls Try.prog 36 #[.int .i64 300] w fun e w' => e = .returned (.pointer (some ⟨w.heap.size, 0, none⟩)) ∧ WaitAt w' w.heap.size w.heap.size 300 (.slice none 0 0) [] ∧ Below w.heap.size w w' := wnew_any 300 (by omega) w
set_option maxHeartbeats 2000000 in
set_option maxRecDepth 100000 in
theorem walk (a : Option Addr) (cap : Nat) (l : List Wc) (a2 : Option Addr) (cap2 : Nat) (by_ : List Int) (w : World) (hA : WcsAt w a l) (hI : IntRow w a2 by_) (hIk : IntsOk by_) :
    Calls Try.prog 11 #[.slice a l.length cap, .slice a2 by_.length cap2] w fun e w' => e = .returned (.bool true) ∧ Below w.heap.size w w' := by
  have HG := Lib.hid (greatWc_any w a cap l hA)
  cases hgr : greatWc l with
  | true =>
    rw [hgr] at HG
    go_enter Try.func11, Try.ntmps11
    go_wp2_with (first | (go_at_call 34; refine HG.out.mono ?_; rintro e w1 ⟨rfl, rfl⟩) | (go_at_call 35; refine (awake13 _).mono ?_; rintro e w2 ⟨rfl, b2⟩))
    go_ret
    exact ⟨rfl, b2⟩
  | false =>
  rw [hgr] at HG
  obtain ⟨hl60, hm60⟩ := greatWc_no hgr
  have HM60 := Lib.hid hm60
  have HA := Lib.hid hA
  have HI := Lib.hid hI
  have HIK := Lib.hid hIk
  obtain ⟨i0, hi0, hz0, hz1, hz2⟩ := info_parts (show (Try.prog.info? 9).map (fun i => (i.zero, i.size, i.bytes)) = some (some (.string ⟨#[]⟩), 1, 16) by kernel_rfl)
  have I0 := Lib.hid hi0
  have Z0 := Lib.hid hz0
  have Z1 := Lib.hid hz1
  have Z2 := Lib.hid hz2
  have hblen : by_.length ≤ 9223372036854775807 := by have := hIk.1; unfold maxLen at this; omega
  clear hA hI hIk hgr hm60 hi0 hz0 hz1 hz2
  go_enter Try.func11, Try.ntmps11
  go_wp2_with (first | (go_at_call 34; refine HG.out.mono ?_; rintro e w1 ⟨rfl, e9⟩; rw [e9]; clear e9 w1) | (go_at_call 35; refine (awake13 _).mono ?_; rintro e w2 ⟨rfl, b2⟩; have B2 := Lib.hid b2; clear b2) | (go_at_call 36; refine (wnew300 _).mono ?_; rintro e w3 ⟨rfl, h3, b3⟩; have H3 := Lib.hid h3; have B3 := Lib.hid (B2.out.trans (b3.mono B2.out.size)); clear h3 b3))
  have hB := B2.out.size
  have HBS := Lib.hid hB
  obtain ⟨B, hBe⟩ : ∃ B, B = w2.heap.size := ⟨_, rfl⟩
  rw [← hBe] at H3 hB ⊢
  have HBB := Lib.hid (show Below w.heap.size w w3 from B3.out)
  clear hBe B2 B3
  go_loopw [6] (fun j wr => ∃ (k : Nat) (v : Value) (ws : List Wt), k ≤ l.length ∧ j = .int .i64 k ∧ WaitAt wr B B 300 v ws ∧ ws.length ≤ 300 ∧ (∀ x ∈ ws, WsOk (allM (l.take k)) x) ∧ Below w.heap.size w wr) (fun j _ => l.length - (intOf j).toNat)
  case atStart => exact ⟨0, _, [], Nat.zero_le _, rfl, H3.out, by simp, fun x hx => (by cases hx), HBB.out⟩
  case round =>
    obtain ⟨k, v, ws, hk, rfl, hw, hwl, hws, hb⟩ := hrel
    have HW := Lib.hid hw
    have HWS := Lib.hid hws
    have HB := Lib.hid hb
    clear hw hws H3 HBB
    by_cases hlt : k < l.length
    · obtain ⟨b, off, rfl, hbl, hcl⟩ := HA.out.at_ hlt
      have hok := HA.out.ok _ (List.getElem_mem hlt)
      have c1 := (hb.cell (p := ⟨b, off + k * 4 + 1, none⟩) hbl).trans (hcl 1 (by omega))
      have c2 := (hb.cell (p := ⟨b, off + k * 4 + 2, none⟩) hbl).trans (hcl 2 (by omega))
      have c3 := (hb.cell (p := ⟨b, off + k * 4 + 3, none⟩) hbl).trans (hcl 3 (by omega))
      simp only [Wc.cells, List.getElem?_cons_zero, List.getElem?_cons_succ] at c1 c2 c3
      have hml := HM60.out _ (List.getElem_mem hlt)
      have HTK := Lib.hid (allM_take l k hlt)
      have HPUT := Lib.hid (show ∀ wx, Drawn wr wx → Calls Try.prog 37 #[.pointer (some ⟨B, 0, none⟩), .string l[k].id, .string l[k].text, .slice l[k].at_ l[k].miss.length l[k].cap] wx fun e w' => (∃ n : Int, e = .returned (.int .i64 n)) ∧ ∃ v' ws', WaitAt w' B B 300 v' ws' ∧ ws'.length ≤ 300 ∧ (∀ x ∈ ws', WsOk (allM (l.take (k + 1))) x) ∧ Below w.heap.size w w' by
        intro wx hd
        have hwx := HW.out.below (hd.below wr.heap.size) (Nat.le_refl _)
        have hbx : Below w.heap.size w wx := hb.trans (hd.below _)
        have hsz := HW.out.blk.lt
        have hxs : wx.heap.size = wr.heap.size := by rw [hd.1]
        refine (wput_any hwx (by omega) hwl (id := l[k].id) (text := l[k].text) (a := l[k].at_) (m := l[k].miss) (cap := l[k].cap) (by have := hok.id; omega) (by have := hok.text; omega) (hok.miss.row.below (hbx.mono (Nat.le_refl _))) (by omega) (fun s hs => by have := hok.miss.size s hs; omega) (by omega)).mono ?_
        rintro e w' ⟨rfl, v', ws', q1, q2, q3, q4⟩
        have hbw : Below w.heap.size w w' := hbx.trans ((hwx.off_below q3 (by omega)).mono hB)
        refine ⟨⟨_, rfl⟩, v', ws', q1, q4, fun x hx => ?_, hbw⟩
        rw [HTK.out]
        have old : ∀ x ∈ ws, WsOk (allM (l.take k) ++ l[k].miss) x := fun x hx => ⟨(HWS.out x hx).ne, fun s hs => List.mem_append_left _ ((HWS.out x hx).sub s hs), (HWS.out x hx).len, (HWS.out x hx).id⟩
        rcases q2 with ⟨_, rfl⟩ | ⟨_, hne, mb, rfl⟩
        · exact old x hx
        · rcases List.mem_append.1 hx with h1 | h1
          · exact old x h1
          · obtain rfl := List.mem_singleton.1 h1
            exact ⟨dedup_ne hne, fun s hs => List.mem_append_right _ ((mem_dedup _ _).1 hs), Nat.le_trans (dedup_le _) hml, by have := hok.id; unfold maxLen; show l[k].id.size ≤ _; omega⟩)
      clear hcl hok hb hml HTK
      generalize l[k].id = xid at *
      generalize l[k].text = xtx at *
      generalize l[k].miss = xms at *
      generalize l[k].at_ = xat at *
      generalize l[k].cap = xcap at *
      have i1 : (k : Int) < (l.length : Int) := by omega
      have i0' : (0 : Int) ≤ (k : Int) := by omega
      go_wp2
      go_region_law (go_simp; go_at_call 37; refine (HPUT.out _ ⟨by rfl, by rfl, by rfl, by rfl⟩).mono ?_; rintro e w4 ⟨⟨n4, rfl⟩, v4, ws4, h4, hl4, hw4, hb4⟩; have H4 := Lib.hid h4; have HW4 := Lib.hid hw4; have HB4 := Lib.hid hb4; clear h4 hw4 hb4; simp only [])
      all_goals
        go_wp2
        go_roundw
        case rel => exact ⟨k + 1, v4, ws4, by omega, by go_num, H4.out, hl4, HW4.out, HB4.out⟩
        case measure => simp [intOf]; omega
    · obtain rfl : k = l.length := by omega
      rw [List.take_length] at HWS
      have HLN := Lib.hid (wlen_at HW.out)
      have hBl := HW.out.blk.lt
      clear hb hlt
      go_wp2_with (go_at_call 43; refine HLN.out.mono ?_; rintro e w5 ⟨rfl, rfl⟩)
      have HAL := Lib.hid (show ∀ k, k ≤ l.length → (allM (l.take k)).length ≤ 3600 from fun k hk => by
        have := allM_le (l.take k) (fun c hc => HM60.out c (List.mem_of_mem_take hc))
        rw [List.length_take] at this; omega)
      go_loopw [8, 9] (fun v8 j wr => ∃ k : Nat, k ≤ l.length ∧ j = .int .i64 k ∧ wr.ownsRow w5.heap.size 9 1 v8 (allM (l.take k)).length ((allM (l.take k)).map Value.string) ∧ Below w5.heap.size w5 wr) (fun _ j _ => l.length - (intOf j).toNat)
      case atStart => exact ⟨0, Nat.zero_le _, rfl, World.ownsRow_nil _ _ _ _, Below.refl _ _⟩
      case round =>
        obtain ⟨k, hk, rfl, ho, hb⟩ := hrel
        have HO := Lib.hid ho
        have HB2 := Lib.hid hb
        by_cases hlt : k < l.length
        · obtain ⟨b, off, rfl, hbl, hcl⟩ := HA.out.at_ hlt
          have hok := HA.out.ok _ (List.getElem_mem hlt)
          have hb0 : b < w5.heap.size := Nat.lt_of_lt_of_le hbl HB.out.size
          have c3 := ((hb.cell (p := ⟨b, off + k * 4 + 3, none⟩) hb0).trans (HB.out.cell (p := ⟨b, off + k * 4 + 3, none⟩) hbl)).trans (hcl 3 (by omega))
          simp only [Wc.cells, List.getElem?_cons_zero, List.getElem?_cons_succ] at c3
          have hml := HM60.out _ (List.getElem_mem hlt)
          have HTK := Lib.hid (allM_take l k hlt)
          have hle := HAL.out k (by omega)
          have HMR := Lib.hid ((hok.miss.row.below (HB.out.mono (Nat.le_refl _))).below (hb.mono (Nat.le_refl _)))
          have HNIL := Lib.hid hok.nil
          clear hcl hok ho hb
          generalize l[k].miss = xms at *
          generalize l[k].at_ = xat at *
          generalize l[k].cap = xcap at *
          generalize allM (l.take k) = out at *
          have i1 : (k : Int) < (l.length : Int) := by omega
          have i0' : (0 : Int) ≤ (k : Int) := by omega
          rcases xat with _ | ad
          · have hx0 : xms = [] := by
              rcases HMR.out with h | ⟨b, o, e, _⟩
              · exact h
              · cases e
            have hc0 : xcap = 0 := HNIL.out rfl
            subst hx0 hc0
            have HNX := Lib.hid (show allM (l.take (k + 1)) = out by rw [HTK.out, List.append_nil])
            obtain ⟨p8, c8, rfl, h81, h82, _⟩ := rowS_form HO.out
            rcases p8 with _ | ad8
            all_goals
              go_wp2
              go_roundw
              case rel => exact ⟨k + 1, by omega, by go_num, by rw [HNX.out]; exact HO.out, HB2.out⟩
              case measure => simp [intOf]; omega
          · have HNX := Lib.hid HTK.out
            have HNW := Lib.hid (show ∀ j u, (xms.map Value.string)[j]? = some u → wr.cell? (ad.add j) = some u from fun j u hu => by
              obtain ⟨hj, _⟩ := List.getElem?_eq_some_iff.1 hu
              rw [List.length_map] at hj
              obtain ⟨b2, o2, e2, _, hc2⟩ := sRow_some HMR.out (by omega)
              cases e2
              rw [Go.WideShapes.add_plain, hc2 j hj, ← hu, List.getElem?_map, List.getElem?_eq_getElem hj]; rfl)
            have H1 := Lib.hid (show out.length + xms.length ≤ maxLen by unfold maxLen; omega)
            have H2 := Lib.hid (show (out.length + xms.length) * 16 ≤ 140737488355328 by omega)
            have HOC := Lib.hid (show ∀ u ∈ xms.map Value.string, u.oneCell' = true from fun u hu => by obtain ⟨s, _, rfl⟩ := List.mem_map.1 hu; rfl)
            have HLM := Lib.hid (show (xms.map Value.string).length = xms.length * 1 by simp)
            go_wp2_with (at_builtin; refine wpList_append_own _ rfl _ _ 30 rfl w5.heap.size 9 i0 (.string ⟨#[]⟩) 1 16 Try.underlying30 I0.out Z0.out Z1.out Z2.out rfl (by decide) _ out.length (out.map Value.string) rfl HO.out ad xms.length xcap (xms.map Value.string) rfl HLM.out HNW.out HOC.out H1.out H2.out HB2.out.size ?_; intro v9 w9 ho9 hg9 _; have HO9 := Lib.hid ho9; have HB9 := Lib.hid (HB2.out.grown hg9 HB2.out.size (fun j hj => (own_lt HO.out hj).2.1)); clear ho9 hg9)
            go_roundw
            case rel => exact ⟨k + 1, by omega, by go_num, by rw [HNX.out, List.map_append, List.length_append]; exact HO9.out, HB9.out⟩
            case measure => simp [intOf]; omega
        · obtain rfl : k = l.length := by omega
          rw [List.take_length] at ho
          have hal := HAL.out l.length (Nat.le_refl _)
          rw [List.take_length] at hal
          obtain ⟨p8, c8, rfl, hs8⟩ := own_texts ho
          have HSO := Lib.hid (rsorted_any (cap := c8) hs8 (by omega))
          have HWW := Lib.hid (HW.out.below hb (Nat.le_refl _))
          have HBW := Lib.hid (HB.out.trans (hb.mono HB.out.size))
          have HALL := Lib.hid (show ∀ x ∈ ws, WsOk (riseL (allM l)) x from fun x hx => ⟨(HWS.out x hx).ne, fun s hs => (mem_rise _ s).2 ((HWS.out x hx).sub s hs), (HWS.out x hx).len, (HWS.out x hx).id⟩)
          have HRL := Lib.hid (show (riseL (allM l)).length ≤ 3600 from Nat.le_trans (rise_le _) hal)
          have HSZ := Lib.hid (show ∀ s ∈ riseL (allM l), s.size ≤ maxLen from fun s hs => by
            have h1 := (mem_rise _ s).1 hs
            unfold allM at h1
            obtain ⟨c, hc, h2⟩ := List.mem_flatMap.1 h1
            have := (HA.out.ok c hc).miss.size s h2
            unfold maxLen; omega)
          have hwr5 := hb.size
          clear ho hb hlt hs8 HO HB2
          generalize riseL (allM l) = A at *
          generalize (allM l).length = nA at *
          go_wp2_with (go_at_call 39; refine HSO.out.mono ?_; rintro e w6 ⟨v6, rfl, ho6, hb6⟩; have HO6 := Lib.hid ho6; have HW6 := Lib.hid (HWW.out.below hb6 (Nat.le_refl _)); have HB6 := Lib.hid (HBW.out.trans (hb6.mono HBW.out.size)); clear ho6 hb6)
          have hwrl := HBW.out.size
          have HBS2 := Lib.hid (show w.heap.size ≤ B from hB)
          have HBASE := Lib.hid (rowS_weak HO6.out (show B ≤ _ by omega))
          go_loopw [8, 10, 11] (fun v8 v10 v11 wr => ∃ (k m : Nat) (L : List ByteArray) (v : Value) (ws' : List Wt), m + ws'.length = ws.length ∧ v10 = .int .i64 m ∧ v11 = .int .i64 k ∧ WaitAt wr B B 300 v ws' ∧ wr.ownsRow B 9 1 v8 L.length (L.map Value.string) ∧ (∀ x ∈ ws', WsOk L x) ∧ (∀ s ∈ L, s.size ≤ maxLen) ∧ k + L.length ≤ 3600 ∧ Below w.heap.size w wr) (fun v8 _ _ _ => lenV v8)
          case atStart => exact ⟨0, 0, A, _, ws, by omega, rfl, rfl, HW6.out, HBASE.out, HALL.out, HSZ.out, by have := HRL.out; omega, HB6.out⟩
          case round =>
            obtain ⟨k, m, L, v, ws', hmw, rfl, rfl, hw, hr8, hwo, hsz, hkl, hbx⟩ := hrel
            obtain ⟨p8, c8, rfl, hs8⟩ := own_texts hr8
            have HWX := Lib.hid hw
            have HO8 := Lib.hid hr8
            have HS8 := Lib.hid hs8
            have HWO := Lib.hid hwo
            have HSZ := Lib.hid hsz
            have HBX := Lib.hid hbx
            clear hw hr8 hs8 hwo hsz hbx
            by_cases h0 : L.length = 0
            · obtain rfl : L = [] := List.eq_nil_of_length_eq_zero h0
              have hwn : ws' = [] := by
                cases ws' with
                | nil => rfl
                | cons x r =>
                  have hx := HWO.out x (by simp)
                  cases hms : x.miss with
                  | nil => exact absurd hms hx.ne
                  | cons s q => have := hx.sub s (by rw [hms]; simp); cases this
              subst hwn
              obtain rfl : m = ws.length := by simpa using hmw
              have HLN := Lib.hid (show Calls Try.prog 43 #[.pointer (some ⟨B, 0, none⟩)] wr fun e w' => e = .returned (.int .i64 0) ∧ w' = wr from wlen_at HWX.out)
              have HMS := Lib.hid (wmissing_at HWX.out (by simp) (fun x hx => by cases hx) (fun x hx => by cases hx) (fun x hx => by cases hx))
              go_wp2_with (first | (go_at_call 43; refine HLN.out.mono ?_; rintro e w7 ⟨rfl, e9⟩; rw [e9]; clear e9 w7) | (go_at_call 45; refine HMS.out.mono ?_; rintro e w8 ⟨v8, rfl, hr, hb8⟩; obtain ⟨p9, c9, rfl, _⟩ := rowS_form hr; have HB8 := Lib.hid (HBX.out.trans (hb8.mono HBX.out.size)); have hmz : (missW []).length = 0 := rfl; rw [hmz]; clear hr hb8 hmz))
              go_ret
              exact ⟨rfl, HB8.out⟩
            · have hlp : 0 < L.length := by omega
              have hlpi : (0 : Int) < (L.length : Int) := by omega
              by_cases hkb : k < by_.length
              · have hkbi : (k : Int) < (by_.length : Int) := by omega
                obtain ⟨bi, oi, rfl, hbi, hci⟩ := iRow_some HI.out (by omega)
                have cb := (HBX.out.cell (p := ⟨bi, oi + k, none⟩) hbi).trans (hci k hkb)
                clear hci
                generalize by_[k] = bk at *
                have hj : ∃ j : Nat, j < L.length ∧ wrap64 ((IntKind.u64.wrap bk).tmod (L.length : Int)) = (j : Int) := by
                  have hu : 0 ≤ IntKind.u64.wrap bk := by rw [IntKind.wrap_u64]; omega
                  rw [Int.tmod_eq_emod_of_nonneg hu]
                  have h1 := Int.emod_lt_of_pos (IntKind.u64.wrap bk) hlpi
                  have h2 := Int.emod_nonneg (IntKind.u64.wrap bk) (show (L.length : Int) ≠ 0 by omega)
                  rw [IntWalk.wrap64_in _ (by omega)]
                  exact ⟨(IntKind.u64.wrap bk % (L.length : Int)).toNat, by omega, by omega⟩
                obtain ⟨j, hi1, hj2⟩ := hj
                obtain ⟨pg, og, rfl, hpg, hcg⟩ := sRow_some HS8.out (by omega)
                have ci := hcg j hi1
                try simp only [Nat.add_zero] at ci
                have hxs := HSZ.out _ (List.getElem_mem hi1)
                have HCI := Lib.hid (show ∀ w', Off (WFoot B v ws') wr w' → w'.cell? ⟨pg, og + j, none⟩ = some (.string L[j]) ∧ w'.ownsRow B 9 1 (.slice (some ⟨pg, og, none⟩) L.length c8) L.length (L.map Value.string) from fun w' ho => by
                  have hr := HWX.out.str_row ho HO8.out
                  obtain ⟨_, hs⟩ := own_str hr
                  obtain ⟨b9, o9, e9, _, h9⟩ := sRow_some hs (by omega)
                  cases e9
                  exact ⟨h9 j hi1, hr⟩)
                have HMEM := Lib.hid (strike_lt (List.getElem_mem hi1))
                have HCM := Lib.hid (wcome_any HWX.out (by omega) hxs)
                have HOKN := Lib.hid (came_ok HWO.out L[j])
                have HSL := Lib.hid (stay_left L[j] ws')
                have HNS := Lib.hid (show ∀ s ∈ strike L L[j], s.size ≤ maxLen from fun s hs => HSZ.out s (mem_strike.1 hs).1)
                have HWT := Lib.hid (fun (w' : World) (h : w'.ownsRow B 9 1 (.slice (some ⟨pg, og, none⟩) L.length c8) L.length (L.map Value.string)) => rwithout_any (cap := c8) (own_str h).2 (by omega) L[j])
                have HBL := Lib.hid HWX.out.blk.lt
                clear hcg
                generalize L[j] = sx at *
                have hlw := leftW_le sx ws'
                generalize hn5 : (leftW sx ws').length = n5 at *
                go_wp2_with (first
                  | (go_at_call 40; refine HCM.out.mono ?_; rintro e w7 ⟨v7, v7', rfl, hr7, h7, ho7, _⟩; obtain ⟨p7, c7, rfl, _⟩ := rowS_form hr7; have ho7' := ho7.mono (T := WFoot B v ws') (fun g _ hg => by rcases hg with hg | ⟨x, hx, hg⟩; exact .inl hg; exact .inr (.inr ⟨x, hx, hg⟩)); have d7 := (HCI.out _ ho7').1; (try simp only [Nat.add_zero] at d7); have HR7 := Lib.hid (HCI.out _ ho7').2; have H7 := Lib.hid h7; have HB7 := Lib.hid (HBX.out.trans ((HWX.out.off_below ho7' (by have := HBL.out; omega)).mono HBS2.out)); have HZ7 := Lib.hid ho7'.size; clear hr7 h7 ho7 ho7')
                  | (go_at_call 41; refine (HWT.out _ HR7.out).mono ?_; rintro e w8 ⟨v8, rfl, hr8, hb8⟩; have HR8 := Lib.hid (rowS_weak hr8 (show B ≤ w7.heap.size by have := HZ7.out; have := HBL.out; omega)); have H8 := Lib.hid (H7.out.below hb8 (Nat.le_refl _)); have HB8 := Lib.hid (HB7.out.trans (hb8.mono HB7.out.size)); obtain ⟨p8', c8', rfl, _⟩ := rowS_form hr8; clear hr8 hb8))
                go_roundw
                case rel =>
                  have h1 := HSL.out
                  have h2 := HMEM.out
                  exact ⟨k + 1, m + n5, strike L sx, _, stayW sx ws', by omega, by go_num, by go_num, H8.out, HR8.out, HOKN.out, HNS.out, by omega, HB8.out⟩
                case measure =>
                  have h2 := HMEM.out
                  exact h2
              · have hkbi : ¬ ((k : Int) < (by_.length : Int)) := by omega
                have hi1 : 0 < L.length := hlp
                obtain ⟨pg, og, rfl, hpg, hcg⟩ := sRow_some HS8.out (by omega)
                have ci := hcg 0 hi1
                try simp only [Nat.add_zero] at ci
                have hxs := HSZ.out _ (List.getElem_mem hi1)
                have HCI := Lib.hid (show ∀ w', Off (WFoot B v ws') wr w' → w'.cell? ⟨pg, og + 0, none⟩ = some (.string L[0]) ∧ w'.ownsRow B 9 1 (.slice (some ⟨pg, og, none⟩) L.length c8) L.length (L.map Value.string) from fun w' ho => by
                  have hr := HWX.out.str_row ho HO8.out
                  obtain ⟨_, hs⟩ := own_str hr
                  obtain ⟨b9, o9, e9, _, h9⟩ := sRow_some hs (by omega)
                  cases e9
                  exact ⟨h9 0 hi1, hr⟩)
                have HMEM := Lib.hid (strike_lt (List.getElem_mem hi1))
                have HCM := Lib.hid (wcome_any HWX.out (by omega) hxs)
                have HOKN := Lib.hid (came_ok HWO.out L[0])
                have HSL := Lib.hid (stay_left L[0] ws')
                have HNS := Lib.hid (show ∀ s ∈ strike L L[0], s.size ≤ maxLen from fun s hs => HSZ.out s (mem_strike.1 hs).1)
                have HWT := Lib.hid (fun (w' : World) (h : w'.ownsRow B 9 1 (.slice (some ⟨pg, og, none⟩) L.length c8) L.length (L.map Value.string)) => rwithout_any (cap := c8) (own_str h).2 (by omega) L[0])
                have HBL := Lib.hid HWX.out.blk.lt
                clear hcg
                generalize L[0] = sx at *
                have hlw := leftW_le sx ws'
                generalize hn5 : (leftW sx ws').length = n5 at *
                go_wp2_with (first
                  | (go_at_call 40; refine HCM.out.mono ?_; rintro e w7 ⟨v7, v7', rfl, hr7, h7, ho7, _⟩; obtain ⟨p7, c7, rfl, _⟩ := rowS_form hr7; have ho7' := ho7.mono (T := WFoot B v ws') (fun g _ hg => by rcases hg with hg | ⟨x, hx, hg⟩; exact .inl hg; exact .inr (.inr ⟨x, hx, hg⟩)); have d7 := (HCI.out _ ho7').1; (try simp only [Nat.add_zero] at d7); have HR7 := Lib.hid (HCI.out _ ho7').2; have H7 := Lib.hid h7; have HB7 := Lib.hid (HBX.out.trans ((HWX.out.off_below ho7' (by have := HBL.out; omega)).mono HBS2.out)); have HZ7 := Lib.hid ho7'.size; clear hr7 h7 ho7 ho7')
                  | (go_at_call 41; refine (HWT.out _ HR7.out).mono ?_; rintro e w8 ⟨v8, rfl, hr8, hb8⟩; have HR8 := Lib.hid (rowS_weak hr8 (show B ≤ w7.heap.size by have := HZ7.out; have := HBL.out; omega)); have H8 := Lib.hid (H7.out.below hb8 (Nat.le_refl _)); have HB8 := Lib.hid (HB7.out.trans (hb8.mono HB7.out.size)); obtain ⟨p8', c8', rfl, _⟩ := rowS_form hr8; clear hr8 hb8))
                go_roundw
                case rel =>
                  have h1 := HSL.out
                  have h2 := HMEM.out
                  exact ⟨k + 1, m + n5, strike L sx, _, stayW sx ws', by omega, by go_num, by go_num, H8.out, HR8.out, HOKN.out, HNS.out, by omega, HB8.out⟩
                case measure =>
                  have h2 := HMEM.out
                  exact h2

theorem own : ownKnob Try.prog.godebug = none := by kernel_rfl
theorem laidOut : laidOutB Try.prog = true := by kernel_rfl

set_option maxRecDepth 100000 in
theorem lifted (os : Os) (started : os.Started) (H : Type) (enc : TypeId × Value → H) :
    ReturnsInHanded {} Try.checked os 11 .any (Rows.waitLeavesSpec.pre6 enc Try.prog Try.f11 Rows.waitLeavesRow.domain false) (Rows.waitLeavesSpec.post enc Try.prog Try.f11 false true false false) := by
  refine returnsInHanded_of_change_sized (C := Try.checked) own started (by kernel_rfl) Try.func11
    (ChangeSpec.witness6 (enc := enc) (C := Try.checked) false ⟨#[], #[.slice none 0 0, .slice none 0 0], []⟩ 8 (by kernel_rfl) (by kernel_rfl) (by kernel_rfl) (by kernel_rfl)) ?_
  intro W base args ds gs before hval0 hW _ hsz0 _
  have hsz : (DataW.weightsEach Try.prog (Try.f11.params.toList ++ Rows.waitLeavesSpec.plain.varTypes Try.prog) (ds ++ gs)).all (· ≤ reachBytes) = true := hsz0
  clear hsz0
  have hval : ∀ (j : Nat) t v, Try.f11.params[j]? = some t → args[j]? = some v → Value.okWide Try.prog W .any base t v := hval0
  have hW' := hW
  obtain ⟨p, q, hA0, hV, rfl, hfz, hnd⟩ := hW
  have hA : DataW.TrodAll enc Try.prog W 0 (fun _ => true) true Try.f11.params.toList args.toList ds p := hA0
  rw [Try.params11] at hA hval hsz
  obtain ⟨v0, vs0, d0, ds0, p0, q0, hargs, rfl, rfl, h0, r0⟩ := trodAll_cons hA
  obtain ⟨v1, vs1, d1, ds1, p1, q1, rfl, rfl, rfl, h1, r1⟩ := trodAll_cons r0
  obtain ⟨rfl, rfl, rfl⟩ := trodAll_nil r1
  obtain rfl : args = #[v0, v1] := by cases args; simp_all
  obtain ⟨rfl, rfl⟩ := trodVars_none hV
  obtain ⟨x0, len0, cap0, rfl⟩ := okWide_slice Try.underlying54 (hval 0 54 v0 rfl rfl)
  have k0 := h0
  have lt0 : ∀ x ∈ p0, x.block < W.heap.size := by obtain ⟨m, hm⟩ := k0; exact DataW.trod_lt m _ _ _ hm
  obtain ⟨l0, rfl, i0⟩ : ∃ l : List Wc, len0 = l.length ∧ WcsAt W x0 l := by
    obtain ⟨fuel, hf⟩ := h0
    exact wcs_of (show DataW.trod enc Try.prog W 0 (fun _ => true) true fuel 54 [.slice x0 len0 cap0] = some _ from hf) (lo_each hsz (j := 0) rfl rfl)
  obtain ⟨x1, len1, cap1, rfl⟩ := okWide_slice Try.underlying46 (hval 1 46 v1 rfl rfl)
  have k1 := h1
  have lt1 : ∀ x ∈ p1, x.block < W.heap.size := by obtain ⟨m, hm⟩ := k1; exact DataW.trod_lt m _ _ _ hm
  obtain ⟨l1, rfl, i1, m1⟩ : ∃ l : List Int, len1 = l.length ∧ IntRow W x1 l ∧ IntsOk l := by
    obtain ⟨fuel, hf⟩ := h1
    obtain ⟨a, l, cap, e, hr, hk⟩ := ints_of (show DataW.trod enc Try.prog W 0 (fun _ => true) true fuel 46 [.slice x1 len1 cap1] = some _ from hf)
    cases e
    exact ⟨l, rfl, hr, hk⟩
  clear hA0 hval0
  refine (walk x0 cap0 l0 x1 cap1 l1  W i0 i1 m1).mono fun e W' ⟨he, bel⟩ => ?_
  subst he
  exact ⟨_, rfl, _, _, _, [], _, [], hW', trodAll_mk1 (shut_bool Try.underlying4 _), (trodAll_cons_mk (Below.trod laidOut (by kernel_rfl) (of_decide_eq_true (by kernel_rfl)) k0 bel lt0) (trodAll_cons_mk (Below.trod laidOut (by kernel_rfl) (of_decide_eq_true (by kernel_rfl)) k1 bel lt1) trodAll_mk0)), rfl, bel.frame _, fun h => by cases h⟩

theorem over : Rows.waitLeavesRow.holds Try.pinned (OpenSpec.ofChange Rows.waitLeavesSpec) :=
  OpenClaim.holds_of_wide 11 Try.f11 rfl rfl rfl rfl rfl rfl rfl ⟨rfl, rfl, rfl, rfl, rfl⟩ rfl rfl rfl rfl rfl (by kernel_rfl) Try.func11 (by kernel_rfl)
    (of_decide_eq_true (by kernel_rfl)) (by unfold Func.isWrapper; first | (rw [if_pos (by decide +kernel)]; kernel_rfl) | (rw [if_neg (by decide +kernel)]; exact ⟨rfl, rfl⟩))
    (fun os started H enc _ => lifted os started H enc)

end Go.Proofs.Ytalpmnmpggljcaa.WaitLeaves
namespace Go.Proofs.Ytalpmnmpggljcaa
theorem waitLeaves_holds : Rows.WaitLeavesSaid := WaitLeaves.over
#print axioms waitLeaves_holds
end Go.Proofs.Ytalpmnmpggljcaa

