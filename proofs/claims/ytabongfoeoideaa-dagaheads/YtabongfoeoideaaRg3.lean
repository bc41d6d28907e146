/-
  The document's own of layer 12: Past.
-/
import Derived.Test.YtabongfoeoideaaRg2
namespace Go.Pal
open Go.RowKit
set_option linter.unusedVariables false
/-- What is in, and whose parents are in. -/
structure Clo (es : List (ByteArray × List ByteArray)) (id : ByteArray) (out : List ByteArray) (k : Nat) : Prop where
  good : GoodL es out
  par : ∀ p ∈ parE es id, p ∈ out
  cl : ∀ y ∈ out.take k, ∀ p ∈ parE es y, p ∈ out
  ahd : ∀ x ∈ out, Ahd es id x
theorem clo_end {es : List (ByteArray × List ByteArray)} (hok : DagOk es) {id : ByteArray} {out : List ByteArray} (h : Clo es id out out.length) : riseL out = riseL (pastL es id) := by
  refine rising_unique (rise_rising _) (rise_rising _) fun x => ?_
  rw [mem_rise, mem_rise, mem_past hok]
  refine ⟨h.ahd x, fun ha => ?_⟩
  have hcl := h.cl
  rw [List.take_length] at hcl
  induction ha with
  | one h1 => exact h.par _ h1
  | more _ h1 ih => exact hcl _ ih _ h1
theorem ahd_mem_there {es : List (ByteArray × List ByteArray)} (hok : DagOk es) {id x : ByteArray} (h : Ahd es id x) : (lookE es x).isSome = true := by
  cases h with
  | one h => exact (hok.there h).1
  | more _ h => exact (hok.there h).1
/-- Append to a row of one's own what may be nil. -/
theorem wpList_append_opt {P : Program} (w : World) {ops : Array Oper} {rest : List Oper} {o : Oper} {a : Act} {Q : Exit → Act → World → Prop} (hgd : o.guard = none) (s x : Operand) (t : TypeId)
    (ho : o.op = .call { callee := .builtin .append, args := #[s, x], argTypes := #[t, t] })
    (base : Nat) (e : TypeId) (i : TypeInfo) (z : Value) (size bytes : Nat) (ht : P.underlying t = some (.slice e)) (hi : P.info? e = some i) (hz : i.zero = some z)
    (hsize : i.size = size) (hby : i.bytes = bytes) (hzs : z.cells.size = size) (hsz : 0 < size)
    (v : Value) (n : Nat) (xs : List Value) (hs : a.eval s = v) (hown : w.ownsRow base e size v n xs)
    (p : Option Addr) (m c : Nat) (news : List Value) (hx : a.eval x = .slice p m c) (hl : news.length = m * size) (hnews : ∀ ad, p = some ad → ∀ j u, news[j]? = some u → w.cell? (ad.add j) = some u) (h1 : ∀ u ∈ news, u.oneCell' = true) (hnil : p = none → m = 0 ∧ c = 0)
    (h63 : n + m ≤ maxLen) (hbytes : (n + m) * bytes ≤ 140737488355328) (hbase : base ≤ w.heap.size)
    (h : ∀ v' w', w'.ownsRow base e size v' (n + m) (xs ++ news) → w.grownBy w' v.ownBlock → wpList P ops Q rest (a.put o.dst v') w') : wpList P ops Q (o :: rest) a w := by
  cases p with
  | none =>
    obtain ⟨rfl, rfl⟩ := hnil rfl
    have hn : news = [] := List.eq_nil_of_length_eq_zero (by omega)
    subst hn
    exact wpList_append_own_none hgd s x t ho base e i size ht hi v n xs hs hown hx (h v w (by simpa using hown) ⟨rfl, rfl, rfl, Nat.le_refl _, fun _ _ _ => rfl⟩)
  | some ad => exact wpList_append_own w hgd s x t ho base e i z size bytes ht hi hz hsize hby hzs hsz v n xs hs hown ad m c news hx hl (hnews ad rfl) h1 h63 hbytes hbase fun v' w' h2 h3 _ => h v' w' h2 h3
end Go.Pal
namespace Go.Proofs.Ytabongfoeoideaa
open Go.RowKit Go.Pal Go.Shelf
set_option linter.unusedVariables false
theorem empty_ownS {w1 : World} {base : Nat} (h : base ≤ w1.heap.size) : (w1.alloc (.cells #[] 9)).ownsRow base 9 1 (.slice (some ⟨w1.heap.size, 0, none⟩) 0 0) 0 [] := ⟨rfl, .inr ⟨w1.heap.size, 0, #[], rfl, h, heap_alloc_new _ _, Nat.le_refl _, Nat.zero_le _, rfl, rfl⟩⟩
theorem str_holds {w : World} {ad : Addr} {M : List ByteArray} (h : StrRow w (some ad) M) {W : World} (hb : Below w.heap.size w W) : ∀ j u, (M.map Value.string)[j]? = some u → W.cell? (ad.add j) = some u := fun j u hu => by
  have hj := (List.getElem?_eq_some_iff.1 hu).1
  rw [List.length_map] at hj
  obtain ⟨b, off, e, hbl, hc⟩ := sRow_some h (by omega)
  cases e
  rw [Go.WideShapes.add_plain]
  rw [(hb.cell (p := ⟨b, off + j, none⟩) hbl), hc j hj, ← hu, List.getElem?_map, List.getElem?_eq_getElem hj]; rfl
theorem str_none {w : World} {M : List ByteArray} (h : StrRow w none M) : M.length = 0 := by
  rcases h with h | ⟨b, o, e, _⟩
  · rw [h]; rfl
  · cases e
theorem one_strs (M : List ByteArray) : ∀ u ∈ M.map Value.string, u.oneCell' = true := by intro u hu; obtain ⟨s, _, rfl⟩ := List.mem_map.1 hu; rfl
set_option maxHeartbeats 2000000 in
set_option maxRecDepth 100000 in
theorem rpast_any {w : World} {a : Option Addr} {cap : Nat} {l : List En} (h : EnsAt w a l) (hok : DagOk (esEn l)) (id : ByteArray) :
    Calls Try.prog 22 #[.slice a l.length cap, .string id] w fun e w' => ∃ v, e = .returned v ∧ OwnL w' w.heap.size v (riseL (pastL (esEn l) id)) ∧ Below w.heap.size w w' := by
  have HPA := Lib.hid (fun W (hW : Below w.heap.size w W) s => rparents_any (cap := cap) h hW s)
  have HOK := Lib.hid hok
  obtain ⟨i0, hi0, hz0, hz1, hz2⟩ := info_parts (show (Try.prog.info? 9).map (fun i => (i.zero, i.size, i.bytes)) = some (some (.string ⟨#[]⟩), 1, 16) by kernel_rfl)
  have I0 := Lib.hid hi0
  have Z0 := Lib.hid hz0
  have Z1 := Lib.hid hz1
  have Z2 := Lib.hid hz2
  have hel : (esEn l).length ≤ 300 := hok.len
  have HEND := Lib.hid (fun out (hc : Clo (esEn l) id out out.length) => clo_end hok hc)
  have hid := fun p (hp : p ∈ parE (esEn l) id) => hok.there hp
  have HM0 := Lib.hid (show Clo (esEn l) id (parE (esEn l) id) 0 from ⟨⟨parE_nodup hok id, fun x hx => (hid x hx).1⟩, fun p hp => hp, fun y hy => by simp at hy, fun x hx => .one hx⟩)
  clear h hok hi0 hz0 hz1 hz2 hid
  generalize esEn l = es at *
  have HML := Lib.hid (Nat.le_trans HM0.out.good.len hel)
  go_enter Try.func22, Try.ntmps22
  go_wp2_with (first
    | (go_at_call 20; refine (HPA.out w (Below.refl _ _) _).mono ?_; rintro e w' ⟨⟨p1, c1, rfl, hr1, hn1⟩, e9⟩; rw [e9]; clear e9 w'; have HR1 := Lib.hid hr1; have HN1 := Lib.hid hn1; clear hr1 hn1)
    | (at_builtin; refine wpList_append_opt _ rfl _ _ 30 rfl w.heap.size 9 i0 (.string ⟨#[]⟩) 1 16 Try.underlying30 I0.out Z0.out Z1.out Z2.out rfl (by decide) _ 0 [] rfl (empty_ownS (Nat.le_refl _)) p1 (parE es id).length c1 ((parE es id).map Value.string) rfl (by simp) (fun ad e => str_holds (e ▸ HR1.out) ((Below.refl w.heap.size w).alloc (Nat.le_refl _) _)) (one_strs _) (fun e => ⟨str_none (e ▸ HR1.out), HN1.out e⟩) (by have := HML.out; unfold maxLen; omega) (by have := HML.out; omega) (by simp) ?_; intro v2 w2 ho2 hg2; obtain ⟨p2, c2, rfl, _⟩ := rowS_form ho2; have O2 := Lib.hid (show w2.ownsRow w.heap.size 9 1 (.slice p2 (0 + (parE es id).length) c2) (parE es id).length ((parE es id).map Value.string) by simpa using ho2); have B2 := Lib.hid (empty_below hg2); clear ho2 hg2))
  rw [Nat.zero_add] at *
  have HRL := Lib.hid (show ∀ out, GoodL es out → out.length ≤ 300 from fun out hg => Nat.le_trans hg.len hel)
  go_loopw [5, 6] (fun v5 j wr => ∃ out k, k ≤ (out : List ByteArray).length ∧ j = .int .i64 (k : Nat) ∧ OwnL wr w.heap.size v5 out ∧ Clo es id out k ∧ Below w.heap.size w wr) (fun _ j _ => 300 - (intOf j).toNat)
  case atStart => exact ⟨_, 0, Nat.zero_le _, rfl, O2.out, HM0.out, B2.out⟩
  case round =>
    obtain ⟨out, k, hk, rfl, ho, hc, hb⟩ := hrel
    have HO := Lib.hid ho
    have HC := Lib.hid hc
    have HB := Lib.hid hb
    have hol := HRL.out out hc.good
    by_cases hlt : k < out.length
    · obtain ⟨p5, c5, rfl, _⟩ := ho.form
      obtain ⟨g, rfl, hg, hcell⟩ := row_cell12 ho (by omega)
      have ck := hcell k hlt
      have HTK := Lib.hid (List.take_succ_eq_append_getElem hlt)
      have hxm := List.getElem_mem hlt
      have hxa := hc.ahd _ hxm
      have HPX := Lib.hid (fun p (hp : p ∈ parE es out[k]) => show Ahd es id p from .more hxa hp)
      have HPS := Lib.hid (HPA.out wr hb (out[k]))
      have hlm := Nat.le_trans (GoodL.len (es := es) ⟨parE_nodup HOK.out out[k], fun x hx => (HOK.out.there hx).1⟩) hel
      have k1 : (k : Int) < (out.length : Int) := by omega
      have k0 : (0 : Int) ≤ (k : Int) := by omega
      clear ho hc hb hcell hxm hxa
      obtain ⟨x, hx⟩ : ∃ x, x = out[k] := ⟨_, rfl⟩
      rw [← hx] at ck HTK HPX HPS hlm
      obtain ⟨M, hM⟩ : ∃ M, M = parE es x := ⟨_, rfl⟩
      rw [← hM] at HPX HPS hlm
      have HXM := Lib.hid hM
      clear hx hM
      go_wp2_with (go_at_call 20; refine HPS.out.mono ?_; rintro e w' ⟨⟨p3, c3, rfl, hr3, hn3⟩, e9⟩; rw [e9]; clear e9 w'; have HR3 := Lib.hid hr3; clear hr3 hn3)
      rename World => wi0
      go_loopw [5, 8] (fun v5 j wi => ∃ (o2 : List ByteArray) (i : Nat), i ≤ M.length ∧ j = .int .i64 (i : Nat) ∧ OwnL wi w.heap.size v5 o2 ∧ GoodL es o2 ∧ (∃ m, o2 = out ++ m) ∧ (∀ x ∈ o2, Ahd es id x) ∧ (∀ p ∈ M.take i, p ∈ o2) ∧ Below w.heap.size w wi) (fun _ j _ => M.length - (intOf j).toNat)
      case atStart => exact ⟨out, 0, Nat.zero_le _, rfl, HO.out, HC.out.good, ⟨[], by simp⟩, HC.out.ahd, fun p hp => by simp at hp, HB.out⟩
      case round =>
        obtain ⟨o2, i, hi, rfl, ho, hgo, hex, hah, htk, hbi⟩ := hrel
        have HO2 := Lib.hid ho
        have HG2 := Lib.hid hgo
        have HE2 := Lib.hid hex
        have HA2 := Lib.hid hah
        have HT2 := Lib.hid htk
        have HBI := Lib.hid hbi
        have ho2l := HRL.out o2 hgo
        obtain ⟨p6, c6, rfl, hr6⟩ := ho.form
        by_cases hil : i < M.length
        · obtain ⟨b, off, rfl, hbl, hcell⟩ := sRow_some HR3.out (by omega)
          have ci := (hbi.cell (p := ⟨b, off + i, none⟩) hbl).trans (hcell i hil)
          have HTI := Lib.hid (List.take_succ_eq_append_getElem hil)
          have HMI := Lib.hid (HPX.out _ (List.getElem_mem hil))
          have HMT := Lib.hid (show (lookE es M[i]).isSome = true from ahd_mem_there HOK.out HMI.out)
          have HH := Lib.hid (rhas_any (cap := c6) hr6 (by unfold maxLen; omega) M[i])
          have i1 : (i : Int) < (M.length : Int) := by omega
          have i00 : (0 : Int) ≤ (i : Int) := by omega
          clear ho hgo hex hah htk hbi hcell hr6
          generalize M[i] = y at *
          cases hm : memB o2 y with
          | true =>
            rw [hm] at HH
            have HIN := Lib.hid (memB_iff.1 hm)
            clear hm
            go_wp2_with (go_at_call 28; refine HH.out.mono ?_; rintro e w' ⟨rfl, e9⟩; rw [e9]; clear e9 w')
            go_roundw
            case rel => exact ⟨o2, i + 1, by omega, by go_num, HO2.out, HG2.out, HE2.out, HA2.out, fun p hp => by
              rw [HTI.out] at hp
              rcases List.mem_append.1 hp with hp | hp
              · exact HT2.out p hp
              · rw [List.mem_singleton.1 hp]; exact HIN.out, HBI.out⟩
            case measure => simp [intOf]; omega
          | false =>
            rw [hm] at HH
            have HIN := Lib.hid (memF.1 hm)
            have H1 := Lib.hid (show o2.length + 1 ≤ maxLen by unfold maxLen; omega)
            have H2 := Lib.hid (show (o2.length + 1) * 16 ≤ 140737488355328 by omega)
            have hws := HBI.out.size
            clear hm
            go_wp2_with (first
              | (go_at_call 28; refine HH.out.mono ?_; rintro e w' ⟨rfl, e9⟩; rw [e9]; clear e9 w')
              | (at_builtin; refine wpList_append_own _ rfl _ _ 30 rfl w.heap.size 9 i0 (.string ⟨#[]⟩) 1 16 Try.underlying30 I0.out Z0.out Z1.out Z2.out rfl (by decide) _ o2.length (o2.map Value.string) rfl (HO2.out.alloc _) ⟨wr.heap.size, 0, none⟩ 1 1 [.string y] rfl rfl (one_new wr 9 y) (one_str1 y) H1.out H2.out (by simp; omega) ?_; intro v9 w9 ho9 hg9 _; have O9 := Lib.hid (show OwnL w9 w.heap.size v9 (o2 ++ [y]) by unfold OwnL; simpa using ho9); have B9 := Lib.hid (HBI.out.grown ((World.grownBy_alloc wr _ _).trans hg9) hws (fun j hj => (own_lt HO2.out hj).2.1)); clear ho9 hg9))
            go_roundw
            case rel =>
              refine ⟨o2 ++ [y], i + 1, by omega, by go_num, O9.out, ⟨List.nodup_append.2 ⟨HG2.out.1, by simp, fun a1 ha c hc => by rw [List.mem_singleton.1 hc]; exact fun e => HIN.out (e ▸ ha)⟩, fun z hz => ?_⟩, ?_, fun z hz => ?_, fun p hp => ?_, B9.out⟩
              · rcases List.mem_append.1 hz with hz | hz
                · exact HG2.out.2 z hz
                · rw [List.mem_singleton.1 hz]; exact HMT.out
              · obtain ⟨m, hm⟩ := HE2.out
                exact ⟨m ++ [y], by rw [hm, List.append_assoc]⟩
              · rcases List.mem_append.1 hz with hz | hz
                · exact HA2.out z hz
                · rw [List.mem_singleton.1 hz]; exact HMI.out
              · rw [HTI.out] at hp
                rcases List.mem_append.1 hp with hp | hp
                · exact List.mem_append_left _ (HT2.out p hp)
                · exact List.mem_append_right _ hp
            case measure => simp [intOf]; omega
        · obtain rfl : i = M.length := by omega
          clear ho hgo hex hah htk hbi hr6
          go_wp2
          go_roundw
          case rel =>
            obtain ⟨m, hm⟩ := HE2.out
            have hsub : ∀ z ∈ out, z ∈ o2 := fun z hz => by rw [hm]; exact List.mem_append_left _ hz
            refine ⟨o2, k + 1, by rw [hm]; simp; omega, by go_num, HO2.out, ⟨HG2.out, fun p hp => hsub _ (HC.out.par p hp), fun y hy p hp => ?_, HA2.out⟩, HBI.out⟩
            rw [hm, List.take_append_of_le_length (by omega), HTK.out] at hy
            rcases List.mem_append.1 hy with hy | hy
            · exact hsub _ (HC.out.cl y hy p hp)
            · rw [List.mem_singleton.1 hy, ← HXM.out] at hp
              exact HT2.out p (by rw [List.take_length]; exact hp)
          case measure => simp [intOf]; omega
    · obtain rfl : k = out.length := by omega
      obtain ⟨p5, c5, rfl, hr5⟩ := ho.form
      have HS := Lib.hid (rsorted_any (cap := c5) hr5 (by omega))
      clear ho hc hb hr5
      go_wp2_with (go_at_call 31; refine HS.out.mono ?_; rintro e w9 ⟨v9, rfl, o9, b9⟩; obtain ⟨p9, c9, rfl, _⟩ := rowS_form o9; have O9 := Lib.hid o9; have B9 := Lib.hid b9; clear o9 b9)
      go_ret
      rw [← HEND.out out HC.out]
      exact ⟨_, rfl, own_base O9.out HB.out.size, HB.out.trans (B9.out.mono HB.out.size)⟩
end Go.Proofs.Ytabongfoeoideaa
