/-
  Layer 12: what lies ahead: gather.
-/
import Derived.Test.YtabongfoeoideaaDg3
import Derived.Test.YtabongfoeoideaaDg5
namespace Go.Pal
open Go.RowKit
def rankE (es : List (ByteArray × List ByteArray)) (s : ByteArray) : Nat := es.findIdx (fun e => decide (e.1 = s))
/-- Each entry's parents came in ahead of it. -/
structure DagOk (es : List (ByteArray × List ByteArray)) : Prop where
  par : ∀ e ∈ es, ∀ p ∈ e.2, (lookE es p).isSome = true ∧ rankE es p < rankE es e.1
  len : es.length ≤ 300
  size : ∀ e ∈ es, e.1.size ≤ 64
  wide : ∀ e ∈ es, e.2.length ≤ 1000000
  rise : ∀ e ∈ es, Rising e.2
theorem lookE_isSome {es : List (ByteArray × List ByteArray)} {s : ByteArray} : (lookE es s).isSome = true ↔ s ∈ es.map Prod.fst := by
  unfold lookE
  rw [List.find?_isSome]
  constructor
  · rintro ⟨e, he, h⟩; exact List.mem_map.2 ⟨e, he, by simpa using h⟩
  · intro h; obtain ⟨e, he, rfl⟩ := List.mem_map.1 h; exact ⟨e, he, by simp⟩
theorem mem_parE {es : List (ByteArray × List ByteArray)} {s p : ByteArray} (h : p ∈ parE es s) : ∃ e ∈ es, e.1 = s ∧ p ∈ e.2 := by
  unfold parE at h
  cases hl : lookE es s with
  | none => rw [hl] at h; cases h
  | some e => rw [hl] at h; exact ⟨e, (lookE_some hl).1, (lookE_some hl).2, h⟩
theorem DagOk.there {es : List (ByteArray × List ByteArray)} (h : DagOk es) {s p : ByteArray} (hp : p ∈ parE es s) : (lookE es p).isSome = true ∧ rankE es p < rankE es s ∧ p.size ≤ 64 := by
  obtain ⟨e, he, rfl, hpe⟩ := mem_parE hp
  obtain ⟨h1, h2⟩ := h.par e he p hpe
  obtain ⟨x, hx, rfl⟩ := List.mem_map.1 (lookE_isSome.1 h1)
  exact ⟨h1, h2, h.size x hx⟩
theorem DagOk.parLen {es : List (ByteArray × List ByteArray)} (h : DagOk es) (s : ByteArray) : (parE es s).length ≤ 1000000 := by
  unfold parE
  cases hl : lookE es s with
  | none => simp
  | some e => exact h.wide e (lookE_some hl).1
def stepGath (F : List ByteArray → ByteArray → List ByteArray) (l : List ByteArray) (p : ByteArray) : List ByteArray := if memB l p then l else F (addL l p) p
def gatherL (es : List (ByteArray × List ByteArray)) : Nat → List ByteArray → ByteArray → List ByteArray
  | 0, l, _ => l
  | n + 1, l, id => (parE es id).foldl (stepGath (gatherL es n)) l
def GoodL (es : List (ByteArray × List ByteArray)) (l : List ByteArray) : Prop := l.Nodup ∧ ∀ x ∈ l, (lookE es x).isSome = true
theorem sub_len : ∀ (l m : List ByteArray), l.Nodup → (∀ x ∈ l, x ∈ m) → l.length ≤ m.length := by
  intro l
  induction l with
  | nil => intro m _ _; exact Nat.zero_le _
  | cons x r ih =>
    intro m hn hs
    have hx := hs x List.mem_cons_self
    have h1 := ih (m.filter (fun y => decide (y ≠ x))) (List.nodup_cons.1 hn).2 (fun y hy => List.mem_filter.2 ⟨hs y (List.mem_cons_of_mem _ hy), decide_eq_true (fun e => (List.nodup_cons.1 hn).1 (e ▸ hy))⟩)
    have h2 : (m.filter (fun y => decide (y ≠ x))).length < m.length := List.length_filter_lt_length_iff_exists.2 ⟨x, hx, by simp⟩
    rw [List.length_cons]; omega
theorem GoodL.len {es : List (ByteArray × List ByteArray)} {l : List ByteArray} (h : GoodL es l) : l.length ≤ es.length := by
  have := sub_len l (es.map Prod.fst) h.1 (fun x hx => lookE_isSome.1 (h.2 x hx))
  simpa using this
theorem GoodL.add {es : List (ByteArray × List ByteArray)} {l : List ByteArray} (h : GoodL es l) {p : ByteArray} (hp : (lookE es p).isSome = true) : GoodL es (addL l p) :=
  ⟨addL_nodup h.1 p, fun x hx => by rcases mem_addL.1 hx with hx | rfl; exact h.2 x hx; exact hp⟩
theorem GoodL.step {es : List (ByteArray × List ByteArray)} {F : List ByteArray → ByteArray → List ByteArray} {l : List ByteArray} (h : GoodL es l) {p : ByteArray} (hp : (lookE es p).isSome = true) (hF : ∀ l, GoodL es l → GoodL es (F l p)) : GoodL es (stepGath F l p) := by
  unfold stepGath; split
  · exact h
  · exact hF _ (h.add hp)
theorem GoodL.fold {es : List (ByteArray × List ByteArray)} {F : List ByteArray → ByteArray → List ByteArray} : ∀ (ps : List ByteArray), (∀ p ∈ ps, (lookE es p).isSome = true ∧ ∀ l, GoodL es l → GoodL es (F l p)) → ∀ l, GoodL es l → GoodL es (ps.foldl (stepGath F) l) := by
  intro ps
  induction ps with
  | nil => intro _ l h; exact h
  | cons p r ih => intro hp l h; exact ih (fun q hq => hp q (List.mem_cons_of_mem _ hq)) _ (h.step (hp p List.mem_cons_self).1 (hp p List.mem_cons_self).2)
theorem gather_good {es : List (ByteArray × List ByteArray)} (hok : DagOk es) : ∀ (n : Nat) (id : ByteArray) (l : List ByteArray), GoodL es l → GoodL es (gatherL es n l id) := by
  intro n
  induction n with
  | zero => intro id l h; exact h
  | succ k ih => intro id l h; exact GoodL.fold _ (fun p hp => ⟨(hok.there hp).1, fun l hl => ih p l hl⟩) l h
theorem take_fold (f : List ByteArray → ByteArray → List ByteArray) (M l : List ByteArray) {k : Nat} (hk : k < M.length) : (M.take (k + 1)).foldl f l = f ((M.take k).foldl f l) M[k] := by
  rw [List.take_succ_eq_append_getElem hk, List.foldl_append]; rfl
theorem setL_get (l : List ByteArray) (s : ByteArray) : (setL l s).getD unitV = unitV := by
  unfold setL; split <;> rfl
end Go.Pal
namespace Go.Proofs.Ytabongfoeoideaa
open Go.RowKit Go.Pal Go.Shelf
set_option linter.unusedVariables false

/-- A dag by its pointer: there is none, or it lies at G. -/
def DagP (w : World) (base : Nat) (p : Option Addr) (m : Option Nat) (mv : ByteArray → Value) (es : List (ByteArray × List ByteArray)) : Prop :=
  (p = none ∧ m = none ∧ es = []) ∨ ∃ G, p = some ⟨G, 0, none⟩ ∧ DagAt w base G m mv es
def DFootP (p : Option Addr) (m : Option Nat) (mv : ByteArray → Value) (es : List (ByteArray × List ByteArray)) (g : Nat) : Prop := ∃ G, p = some ⟨G, 0, none⟩ ∧ DFoot G m mv es g
theorem DagP.keep {w w' : World} {base : Nat} {p : Option Addr} {m : Option Nat} {mv : ByteArray → Value} {es : List (ByteArray × List ByteArray)} (h : DagP w base p m mv es) (hk : ∀ g, DFootP p m mv es g → w'.heap[g]? = w.heap[g]?) : DagP w' base p m mv es := by
  rcases h with h | ⟨G, rfl, h⟩
  · exact .inl h
  · exact .inr ⟨G, rfl, h.keep fun g hg => hk g ⟨G, rfl, hg⟩⟩
theorem DagP.lt {w : World} {base : Nat} {p : Option Addr} {m : Option Nat} {mv : ByteArray → Value} {es : List (ByteArray × List ByteArray)} (h : DagP w base p m mv es) {g : Nat} (hg : DFootP p m mv es g) : g < w.heap.size := by
  obtain ⟨G, rfl, hg⟩ := hg
  rcases h with ⟨h, _⟩ | ⟨G', e, h⟩
  · cases h
  · cases e; exact (h.lt hg).1
theorem DagP.off {S : Nat → Prop} {w w' : World} {base : Nat} {p : Option Addr} {m : Option Nat} {mv : ByteArray → Value} {es : List (ByteArray × List ByteArray)} (h : DagP w base p m mv es) (ho : Off S w w') (hs : ∀ g, DFootP p m mv es g → ¬ S g) : DagP w' base p m mv es :=
  h.keep fun g hg => ho.block g (h.lt hg) (hs g hg)
theorem DagP.below {w w' : World} {base : Nat} {p : Option Addr} {m : Option Nat} {mv : ByteArray → Value} {es : List (ByteArray × List ByteArray)} (h : DagP w base p m mv es) {n : Nat} (hb : Below n w w') (hn : w.heap.size ≤ n) : DagP w' base p m mv es :=
  h.keep fun g hg => hb.block g (Nat.lt_of_lt_of_le (h.lt hg) hn)
theorem DagP.ent {w : World} {base : Nat} {p : Option Addr} {m : Option Nat} {mv : ByteArray → Value} {es : List (ByteArray × List ByteArray)} (h : DagP w base p m mv es) : Calls Try.prog 37 #[.pointer p] w fun e w' => e = .returned (.map m) ∧ w' = w := by
  rcases h with ⟨rfl, rfl, rfl⟩ | ⟨G, rfl, h⟩
  · exact dent_nil w
  · exact dent_at (h.blk.cell 0)
theorem DagP.look {w : World} {base : Nat} {p : Option Addr} {m : Option Nat} {mv : ByteArray → Value} {es : List (ByteArray × List ByteArray)} (h : DagP w base p m mv es) {s : ByteArray} (hs : s.size ≤ maxLen) :
    (Instr.lookup 54 (.map m) (.string s) false).run Try.prog w = .ok ((mapE es mv s).getD (.slice none 0 0)) w := by
  rcases h with ⟨rfl, rfl, rfl⟩ | ⟨G, rfl, h⟩
  · exact lookNil w hs false
  · exact h.look hs false
theorem DagP.par {w : World} {base : Nat} {p : Option Addr} {m : Option Nat} {mv : ByteArray → Value} {es : List (ByteArray × List ByteArray)} (h : DagP w base p m mv es) (s : ByteArray) : ∃ a cap, (mapE es mv s).getD (.slice none 0 0) = .slice a (parE es s).length cap ∧ StrRow w a (parE es s) := by
  rcases h with ⟨rfl, rfl, rfl⟩ | ⟨G, rfl, h⟩
  · exact ⟨none, 0, rfl, .inl rfl⟩
  · exact h.par s
theorem DagP.row {w : World} {base : Nat} {p : Option Addr} {m : Option Nat} {mv : ByteArray → Value} {es : List (ByteArray × List ByteArray)} (h : DagP w base p m mv es) {s : ByteArray} {a : Option Addr} {k cap : Nat} (hv : (mapE es mv s).getD (.slice none 0 0) = .slice a k cap) : StrRow w a (parE es s) := by
  obtain ⟨a', cap', h1, h2⟩ := h.par s
  rw [hv] at h1
  cases h1; exact h2
theorem zeroU (w : World) : (zeroValue 67).run Try.prog w = .ok unitV w := by kernel_rfl
set_option maxHeartbeats 2000000 in
set_option maxRecDepth 100000 in
theorem dgather_step {base B : Nat} {p : Option Addr} {m : Option Nat} {mv : ByteArray → Value} {es : List (ByteArray × List ByteArray)} (hok : DagOk es) (hB : ∀ g, DFootP p m mv es g → g ≠ B) (id : ByteArray) (hid : id.size ≤ maxLen) (F : List ByteArray → ByteArray → List ByteArray)
    (hrec : ∀ q ∈ parE es id, (∀ l, GoodL es l → GoodL es (F l q)) ∧ ∀ (W : World) (l : List ByteArray), DagP W base p m mv es → MapF Try.prog 9 W B l.length (setL l) → GoodL es l → Calls Try.prog 48 #[.pointer p, .map (some B), .string q] W fun e w' => e = .returned (.tuple #[]) ∧ MapF Try.prog 9 w' B (F l q).length (setL (F l q)) ∧ Off (fun g => g = B) W w')
    (w : World) (l : List ByteArray) (h : DagP w base p m mv es) (hm : MapF Try.prog 9 w B l.length (setL l)) (hg : GoodL es l) :
    Calls Try.prog 48 #[.pointer p, .map (some B), .string id] w fun e w' => e = .returned (.tuple #[]) ∧ MapF Try.prog 9 w' B ((parE es id).foldl (stepGath F) l).length (setL ((parE es id).foldl (stepGath F) l)) ∧ Off (fun g => g = B) w w' := by
  have hlk := h.look hid
  obtain ⟨a, cap, hv, hr0⟩ := h.par id
  rw [hv] at hlk
  have HE := Lib.hid h.ent
  have HROW := Lib.hid (fun W (ho : Off (fun g => g = B) w W) => ((h.off ho hB).row hv : StrRow W a (parE es id)))
  have HDP := Lib.hid (fun W (ho : Off (fun g => g = B) w W) => h.off ho hB)
  have HREC := Lib.hid hrec
  have HOK := Lib.hid hok
  have HTH := Lib.hid (fun q (hq : q ∈ parE es id) => hok.there hq)
  have HLE := Lib.hid hok.len
  have hML := hok.parLen id
  have HM := Lib.hid hm
  have HG := Lib.hid hg
  have hnot : ∀ (x : Bool) (w : World), (Op.unary .not (.bool x)).run Try.prog w = .ok (.bool (!x)) w := fun _ _ => rfl
  clear h hv hr0 hrec hok hm hg
  generalize parE es id = M at *
  go_enter Try.func48, Try.ntmps48
  go_wp2_with (go_at_call 37; refine HE.out.mono ?_; rintro e w' ⟨rfl, e9⟩; rw [e9]; clear e9 w')
  go_loopw [15] (fun j wr => ∃ k : Nat, k ≤ M.length ∧ j = .int .i64 k ∧ MapF Try.prog 9 wr B ((M.take k).foldl (stepGath F) l).length (setL ((M.take k).foldl (stepGath F) l)) ∧ GoodL es ((M.take k).foldl (stepGath F) l) ∧ Off (fun g => g = B) w wr) (fun j _ => M.length - (intOf j).toNat)
  case atStart => exact ⟨0, Nat.zero_le _, rfl, HM.out, HG.out, Off.refl _ _⟩
  case round =>
    obtain ⟨k, hk, rfl, hmr, hgr, hor⟩ := hrel
    clear HE
    by_cases hlt : k < M.length
    · have hq := List.getElem_mem hlt
      have hTF := Lib.hid (take_fold (stepGath F) M l hlt)
      obtain ⟨b, off, rfl, _, hc⟩ := sRow_some (HROW.out _ hor) (by omega)
      have ck := hc k hlt
      obtain ⟨hthere, _, hqs⟩ := HTH.out _ hq
      have HR := Lib.hid (HREC.out _ hq)
      clear hc hq
      generalize M[k] = q at *
      generalize (M.take k).foldl (stepGath F) l = L at *
      have hqm : q.size ≤ maxLen := by unfold maxLen; omega
      have hLM : L.length < maxLen := by have := hgr.len; have := HLE.out; unfold maxLen; omega
      have hlo := hmr.look_ok Try.underlying9 Try.underlying66 (zeroU wr) hqm
      rw [setL_get, setL_some] at hlo
      have HMR := Lib.hid hmr
      have HGR := Lib.hid hgr
      have HOR := Lib.hid hor
      have HTHE := Lib.hid hthere
      clear hmr hgr hor hthere
      cases hmb : memB L q with
      | true =>
        rw [hmb] at hlo
        have HMB := Lib.hid hmb
        clear hmb
        unfold unitV at hlo
        go_wp2
        have hS : stepGath F L q = L := by unfold stepGath; rw [HMB.out]; rfl
        refine ⟨⟨k + 1, by omega, by go_num, ?_, ?_, HOR.out.alloc _⟩, by simp [intOf]; omega⟩
        · rw [hTF.out, hS]; exact HMR.out.keep (heap_alloc_old _ _ HMR.out.lt)
        · rw [hTF.out, hS]; exact HGR.out
      | false =>
        rw [hmb] at hlo
        have HMB := Lib.hid hmb
        clear hmb
        unfold unitV at hlo
        obtain ⟨w8, hrun8, hm8, ht8⟩ := (HMR.out.keep (w' := wr.alloc (.cells #[] 67)) (heap_alloc_old _ _ HMR.out.lt)).update Try.underlying9 Try.underlying66 hLM hqm unitV
        unfold unitV at hrun8
        have HO8 := Lib.hid (show Off (fun g => g = B) w w8 from (HOR.out.alloc _).trans (Off.of_grown ht8.grown) (fun g _ h2 => (Option.some.inj h2).symm))
        have HM8 := Lib.hid (MapF.add hm8)
        have HC8 := Lib.hid (HR.out.2 w8 (addL L q) (HDP.out w8 HO8.out) HM8.out (HGR.out.add HTHE.out))
        have HF8 := Lib.hid (HR.out.1 _ (HGR.out.add HTHE.out))
        clear hm8 ht8 HR
        go_wp2_with (go_at_call 48; refine HC8.out.mono ?_; rintro e w9 ⟨rfl, hm9, ho9⟩; have HM9 := Lib.hid hm9; have HO9 := Lib.hid (HO8.out.trans ho9 (fun g _ h2 => h2)); clear hm9 ho9)
        have hS : stepGath F L q = F (addL L q) q := by unfold stepGath; rw [HMB.out]; rfl
        refine ⟨⟨k + 1, by omega, by go_num, ?_, ?_, HO9.out⟩, by simp [intOf]; omega⟩
        · rw [hTF.out, hS]; exact HM9.out
        · rw [hTF.out, hS]; exact HF8.out
    · obtain rfl : k = M.length := by omega
      rw [List.take_length] at hmr
      have HMR := Lib.hid hmr
      have HOR := Lib.hid hor
      clear hmr hgr hor
      go_wp2
      go_end0
      exact ⟨rfl, HMR.out, HOR.out⟩
theorem dgather_any {base B : Nat} {p : Option Addr} {m : Option Nat} {mv : ByteArray → Value} {es : List (ByteArray × List ByteArray)} (hok : DagOk es) (hB : ∀ g, DFootP p m mv es g → g ≠ B) : ∀ (n : Nat) (id : ByteArray), id.size ≤ maxLen → ((lookE es id).isSome = true → rankE es id < n) →
    ∀ (w : World) (l : List ByteArray), DagP w base p m mv es → MapF Try.prog 9 w B l.length (setL l) → GoodL es l →
    Calls Try.prog 48 #[.pointer p, .map (some B), .string id] w fun e w' => e = .returned (.tuple #[]) ∧ MapF Try.prog 9 w' B (gatherL es n l id).length (setL (gatherL es n l id)) ∧ Off (fun g => g = B) w w' := by
  intro n
  induction n with
  | zero =>
    intro id hid hr w l h hm hg
    have hn : parE es id = [] := by
      unfold parE
      cases hl : lookE es id with
      | none => rfl
      | some e => exact absurd (hr (by rw [hl]; rfl)) (Nat.not_lt_zero _)
    have := dgather_step hok hB id hid (fun l _ => l) (fun q hq => by rw [hn] at hq; cases hq) w l h hm hg
    rw [hn] at this
    exact this
  | succ k ih =>
    intro id hid hr w l h hm hg
    refine dgather_step hok hB id hid (gatherL es k) (fun q hq => ⟨fun l hl => gather_good hok k q l hl, fun W l hp hm hl => ih q ?_ ?_ W l hp hm hl⟩) w l h hm hg
    · have := (hok.there hq).2.2; unfold maxLen; omega
    · intro _
      have h1 := (hok.there hq).2.1
      obtain ⟨e, he, e2, _⟩ := mem_parE hq
      have := hr (lookE_isSome.2 (e2 ▸ List.mem_map_of_mem he))
      omega
end Go.Proofs.Ytabongfoeoideaa
