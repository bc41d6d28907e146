/-
  Layer 12: the program's dag and the document's list beside each other.
-/
import Derived.Test.YtabongfoeoideaaRg5
namespace Go.Pal
open Go.RowKit
set_option linter.unusedVariables false
theorem noE_add {es : List (ByteArray × List ByteArray)} (h : NoE es) (id : ByteArray) (ps : List ByteArray) : NoE (addE es id ps) := by
  unfold addE
  split
  case isFalse => exact h
  case isTrue hc =>
    intro e he
    rcases List.mem_append.1 he with he | he
    · exact h e he
    · rw [List.mem_singleton.1 he]
      show id.size ≠ 0
      intro h0
      unfold addC at hc
      rw [if_pos (.inl h0)] at hc
      exact absurd hc (by decide)
theorem off_all {S T : Nat → Prop} {w w' : World} (h : Off T w w') (hs : ∀ g, g < w.heap.size → T g → S g) : Off S w w' := h.mono hs
end Go.Pal
namespace Go.Proofs.Ytabongfoeoideaa
open Go.RowKit Go.Pal Go.Shelf
set_option linter.unusedVariables false
/-- A row of entries that lies apart from a set of blocks. -/
def EnsOff (w : World) (S : Nat → Prop) (a : Option Addr) (l : List En) : Prop := ∀ W, Off S w W → EnsAt W a l
theorem EnsOff.at_ {w : World} {S : Nat → Prop} {a : Option Addr} {l : List En} (h : EnsOff w S a l) : EnsAt w a l := h w (Off.refl _ _)
theorem EnsOff.off {w w' : World} {S : Nat → Prop} {a : Option Addr} {l : List En} (h : EnsOff w S a l) (ho : Off S w w') : EnsOff w' S a l := fun W hW => h W (ho.trans hW (fun g _ hg => hg))
theorem EnsOff.new {w w' : World} {S : Nat → Prop} {a : Option Addr} {l : List En} (h : EnsOff w S a l) (hb : Below w.heap.size w w') : EnsOff w' S a l := h.off (Off.of_new hb S)
theorem EnsOff.mono {w : World} {S T : Nat → Prop} {a : Option Addr} {l : List En} (h : EnsOff w S a l) (hs : ∀ g, g < w.heap.size → T g → S g) : EnsOff w T a l := fun W hW => h W (hW.mono hs)
/-- The program's dag, and the document's list: the same entries, in blocks that are apart. -/
structure Two (w : World) (B G : Nat) (a : Option Addr) (cap : Nat) (l : List En) (es : List (ByteArray × List ByteArray)) : Prop where
  two : ∃ S : Nat → Prop, DStF w S G es ∧ EnsOff w S a l ∧ ∀ g, S g → B ≤ g
  ghost : esEn l = es
  noE : NoE es
  nil : a = none → cap = 0
theorem Two.dst {w : World} {B G : Nat} {a : Option Addr} {cap : Nat} {l : List En} {es : List (ByteArray × List ByteArray)} (h : Two w B G a cap l es) : DSt w 0 G es := by
  obtain ⟨S, h1, _⟩ := h.two
  exact h1.st
theorem Two.ens {w : World} {B G : Nat} {a : Option Addr} {cap : Nat} {l : List En} {es : List (ByteArray × List ByteArray)} (h : Two w B G a cap l es) : EnsAt w a l := by
  obtain ⟨S, _, h1, _⟩ := h.two
  exact h1.at_
theorem Two.new {w w' : World} {B G : Nat} {a : Option Addr} {cap : Nat} {l : List En} {es : List (ByteArray × List ByteArray)} (h : Two w B G a cap l es) (hb : Below w.heap.size w w') : Two w' B G a cap l es := by
  obtain ⟨S, h1, h2, h3⟩ := h.two
  exact ⟨⟨S, h1.new hb, h2.new hb, h3⟩, h.ghost, h.noE, h.nil⟩
theorem Two.len {w : World} {B G : Nat} {a : Option Addr} {cap : Nat} {l : List En} {es : List (ByteArray × List ByteArray)} (h : Two w B G a cap l es) : l.length = es.length ∧ es.length ≤ 300 := by
  have h1 := esEn_len l
  rw [h.ghost] at h1
  exact ⟨h1.symm, h.dst.ok.len⟩
theorem Two.start {w w' : World} (h : DSt w w'.heap.size w'.heap.size []) : Two w w'.heap.size w'.heap.size none 0 [] [] := by
  obtain ⟨m, mv, h1⟩ := h.at_
  refine ⟨⟨fun g => w'.heap.size ≤ g, ⟨⟨m, mv, h1.weak (Nat.zero_le _), fun g hg => (h1.lt hg).2⟩, h.ok⟩, fun W _ => ⟨Nat.zero_le _, fun c hc => (by cases hc), Or.inl rfl⟩, fun g hg => hg⟩, rfl, fun e he => (by cases he), fun _ => rfl⟩
/-- What came between: the document's list has one more, the dag not yet. -/
structure Half (w : World) (B G : Nat) (a : Option Addr) (cap : Nat) (l : List En) (es es' : List (ByteArray × List ByteArray)) : Prop where
  two : ∃ S : Nat → Prop, DStF w S G es ∧ EnsOff w S a l ∧ (∀ g, S g → B ≤ g) ∧ ∀ g, w.heap.size ≤ g → S g
  ghost : esEn l = es'
  noE : NoE es'
  nil : a = none → cap = 0
theorem two_radd {W wr : World} {B G : Nat} {a : Option Addr} {cap : Nat} {l : List En} {es : List (ByteArray × List ByteArray)} (h : Two wr B G a cap l es) {c : En} (hok : EnOk W c) (hp : c.par.length ≤ 60) (hb : Below W.heap.size W wr) (hB : B ≤ wr.heap.size) (wx : World) (hd : Drawn wr wx) :
    Calls Try.prog 13 #[.slice a l.length cap, .string c.id, .slice c.at_ c.par.length c.cap] wx fun e w' => ∃ a' cap' l', e = .returned (.tuple #[.slice a' l'.length cap', .int .i64 (addC es c.id c.par)]) ∧ Half w' B G a' cap' l' es (addE es c.id c.par) ∧ Below wr.heap.size wr w' := by
  have hs : wx.heap.size = wr.heap.size := by rw [hd.1]
  have hdb := hd.below wr.heap.size
  have hx := h.new hdb
  refine (radd_any hx.ens hx.nil (by have := h.len; omega) c.id (hok.par.row.below (hb.trans (hd.below _))) hp hok.par.size).mono ?_
  rintro e w' ⟨a', cap', l', rfl, h1, h2, h3, h4⟩
  rw [h.ghost] at h3 ⊢
  have hb4 : Below wr.heap.size wr w' := hdb.trans (h4.mono (by omega))
  obtain ⟨S, q1, q2, q3⟩ := h.two
  refine ⟨a', cap', l', rfl, ⟨⟨fun g => (S g ∧ g < wr.heap.size) ∨ w'.heap.size ≤ g, (q1.mono (fun g hg hS => Or.inl ⟨hS, hg⟩)).new hb4, fun W hW => ?_, fun g hg => ?_, fun g hg => .inr hg⟩, h3, noE_add h.noE _ _, h2⟩, hb4⟩
  · have hWr : Off S wr W := (Off.of_new hb4 S).trans hW (fun g hg hT => by
      rcases hT with hT | hT
      · exact hT.1
      · have := hb4.size; omega)
    refine h1 W (q2 W hWr) (fun g hg1 hg2 => hW.block g hg2 (fun hT => ?_))
    rcases hT with hT | hT <;> omega
  · rcases hg with hg | hg
    · exact q3 g hg.1
    · have := hb4.size; omega
theorem two_dadd {W wr : World} {B G : Nat} {a : Option Addr} {cap : Nat} {l : List En} {es : List (ByteArray × List ByteArray)} {c : En} (h : Half wr B G a cap l es (addE es c.id c.par)) (hok : EnOk W c) (hp : c.par.length ≤ 60) (hb : Below W.heap.size W wr) (hB : B ≤ wr.heap.size) (wx : World) (hd : Drawn wr wx) :
    Calls Try.prog 14 #[.pointer (some ⟨G, 0, none⟩), .string c.id, .slice c.at_ c.par.length c.cap] wx fun e w' => e = .returned (.int .i64 (addC es c.id c.par)) ∧ Two w' B G a cap l (addE es c.id c.par) ∧ Below B wr w' := by
  obtain ⟨S, q1, q2, q3, q4⟩ := h.two
  refine (fadd q1 q4 hok hp hb wx hd).mono ?_
  rintro e w' ⟨rfl, h1, h2⟩
  exact ⟨rfl, ⟨⟨S, h1, q2.off h2, q3⟩, h.ghost, h.noE, h.nil⟩, h2.below q3 hB⟩
/-- Not below zero, if so. -/
def Nn (n : Int) (q : Bool) : Prop := (0 : Int) ≤ n ↔ q = true
theorem Nn.yes {n : Int} (h : Nn n true) : (0 : Int) ≤ n := h.2 rfl
theorem Nn.no {n : Int} (h : Nn n false) : ¬ (0 : Int) ≤ n := fun hh => Bool.noConfusion (h.1 hh)
theorem two_find {w : World} {B G : Nat} {a : Option Addr} {cap : Nat} {l : List En} {es : List (ByteArray × List ByteArray)} (h : Two w B G a cap l es) (s : ByteArray) (q : Bool) (hq : (lookE es s).isSome = q) :
    Calls Try.prog 16 #[.slice a l.length cap, .string s] w fun e w' => (∃ n : Int, e = .returned (.int .i64 n) ∧ Nn n q) ∧ w' = w := by
  subst hq
  cases ht : (lookE es s).isSome with
  | true =>
    refine (rfind_yes h.ens (by rw [h.ghost]; exact ht)).mono ?_
    rintro e w' ⟨⟨i, hi, rfl, _⟩, rfl⟩
    exact ⟨⟨_, rfl, ⟨fun _ => rfl, fun _ => by omega⟩⟩, rfl⟩
  | false =>
    refine (rfind_no h.ens (by rw [h.ghost]; exact ht)).mono ?_
    rintro e w' ⟨rfl, rfl⟩
    exact ⟨⟨_, rfl, ⟨fun h => absurd h (by decide), fun h => by cases h⟩⟩, rfl⟩
theorem two_len {w : World} {B G : Nat} {a : Option Addr} {cap : Nat} {l : List En} {es : List (ByteArray × List ByteArray)} (h : Two w B G a cap l es) : Calls Try.prog 17 #[.pointer (some ⟨G, 0, none⟩)] w fun e w' => e = .returned (.int .i64 (l.length : Int)) ∧ w' = w := by
  have := slen h.dst
  rw [← h.len.1] at this; exact this
theorem two_par {w : World} {B G : Nat} {a : Option Addr} {cap : Nat} {l : List En} {es : List (ByteArray × List ByteArray)} (h : Two w B G a cap l es) (s : ByteArray) :
    Calls Try.prog 20 #[.slice a l.length cap, .string s] w fun e w' => (∃ p c, e = .returned (.slice p (parE es s).length c) ∧ StrRow w p (parE es s)) ∧ w' = w := by
  refine (rparents_any (cap := cap) h.ens (Below.refl _ _) s).mono ?_
  rintro e w' ⟨⟨p, c, rfl, h1, _⟩, rfl⟩
  rw [h.ghost] at h1 ⊢
  exact ⟨⟨p, c, rfl, h1⟩, rfl⟩
theorem two_past {w : World} {B G : Nat} {a : Option Addr} {cap : Nat} {l : List En} {es : List (ByteArray × List ByteArray)} (h : Two w B G a cap l es) (s : ByteArray) :
    Calls Try.prog 22 #[.slice a l.length cap, .string s] w fun e w' => ∃ v, e = .returned v ∧ OwnL w' w.heap.size v (riseL (pastL es s)) ∧ Below w.heap.size w w' := by
  have := rpast_any (cap := cap) h.ens (by rw [h.ghost]; exact h.dst.ok) s
  rw [h.ghost] at this; exact this
theorem two_heads {w : World} {B G : Nat} {a : Option Addr} {cap : Nat} {l : List En} {es : List (ByteArray × List ByteArray)} (h : Two w B G a cap l es) :
    Calls Try.prog 24 #[.slice a l.length cap] w fun e w' => ∃ v, e = .returned v ∧ OwnL w' w.heap.size v (headsL es) ∧ Below w.heap.size w w' := by
  have := rheads_any (cap := cap) h.ens (by have := h.len; omega) (by rw [h.ghost]; exact h.dst.ids)
  rw [h.ghost] at this; exact this
theorem two_order {w : World} {B G : Nat} {a : Option Addr} {cap : Nat} {l : List En} {es : List (ByteArray × List ByteArray)} (h : Two w B G a cap l es) :
    Calls Try.prog 26 #[.slice a l.length cap] w fun e w' => ∃ v, e = .returned v ∧ OwnL w' w.heap.size v (orderL es) ∧ Below w.heap.size w w' := by
  have := rorder_any (cap := cap) h.ens (by rw [h.ghost]; exact h.dst.ok) (by rw [h.ghost]; exact h.dst.ids) (by rw [h.ghost]; exact h.noE)
  rw [h.ghost] at this; exact this
theorem past_len {es : List (ByteArray × List ByteArray)} (h : DagOk es) (s : ByteArray) : (riseL (pastL es s)).length ≤ maxLen := by
  have := rise_le (pastL es s)
  have := (past_good h s).len
  have := h.len
  unfold maxLen; omega
theorem par_len {es : List (ByteArray × List ByteArray)} (h : DagOk es) (s : ByteArray) : (parE es s).length ≤ maxLen := by have := h.parLen s; unfold maxLen; omega
theorem heads_len {es : List (ByteArray × List ByteArray)} (h : DagOk es) : (headsL es).length ≤ maxLen := by
  have h1 : (headsL es).length ≤ es.length := by
    refine Nat.le_trans (rise_le _) ?_
    unfold headE
    refine Nat.le_trans (List.length_filter_le _ _) ?_
    simp
  have := h.len
  unfold maxLen; omega
theorem order_lenM {es : List (ByteArray × List ByteArray)} (h : DagOk es) : (orderL es).length ≤ maxLen := by
  have := (order_odr es).good.len
  have := h.len
  unfold maxLen; omega
end Go.Proofs.Ytabongfoeoideaa
