/-
  Plain mathematics for layer 5: keys of many leaves, signatures as bytes, and where two ways meet. No program in sight.
  sync.Once and sync/atomic, each call a contract: the parts of doSlow; the number of used leaves.
  Contracts of key: leafCount, publicOf, messageDigest, grow; the document's Named.
  Contracts of key: grow, by sync.Once.
  strings.Join gives the texts one behind the other: the library's contract, laid at this translation.
-/
import Derived.Test.YtggfmnmopfdiaaaGreatDoorB4
import Derived.Test.YtggfmnmopfdiaaaGreatDoorRows
import Derived.Tactics
import Derived.Tactics2
import Derived.Defers
import Derived.Laws.Pointers
import Derived.Laws.LoneSync
import Derived.RegionTactic
import Derived.RegionCalls
import Derived.ChangeAlike
import Derived.WalkKit
import Derived.Deep.RegionWith
import Derived.Shelf.Strings.OnBuilder
namespace Go.Pal
open Go.RowKit

/-- A key's leaves, their root, its public; a message's digest. -/
def leavesL (seed : ByteArray) (h : Nat) : List ByteArray := (List.range (2 ^ h)).map fun i => publicB seed i
def rootB (seed : ByteArray) (h : Nat) : ByteArray := (rowN h (leavesL seed h)).getD 0 ByteArray.empty
def nameIn (h : Nat) (root : ByteArray) : ByteArray := ⟨(inputL 5 [be 1 h, root]).toArray⟩
def namedB (h : Nat) (root : ByteArray) : ByteArray := shaB (nameIn h root)
def keyB (seed : ByteArray) (h : Nat) : ByteArray := namedB h (rootB seed h)
def msgIn (m : ByteArray) : ByteArray := ⟨(inputL 6 [m]).toArray⟩
def msgB (m : ByteArray) : ByteArray := shaB (msgIn m)
def msgD (m : ByteArray) : List Nat := digL (msgB m).data.toList
theorem publicB_size (seed : ByteArray) (i : Nat) : (publicB seed i).size = 32 := shaB_size' _
theorem namedB_size (h : Nat) (root : ByteArray) : (namedB h root).size = 32 := shaB_size' _
theorem msgB_size (m : ByteArray) : (msgB m).size = 32 := shaB_size' _
theorem leavesL_length (seed : ByteArray) (h : Nat) : (leavesL seed h).length = 2 ^ h := by simp [leavesL]
theorem leavesL_get (seed : ByteArray) (h i : Nat) (hi : i < 2 ^ h) : (leavesL seed h).getD i ByteArray.empty = publicB seed i := by
  rw [List.getD_eq_getElem?_getD, leavesL, List.getElem?_map, List.getElem?_range hi]; rfl
theorem leaves_32 (seed : ByteArray) (h i : Nat) : ((leavesL seed h).getD i ByteArray.empty).size ≤ 32 := by
  by_cases hi : i < 2 ^ h
  · rw [leavesL_get seed h i hi, publicB_size]; exact Nat.le_refl _
  · rw [List.getD_eq_getElem?_getD, List.getElem?_eq_none (by rw [leavesL_length]; omega)]
    show ByteArray.empty.size ≤ _; exact Nat.zero_le _
theorem leaves_small (seed : ByteArray) (h : Nat) : SmallL (leavesL seed h) := fun i => by have := leaves_32 seed h i; omega
theorem leaves_take (seed : ByteArray) (h k : Nat) (hk : k < 2 ^ h) : (leavesL seed h).take (k + 1) = (leavesL seed h).take k ++ [publicB seed k] := by
  have hl : k < (leavesL seed h).length := by rw [leavesL_length]; exact hk
  rw [List.take_succ_eq_append_getElem hl]
  simp [leavesL]
theorem msgD_length (m : ByteArray) : (msgD m).length = 67 := by
  rw [msgD, digL_length]; have := msgB_size m; simp [this]
theorem msgD_lt (m : ByteArray) (k : Nat) : (msgD m).getD k 0 < 16 :=
  getD_lt _ 16 (by omega) (digL_lt _ (by have := msgB_size m; simp [this])) k

/-- Rows of a tree of texts of 32 bytes. -/
theorem rowN_32 (l : List ByteArray) (H : Nat) (hl : l.length = 2 ^ H) (h : ∀ i, i < 2 ^ H → (l.getD i ByteArray.empty).size = 32) : ∀ k, k ≤ H → ∀ i, i < 2 ^ (H - k) → ((rowN k l).getD i ByteArray.empty).size = 32
  | 0, _, i, hi => h i hi
  | k + 1, hk, i, hi => by
    have hlen := rowN_pow l H k hl (by omega)
    have hp : 2 ^ (H - k) = 2 * 2 ^ (H - (k + 1)) := by rw [show H - k = (H - (k + 1)) + 1 by omega, Nat.pow_succ]; omega
    rw [rowN, rowUp_get _ _ (by rw [hlen]; omega), pairB_size]
theorem leaves_rows (seed : ByteArray) (H k i : Nat) (hk : k ≤ H) (hi : i < 2 ^ (H - k)) : ((rowN k (leavesL seed H)).getD i ByteArray.empty).size = 32 :=
  rowN_32 _ H (leavesL_length _ _) (fun i hi => by rw [leavesL_get _ _ _ hi, publicB_size]) k hk i hi
theorem rootB_size (seed : ByteArray) (h : Nat) : (rootB seed h).size = 32 := leaves_rows seed h h 0 (Nat.le_refl _) (Nat.two_pow_pos _)

/-- Texts one behind the other. -/
def catB (l : List ByteArray) : ByteArray := ⟨(l.flatMap fun x => x.data.toList).toArray⟩
theorem catB_nil : catB [] = ByteArray.empty := rfl
theorem catB_append (l m : List ByteArray) : catB (l ++ m) = catB l ++ catB m := by
  rw [ByteArray.ext_iff]; simp [catB]
theorem catB_one (x : ByteArray) : catB [x] = x := by
  rw [ByteArray.ext_iff]; simp [catB]
theorem catB_snoc (l : List ByteArray) (x : ByteArray) : catB (l ++ [x]) = catB l ++ x := by rw [catB_append, catB_one]
theorem catB_cons (x : ByteArray) (l : List ByteArray) : catB (x :: l) = x ++ catB l := by
  rw [show x :: l = [x] ++ l from rfl, catB_append, catB_one]
def All32 (l : List ByteArray) : Prop := ∀ i, i < l.length → (l.getD i ByteArray.empty).size = 32
theorem All32.tail {x : ByteArray} {l : List ByteArray} (h : All32 (x :: l)) : All32 l := fun i hi => by
  have := h (i + 1) (by simp; omega)
  simpa using this
theorem All32.head {x : ByteArray} {l : List ByteArray} (h : All32 (x :: l)) : x.size = 32 := by
  have := h 0 (by simp)
  simpa using this
theorem catB_size : ∀ (l : List ByteArray), All32 l → (catB l).size = 32 * l.length
  | [], _ => rfl
  | x :: l, h => by
    rw [catB_cons, ByteArray.size_append, h.head, catB_size l h.tail, List.length_cons]; omega
theorem All32.small {l : List ByteArray} (h : All32 l) : SmallL l := fun i => by
  by_cases hi : i < l.length
  · rw [h i hi]; omega
  · rw [List.getD_eq_getElem?_getD, List.getElem?_eq_none (by omega)]
    show ByteArray.empty.size ≤ _; exact Nat.zero_le _

/-- What is cut out of bytes, 32 at a time. -/
def cutL (s : ByteArray) (o n : Nat) : List ByteArray := (List.range n).map fun k => s.extract (o + 32 * k) (o + 32 * k + 32)
theorem cutL_length (s : ByteArray) (o n : Nat) : (cutL s o n).length = n := by simp [cutL]
theorem cutL_succ (s : ByteArray) (o n : Nat) : cutL s o (n + 1) = cutL s o n ++ [s.extract (o + 32 * n) (o + 32 * n + 32)] := by simp [cutL, List.range_succ]
theorem cutL_get (s : ByteArray) (o n k : Nat) (h : k < n) : (cutL s o n).getD k ByteArray.empty = s.extract (o + 32 * k) (o + 32 * k + 32) := by
  rw [List.getD_eq_getElem?_getD, cutL, List.getElem?_map, List.getElem?_range h]; rfl
theorem cutL_32 (s : ByteArray) (o n : Nat) (h : o + 32 * n ≤ s.size) : All32 (cutL s o n) := fun i hi => by
  rw [cutL_length] at hi
  rw [cutL_get s o n i hi, ByteArray.size_extract]; omega
theorem cutL_add (s : ByteArray) (o n m : Nat) : cutL s o (n + m) = cutL s o n ++ cutL s (o + 32 * n) m := by
  induction m with
  | zero => simp [cutL]
  | succ m ih =>
    rw [← Nat.add_assoc, cutL_succ, ih, cutL_succ, List.append_assoc, show o + 32 * n + 32 * m = o + 32 * (n + m) by omega]
theorem extract_mid (x y z : ByteArray) (i j : Nat) (hi : i = x.size) (hj : j = x.size + y.size) : (x ++ (y ++ z)).extract i j = y := by
  subst hi hj
  obtain ⟨xa⟩ := x
  obtain ⟨ya⟩ := y
  obtain ⟨za⟩ := z
  rw [ByteArray.ext_iff]
  have e1 : ByteArray.size ⟨xa⟩ = xa.size := rfl
  have e2 : ByteArray.size ⟨ya⟩ = ya.size := rfl
  simp only [ByteArray.data_extract, ByteArray.data_append, e1, e2]
  apply Array.ext'
  simp
theorem cutL_cat : ∀ (l : List ByteArray) (x z : ByteArray), All32 l → cutL (x ++ (catB l ++ z)) x.size l.length = l
  | [], _, _, _ => rfl
  | y :: l, x, z, h => by
    have e : x ++ (catB (y :: l) ++ z) = (x ++ y) ++ (catB l ++ z) := by
      rw [catB_cons]; simp only [ByteArray.append_assoc]
    have e2 : x ++ (catB (y :: l) ++ z) = x ++ (y ++ (catB l ++ z)) := by
      rw [catB_cons]; simp only [ByteArray.append_assoc]
    have h1 := cutL_cat l (x ++ y) z h.tail
    rw [List.length_cons, Nat.add_comm, cutL_add]
    rw [ByteArray.size_append, h.head] at h1
    rw [e, show x.size + 32 * 1 = x.size + 32 by omega, h1, ← e, e2]
    have : cutL (x ++ (y ++ (catB l ++ z))) x.size 1 = [y] := by
      show [(x ++ (y ++ (catB l ++ z))).extract (x.size + 32 * 0) (x.size + 32 * 0 + 32)] = [y]
      rw [extract_mid x y _ _ _ (by omega) (by rw [h.head])]
    rw [this]; rfl

/-- A signature's bytes. -/
def valsL (seed : ByteArray) (leaf : Nat) (m : ByteArray) : List ByteArray := signL seed leaf (msgD m)
def pathL (seed : ByteArray) (h leaf : Nat) : List ByteArray := pathTo (leavesL seed h) leaf h
def sigB (seed : ByteArray) (h leaf : Nat) (m : ByteArray) : ByteArray := be 2 leaf ++ catB (valsL seed leaf m) ++ catB (pathL seed h leaf)
theorem valsL_length (seed : ByteArray) (leaf : Nat) (m : ByteArray) : (valsL seed leaf m).length = 67 := by rw [valsL, signL, walkL_length, secretsL_length]
theorem pathL_length (seed : ByteArray) (h leaf : Nat) : (pathL seed h leaf).length = h := pathTo_length _ _ _
theorem chainB_32 (k : Int) (x : ByteArray) (hx : x.size = 32) : ∀ n, (chainB k x n).size = 32
  | 0 => hx
  | n + 1 => by rw [chainB, stepB, shaB_size']
theorem valsL_32 (seed : ByteArray) (leaf : Nat) (m : ByteArray) : All32 (valsL seed leaf m) := fun i hi => by
  rw [valsL_length] at hi
  rw [valsL, signL, walkL_get _ _ _ (by rw [secretsL_length]; exact hi), secretsL_get _ _ _ hi, chainB_32 _ _ (by rw [secretB, shaB_size'])]
theorem pathL_32 (seed : ByteArray) (h leaf : Nat) (hl : leaf < 2 ^ h) : All32 (pathL seed h leaf) := fun i hi => by
  rw [pathL_length] at hi
  have hq := div_lt_pow leaf h i hl (by omega)
  have hp : 2 ^ (h - i) = 2 * 2 ^ (h - (i + 1)) := by rw [show h - i = (h - (i + 1)) + 1 by omega, Nat.pow_succ]; omega
  rw [pathL, pathTo_get _ _ _ _ hi]
  exact leaves_rows seed h i _ (by omega) (by rw [hp]; exact beside_lt _ _ (by omega))
theorem sigB_size (seed : ByteArray) (h leaf : Nat) (m : ByteArray) (hl : leaf < 2 ^ h) : (sigB seed h leaf m).size = 2 + 32 * (67 + h) := by
  rw [sigB, ByteArray.size_append, ByteArray.size_append, be_size, catB_size _ (valsL_32 _ _ _), catB_size _ (pathL_32 _ _ _ hl), valsL_length, pathL_length]; omega
theorem sig_vals (seed : ByteArray) (h leaf : Nat) (m : ByteArray) : cutL (sigB seed h leaf m) 2 67 = valsL seed leaf m := by
  have h1 := cutL_cat (valsL seed leaf m) (be 2 leaf) (catB (pathL seed h leaf)) (valsL_32 _ _ _)
  rw [be_size, valsL_length, ← ByteArray.append_assoc] at h1
  exact h1
theorem sig_path (seed : ByteArray) (h leaf : Nat) (m : ByteArray) (hl : leaf < 2 ^ h) : cutL (sigB seed h leaf m) 2146 h = pathL seed h leaf := by
  have h1 := cutL_cat (pathL seed h leaf) (be 2 leaf ++ catB (valsL seed leaf m)) ByteArray.empty (pathL_32 _ _ _ hl)
  rw [pathL_length, ByteArray.append_empty, ByteArray.size_append, be_size, catB_size _ (valsL_32 _ _ _), valsL_length] at h1
  exact h1
theorem sig_leaf (seed : ByteArray) (h leaf : Nat) (m : ByteArray) (hl : leaf < 65536) : valL ((sigB seed h leaf m).extract 0 2).data.toList = leaf := by
  have e : (sigB seed h leaf m).extract 0 2 = be 2 leaf := by
    rw [sigB, ByteArray.append_assoc]
    have := extract_mid ByteArray.empty (be 2 leaf) (catB (valsL seed leaf m) ++ catB (pathL seed h leaf)) 0 2 rfl (by rw [be_size]; rfl)
    rw [ByteArray.empty_append] at this
    exact this
  rw [e]
  show valL (beL 2 leaf).toArray.toList = leaf
  rw [List.toList_toArray, valL_beL 2 leaf (by omega)]

/-- What a signature's parts lead to. -/
def topB (dl : List Nat) (vs : List ByteArray) (leaf : Nat) (ps : List ByteArray) : ByteArray := foldAt (recoverB dl vs) leaf ps ps.length
theorem recoverB_size (dl : List Nat) (vs : List ByteArray) : (recoverB dl vs).size = 32 := shaB_size' _
theorem topB_size (dl : List Nat) (vs : List ByteArray) (leaf : Nat) (ps : List ByteArray) : (topB dl vs leaf ps).size ≤ 1000000 := foldAt_size _ _ _ (by rw [recoverB_size]; omega) _
theorem signed_top (seed : ByteArray) (h leaf : Nat) (m : ByteArray) (hl : leaf < 2 ^ h) : topB (msgD m) (valsL seed leaf m) leaf (pathL seed h leaf) = rootB seed h := by
  rw [topB, valsL, sign_back seed leaf (msgD m) (msgD_lt m), pathL_length, ← leavesL_get seed h leaf hl, pathL, fold_path _ _ _ (leavesL_length _ _) hl h (Nat.le_refl _), rootB, Nat.div_eq_of_lt hl]

/-- All that is summed on the way. -/
def endIn (dl : List Nat) (vs : List ByteArray) : ByteArray := ⟨(inputL 3 (walkL vs fun k => 15 - dl.getD k 0)).toArray⟩
def roadV (m : ByteArray) (vs : List ByteArray) (leaf : Nat) (ps : List ByteArray) : List ByteArray :=
  (roadR (msgD m) vs 67 ++ [endIn (msgD m) vs]) ++ roadTo (recoverB (msgD m) vs) leaf ps ps.length ++ [nameIn ps.length (topB (msgD m) vs leaf ps), msgIn m]
end Go.Pal
namespace Go.Proofs.YtggfmnmopfdiaaaGreatDoor
open Go.RowKit Go.Pal

theorem input5_inj (x y u v : ByteArray) (hx : x.size ≤ 1000000) (hy : y.size ≤ 1000000) (hu : u.size ≤ 1000000) (hv : v.size ≤ 1000000)
    (h : (⟨(inputL 5 [x, y]).toArray⟩ : ByteArray) = ⟨(inputL 5 [u, v]).toArray⟩) : x = u ∧ y = v := by
  have h1 : inputL 5 [x, y] = inputL 5 [u, v] := by
    have := congrArg (fun b : ByteArray => b.data.toList) h
    simpa using this
  unfold inputL at h1
  have h2 := ShaApart.flat_inj [x, y] [u, v] (by
    intro p hp
    simp only [List.mem_cons, List.not_mem_nil, or_false] at hp
    rcases hp with rfl | rfl <;> omega) (by
    intro p hp
    simp only [List.mem_cons, List.not_mem_nil, or_false] at hp
    rcases hp with rfl | rfl <;> omega) (List.cons.inj h1).2
  have h3 := List.cons.inj h2
  exact ⟨h3.1, (List.cons.inj h3.2).1⟩
theorem msgIn_inj (x y : ByteArray) (hx : x.size ≤ 1000000) (hy : y.size ≤ 1000000) (h : msgIn x = msgIn y) : x = y := by
  have h1 : inputL 6 [x] = inputL 6 [y] := by
    have := congrArg (fun b : ByteArray => b.data.toList) h
    simpa [msgIn] using this
  unfold inputL at h1
  have h2 := ShaApart.flat_inj [x] [y] (by
    intro p hp
    obtain rfl : p = x := by simpa using hp
    omega) (by
    intro p hp
    obtain rfl : p = y := by simpa using hp
    omega) (List.cons.inj h1).2
  exact (List.cons.inj h2).1

theorem fold2 (a b : ByteArray) (i : Nat) (p q : List ByteArray) (ha : a.size ≤ 1000000) (hb : b.size ≤ 1000000) (hp : SmallL p) (hq : SmallL q) : ∀ n, foldAt a i p n = foldAt b i q n →
    (∃ k, k < n ∧ stepIn a i p k ≠ stepIn b i q k ∧ shaB (stepIn a i p k) = shaB (stepIn b i q k)) ∨ (a = b ∧ ∀ k, k < n → p.getD k ByteArray.empty = q.getD k ByteArray.empty)
  | 0, h => .inr ⟨h, fun k hk => absurd hk (Nat.not_lt_zero k)⟩
  | n + 1, h => by
    rw [foldAt_in, foldAt_in] at h
    by_cases he : stepIn a i p n = stepIn b i q n
    · have s1 := foldAt_size a i p ha n
      have s2 := foldAt_size b i q hb n
      have s3 := hp n
      have s4 := hq n
      have both : foldAt a i p n = foldAt b i q n ∧ p.getD n ByteArray.empty = q.getD n ByteArray.empty := by
        unfold stepIn at he
        by_cases hc : i / 2 ^ n % 2 = 1
        · rw [if_pos hc, if_pos hc] at he
          have := input4_inj _ _ _ _ s3 s1 s4 s2 he
          exact ⟨this.2, this.1⟩
        · rw [if_neg hc, if_neg hc] at he
          exact input4_inj _ _ _ _ s1 s3 s2 s4 he
      rcases fold2 a b i p q ha hb hp hq n both.1 with ⟨k, h1, h2⟩ | ⟨h1, h2⟩
      · exact .inl ⟨k, by omega, h2⟩
      · refine .inr ⟨h1, fun k hk => ?_⟩
        by_cases hkn : k = n
        · rw [hkn]; exact both.2
        · exact h2 k (by omega)
    · exact .inl ⟨n, by omega, he, h⟩

/-- Two ways that meet: two unlike texts of one digest, or they are one from the ends of the chains on. -/
theorem ways_meet (m1 m2 : ByteArray) (v1 v2 p1 p2 : List ByteArray) (leaf n : Nat) (hv1 : v1.length = 67) (hv2 : v2.length = 67) (hp1 : p1.length = n) (hp2 : p2.length = n)
    (sv1 : SmallL v1) (sv2 : SmallL v2) (sp1 : SmallL p1) (sp2 : SmallL p2) (h : namedB n (topB (msgD m1) v1 leaf p1) = namedB n (topB (msgD m2) v2 leaf p2)) :
    (∃ a b, a ∈ roadV m1 v1 leaf p1 ∧ b ∈ roadV m2 v2 leaf p2 ∧ a ≠ b ∧ shaB a = shaB b) ∨
    (p1 = p2 ∧ ∀ k, k < 67 → chainB (k : Nat) (v1.getD k ByteArray.empty) (15 - (msgD m1).getD k 0) = chainB (k : Nat) (v2.getD k ByteArray.empty) (15 - (msgD m2).getD k 0)) := by
  by_cases hi : nameIn n (topB (msgD m1) v1 leaf p1) = nameIn n (topB (msgD m2) v2 leaf p2)
  · have ht := (input5_inj _ _ _ _ (by rw [be_size]; omega) (topB_size _ _ _ _) (by rw [be_size]; omega) (topB_size _ _ _ _) hi).2
    unfold topB at ht
    rw [hp1, hp2] at ht
    rcases fold2 _ _ leaf p1 p2 (by rw [recoverB_size]; omega) (by rw [recoverB_size]; omega) sp1 sp2 n ht with ⟨k, hk, h1, h2⟩ | ⟨h1, h2⟩
    · left
      refine ⟨_, _, List.mem_append_left _ (List.mem_append_right _ ?_), List.mem_append_left _ (List.mem_append_right _ ?_), h1, h2⟩
      · exact List.mem_map.2 ⟨k, List.mem_range.2 (by omega), rfl⟩
      · exact List.mem_map.2 ⟨k, List.mem_range.2 (by omega), rfl⟩
    · by_cases he : endIn (msgD m1) v1 = endIn (msgD m2) v2
      · right
        refine ⟨?_, ?_⟩
        · apply List.ext_getElem (by omega)
          intro k hk1 hk2
          have := h2 k (by omega)
          rw [List.getD_eq_getElem?_getD, List.getElem?_eq_getElem hk1, List.getD_eq_getElem?_getD, List.getElem?_eq_getElem hk2] at this
          exact this
        · have hE := input3_inj _ _ (fun i => walkL_le _ _ 1000000 (by omega) sv1 i) (fun i => walkL_le _ _ 1000000 (by omega) sv2 i) he
          intro k hk
          rw [← walkL_get v1 (fun k => 15 - (msgD m1).getD k 0) k (by omega), ← walkL_get v2 (fun k => 15 - (msgD m2).getD k 0) k (by omega), hE]
      · left
        refine ⟨_, _, List.mem_append_left _ (List.mem_append_left _ (List.mem_append_right _ (List.mem_singleton.2 rfl))), List.mem_append_left _ (List.mem_append_left _ (List.mem_append_right _ (List.mem_singleton.2 rfl))), he, h1⟩
  · left
    refine ⟨nameIn n (topB (msgD m1) v1 leaf p1), nameIn n (topB (msgD m2) v2 leaf p2), List.mem_append_right _ ?_, List.mem_append_right _ ?_, hi, h⟩
    · rw [hp1]; exact List.mem_cons_self
    · rw [hp2]; exact List.mem_cons_self

/-- One message, one leaf, one public, and unlike values or paths. -/
theorem turned_clash (m : ByteArray) (v1 v2 p1 p2 : List ByteArray) (leaf n : Nat) (hv1 : v1.length = 67) (hv2 : v2.length = 67) (hp1 : p1.length = n) (hp2 : p2.length = n)
    (sv1 : SmallL v1) (sv2 : SmallL v2) (sp1 : SmallL p1) (sp2 : SmallL p2) (hne : v1 ≠ v2 ∨ p1 ≠ p2) (h : namedB n (topB (msgD m) v1 leaf p1) = namedB n (topB (msgD m) v2 leaf p2)) :
    ∃ a b, a ∈ roadV m v1 leaf p1 ∧ b ∈ roadV m v2 leaf p2 ∧ a ≠ b ∧ shaB a = shaB b := by
  rcases ways_meet m m v1 v2 p1 p2 leaf n hv1 hv2 hp1 hp2 sv1 sv2 sp1 sp2 h with h1 | ⟨h1, h2⟩
  · exact h1
  · have hv : v1 ≠ v2 := by
      rcases hne with h3 | h3
      · exact h3
      · exact absurd h1 h3
    obtain ⟨k, hk, hkne⟩ : ∃ k, k < 67 ∧ v1.getD k ByteArray.empty ≠ v2.getD k ByteArray.empty := by
      apply Classical.byContradiction
      intro hno
      apply hv
      apply List.ext_getElem (by omega)
      intro k hk1 hk2
      apply Classical.byContradiction
      intro hne2
      apply hno
      refine ⟨k, by omega, fun e => hne2 ?_⟩
      rw [List.getD_eq_getElem?_getD, List.getElem?_eq_getElem hk1, List.getD_eq_getElem?_getD, List.getElem?_eq_getElem hk2] at e
      exact e
    obtain ⟨j, hj, g1, g2⟩ := chain_clash k (by omega) _ _ (sv1 k) (sv2 k) hkne _ (h2 k hk)
    refine ⟨_, _, List.mem_append_left _ (List.mem_append_left _ (List.mem_append_left _ ?_)), List.mem_append_left _ (List.mem_append_left _ (List.mem_append_left _ ?_)), g1, g2⟩
    · exact List.mem_flatMap.2 ⟨k, List.mem_range.2 hk, List.mem_map.2 ⟨j, List.mem_range.2 hj, rfl⟩⟩
    · exact List.mem_flatMap.2 ⟨k, List.mem_range.2 hk, List.mem_map.2 ⟨j, List.mem_range.2 hj, rfl⟩⟩

/-- One signature, two messages: two unlike texts of one digest, or a chain that comes round. -/
theorem other_round (m1 m2 : ByteArray) (vs ps : List ByteArray) (leaf n : Nat) (hv : vs.length = 67) (hp : ps.length = n) (sv : SmallL vs) (sp : SmallL ps) (hm1 : m1.size ≤ 1000000) (hm2 : m2.size ≤ 1000000) (hne : m1 ≠ m2)
    (h : namedB n (topB (msgD m1) vs leaf ps) = namedB n (topB (msgD m2) vs leaf ps)) :
    (∃ a b, a ∈ roadV m1 vs leaf ps ∧ b ∈ roadV m2 vs leaf ps ∧ a ≠ b ∧ shaB a = shaB b) ∨
    (∃ k i j, k < 67 ∧ j < i ∧ i ≤ 15 ∧ chainB (k : Nat) (vs.getD k ByteArray.empty) i = chainB (k : Nat) (vs.getD k ByteArray.empty) j) := by
  by_cases hd : msgB m1 = msgB m2
  · left
    refine ⟨msgIn m1, msgIn m2, List.mem_append_right _ ?_, List.mem_append_right _ ?_, fun e => hne (msgIn_inj m1 m2 hm1 hm2 e), hd⟩
    · exact List.mem_cons_of_mem _ List.mem_cons_self
    · exact List.mem_cons_of_mem _ List.mem_cons_self
  · rcases ways_meet m1 m2 vs vs ps ps leaf n hv hv hp hp sv sv sp sp h with h1 | ⟨_, h2⟩
    · exact .inl h1
    · right
      have hl := dig_less (msgB m1).data.toList (msgB m2).data.toList (by have := msgB_size m1; simp [this]) (by have := msgB_size m2; simp [this]) (fun e => hd (by
        rw [ByteArray.ext_iff]; exact Array.ext' e))
      simp only [lessTo, List.any_eq_true, List.mem_range, decide_eq_true_eq] at hl
      obtain ⟨k, hk, hlt⟩ := hl
      have h16 := msgD_lt m2 k
      change (msgD m1).getD k 0 < (msgD m2).getD k 0 at hlt
      exact ⟨k, 15 - (msgD m1).getD k 0, 15 - (msgD m2).getD k 0, hk, by omega, by omega, h2 k hk⟩
end Go.Proofs.YtggfmnmopfdiaaaGreatDoor
namespace Go.Proofs.YtggfmnmopfdiaaaGreatDoor
open Go.RowKit

theorem disable (w : World) : (callFunc 130 #[]).run Tryz.prog w = .ok (.value (.tuple #[])) w := run_call_mark0 Tryz.func130 (by kernel_rfl) (by kernel_rfl) (by kernel_rfl) .disable (by kernel_rfl) w
theorem enable (w : World) : (callFunc 132 #[]).run Tryz.prog w = .ok (.value (.tuple #[])) w := run_call_mark0 Tryz.func132 (by kernel_rfl) (by kernel_rfl) (by kernel_rfl) .enable (by kernel_rfl) w
theorem acquire (a : Addr) (w : World) : (callFunc 133 #[.pointer (some a)]).run Tryz.prog w = .ok (.value (.tuple #[])) w := run_call_marked Tryz.func133 (by kernel_rfl) (by kernel_rfl) (by kernel_rfl) .acquire (by kernel_rfl) a w
theorem releaseMerge (a : Addr) (w : World) : (callFunc 135 #[.pointer (some a)]).run Tryz.prog w = .ok (.value (.tuple #[])) w := run_call_marked Tryz.func135 (by kernel_rfl) (by kernel_rfl) (by kernel_rfl) .releaseMerge (by kernel_rfl) a w

set_option maxRecDepth 100000 in
set_option maxHeartbeats 1000000 in
/-- '(*sync/atomic.Bool).Store(true)', entered as a deferred call: the cell holds 1. -/
theorem store_deferred (a : Addr) (x : Value) (u : FrameMode) (w : World) (hc : w.cell? a = some x) (hz : w.frozen? a = false) :
    CallsD Tryz.prog 112 #[.pointer (some a), .bool true] u w fun e u' w' => u' = u ∧ (e = .returned (.tuple #[]) ∧ w' = w.drew.setCell a (.int .u32 1)) := by
  have hc' : w.drew.cell? a = some x := by go_simp
  have hz' : w.drew.frozen? a = false := by go_simp
  have hst := run_call_store (P := Tryz.prog) Tryz.func125 (by kernel_rfl) (by kernel_rfl) (by kernel_rfl) (by kernel_rfl) (k := .u32) (y := 1) hc' hz'
  go_enter_d Tryz.func112, Tryz.ntmps112
  go_wp2
  go_region_calls
  all_goals (go_end0; exact ⟨rfl, rfl⟩)

set_option maxRecDepth 100000 in
set_option maxHeartbeats 1000000 in
/-- '(*sync.Mutex).Unlock', entered as a deferred call, the lock held and nobody waiting (state 1): state 0. -/
theorem unlock_deferred (a : Addr) (u : FrameMode) (w : World) (hc : w.cell? a = some (.int .i32 1)) (hz : w.frozen? a = false) :
    CallsD Tryz.prog 111 #[.pointer (some a)] u w fun e u' w' => u' = u ∧ (e = .returned (.tuple #[]) ∧ w' = w.setCell a (.int .i32 0)) := by
  have hd := disable
  have he := enable
  have hr := releaseMerge
  have hadd := run_call_add (P := Tryz.prog) Tryz.func136 (by kernel_rfl) (by kernel_rfl) (by kernel_rfl) .i32 (by kernel_rfl) (y := -1) (s := 0) hc hz (by simp [go_sem]; rfl)
  have hcv := run_convert_to_unsafe (P := Tryz.prog) (src := 168) (dst := 164) Tryz.underlying168 Tryz.underlying164 (by kernel_rfl) hc
  go_enter_d Tryz.func111, Tryz.ntmps111
  go_wp2
  go_end0
  go_wp2
  go_end0
  exact ⟨rfl, rfl⟩

set_option maxRecDepth 100000 in
set_option maxHeartbeats 1000000 in
/-- '(*sync.Mutex).Lock', the lock free (state 0): state 1. -/
theorem lock_free (a : Addr) (w : World) (hc : w.cell? a = some (.int .i32 0)) (hz : w.frozen? a = false) :
    Calls Tryz.prog 110 #[.pointer (some a)] w fun e w' => e = .returned (.tuple #[]) ∧ w' = w.setCell a (.int .i32 1) := by
  have hd := disable
  have he := enable
  have ha := acquire
  have hcas := run_call_cas_hit (P := Tryz.prog) Tryz.func131 (by kernel_rfl) (by kernel_rfl) (by kernel_rfl) .i32 (by kernel_rfl) (y := 1) hc hz
  have hc' : (w.setCell a (.int .i32 1)).cell? a = some (.int .i32 1) := World.cell?_setCell_same w a _ hc
  have hcv := run_convert_to_unsafe (P := Tryz.prog) (src := 168) (dst := 164) Tryz.underlying168 Tryz.underlying164 (by kernel_rfl) hc'
  go_enter Tryz.func110, Tryz.ntmps110
  go_wp2
  first | go_end0 | (simp only [Exit.inBlock, Exit.then]; refine bodyPost_ret (results_none rfl _ _ _) rfl ?_) | refine bodyPost_ret (results_none rfl _ _ _) rfl ?_
  go_wp2
  go_end0
  exact ⟨rfl, rfl⟩

theorem load64 (a : Addr) (x : Int) (w : World) (hc : w.cell? a = some (.int .i64 x)) :
    Calls Tryz.prog 32 #[.pointer (some a)] w fun e w' => e = .returned (.int .i64 x) ∧ w = w' := by
  have hl := run_call_load (P := Tryz.prog) Tryz.func61 (by kernel_rfl) (by kernel_rfl) (by kernel_rfl) .i64 (by kernel_rfl) hc
  go_enter Tryz.func32, Tryz.ntmps32
  go_wp2
  go_ret
  exact ⟨rfl, rfl⟩

theorem store64 (a : Addr) (x : Value) (y : Int) (w : World) (hc : w.cell? a = some x) (hz : w.frozen? a = false) :
    Calls Tryz.prog 24 #[.pointer (some a), .int .i64 y] w fun e w' => e = .returned (.tuple #[]) ∧ w.setCell a (.int .i64 y) = w' := by
  have hst := run_call_store (P := Tryz.prog) Tryz.func50 (by kernel_rfl) (by kernel_rfl) (by kernel_rfl) (by kernel_rfl) (k := .i64) (y := y) hc hz
  go_enter Tryz.func24, Tryz.ntmps24
  go_wp2
  go_end0
  exact ⟨rfl, rfl⟩

theorem cas64 (a : Addr) (x y : Int) (w : World) (hc : w.cell? a = some (.int .i64 x)) (hz : w.frozen? a = false) :
    Calls Tryz.prog 85 #[.pointer (some a), .int .i64 x, .int .i64 y] w fun e w' => e = .returned (.bool true) ∧ w.setCell a (.int .i64 y) = w' := by
  have hcas := run_call_cas_hit (P := Tryz.prog) Tryz.func114 (by kernel_rfl) (by kernel_rfl) (by kernel_rfl) .i64 (by kernel_rfl) (y := y) hc hz
  go_enter Tryz.func85, Tryz.ntmps85
  go_wp2
  go_ret
  exact ⟨rfl, rfl⟩

theorem bload (a : Addr) (x : Int) (w : World) (hc : w.cell? a = some (.int .u32 x)) :
    Calls Tryz.prog 81 #[.pointer (some a)] w fun e w' => e = .returned (.bool (x != 0)) ∧ w = w' := by
  have hl := run_call_load (P := Tryz.prog) Tryz.func109 (by kernel_rfl) (by kernel_rfl) (by kernel_rfl) .u32 (by kernel_rfl) hc
  go_enter Tryz.func81, Tryz.ntmps81
  go_wp2
  go_ret
  exact ⟨rfl, rfl⟩
end Go.Proofs.YtggfmnmopfdiaaaGreatDoor
namespace Go.Pal
open Go.RowKit
theorem strs1t (w : World) (t : TypeId) (x : ByteArray) : StrRow (w.alloc (.cells #[.string x] t)) (some ⟨w.heap.size, 0, none⟩) [x] := by
  refine .inr ⟨w.heap.size, 0, rfl, by simp, fun i hi => ?_⟩
  rw [World.cell?_alloc_mark]
  match i, hi with
  | 0, _ => rfl
end Go.Pal
namespace Go.Proofs.YtggfmnmopfdiaaaGreatDoor
open Go.RowKit Go.Pal

theorem count_any (h : Nat) (hh : h ≤ 4) (w : World) :
    Calls Tryz.prog 22 #[.int .i64 (h : Int)] w fun e w' => e = .returned (.int .i64 ((2 ^ h : Nat) : Int)) ∧ w = w' := by
  have : h = 0 ∨ h = 1 ∨ h = 2 ∨ h = 3 ∨ h = 4 := by omega
  rcases this with rfl | rfl | rfl | rfl | rfl
  all_goals
    go_enter Tryz.func22, Tryz.ntmps22
    go_wp2
    go_ret
    exact ⟨rfl, rfl⟩

set_option maxHeartbeats 400000 in
theorem msg_any (m : ByteArray) (hm : m.size ≤ 1000000) (w : World) (ht : Tabs w) :
    Calls Tryz.prog 56 #[.string m] w fun e w' => e = .returned (.string (msgB m)) ∧ Below w.heap.size w w' := by
  have htot : totL [m] ≤ 2147483647 := by simp [totL]; omega
  have HTG := Lib.hid (fun W a c hT h => tag_any W 6 a c [m] hT h htot (by simp))
  have hp : msgB m = shaB ⟨(inputL 6 [m]).toArray⟩ := rfl
  have HP := Lib.hid hp
  have HT := Lib.hid ht
  clear htot hp ht hm
  go_enter Tryz.func56, Tryz.ntmps56
  go_wp2_with fail
  have c3 := (Below.refl w.heap.size w).alloc (Nat.le_refl _) (.cells #[.string m] 9)
  refine (HTG.out _ _ _ (HT.out.below c3) (strs1t _ _ _)).mono ?_
  rintro e w4 ⟨rfl, b4⟩
  have C4 := Lib.hid (c3.trans (b4.mono c3.size))
  clear b4 c3
  rw [← HP.out]
  go_wp2
  go_ret
  exact ⟨rfl, C4.out⟩

set_option maxHeartbeats 400000 in
theorem named_any (h : Nat) (root : ByteArray) (hh : h ≤ 4) (hr : root.size ≤ 1000000) (w : World) (ht : Tabs w) :
    Calls Tryz.prog 75 #[.int .i64 (h : Int), .string root] w fun e w' => e = .returned (.string (namedB h root)) ∧ Below w.heap.size w w' := by
  have htot : totL [be 1 h, root] ≤ 2147483647 := by simp [totL, be_size]; omega
  have HTG := Lib.hid (fun W a c hT h2 => tag_any W 5 a c [be 1 h, root] hT h2 htot (by simp))
  have hp : namedB h root = shaB ⟨(inputL 5 [be 1 h, root]).toArray⟩ := rfl
  have HP := Lib.hid hp
  have HT := Lib.hid ht
  have hk := numOk_yes (k := 1) (n := (h : Int)) (by omega) (by simp; omega)
  have hB := numB_yes hk
  have hby := byte_any (h : Int) (by omega)
  rw [hB, hk, Int.toNat_natCast] at hby
  have HBY := Lib.hid hby
  clear htot hp ht hr hB hk hby
  generalize be 1 h = B at *
  go_enter Tryz.func75, Tryz.ntmps75
  go_wp2_with fail
  refine (HBY.out _).mono ?_
  rintro e w1 ⟨rfl, b1⟩
  have B1 := Lib.hid b1
  clear b1
  go_wp2_with fail
  have c3 := (B1.out).alloc B1.out.size (.cells #[.string B, .string root] 9)
  refine (HTG.out _ _ _ (HT.out.below c3) (strs2t _ _ _ _)).mono ?_
  rintro e w4 ⟨rfl, b4⟩
  have C4 := Lib.hid (c3.trans (b4.mono c3.size))
  clear b4 c3
  rw [← HP.out]
  go_wp2
  go_ret
  exact ⟨rfl, C4.out⟩
end Go.Proofs.YtggfmnmopfdiaaaGreatDoor
namespace Go.Proofs.YtggfmnmopfdiaaaGreatDoor
open Go.RowKit Go.Pal
/-- The tables stay, whatever is written into block b or made anew. -/
def TabsK (w : World) (b : Nat) : Prop := ∀ W, w.grownBy W (some b) → Tabs W
theorem TabsK.now {w : World} {b : Nat} (h : TabsK w b) : Tabs w := h w ⟨rfl, rfl, rfl, Nat.le_refl _, fun _ _ _ => rfl⟩
theorem TabsK.on {w w' : World} {b : Nat} (h : TabsK w b) (hg : w.grownBy w' (some b)) : TabsK w' b := fun W hW => h W (Lib.grownBy_trans hg hW)
theorem TabsK.of {w0 w : World} {b : Nat} (ht : Tabs w0) (hb : Below w0.heap.size w0 w) (hbb : w0.heap.size ≤ b) : TabsK w b := fun _ hW =>
  ht.below (hb.grown hW hb.size (fun k hk => by cases hk; exact hbb))
theorem grownBy_newSet {w w' : World} {row : Option Nat} (h : w.grownBy w' row) {g : Nat} (hg : w.heap.size ≤ g) (i : Nat) (v : Value) : w.grownBy (w'.setCell ⟨g, i, none⟩ v) row :=
  ⟨h.os, h.tape, h.output, Nat.le_trans h.size (Nat.le_of_eq (World.size_setCell _ _ _).symm), fun k hk hne => (Below.heap_setCell w' ⟨g, i, none⟩ v k (by show k ≠ g; omega)).trans (h.block k hk hne)⟩
theorem grownBy_set0 (w : World) (b i : Nat) (v : Value) : w.grownBy (w.setCell ⟨b, i, none⟩ v) (some b) := Lib.grownBy_setB ⟨rfl, rfl, rfl, Nat.le_refl _, fun _ _ _ => rfl⟩ i v
/-- A key's cells. -/
def keyCells (seed : ByteArray) (h : Nat) (x2 x3 x4 x5 x6 x7 : Value) : List Value := [.string seed, .int .i64 (h : Int), x2, x3, x4, x5, x6, x7]

set_option maxHeartbeats 2000000 in
set_option maxRecDepth 100000 in
theorem grow_any (w : World) (b : Nat) (seed : ByteArray) (h : Nat) (x2 x3 x4 x5 x6 x7 : Value) (hh : h ≤ 4) (hs : seed.size ≤ 1000000) (ht : TabsK w b)
    (hK : Blk w b 64 (keyCells seed h x2 x3 x4 x5 x6 x7)) :
    Calls Tryz.prog 52 #[.pointer (some ⟨b, 0, none⟩)] w fun e w' => e = .returned (.tuple #[]) ∧
      Blk w' b 64 (keyCells seed h x2 x3 x4 x5 (.slice (some ⟨w.heap.size, 0, none⟩) (2 ^ h) (2 ^ h)) (.string (keyB seed h))) ∧
      Blk w' w.heap.size 9 ((leavesL seed h).map strV) ∧ w.grownBy w' (some b) := by
  have hn16 := pow_le16 h hh
  have hm := makeS (2 ^ h) (by omega) w
  have HC := Lib.hid (fun W => count_any h hh W)
  have HPU := Lib.hid (fun W (k : Nat) (hk : k < 2 ^ h) hT => public_yes W seed k (by omega) hs hT)
  have HG := Lib.hid (fun k hk => leavesL_get seed h k hk)
  have HLU := Lib.hid (leavesL_length seed h)
  have hrt := fun W a c h1 hT => root_yes W a c (leavesL seed h) h hh (leavesL_length _ _) h1 (leaves_small _ _) hT
  rw [leavesL_length] at hrt
  have HRT := Lib.hid hrt
  have HNM := Lib.hid (fun W hT => named_any h (rootB seed h) hh (by rw [rootB_size]; omega) W hT)
  have HKE := Lib.hid (show keyB seed h = namedB h (rootB seed h) from rfl)
  have HRE := Lib.hid (show rootB seed h = (rowN h (leavesL seed h)).getD 0 ByteArray.empty from rfl)
  have HT := Lib.hid ht
  have hbl := hK.lt
  have c1 : w.cell? ⟨b, 1, none⟩ = some (.int .i64 (h : Int)) := hK.cell 1
  have HK := Lib.hid hK
  clear hrt ht
  generalize leavesL seed h = U at *
  obtain ⟨n, hn⟩ : ∃ n, n = 2 ^ h := ⟨_, rfl⟩
  rw [← hn] at hm HC HPU HG HLU HRT hn16 ⊢
  clear hn hs
  have hUl : (U.map strV).length = n := by rw [List.length_map, HLU.out]
  have HUL := Lib.hid hUl
  obtain ⟨Z, hZ⟩ : ∃ Z, Z = List.replicate n (Value.string ⟨#[]⟩) := ⟨_, rfl⟩
  rw [← hZ] at hm
  have HZL := Lib.hid (show Z.length = n by rw [hZ]; simp)
  have HZG := Lib.hid (fun k (hk : k < n) => (show Z[k]? = some (.string ⟨#[]⟩) by rw [hZ, List.getElem?_replicate, if_pos hk]))
  clear hZ
  have c6 : w.cell? ⟨b, 6, none⟩ = some x6 := hK.cell 6
  have f6 : w.frozen? ⟨b, 6, none⟩ = false := hK.frozen 6
  have hB1 : Blk ((w.setCell ⟨b, 6, none⟩ (.slice (some ⟨w.heap.size, 0, none⟩) n n)).alloc (.cells Z.toArray 9)) b 64 (keyCells seed h x2 x3 x4 x5 (.slice (some ⟨w.heap.size, 0, none⟩) n n) x7) := (hK.set 6 (.slice (some ⟨w.heap.size, 0, none⟩) n n)).alloc _
  have HB1 := Lib.hid hB1
  clear hB1 hUl hK
  go_enter Tryz.func52, Tryz.ntmps52
  go_wp2_with (go_at_call 22; refine (HC.out _).mono ?_; rintro e w' ⟨rfl, rfl⟩)
  go_loopw [19] (fun i wr => ∃ k : Nat, k ≤ n ∧ i = .int .i64 k ∧ Blk wr w.heap.size 9 (partL (U.map strV) Z k) ∧ Blk wr b 64 (keyCells seed h x2 x3 x4 x5 (.slice (some ⟨w.heap.size, 0, none⟩) n n) x7) ∧ w.grownBy wr (some b)) (fun i _ => n - (intOf i).toNat)
  case atStart => exact ⟨0, by omega, rfl, by rw [partL_zero]; exact Blk.new' _ _ _ (by simp), HB1.out, Lib.grownBy_allocR (grownBy_set0 w b 6 _) _⟩
  case round =>
    clear hm c1 c6 f6
    obtain ⟨k, hk, rfl, hB, hK, hg⟩ := hrel
    have hUl := HUL.out
    have hlt2 := hB.lt
    have hb2 := hK.lt
    have hne : w.heap.size ≠ b := by omega
    by_cases hlt : k < n
    · have d0 := (hB.cell k).trans ((partL_get _ _ k (by omega)).trans (HZG.out k hlt))
      have f0 := hB.frozen k
      have hgk := HG.out k hlt
      have c0 : wr.cell? ⟨b, 0, none⟩ = some (.string seed) := hK.cell 0
      have c6 : wr.cell? ⟨b, 6, none⟩ = some (.slice (some ⟨w.heap.size, 0, none⟩) n n) := hK.cell 6
      have hset : ∀ w' : World, Below wr.heap.size wr w' → Blk (w'.setCell ⟨w.heap.size, k, none⟩ (.string (publicB seed k))) w.heap.size 9 (partL (U.map strV) Z (k + 1)) := by
        intro w' hb'
        have h2 := (hB.below hb' hlt2).set k ((U.map strV)[k]'(by omega))
        rw [partL_set _ _ k (by omega) (by have := HZL.out; omega), (List.getElem_eq_iff _).2 (strs_get? U k (by rw [HLU.out]; exact hlt)), hgk] at h2
        exact h2
      have hkset : ∀ (z : ByteArray) (w' : World), Below wr.heap.size wr w' → Blk (w'.setCell ⟨w.heap.size, k, none⟩ (.string z)) b 64 (keyCells seed h x2 x3 x4 x5 (.slice (some ⟨w.heap.size, 0, none⟩) n n) x7) :=
        fun z w' hb' => (hK.below hb' hb2).other (p := ⟨w.heap.size, k, none⟩) (fun e => hne e.symm) _
      have hgset : ∀ (z : ByteArray) (w' : World), Below wr.heap.size wr w' → w.grownBy (w'.setCell ⟨w.heap.size, k, none⟩ (.string z)) (some b) :=
        fun z w' hb' => grownBy_newSet (Lib.grownBy_below hg hb') (Nat.le_refl _) k _
      have HPK := Lib.hid (HPU.out wr.drew k hlt ((HT.out.on hg).now.below ((Below.refl _ _).drew)))
      have HSET := Lib.hid hset
      have HKS := Lib.hid hkset
      have HGS := Lib.hid hgset
      have hk0 : (0 : Int) ≤ (k : Int) := by omega
      have hk1 : (k : Int) < (n : Int) := by omega
      generalize publicB seed k = z at *
      clear hset hkset hgset hgk hB hK hg hUl HG HPU
      go_wp2
      go_region_with (go_at_call 83; refine HPK.out.mono ?_; rintro e w1 ⟨rfl, b1⟩; have d1 := (b1.cell (p := ⟨w.heap.size, k, none⟩) hlt2).trans d0; have f1 := (b1.frozen (p := ⟨w.heap.size, k, none⟩) hlt2).trans f0; have g6 := (b1.cell (p := ⟨b, 6, none⟩) hb2).trans c6)
      all_goals
        go_wp2
        go_roundw
        case rel => exact ⟨k + 1, by omega, by go_num, HSET.out _ (((Below.refl wr.heap.size wr).drew).trans b1), HKS.out _ _ (((Below.refl wr.heap.size wr).drew).trans b1), HGS.out _ _ (((Below.refl wr.heap.size wr).drew).trans b1)⟩
        case measure => simp [intOf]; omega
    · obtain rfl : k = n := by omega
      have hall := partL_all (U.map strV) Z (by rw [hUl, HZL.out])
      rw [hUl] at hall
      rw [hall] at hB
      have HSR := Lib.hid hB
      have HKB := Lib.hid hK
      have HGB := Lib.hid hg
      have c6 : wr.cell? ⟨b, 6, none⟩ = some (.slice (some ⟨w.heap.size, 0, none⟩) k k) := hK.cell 6
      have c1 : wr.cell? ⟨b, 1, none⟩ = some (.int .i64 (h : Int)) := hK.cell 1
      have c7 : wr.cell? ⟨b, 7, none⟩ = some x7 := hK.cell 7
      have f7 : wr.frozen? ⟨b, 7, none⟩ = false := hK.frozen 7
      have HR1 := Lib.hid (HRT.out wr _ k (strRow_blk hB) (HT.out.on hg).now)
      clear hB hK hg hall hlt hk hUl
      go_wp2_with fail
      refine HR1.out.mono ?_
      rintro e w1 ⟨rfl, b1⟩
      have c12 := (b1.cell (p := ⟨b, 1, none⟩) hb2).trans c1
      have c72 := (b1.cell (p := ⟨b, 7, none⟩) hb2).trans c7
      have f72 := (b1.frozen (p := ⟨b, 7, none⟩) hb2).trans f7
      have HN1 := Lib.hid (HNM.out w1 ((HT.out.on HGB.out).now.below b1))
      have B1 := Lib.hid b1
      have hb3 : b < w1.heap.size := Nat.lt_of_lt_of_le hb2 b1.size
      rw [← HRE.out]
      clear b1 c6 c1 c7 f7
      go_wp2_with fail
      refine HN1.out.mono ?_
      rintro e w2 ⟨rfl, b2⟩
      have c73 := (b2.cell (p := ⟨b, 7, none⟩) hb3).trans c72
      have f73 := (b2.frozen (p := ⟨b, 7, none⟩) hb3).trans f72
      rw [← HKE.out]
      have B2 := Lib.hid (B1.out.trans (b2.mono B1.out.size))
      clear b2 c72 f72 c12
      go_wp2
      go_end0
      refine ⟨rfl, ?_, ?_, ?_⟩
      · exact (HKB.out.below B2.out hb2).set 7 _
      · exact (HSR.out.below B2.out hlt2).other (p := ⟨b, 7, none⟩) hne _
      · exact Lib.grownBy_setB (Lib.grownBy_below HGB.out B2.out) 7 _
end Go.Proofs.YtggfmnmopfdiaaaGreatDoor
namespace Go.Proofs.YtggfmnmopfdiaaaGreatDoor
open Go.Shelf Go.RowKit Go.Pal
def joinRen : Ren := ⟨fun | 156 => 58 | 165 => 93 | 166 => 94 | 169 => 95 | 240 => 117 | 241 => 118 | 276 => 127 | 277 => 128 | n => n, fun | 0 => 0 | 3 => 3 | 4 => 4 | 5 => 5 | 9 => 9 | 20 => 20 | 31 => 22 | 37 => 79 | 70 => 126 | 72 => 128 | 75 => 131 | 76 => 132 | 80 => 66 | 127 => 116 | 164 => 164 | n => n, fun | n => n⟩
theorem joinLays : Go.Proofs.Lays.n156 Tryz.prog joinRen := {
  mixed := by kernel_rfl
  f156 := Tryz.func58.trans (congrArg some (by kernel_rfl))
  f165 := Tryz.func93.trans (congrArg some (by kernel_rfl))
  f166 := Tryz.func94.trans (congrArg some (by kernel_rfl))
  f169 := Tryz.func95.trans (congrArg some (by kernel_rfl))
  f240 := Tryz.func117.trans (congrArg some (by kernel_rfl))
  f241 := Tryz.func118.trans (congrArg some (by kernel_rfl))
  f276 := Tryz.func127.trans (congrArg some (by kernel_rfl))
  f277 := Tryz.func128.trans (congrArg some (by kernel_rfl))
  t0 := Tryz.underlying0
  a0 := Tryz.isAgg0
  z0 := Tryz.sizeOf0
  v0 := Tryz.zeroValue0
  t3 := Tryz.underlying3
  a3 := Tryz.isAgg3
  z3 := Tryz.sizeOf3
  v3 := Tryz.zeroValue3
  t4 := Tryz.underlying4
  a4 := Tryz.isAgg4
  z4 := Tryz.sizeOf4
  v4 := Tryz.zeroValue4
  t9 := Tryz.underlying9
  a9 := Tryz.isAgg9
  z9 := Tryz.sizeOf9
  v9 := Tryz.zeroValue9
  t20 := Tryz.underlying20
  a20 := Tryz.isAgg20
  z20 := Tryz.sizeOf20
  v20 := Tryz.zeroValue20
  t31 := Tryz.underlying22
  a31 := Tryz.isAgg22
  z31 := Tryz.sizeOf22
  v31 := Tryz.zeroValue22
  t37 := Tryz.underlying79
  a37 := Tryz.isAgg79
  z37 := Tryz.sizeOf79
  v37 := Tryz.zeroValue79
  t70 := Tryz.underlying126
  a70 := Tryz.isAgg126
  z70 := Tryz.sizeOf126
  v70 := Tryz.zeroValue126
  t72 := Tryz.underlying128
  a72 := Tryz.isAgg128
  z72 := Tryz.sizeOf128
  v72 := Tryz.zeroValue128
  t75 := Tryz.underlying131
  a75 := Tryz.isAgg131
  z75 := Tryz.sizeOf131
  v75 := Tryz.zeroValue131
  t76 := Tryz.underlying132
  a76 := Tryz.isAgg132
  z76 := Tryz.sizeOf132
  v76 := Tryz.zeroValue132
  t127 := Tryz.underlying116
  a127 := Tryz.isAgg116
  z127 := Tryz.sizeOf116
  v127 := Tryz.zeroValue116
  t164 := Tryz.underlying164
  a164 := Tryz.isAgg164
  z164 := Tryz.sizeOf164
  v164 := Tryz.zeroValue164 }
theorem joinX : Go.Proofs.Builder.Extra Tryz.prog joinRen := {
  sizeBuilder := by kernel_rfl
  liesBuilder := by kernel_rfl
  t5 := Tryz.underlying5
  a5 := Tryz.isAgg5
  z5 := Tryz.sizeOf5
  v5 := Tryz.zeroValue5
  infoByte := by kernel_rfl
  cellsByte := by kernel_rfl
  sizeByte := by kernel_rfl
  neB5 := by decide }
theorem join_flat : ∀ (l : List (List UInt8)), Lib.join l [] = l.flatten
  | [] => rfl
  | x :: r => by
    rw [Lib.join_cons, Lib.joinTail]; simp
theorem join_cat (l : List ByteArray) : (⟨(Lib.join (l.map (·.data.toList)) ByteArray.empty.data.toList).toArray⟩ : ByteArray) = catB l := by
  have e : ByteArray.empty.data.toList = [] := rfl
  rw [e, join_flat, catB, List.flatMap_def]
/-- strings.Join(l, ""), of texts of 32 bytes each. -/
theorem join_any (w : World) (a : Option Addr) (cap : Nat) (l : List ByteArray) (h : StrRow w a l) (hl : l.length ≤ 1000) (h32 : All32 l) (hcap : l.length ≤ cap) :
    Calls Tryz.prog 58 #[.slice a l.length cap, .string ⟨#[]⟩] w fun e w' => e = .returned (.string (catB l)) ∧ Below w.heap.size w w' := by
  rcases h with h0 | ⟨b, off, rfl, hbl, hc⟩
  · subst h0
    refine (Any.strings_Join_none joinLays joinX _ _ _ w).mono ?_
    rintro e w' ⟨rfl, h⟩
    exact ⟨rfl, by subst h; exact Below.refl _ _⟩
  · have hsz : (Lib.join (l.map (·.data.toList)) (⟨#[]⟩ : ByteArray).data.toList).length ≤ 140737488355328 := by
      have e : (⟨(Lib.join (l.map (·.data.toList)) (⟨#[]⟩ : ByteArray).data.toList).toArray⟩ : ByteArray).size = 32 * l.length := by
        have := join_cat l
        change (⟨(Lib.join (l.map (·.data.toList)) ByteArray.empty.data.toList).toArray⟩ : ByteArray).size = _
        rw [this, catB_size l h32]
      change (Lib.join _ _).toArray.size = _ at e
      rw [List.size_toArray] at e
      omega
    refine (Any.strings_Join joinLays joinX b off cap l ⟨#[]⟩ w ?_ hbl (by omega) hcap hsz).mono ?_
    · intro j x hj
      have hjl : j < l.length := (List.getElem?_eq_some_iff.1 hj).1
      have := hc j hjl
      rw [List.getD_eq_getElem?_getD, hj] at this
      exact this
    · rintro e w' ⟨rfl, hb⟩
      exact ⟨by rw [← join_cat l]; rfl, hb⟩
end Go.Proofs.YtggfmnmopfdiaaaGreatDoor
