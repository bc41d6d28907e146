/-
  Plain mathematics for layer 5: keys of many leaves, signatures as bytes, and where two ways meet. No program in sight.
-/
import Derived.Test.YtanplccigmihfaaGreatDoorW8
import Derived.Test.YtanplccigmihfaaGreatDoorM5
namespace Go.Pal
open Go.RowKit

/-- A key's leaves, their root, its public; a message's digest. -/
def leavesL (seed : ByteArray) (h : Nat) : List ByteArray := (List.range (2 ^ h)).map fun i => publicB seed i
def rootB (seed : ByteArray) (h : Nat) : ByteArray := (rowN h (leavesL seed h)).getD 0 ByteArray.empty
def nameIn (h : Nat) (root : ByteArray) : ByteArray := ⟨(inputL 5 [be 1 h, root]).toArray⟩
def namedB (h : Nat) (root : ByteArray) : ByteArray := shaB (nameIn h root)
def keyB (seed : ByteArray) (h : Nat) : ByteArray := namedB h (rootB seed h)
def msgIn (m : ByteArray) : ByteArray := ⟨(inputL 6 [m]).toArray⟩
def msgB (m : ByteArray) : ByteArray := shaB (msgIn m)
def msgD (m : ByteArray) : List Nat := digL (msgB m).data.toList
theorem publicB_size (seed : ByteArray) (i : Nat) : (publicB seed i).size = 32 := shaB_size' _
theorem namedB_size (h : Nat) (root : ByteArray) : (namedB h root).size = 32 := shaB_size' _
theorem msgB_size (m : ByteArray) : (msgB m).size = 32 := shaB_size' _
theorem leavesL_length (seed : ByteArray) (h : Nat) : (leavesL seed h).length = 2 ^ h := by simp [leavesL]
theorem leavesL_get (seed : ByteArray) (h i : Nat) (hi : i < 2 ^ h) : (leavesL seed h).getD i ByteArray.empty = publicB seed i := by
  rw [List.getD_eq_getElem?_getD, leavesL, List.getElem?_map, List.getElem?_range hi]; rfl
theorem leaves_32 (seed : ByteArray) (h i : Nat) : ((leavesL seed h).getD i ByteArray.empty).size ≤ 32 := by
  by_cases hi : i < 2 ^ h
  · rw [leavesL_get seed h i hi, publicB_size]; exact Nat.le_refl _
  · rw [List.getD_eq_getElem?_getD, List.getElem?_eq_none (by rw [leavesL_length]; omega)]
    show ByteArray.empty.size ≤ _; exact Nat.zero_le _
theorem leaves_small (seed : ByteArray) (h : Nat) : SmallL (leavesL seed h) := fun i => by have := leaves_32 seed h i; omega
theorem leaves_take (seed : ByteArray) (h k : Nat) (hk : k < 2 ^ h) : (leavesL seed h).take (k + 1) = (leavesL seed h).take k ++ [publicB seed k] := by
  have hl : k < (leavesL seed h).length := by rw [leavesL_length]; exact hk
  rw [List.take_succ_eq_append_getElem hl]
  simp [leavesL]
theorem msgD_length (m : ByteArray) : (msgD m).length = 67 := by
  rw [msgD, digL_length]; have := msgB_size m; simp [this]
theorem msgD_lt (m : ByteArray) (k : Nat) : (msgD m).getD k 0 < 16 :=
  getD_lt _ 16 (by omega) (digL_lt _ (by have := msgB_size m; simp [this])) k

/-- Rows of a tree of texts of 32 bytes. -/
theorem rowN_32 (l : List ByteArray) (H : Nat) (hl : l.length = 2 ^ H) (h : ∀ i, i < 2 ^ H → (l.getD i ByteArray.empty).size = 32) : ∀ k, k ≤ H → ∀ i, i < 2 ^ (H - k) → ((rowN k l).getD i ByteArray.empty).size = 32
  | 0, _, i, hi => h i hi
  | k + 1, hk, i, hi => by
    have hlen := rowN_pow l H k hl (by omega)
    have hp : 2 ^ (H - k) = 2 * 2 ^ (H - (k + 1)) := by rw [show H - k = (H - (k + 1)) + 1 by omega, Nat.pow_succ]; omega
    rw [rowN, rowUp_get _ _ (by rw [hlen]; omega), pairB_size]
theorem leaves_rows (seed : ByteArray) (H k i : Nat) (hk : k ≤ H) (hi : i < 2 ^ (H - k)) : ((rowN k (leavesL seed H)).getD i ByteArray.empty).size = 32 :=
  rowN_32 _ H (leavesL_length _ _) (fun i hi => by rw [leavesL_get _ _ _ hi, publicB_size]) k hk i hi
theorem rootB_size (seed : ByteArray) (h : Nat) : (rootB seed h).size = 32 := leaves_rows seed h h 0 (Nat.le_refl _) (Nat.two_pow_pos _)

/-- Texts one behind the other. -/
def catB (l : List ByteArray) : ByteArray := ⟨(l.flatMap fun x => x.data.toList).toArray⟩
theorem catB_nil : catB [] = ByteArray.empty := rfl
theorem catB_append (l m : List ByteArray) : catB (l ++ m) = catB l ++ catB m := by
  rw [ByteArray.ext_iff]; simp [catB]
theorem catB_one (x : ByteArray) : catB [x] = x := by
  rw [ByteArray.ext_iff]; simp [catB]
theorem catB_snoc (l : List ByteArray) (x : ByteArray) : catB (l ++ [x]) = catB l ++ x := by rw [catB_append, catB_one]
theorem catB_cons (x : ByteArray) (l : List ByteArray) : catB (x :: l) = x ++ catB l := by
  rw [show x :: l = [x] ++ l from rfl, catB_append, catB_one]
def All32 (l : List ByteArray) : Prop := ∀ i, i < l.length → (l.getD i ByteArray.empty).size = 32
theorem All32.tail {x : ByteArray} {l : List ByteArray} (h : All32 (x :: l)) : All32 l := fun i hi => by
  have := h (i + 1) (by simp; omega)
  simpa using this
theorem All32.head {x : ByteArray} {l : List ByteArray} (h : All32 (x :: l)) : x.size = 32 := by
  have := h 0 (by simp)
  simpa using this
theorem catB_size : ∀ (l : List ByteArray), All32 l → (catB l).size = 32 * l.length
  | [], _ => rfl
  | x :: l, h => by
    rw [catB_cons, ByteArray.size_append, h.head, catB_size l h.tail, List.length_cons]; omega
theorem All32.small {l : List ByteArray} (h : All32 l) : SmallL l := fun i => by
  by_cases hi : i < l.length
  · rw [h i hi]; omega
  · rw [List.getD_eq_getElem?_getD, List.getElem?_eq_none (by omega)]
    show ByteArray.empty.size ≤ _; exact Nat.zero_le _

/-- What is cut out of bytes, 32 at a time. -/
def cutL (s : ByteArray) (o n : Nat) : List ByteArray := (List.range n).map fun k => s.extract (o + 32 * k) (o + 32 * k + 32)
theorem cutL_length (s : ByteArray) (o n : Nat) : (cutL s o n).length = n := by simp [cutL]
theorem cutL_succ (s : ByteArray) (o n : Nat) : cutL s o (n + 1) = cutL s o n ++ [s.extract (o + 32 * n) (o + 32 * n + 32)] := by simp [cutL, List.range_succ]
theorem cutL_get (s : ByteArray) (o n k : Nat) (h : k < n) : (cutL s o n).getD k ByteArray.empty = s.extract (o + 32 * k) (o + 32 * k + 32) := by
  rw [List.getD_eq_getElem?_getD, cutL, List.getElem?_map, List.getElem?_range h]; rfl
theorem cutL_32 (s : ByteArray) (o n : Nat) (h : o + 32 * n ≤ s.size) : All32 (cutL s o n) := fun i hi => by
  rw [cutL_length] at hi
  rw [cutL_get s o n i hi, ByteArray.size_extract]; omega
theorem cutL_add (s : ByteArray) (o n m : Nat) : cutL s o (n + m) = cutL s o n ++ cutL s (o + 32 * n) m := by
  induction m with
  | zero => simp [cutL]
  | succ m ih =>
    rw [← Nat.add_assoc, cutL_succ, ih, cutL_succ, List.append_assoc, show o + 32 * n + 32 * m = o + 32 * (n + m) by omega]
theorem extract_mid (x y z : ByteArray) (i j : Nat) (hi : i = x.size) (hj : j = x.size + y.size) : (x ++ (y ++ z)).extract i j = y := by
  subst hi hj
  obtain ⟨xa⟩ := x
  obtain ⟨ya⟩ := y
  obtain ⟨za⟩ := z
  rw [ByteArray.ext_iff]
  have e1 : ByteArray.size ⟨xa⟩ = xa.size := rfl
  have e2 : ByteArray.size ⟨ya⟩ = ya.size := rfl
  simp only [ByteArray.data_extract, ByteArray.data_append, e1, e2]
  apply Array.ext'
  simp
theorem cutL_cat : ∀ (l : List ByteArray) (x z : ByteArray), All32 l → cutL (x ++ (catB l ++ z)) x.size l.length = l
  | [], _, _, _ => rfl
  | y :: l, x, z, h => by
    have e : x ++ (catB (y :: l) ++ z) = (x ++ y) ++ (catB l ++ z) := by
      rw [catB_cons]; simp only [ByteArray.append_assoc]
    have e2 : x ++ (catB (y :: l) ++ z) = x ++ (y ++ (catB l ++ z)) := by
      rw [catB_cons]; simp only [ByteArray.append_assoc]
    have h1 := cutL_cat l (x ++ y) z h.tail
    rw [List.length_cons, Nat.add_comm, cutL_add]
    rw [ByteArray.size_append, h.head] at h1
    rw [e, show x.size + 32 * 1 = x.size + 32 by omega, h1, ← e, e2]
    have : cutL (x ++ (y ++ (catB l ++ z))) x.size 1 = [y] := by
      show [(x ++ (y ++ (catB l ++ z))).extract (x.size + 32 * 0) (x.size + 32 * 0 + 32)] = [y]
      rw [extract_mid x y _ _ _ (by omega) (by rw [h.head])]
    rw [this]; rfl

/-- A signature's bytes. -/
def valsL (seed : ByteArray) (leaf : Nat) (m : ByteArray) : List ByteArray := signL seed leaf (msgD m)
def pathL (seed : ByteArray) (h leaf : Nat) : List ByteArray := pathTo (leavesL seed h) leaf h
def sigB (seed : ByteArray) (h leaf : Nat) (m : ByteArray) : ByteArray := be 2 leaf ++ catB (valsL seed leaf m) ++ catB (pathL seed h leaf)
theorem valsL_length (seed : ByteArray) (leaf : Nat) (m : ByteArray) : (valsL seed leaf m).length = 67 := by rw [valsL, signL, walkL_length, secretsL_length]
theorem pathL_length (seed : ByteArray) (h leaf : Nat) : (pathL seed h leaf).length = h := pathTo_length _ _ _
theorem chainB_32 (k : Int) (x : ByteArray) (hx : x.size = 32) : ∀ n, (chainB k x n).size = 32
  | 0 => hx
  | n + 1 => by rw [chainB, stepB, shaB_size']
theorem valsL_32 (seed : ByteArray) (leaf : Nat) (m : ByteArray) : All32 (valsL seed leaf m) := fun i hi => by
  rw [valsL_length] at hi
  rw [valsL, signL, walkL_get _ _ _ (by rw [secretsL_length]; exact hi), secretsL_get _ _ _ hi, chainB_32 _ _ (by rw [secretB, shaB_size'])]
theorem pathL_32 (seed : ByteArray) (h leaf : Nat) (hl : leaf < 2 ^ h) : All32 (pathL seed h leaf) := fun i hi => by
  rw [pathL_length] at hi
  have hq := div_lt_pow leaf h i hl (by omega)
  have hp : 2 ^ (h - i) = 2 * 2 ^ (h - (i + 1)) := by rw [show h - i = (h - (i + 1)) + 1 by omega, Nat.pow_succ]; omega
  rw [pathL, pathTo_get _ _ _ _ hi]
  exact leaves_rows seed h i _ (by omega) (by rw [hp]; exact beside_lt _ _ (by omega))
theorem sigB_size (seed : ByteArray) (h leaf : Nat) (m : ByteArray) (hl : leaf < 2 ^ h) : (sigB seed h leaf m).size = 2 + 32 * (67 + h) := by
  rw [sigB, ByteArray.size_append, ByteArray.size_append, be_size, catB_size _ (valsL_32 _ _ _), catB_size _ (pathL_32 _ _ _ hl), valsL_length, pathL_length]; omega
theorem sig_vals (seed : ByteArray) (h leaf : Nat) (m : ByteArray) : cutL (sigB seed h leaf m) 2 67 = valsL seed leaf m := by
  have h1 := cutL_cat (valsL seed leaf m) (be 2 leaf) (catB (pathL seed h leaf)) (valsL_32 _ _ _)
  rw [be_size, valsL_length, ← ByteArray.append_assoc] at h1
  exact h1
theorem sig_path (seed : ByteArray) (h leaf : Nat) (m : ByteArray) (hl : leaf < 2 ^ h) : cutL (sigB seed h leaf m) 2146 h = pathL seed h leaf := by
  have h1 := cutL_cat (pathL seed h leaf) (be 2 leaf ++ catB (valsL seed leaf m)) ByteArray.empty (pathL_32 _ _ _ hl)
  rw [pathL_length, ByteArray.append_empty, ByteArray.size_append, be_size, catB_size _ (valsL_32 _ _ _), valsL_length] at h1
  exact h1
theorem sig_leaf (seed : ByteArray) (h leaf : Nat) (m : ByteArray) (hl : leaf < 65536) : valL ((sigB seed h leaf m).extract 0 2).data.toList = leaf := by
  have e : (sigB seed h leaf m).extract 0 2 = be 2 leaf := by
    rw [sigB, ByteArray.append_assoc]
    have := extract_mid ByteArray.empty (be 2 leaf) (catB (valsL seed leaf m) ++ catB (pathL seed h leaf)) 0 2 rfl (by rw [be_size]; rfl)
    rw [ByteArray.empty_append] at this
    exact this
  rw [e]
  show valL (beL 2 leaf).toArray.toList = leaf
  rw [List.toList_toArray, valL_beL 2 leaf (by omega)]

/-- What a signature's parts lead to. -/
def topB (dl : List Nat) (vs : List ByteArray) (leaf : Nat) (ps : List ByteArray) : ByteArray := foldAt (recoverB dl vs) leaf ps ps.length
theorem recoverB_size (dl : List Nat) (vs : List ByteArray) : (recoverB dl vs).size = 32 := shaB_size' _
theorem topB_size (dl : List Nat) (vs : List ByteArray) (leaf : Nat) (ps : List ByteArray) : (topB dl vs leaf ps).size ≤ 1000000 := foldAt_size _ _ _ (by rw [recoverB_size]; omega) _
theorem signed_top (seed : ByteArray) (h leaf : Nat) (m : ByteArray) (hl : leaf < 2 ^ h) : topB (msgD m) (valsL seed leaf m) leaf (pathL seed h leaf) = rootB seed h := by
  rw [topB, valsL, sign_back seed leaf (msgD m) (msgD_lt m), pathL_length, ← leavesL_get seed h leaf hl, pathL, fold_path _ _ _ (leavesL_length _ _) hl h (Nat.le_refl _), rootB, Nat.div_eq_of_lt hl]

/-- All that is summed on the way. -/
def endIn (dl : List Nat) (vs : List ByteArray) : ByteArray := ⟨(inputL 3 (walkL vs fun k => 15 - dl.getD k 0)).toArray⟩
def roadV (m : ByteArray) (vs : List ByteArray) (leaf : Nat) (ps : List ByteArray) : List ByteArray :=
  (roadR (msgD m) vs 67 ++ [endIn (msgD m) vs]) ++ roadTo (recoverB (msgD m) vs) leaf ps ps.length ++ [nameIn ps.length (topB (msgD m) vs leaf ps), msgIn m]
end Go.Pal
namespace Go.Proofs.YtanplccigmihfaaGreatDoor
open Go.RowKit Go.Pal

theorem input5_inj (x y u v : ByteArray) (hx : x.size ≤ 1000000) (hy : y.size ≤ 1000000) (hu : u.size ≤ 1000000) (hv : v.size ≤ 1000000)
    (h : (⟨(inputL 5 [x, y]).toArray⟩ : ByteArray) = ⟨(inputL 5 [u, v]).toArray⟩) : x = u ∧ y = v := by
  have h1 : inputL 5 [x, y] = inputL 5 [u, v] := by
    have := congrArg (fun b : ByteArray => b.data.toList) h
    simpa using this
  unfold inputL at h1
  have h2 := ShaApart.flat_inj [x, y] [u, v] (by
    intro p hp
    simp only [List.mem_cons, List.not_mem_nil, or_false] at hp
    rcases hp with rfl | rfl <;> omega) (by
    intro p hp
    simp only [List.mem_cons, List.not_mem_nil, or_false] at hp
    rcases hp with rfl | rfl <;> omega) (List.cons.inj h1).2
  have h3 := List.cons.inj h2
  exact ⟨h3.1, (List.cons.inj h3.2).1⟩
theorem msgIn_inj (x y : ByteArray) (hx : x.size ≤ 1000000) (hy : y.size ≤ 1000000) (h : msgIn x = msgIn y) : x = y := by
  have h1 : inputL 6 [x] = inputL 6 [y] := by
    have := congrArg (fun b : ByteArray => b.data.toList) h
    simpa [msgIn] using this
  unfold inputL at h1
  have h2 := ShaApart.flat_inj [x] [y] (by
    intro p hp
    obtain rfl : p = x := by simpa using hp
    omega) (by
    intro p hp
    obtain rfl : p = y := by simpa using hp
    omega) (List.cons.inj h1).2
  exact (List.cons.inj h2).1

theorem fold2 (a b : ByteArray) (i : Nat) (p q : List ByteArray) (ha : a.size ≤ 1000000) (hb : b.size ≤ 1000000) (hp : SmallL p) (hq : SmallL q) : ∀ n, foldAt a i p n = foldAt b i q n →
    (∃ k, k < n ∧ stepIn a i p k ≠ stepIn b i q k ∧ shaB (stepIn a i p k) = shaB (stepIn b i q k)) ∨ (a = b ∧ ∀ k, k < n → p.getD k ByteArray.empty = q.getD k ByteArray.empty)
  | 0, h => .inr ⟨h, fun k hk => absurd hk (Nat.not_lt_zero k)⟩
  | n + 1, h => by
    rw [foldAt_in, foldAt_in] at h
    by_cases he : stepIn a i p n = stepIn b i q n
    · have s1 := foldAt_size a i p ha n
      have s2 := foldAt_size b i q hb n
      have s3 := hp n
      have s4 := hq n
      have both : foldAt a i p n = foldAt b i q n ∧ p.getD n ByteArray.empty = q.getD n ByteArray.empty := by
        unfold stepIn at he
        by_cases hc : i / 2 ^ n % 2 = 1
        · rw [if_pos hc, if_pos hc] at he
          have := input4_inj _ _ _ _ s3 s1 s4 s2 he
          exact ⟨this.2, this.1⟩
        · rw [if_neg hc, if_neg hc] at he
          exact input4_inj _ _ _ _ s1 s3 s2 s4 he
      rcases fold2 a b i p q ha hb hp hq n both.1 with ⟨k, h1, h2⟩ | ⟨h1, h2⟩
      · exact .inl ⟨k, by omega, h2⟩
      · refine .inr ⟨h1, fun k hk => ?_⟩
        by_cases hkn : k = n
        · rw [hkn]; exact both.2
        · exact h2 k (by omega)
    · exact .inl ⟨n, by omega, he, h⟩

/-- Two ways that meet: two unlike texts of one digest, or they are one from the ends of the chains on. -/
theorem ways_meet (m1 m2 : ByteArray) (v1 v2 p1 p2 : List ByteArray) (leaf n : Nat) (hv1 : v1.length = 67) (hv2 : v2.length = 67) (hp1 : p1.length = n) (hp2 : p2.length = n)
    (sv1 : SmallL v1) (sv2 : SmallL v2) (sp1 : SmallL p1) (sp2 : SmallL p2) (h : namedB n (topB (msgD m1) v1 leaf p1) = namedB n (topB (msgD m2) v2 leaf p2)) :
    (∃ a b, a ∈ roadV m1 v1 leaf p1 ∧ b ∈ roadV m2 v2 leaf p2 ∧ a ≠ b ∧ shaB a = shaB b) ∨
    (p1 = p2 ∧ ∀ k, k < 67 → chainB (k : Nat) (v1.getD k ByteArray.empty) (15 - (msgD m1).getD k 0) = chainB (k : Nat) (v2.getD k ByteArray.empty) (15 - (msgD m2).getD k 0)) := by
  by_cases hi : nameIn n (topB (msgD m1) v1 leaf p1) = nameIn n (topB (msgD m2) v2 leaf p2)
  · have ht := (input5_inj _ _ _ _ (by rw [be_size]; omega) (topB_size _ _ _ _) (by rw [be_size]; omega) (topB_size _ _ _ _) hi).2
    unfold topB at ht
    rw [hp1, hp2] at ht
    rcases fold2 _ _ leaf p1 p2 (by rw [recoverB_size]; omega) (by rw [recoverB_size]; omega) sp1 sp2 n ht with ⟨k, hk, h1, h2⟩ | ⟨h1, h2⟩
    · left
      refine ⟨_, _, List.mem_append_left _ (List.mem_append_right _ ?_), List.mem_append_left _ (List.mem_append_right _ ?_), h1, h2⟩
      · exact List.mem_map.2 ⟨k, List.mem_range.2 (by omega), rfl⟩
      · exact List.mem_map.2 ⟨k, List.mem_range.2 (by omega), rfl⟩
    · by_cases he : endIn (msgD m1) v1 = endIn (msgD m2) v2
      · right
        refine ⟨?_, ?_⟩
        · apply List.ext_getElem (by omega)
          intro k hk1 hk2
          have := h2 k (by omega)
          rw [List.getD_eq_getElem?_getD, List.getElem?_eq_getElem hk1, List.getD_eq_getElem?_getD, List.getElem?_eq_getElem hk2] at this
          exact this
        · have hE := input3_inj _ _ (fun i => walkL_le _ _ 1000000 (by omega) sv1 i) (fun i => walkL_le _ _ 1000000 (by omega) sv2 i) he
          intro k hk
          rw [← walkL_get v1 (fun k => 15 - (msgD m1).getD k 0) k (by omega), ← walkL_get v2 (fun k => 15 - (msgD m2).getD k 0) k (by omega), hE]
      · left
        refine ⟨_, _, List.mem_append_left _ (List.mem_append_left _ (List.mem_append_right _ (List.mem_singleton.2 rfl))), List.mem_append_left _ (List.mem_append_left _ (List.mem_append_right _ (List.mem_singleton.2 rfl))), he, h1⟩
  · left
    refine ⟨nameIn n (topB (msgD m1) v1 leaf p1), nameIn n (topB (msgD m2) v2 leaf p2), List.mem_append_right _ ?_, List.mem_append_right _ ?_, hi, h⟩
    · rw [hp1]; exact List.mem_cons_self
    · rw [hp2]; exact List.mem_cons_self

/-- One message, one leaf, one public, and unlike values or paths. -/
theorem turned_clash (m : ByteArray) (v1 v2 p1 p2 : List ByteArray) (leaf n : Nat) (hv1 : v1.length = 67) (hv2 : v2.length = 67) (hp1 : p1.length = n) (hp2 : p2.length = n)
    (sv1 : SmallL v1) (sv2 : SmallL v2) (sp1 : SmallL p1) (sp2 : SmallL p2) (hne : v1 ≠ v2 ∨ p1 ≠ p2) (h : namedB n (topB (msgD m) v1 leaf p1) = namedB n (topB (msgD m) v2 leaf p2)) :
    ∃ a b, a ∈ roadV m v1 leaf p1 ∧ b ∈ roadV m v2 leaf p2 ∧ a ≠ b ∧ shaB a = shaB b := by
  rcases ways_meet m m v1 v2 p1 p2 leaf n hv1 hv2 hp1 hp2 sv1 sv2 sp1 sp2 h with h1 | ⟨h1, h2⟩
  · exact h1
  · have hv : v1 ≠ v2 := by
      rcases hne with h3 | h3
      · exact h3
      · exact absurd h1 h3
    obtain ⟨k, hk, hkne⟩ : ∃ k, k < 67 ∧ v1.getD k ByteArray.empty ≠ v2.getD k ByteArray.empty := by
      apply Classical.byContradiction
      intro hno
      apply hv
      apply List.ext_getElem (by omega)
      intro k hk1 hk2
      apply Classical.byContradiction
      intro hne2
      apply hno
      refine ⟨k, by omega, fun e => hne2 ?_⟩
      rw [List.getD_eq_getElem?_getD, List.getElem?_eq_getElem hk1, List.getD_eq_getElem?_getD, List.getElem?_eq_getElem hk2] at e
      exact e
    obtain ⟨j, hj, g1, g2⟩ := chain_clash k (by omega) _ _ (sv1 k) (sv2 k) hkne _ (h2 k hk)
    refine ⟨_, _, List.mem_append_left _ (List.mem_append_left _ (List.mem_append_left _ ?_)), List.mem_append_left _ (List.mem_append_left _ (List.mem_append_left _ ?_)), g1, g2⟩
    · exact List.mem_flatMap.2 ⟨k, List.mem_range.2 hk, List.mem_map.2 ⟨j, List.mem_range.2 hj, rfl⟩⟩
    · exact List.mem_flatMap.2 ⟨k, List.mem_range.2 hk, List.mem_map.2 ⟨j, List.mem_range.2 hj, rfl⟩⟩

/-- One signature, two messages: two unlike texts of one digest, or a chain that comes round. -/
theorem other_round (m1 m2 : ByteArray) (vs ps : List ByteArray) (leaf n : Nat) (hv : vs.length = 67) (hp : ps.length = n) (sv : SmallL vs) (sp : SmallL ps) (hm1 : m1.size ≤ 1000000) (hm2 : m2.size ≤ 1000000) (hne : m1 ≠ m2)
    (h : namedB n (topB (msgD m1) vs leaf ps) = namedB n (topB (msgD m2) vs leaf ps)) :
    (∃ a b, a ∈ roadV m1 vs leaf ps ∧ b ∈ roadV m2 vs leaf ps ∧ a ≠ b ∧ shaB a = shaB b) ∨
    (∃ k i j, k < 67 ∧ j < i ∧ i ≤ 15 ∧ chainB (k : Nat) (vs.getD k ByteArray.empty) i = chainB (k : Nat) (vs.getD k ByteArray.empty) j) := by
  by_cases hd : msgB m1 = msgB m2
  · left
    refine ⟨msgIn m1, msgIn m2, List.mem_append_right _ ?_, List.mem_append_right _ ?_, fun e => hne (msgIn_inj m1 m2 hm1 hm2 e), hd⟩
    · exact List.mem_cons_of_mem _ List.mem_cons_self
    · exact List.mem_cons_of_mem _ List.mem_cons_self
  · rcases ways_meet m1 m2 vs vs ps ps leaf n hv hv hp hp sv sv sp sp h with h1 | ⟨_, h2⟩
    · exact .inl h1
    · right
      have hl := dig_less (msgB m1).data.toList (msgB m2).data.toList (by have := msgB_size m1; simp [this]) (by have := msgB_size m2; simp [this]) (fun e => hd (by
        rw [ByteArray.ext_iff]; exact Array.ext' e))
      simp only [lessTo, List.any_eq_true, List.mem_range, decide_eq_true_eq] at hl
      obtain ⟨k, hk, hlt⟩ := hl
      have h16 := msgD_lt m2 k
      change (msgD m1).getD k 0 < (msgD m2).getD k 0 at hlt
      exact ⟨k, 15 - (msgD m1).getD k 0, 15 - (msgD m2).getD k 0, hk, by omega, by omega, h2 k hk⟩
end Go.Proofs.YtanplccigmihfaaGreatDoor
