/-
  NARROWER THAN 'FOR EVERY INPUT', by the rows' own cells (each row's printed sentence says how): ShaSums: laid · ShaTags: laid · ShaClashes: laid · ShaRoots: laid · WotsDigits: laid · WotsChains: laid · WotsSigns: laid · WotsPublics: laid · WotsRecovers: laid · WotsBack: laid · WotsLower: laid · WotsTurned: laid · MerkleRoots: laid · MerklePaths: laid · MerkleFolds: laid · MerkleBack: laid · MerkleBinds: laid · MerkleApart: laid.
  DERIVED. THE GIVEN ROWS OF THIS SEAT. 18 by the template 'for every input the law returns true; each argument reads behind the call as it read before'; 0 by the template 'total and deterministic' (their statements: YtkpcobahkpiogaaDoorTotals.lean).
  GIVEN WITH THE SEED: the statements are not yours to turn. If you find one false, say at which input.
  Laid BY PROGRAM, IN A SANDBOX (cutbox-rows.mjs): the forced cells as the released guide's own fill.sh prints them over the translation 9a67e892ba732b56… (all of the seat's roots in one cut). By AI agents, Wed Nov 11 2026. No macro, syntax, notation, axiom, sorry.
-/
import Derived.Test.YtkpcobahkpiogaaDoorChecked
import GoSem.Claim
import GoSem.ClaimJoined
import GoSem.ClaimMapViews
import Derived.JoinedTies
import Derived.KernelRfl
namespace Go.Proofs.YtkpcobahkpiogaaDoor
/- THE CELL 'sum', in the pinned program and in every row, IS THE sha256 OF THE DUMP (.gsa) THAT YtkpcobahkpiogaaDoorProg.lean LOADS. Nothing in Lean hashes anything: it is a label: what it is worth is what the hold of that sum in a sandbox is worth. -/
noncomputable def Tryd.pinned : Pinned := { name := "ytkpcobahkpiogaadoor", sum := "9a67e892ba732b5692ad8678b8f9ece663ec4e4f37dcb48ca00d63627798f9f4", checked := Tryd.checked }
namespace Rows
def none {H : Type} : Left H := { results := [], args := [] }

/- WHAT THE LISTED PACKAGE-LEVEL VARIABLES READ AS WHEN THE CALL BEGINS. Each datum BY PROGRAM (the guide's laid-datum.mjs) off the statement by which the dump's own 'gosem.cut.vars' lays the variable. In a bare row this is a premise. The card (YtkpcobahkpiogaaDoorCards.lean) ties it to the program's text. -/
def laid_palaver_sha_first {H : Type} : DataW H := .agg [.lit (.int .u32 1779033703), .lit (.int .u32 3144134277), .lit (.int .u32 1013904242), .lit (.int .u32 2773480762), .lit (.int .u32 1359893119), .lit (.int .u32 2600822924), .lit (.int .u32 528734635), .lit (.int .u32 1541459225)]
def laid_palaver_sha_words {H : Type} : DataW H := .agg [.lit (.int .u32 1116352408), .lit (.int .u32 1899447441), .lit (.int .u32 3049323471), .lit (.int .u32 3921009573), .lit (.int .u32 961987163), .lit (.int .u32 1508970993), .lit (.int .u32 2453635748), .lit (.int .u32 2870763221), .lit (.int .u32 3624381080), .lit (.int .u32 310598401), .lit (.int .u32 607225278), .lit (.int .u32 1426881987), .lit (.int .u32 1925078388), .lit (.int .u32 2162078206), .lit (.int .u32 2614888103), .lit (.int .u32 3248222580), .lit (.int .u32 3835390401), .lit (.int .u32 4022224774), .lit (.int .u32 264347078), .lit (.int .u32 604807628), .lit (.int .u32 770255983), .lit (.int .u32 1249150122), .lit (.int .u32 1555081692), .lit (.int .u32 1996064986), .lit (.int .u32 2554220882), .lit (.int .u32 2821834349), .lit (.int .u32 2952996808), .lit (.int .u32 3210313671), .lit (.int .u32 3336571891), .lit (.int .u32 3584528711), .lit (.int .u32 113926993), .lit (.int .u32 338241895), .lit (.int .u32 666307205), .lit (.int .u32 773529912), .lit (.int .u32 1294757372), .lit (.int .u32 1396182291), .lit (.int .u32 1695183700), .lit (.int .u32 1986661051), .lit (.int .u32 2177026350), .lit (.int .u32 2456956037), .lit (.int .u32 2730485921), .lit (.int .u32 2820302411), .lit (.int .u32 3259730800), .lit (.int .u32 3345764771), .lit (.int .u32 3516065817), .lit (.int .u32 3600352804), .lit (.int .u32 4094571909), .lit (.int .u32 275423344), .lit (.int .u32 430227734), .lit (.int .u32 506948616), .lit (.int .u32 659060556), .lit (.int .u32 883997877), .lit (.int .u32 958139571), .lit (.int .u32 1322822218), .lit (.int .u32 1537002063), .lit (.int .u32 1747873779), .lit (.int .u32 1955562222), .lit (.int .u32 2024104815), .lit (.int .u32 2227730452), .lit (.int .u32 2361852424), .lit (.int .u32 2428436474), .lit (.int .u32 2756734187), .lit (.int .u32 3204031479), .lit (.int .u32 3329325298)]

/-- 'palaverlaw02.ShaSums': WHATEVER THE INPUT: true; the input reads as it did. -/
def shaSumsSpec : ChangeSpec := { name := "shaSums", fn := fun _ => fun
  | [d] => { results := [.lit (.bool true)], args := [d] }
  | _ => none }
def shaSumsRow : OpenClaim := { program := "ytkpcobahkpiogaadoor", sum := "9a67e892ba732b5692ad8678b8f9ece663ec4e4f37dcb48ca00d63627798f9f4", func := "palaver/palaverlaw02.ShaSums", spec := "shaSums", named := ["palaver/sha.first", "palaver/sha.words"], apart := false, laid := [("palaver/sha.first", laid_palaver_sha_first), ("palaver/sha.words", laid_palaver_sha_words)] }
def ShaSumsSaid : Prop := shaSumsRow.holds Tryd.pinned (OpenSpec.ofChange shaSumsSpec)

/-- ITS FALSE NEIGHBOUR: 'it returns false'. Refute it at one input. -/
def shaSumsWrong : ChangeSpec := { name := "shaSums", fn := fun _ => fun
  | [d] => { results := [.lit (.bool false)], args := [d] }
  | _ => none }
def ShaSumsWrongFalsely : Prop := shaSumsRow.holds Tryd.pinned (OpenSpec.ofChange shaSumsWrong)

/-- 'palaverlaw02.ShaTags': WHATEVER THE INPUT: true; the input reads as it did. -/
def shaTagsSpec : ChangeSpec := { name := "shaTags", fn := fun _ => fun
  | [d1, d2] => { results := [.lit (.bool true)], args := [d1, d2] }
  | _ => none }
def shaTagsRow : OpenClaim := { program := "ytkpcobahkpiogaadoor", sum := "9a67e892ba732b5692ad8678b8f9ece663ec4e4f37dcb48ca00d63627798f9f4", func := "palaver/palaverlaw02.ShaTags", spec := "shaTags", named := ["palaver/sha.first", "palaver/sha.words"], apart := false, laid := [("palaver/sha.first", laid_palaver_sha_first), ("palaver/sha.words", laid_palaver_sha_words)] }
def ShaTagsSaid : Prop := shaTagsRow.holds Tryd.pinned (OpenSpec.ofChange shaTagsSpec)

/-- ITS FALSE NEIGHBOUR: 'it returns false'. Refute it at one input. -/
def shaTagsWrong : ChangeSpec := { name := "shaTags", fn := fun _ => fun
  | [d1, d2] => { results := [.lit (.bool false)], args := [d1, d2] }
  | _ => none }
def ShaTagsWrongFalsely : Prop := shaTagsRow.holds Tryd.pinned (OpenSpec.ofChange shaTagsWrong)

/-- 'palaverlaw02.ShaClashes': WHATEVER THE INPUT: true; the input reads as it did. -/
def shaClashesSpec : ChangeSpec := { name := "shaClashes", fn := fun _ => fun
  | [d] => { results := [.lit (.bool true)], args := [d] }
  | _ => none }
def shaClashesRow : OpenClaim := { program := "ytkpcobahkpiogaadoor", sum := "9a67e892ba732b5692ad8678b8f9ece663ec4e4f37dcb48ca00d63627798f9f4", func := "palaver/palaverlaw02.ShaClashes", spec := "shaClashes", unfollowed := true, recurses := true, named := ["palaver/sha.first", "palaver/sha.words"], apart := false, laid := [("palaver/sha.first", laid_palaver_sha_first), ("palaver/sha.words", laid_palaver_sha_words)] }
def ShaClashesSaid : Prop := shaClashesRow.holds Tryd.pinned (OpenSpec.ofChange shaClashesSpec)

/-- ITS FALSE NEIGHBOUR: 'it returns false'. Refute it at one input. -/
def shaClashesWrong : ChangeSpec := { name := "shaClashes", fn := fun _ => fun
  | [d] => { results := [.lit (.bool false)], args := [d] }
  | _ => none }
def ShaClashesWrongFalsely : Prop := shaClashesRow.holds Tryd.pinned (OpenSpec.ofChange shaClashesWrong)

/-- 'palaverlaw02.ShaRoots': WHATEVER THE INPUT: true; the input reads as it did. -/
def shaRootsSpec : ChangeSpec := { name := "shaRoots", fn := fun _ => fun
  | [d] => { results := [.lit (.bool true)], args := [d] }
  | _ => none }
def shaRootsRow : OpenClaim := { program := "ytkpcobahkpiogaadoor", sum := "9a67e892ba732b5692ad8678b8f9ece663ec4e4f37dcb48ca00d63627798f9f4", func := "palaver/palaverlaw02.ShaRoots", spec := "shaRoots", named := ["palaver/sha.first", "palaver/sha.words"], apart := false, laid := [("palaver/sha.first", laid_palaver_sha_first), ("palaver/sha.words", laid_palaver_sha_words)] }
def ShaRootsSaid : Prop := shaRootsRow.holds Tryd.pinned (OpenSpec.ofChange shaRootsSpec)

/-- ITS FALSE NEIGHBOUR: 'it returns false'. Refute it at one input. -/
def shaRootsWrong : ChangeSpec := { name := "shaRoots", fn := fun _ => fun
  | [d] => { results := [.lit (.bool false)], args := [d] }
  | _ => none }
def ShaRootsWrongFalsely : Prop := shaRootsRow.holds Tryd.pinned (OpenSpec.ofChange shaRootsWrong)

/-- 'palaverlaw03.WotsDigits': WHATEVER THE INPUT: true; the input reads as it did. -/
def wotsDigitsSpec : ChangeSpec := { name := "wotsDigits", fn := fun _ => fun
  | [d] => { results := [.lit (.bool true)], args := [d] }
  | _ => none }
def wotsDigitsRow : OpenClaim := { program := "ytkpcobahkpiogaadoor", sum := "9a67e892ba732b5692ad8678b8f9ece663ec4e4f37dcb48ca00d63627798f9f4", func := "palaver/palaverlaw03.WotsDigits", spec := "wotsDigits", named := ["palaver/sha.first", "palaver/sha.words"], apart := false, laid := [("palaver/sha.first", laid_palaver_sha_first), ("palaver/sha.words", laid_palaver_sha_words)] }
def WotsDigitsSaid : Prop := wotsDigitsRow.holds Tryd.pinned (OpenSpec.ofChange wotsDigitsSpec)

/-- ITS FALSE NEIGHBOUR: 'it returns false'. Refute it at one input. -/
def wotsDigitsWrong : ChangeSpec := { name := "wotsDigits", fn := fun _ => fun
  | [d] => { results := [.lit (.bool false)], args := [d] }
  | _ => none }
def WotsDigitsWrongFalsely : Prop := wotsDigitsRow.holds Tryd.pinned (OpenSpec.ofChange wotsDigitsWrong)

/-- 'palaverlaw03.WotsChains': WHATEVER THE INPUT: true; the input reads as it did. -/
def wotsChainsSpec : ChangeSpec := { name := "wotsChains", fn := fun _ => fun
  | [d1, d2, d3, d4] => { results := [.lit (.bool true)], args := [d1, d2, d3, d4] }
  | _ => none }
def wotsChainsRow : OpenClaim := { program := "ytkpcobahkpiogaadoor", sum := "9a67e892ba732b5692ad8678b8f9ece663ec4e4f37dcb48ca00d63627798f9f4", func := "palaver/palaverlaw03.WotsChains", spec := "wotsChains", named := ["palaver/sha.first", "palaver/sha.words"], apart := false, laid := [("palaver/sha.first", laid_palaver_sha_first), ("palaver/sha.words", laid_palaver_sha_words)] }
def WotsChainsSaid : Prop := wotsChainsRow.holds Tryd.pinned (OpenSpec.ofChange wotsChainsSpec)

/-- ITS FALSE NEIGHBOUR: 'it returns false'. Refute it at one input. -/
def wotsChainsWrong : ChangeSpec := { name := "wotsChains", fn := fun _ => fun
  | [d1, d2, d3, d4] => { results := [.lit (.bool false)], args := [d1, d2, d3, d4] }
  | _ => none }
def WotsChainsWrongFalsely : Prop := wotsChainsRow.holds Tryd.pinned (OpenSpec.ofChange wotsChainsWrong)

/-- 'palaverlaw03.WotsSigns': WHATEVER THE INPUT: true; the input reads as it did. -/
def wotsSignsSpec : ChangeSpec := { name := "wotsSigns", fn := fun _ => fun
  | [d1, d2, d3] => { results := [.lit (.bool true)], args := [d1, d2, d3] }
  | _ => none }
def wotsSignsRow : OpenClaim := { program := "ytkpcobahkpiogaadoor", sum := "9a67e892ba732b5692ad8678b8f9ece663ec4e4f37dcb48ca00d63627798f9f4", func := "palaver/palaverlaw03.WotsSigns", spec := "wotsSigns", unfollowed := true, recurses := true, named := ["palaver/sha.first", "palaver/sha.words"], apart := false, laid := [("palaver/sha.first", laid_palaver_sha_first), ("palaver/sha.words", laid_palaver_sha_words)] }
def WotsSignsSaid : Prop := wotsSignsRow.holds Tryd.pinned (OpenSpec.ofChange wotsSignsSpec)

/-- ITS FALSE NEIGHBOUR: 'it returns false'. Refute it at one input. -/
def wotsSignsWrong : ChangeSpec := { name := "wotsSigns", fn := fun _ => fun
  | [d1, d2, d3] => { results := [.lit (.bool false)], args := [d1, d2, d3] }
  | _ => none }
def WotsSignsWrongFalsely : Prop := wotsSignsRow.holds Tryd.pinned (OpenSpec.ofChange wotsSignsWrong)

/-- 'palaverlaw03.WotsPublics': WHATEVER THE INPUT: true; the input reads as it did. -/
def wotsPublicsSpec : ChangeSpec := { name := "wotsPublics", fn := fun _ => fun
  | [d1, d2] => { results := [.lit (.bool true)], args := [d1, d2] }
  | _ => none }
def wotsPublicsRow : OpenClaim := { program := "ytkpcobahkpiogaadoor", sum := "9a67e892ba732b5692ad8678b8f9ece663ec4e4f37dcb48ca00d63627798f9f4", func := "palaver/palaverlaw03.WotsPublics", spec := "wotsPublics", unfollowed := true, recurses := true, named := ["palaver/sha.first", "palaver/sha.words"], apart := false, laid := [("palaver/sha.first", laid_palaver_sha_first), ("palaver/sha.words", laid_palaver_sha_words)] }
def WotsPublicsSaid : Prop := wotsPublicsRow.holds Tryd.pinned (OpenSpec.ofChange wotsPublicsSpec)

/-- ITS FALSE NEIGHBOUR: 'it returns false'. Refute it at one input. -/
def wotsPublicsWrong : ChangeSpec := { name := "wotsPublics", fn := fun _ => fun
  | [d1, d2] => { results := [.lit (.bool false)], args := [d1, d2] }
  | _ => none }
def WotsPublicsWrongFalsely : Prop := wotsPublicsRow.holds Tryd.pinned (OpenSpec.ofChange wotsPublicsWrong)

/-- 'palaverlaw03.WotsRecovers': WHATEVER THE INPUT: true; the input reads as it did. -/
def wotsRecoversSpec : ChangeSpec := { name := "wotsRecovers", fn := fun _ => fun
  | [d1, d2] => { results := [.lit (.bool true)], args := [d1, d2] }
  | _ => none }
def wotsRecoversRow : OpenClaim := { program := "ytkpcobahkpiogaadoor", sum := "9a67e892ba732b5692ad8678b8f9ece663ec4e4f37dcb48ca00d63627798f9f4", func := "palaver/palaverlaw03.WotsRecovers", spec := "wotsRecovers", unfollowed := true, recurses := true, named := ["palaver/sha.first", "palaver/sha.words"], apart := false, laid := [("palaver/sha.first", laid_palaver_sha_first), ("palaver/sha.words", laid_palaver_sha_words)] }
def WotsRecoversSaid : Prop := wotsRecoversRow.holds Tryd.pinned (OpenSpec.ofChange wotsRecoversSpec)

/-- ITS FALSE NEIGHBOUR: 'it returns false'. Refute it at one input. -/
def wotsRecoversWrong : ChangeSpec := { name := "wotsRecovers", fn := fun _ => fun
  | [d1, d2] => { results := [.lit (.bool false)], args := [d1, d2] }
  | _ => none }
def WotsRecoversWrongFalsely : Prop := wotsRecoversRow.holds Tryd.pinned (OpenSpec.ofChange wotsRecoversWrong)

/-- 'palaverlaw03.WotsBack': WHATEVER THE INPUT: true; the input reads as it did. -/
def wotsBackSpec : ChangeSpec := { name := "wotsBack", fn := fun _ => fun
  | [d1, d2, d3] => { results := [.lit (.bool true)], args := [d1, d2, d3] }
  | _ => none }
def wotsBackRow : OpenClaim := { program := "ytkpcobahkpiogaadoor", sum := "9a67e892ba732b5692ad8678b8f9ece663ec4e4f37dcb48ca00d63627798f9f4", func := "palaver/palaverlaw03.WotsBack", spec := "wotsBack", unfollowed := true, recurses := true, named := ["palaver/sha.first", "palaver/sha.words"], apart := false, laid := [("palaver/sha.first", laid_palaver_sha_first), ("palaver/sha.words", laid_palaver_sha_words)] }
def WotsBackSaid : Prop := wotsBackRow.holds Tryd.pinned (OpenSpec.ofChange wotsBackSpec)

/-- ITS FALSE NEIGHBOUR: 'it returns false'. Refute it at one input. -/
def wotsBackWrong : ChangeSpec := { name := "wotsBack", fn := fun _ => fun
  | [d1, d2, d3] => { results := [.lit (.bool false)], args := [d1, d2, d3] }
  | _ => none }
def WotsBackWrongFalsely : Prop := wotsBackRow.holds Tryd.pinned (OpenSpec.ofChange wotsBackWrong)

/-- 'palaverlaw03.WotsLower': WHATEVER THE INPUT: true; the input reads as it did. -/
def wotsLowerSpec : ChangeSpec := { name := "wotsLower", fn := fun _ => fun
  | [d1, d2] => { results := [.lit (.bool true)], args := [d1, d2] }
  | _ => none }
def wotsLowerRow : OpenClaim := { program := "ytkpcobahkpiogaadoor", sum := "9a67e892ba732b5692ad8678b8f9ece663ec4e4f37dcb48ca00d63627798f9f4", func := "palaver/palaverlaw03.WotsLower", spec := "wotsLower", named := ["palaver/sha.first", "palaver/sha.words"], apart := false, laid := [("palaver/sha.first", laid_palaver_sha_first), ("palaver/sha.words", laid_palaver_sha_words)] }
def WotsLowerSaid : Prop := wotsLowerRow.holds Tryd.pinned (OpenSpec.ofChange wotsLowerSpec)

/-- ITS FALSE NEIGHBOUR: 'it returns false'. Refute it at one input. -/
def wotsLowerWrong : ChangeSpec := { name := "wotsLower", fn := fun _ => fun
  | [d1, d2] => { results := [.lit (.bool false)], args := [d1, d2] }
  | _ => none }
def WotsLowerWrongFalsely : Prop := wotsLowerRow.holds Tryd.pinned (OpenSpec.ofChange wotsLowerWrong)

/-- 'palaverlaw03.WotsTurned': WHATEVER THE INPUT: true; the input reads as it did. -/
def wotsTurnedSpec : ChangeSpec := { name := "wotsTurned", fn := fun _ => fun
  | [d1, d2, d3, d4, d5] => { results := [.lit (.bool true)], args := [d1, d2, d3, d4, d5] }
  | _ => none }
def wotsTurnedRow : OpenClaim := { program := "ytkpcobahkpiogaadoor", sum := "9a67e892ba732b5692ad8678b8f9ece663ec4e4f37dcb48ca00d63627798f9f4", func := "palaver/palaverlaw03.WotsTurned", spec := "wotsTurned", unfollowed := true, recurses := true, named := ["palaver/sha.first", "palaver/sha.words"], apart := false, laid := [("palaver/sha.first", laid_palaver_sha_first), ("palaver/sha.words", laid_palaver_sha_words)] }
def WotsTurnedSaid : Prop := wotsTurnedRow.holds Tryd.pinned (OpenSpec.ofChange wotsTurnedSpec)

/-- ITS FALSE NEIGHBOUR: 'it returns false'. Refute it at one input. -/
def wotsTurnedWrong : ChangeSpec := { name := "wotsTurned", fn := fun _ => fun
  | [d1, d2, d3, d4, d5] => { results := [.lit (.bool false)], args := [d1, d2, d3, d4, d5] }
  | _ => none }
def WotsTurnedWrongFalsely : Prop := wotsTurnedRow.holds Tryd.pinned (OpenSpec.ofChange wotsTurnedWrong)

/-- 'palaverlaw04.MerkleRoots': WHATEVER THE INPUT: true; the input reads as it did. -/
def merkleRootsSpec : ChangeSpec := { name := "merkleRoots", fn := fun _ => fun
  | [d] => { results := [.lit (.bool true)], args := [d] }
  | _ => none }
def merkleRootsRow : OpenClaim := { program := "ytkpcobahkpiogaadoor", sum := "9a67e892ba732b5692ad8678b8f9ece663ec4e4f37dcb48ca00d63627798f9f4", func := "palaver/palaverlaw04.MerkleRoots", spec := "merkleRoots", named := ["palaver/sha.first", "palaver/sha.words"], apart := false, laid := [("palaver/sha.first", laid_palaver_sha_first), ("palaver/sha.words", laid_palaver_sha_words)] }
def MerkleRootsSaid : Prop := merkleRootsRow.holds Tryd.pinned (OpenSpec.ofChange merkleRootsSpec)

/-- ITS FALSE NEIGHBOUR: 'it returns false'. Refute it at one input. -/
def merkleRootsWrong : ChangeSpec := { name := "merkleRoots", fn := fun _ => fun
  | [d] => { results := [.lit (.bool false)], args := [d] }
  | _ => none }
def MerkleRootsWrongFalsely : Prop := merkleRootsRow.holds Tryd.pinned (OpenSpec.ofChange merkleRootsWrong)

/-- 'palaverlaw04.MerklePaths': WHATEVER THE INPUT: true; the input reads as it did. -/
def merklePathsSpec : ChangeSpec := { name := "merklePaths", fn := fun _ => fun
  | [d1, d2] => { results := [.lit (.bool true)], args := [d1, d2] }
  | _ => none }
def merklePathsRow : OpenClaim := { program := "ytkpcobahkpiogaadoor", sum := "9a67e892ba732b5692ad8678b8f9ece663ec4e4f37dcb48ca00d63627798f9f4", func := "palaver/palaverlaw04.MerklePaths", spec := "merklePaths", named := ["palaver/sha.first", "palaver/sha.words"], apart := false, laid := [("palaver/sha.first", laid_palaver_sha_first), ("palaver/sha.words", laid_palaver_sha_words)] }
def MerklePathsSaid : Prop := merklePathsRow.holds Tryd.pinned (OpenSpec.ofChange merklePathsSpec)

/-- ITS FALSE NEIGHBOUR: 'it returns false'. Refute it at one input. -/
def merklePathsWrong : ChangeSpec := { name := "merklePaths", fn := fun _ => fun
  | [d1, d2] => { results := [.lit (.bool false)], args := [d1, d2] }
  | _ => none }
def MerklePathsWrongFalsely : Prop := merklePathsRow.holds Tryd.pinned (OpenSpec.ofChange merklePathsWrong)

/-- 'palaverlaw04.MerkleFolds': WHATEVER THE INPUT: true; the input reads as it did. -/
def merkleFoldsSpec : ChangeSpec := { name := "merkleFolds", fn := fun _ => fun
  | [d1, d2, d3] => { results := [.lit (.bool true)], args := [d1, d2, d3] }
  | _ => none }
def merkleFoldsRow : OpenClaim := { program := "ytkpcobahkpiogaadoor", sum := "9a67e892ba732b5692ad8678b8f9ece663ec4e4f37dcb48ca00d63627798f9f4", func := "palaver/palaverlaw04.MerkleFolds", spec := "merkleFolds", named := ["palaver/sha.first", "palaver/sha.words"], apart := false, laid := [("palaver/sha.first", laid_palaver_sha_first), ("palaver/sha.words", laid_palaver_sha_words)] }
def MerkleFoldsSaid : Prop := merkleFoldsRow.holds Tryd.pinned (OpenSpec.ofChange merkleFoldsSpec)

/-- ITS FALSE NEIGHBOUR: 'it returns false'. Refute it at one input. -/
def merkleFoldsWrong : ChangeSpec := { name := "merkleFolds", fn := fun _ => fun
  | [d1, d2, d3] => { results := [.lit (.bool false)], args := [d1, d2, d3] }
  | _ => none }
def MerkleFoldsWrongFalsely : Prop := merkleFoldsRow.holds Tryd.pinned (OpenSpec.ofChange merkleFoldsWrong)

/-- 'palaverlaw04.MerkleBack': WHATEVER THE INPUT: true; the input reads as it did. -/
def merkleBackSpec : ChangeSpec := { name := "merkleBack", fn := fun _ => fun
  | [d1, d2] => { results := [.lit (.bool true)], args := [d1, d2] }
  | _ => none }
def merkleBackRow : OpenClaim := { program := "ytkpcobahkpiogaadoor", sum := "9a67e892ba732b5692ad8678b8f9ece663ec4e4f37dcb48ca00d63627798f9f4", func := "palaver/palaverlaw04.MerkleBack", spec := "merkleBack", named := ["palaver/sha.first", "palaver/sha.words"], apart := false, laid := [("palaver/sha.first", laid_palaver_sha_first), ("palaver/sha.words", laid_palaver_sha_words)] }
def MerkleBackSaid : Prop := merkleBackRow.holds Tryd.pinned (OpenSpec.ofChange merkleBackSpec)

/-- ITS FALSE NEIGHBOUR: 'it returns false'. Refute it at one input. -/
def merkleBackWrong : ChangeSpec := { name := "merkleBack", fn := fun _ => fun
  | [d1, d2] => { results := [.lit (.bool false)], args := [d1, d2] }
  | _ => none }
def MerkleBackWrongFalsely : Prop := merkleBackRow.holds Tryd.pinned (OpenSpec.ofChange merkleBackWrong)

/-- 'palaverlaw04.MerkleBinds': WHATEVER THE INPUT: true; the input reads as it did. -/
def merkleBindsSpec : ChangeSpec := { name := "merkleBinds", fn := fun _ => fun
  | [d1, d2, d3, d4] => { results := [.lit (.bool true)], args := [d1, d2, d3, d4] }
  | _ => none }
def merkleBindsRow : OpenClaim := { program := "ytkpcobahkpiogaadoor", sum := "9a67e892ba732b5692ad8678b8f9ece663ec4e4f37dcb48ca00d63627798f9f4", func := "palaver/palaverlaw04.MerkleBinds", spec := "merkleBinds", named := ["palaver/sha.first", "palaver/sha.words"], apart := false, laid := [("palaver/sha.first", laid_palaver_sha_first), ("palaver/sha.words", laid_palaver_sha_words)] }
def MerkleBindsSaid : Prop := merkleBindsRow.holds Tryd.pinned (OpenSpec.ofChange merkleBindsSpec)

/-- ITS FALSE NEIGHBOUR: 'it returns false'. Refute it at one input. -/
def merkleBindsWrong : ChangeSpec := { name := "merkleBinds", fn := fun _ => fun
  | [d1, d2, d3, d4] => { results := [.lit (.bool false)], args := [d1, d2, d3, d4] }
  | _ => none }
def MerkleBindsWrongFalsely : Prop := merkleBindsRow.holds Tryd.pinned (OpenSpec.ofChange merkleBindsWrong)

/-- 'palaverlaw04.MerkleApart': WHATEVER THE INPUT: true; the input reads as it did. -/
def merkleApartSpec : ChangeSpec := { name := "merkleApart", fn := fun _ => fun
  | [d1, d2, d3] => { results := [.lit (.bool true)], args := [d1, d2, d3] }
  | _ => none }
def merkleApartRow : OpenClaim := { program := "ytkpcobahkpiogaadoor", sum := "9a67e892ba732b5692ad8678b8f9ece663ec4e4f37dcb48ca00d63627798f9f4", func := "palaver/palaverlaw04.MerkleApart", spec := "merkleApart", named := ["palaver/sha.first", "palaver/sha.words"], apart := false, laid := [("palaver/sha.first", laid_palaver_sha_first), ("palaver/sha.words", laid_palaver_sha_words)] }
def MerkleApartSaid : Prop := merkleApartRow.holds Tryd.pinned (OpenSpec.ofChange merkleApartSpec)

/-- ITS FALSE NEIGHBOUR: 'it returns false'. Refute it at one input. -/
def merkleApartWrong : ChangeSpec := { name := "merkleApart", fn := fun _ => fun
  | [d1, d2, d3] => { results := [.lit (.bool false)], args := [d1, d2, d3] }
  | _ => none }
def MerkleApartWrongFalsely : Prop := merkleApartRow.holds Tryd.pinned (OpenSpec.ofChange merkleApartWrong)

/- THE SECOND FORM. 'bulk': how many values and letters a reading holds, each counted each time it is reached (what is shared counts as often as it is met; a slice's spare places count too). A statement '..UptoSaid' is the law's where the arguments, and the package variables that the reading takes, are together of bulk at most 1048576: NARROWER than '..Said'. Prove '..Said' where nothing that the law and all that it calls make is longer than what came in: it says more and counts as full. Else prove '..UptoSaid'. A law counts once. -/
mutual
def uptoBulk {H : Type} : DataW H → Nat
  | .lit (.string bytes) => bytes.length + 1
  | .lit _ => 1
  | .nil => 1
  | .ptr d => uptoBulk d + 1
  | .slice elems spare => uptoBulkAll elems + uptoBulkAll spare + 1
  | .agg parts => uptoBulkAll parts + 1
  | .iface _ d => uptoBulk d + 1
  | .map entries => uptoBulkEntries entries + 1
  | .held _ => 1
def uptoBulkAll {H : Type} : List (DataW H) → Nat
  | [] => 0
  | d :: r => uptoBulk d + uptoBulkAll r
def uptoBulkEntries {H : Type} : List (Lit × DataW H) → Nat
  | [] => 0
  | x :: r => uptoBulkEntry x + uptoBulkEntries r
def uptoBulkEntry {H : Type} : Lit × DataW H → Nat
  | (.string bytes, d) => bytes.length + uptoBulk d + 1
  | (_, d) => uptoBulk d + 1
 end
def uptoSmall : (H : Type) → List (DataW H) → Bool := fun _ ds => decide (uptoBulkAll ds ≤ 1048576)
def OpenSpec.upto (s : _root_.Go.ChangeSpec) : _root_.Go.OpenSpec := { _root_.Go.OpenSpec.ofChange s with cond := some uptoSmall }

/-- 'palaverlaw02.ShaSums', WHERE WHAT IT READS IS OF BULK AT MOST 1048576: true; the input reads as it did. -/
def shaSumsUptoRow : OpenClaim := { program := "ytkpcobahkpiogaadoor", sum := "9a67e892ba732b5692ad8678b8f9ece663ec4e4f37dcb48ca00d63627798f9f4", func := "palaver/palaverlaw02.ShaSums", spec := "shaSums", named := ["palaver/sha.first", "palaver/sha.words"], apart := false, laid := [("palaver/sha.first", laid_palaver_sha_first), ("palaver/sha.words", laid_palaver_sha_words)], narrowed := true }
def ShaSumsUptoSaid : Prop := shaSumsUptoRow.holds Tryd.pinned (OpenSpec.upto shaSumsSpec)

/-- 'palaverlaw02.ShaTags', WHERE WHAT IT READS IS OF BULK AT MOST 1048576: true; the input reads as it did. -/
def shaTagsUptoRow : OpenClaim := { program := "ytkpcobahkpiogaadoor", sum := "9a67e892ba732b5692ad8678b8f9ece663ec4e4f37dcb48ca00d63627798f9f4", func := "palaver/palaverlaw02.ShaTags", spec := "shaTags", named := ["palaver/sha.first", "palaver/sha.words"], apart := false, laid := [("palaver/sha.first", laid_palaver_sha_first), ("palaver/sha.words", laid_palaver_sha_words)], narrowed := true }
def ShaTagsUptoSaid : Prop := shaTagsUptoRow.holds Tryd.pinned (OpenSpec.upto shaTagsSpec)

/-- 'palaverlaw02.ShaClashes', WHERE WHAT IT READS IS OF BULK AT MOST 1048576: true; the input reads as it did. -/
def shaClashesUptoRow : OpenClaim := { program := "ytkpcobahkpiogaadoor", sum := "9a67e892ba732b5692ad8678b8f9ece663ec4e4f37dcb48ca00d63627798f9f4", func := "palaver/palaverlaw02.ShaClashes", spec := "shaClashes", unfollowed := true, recurses := true, named := ["palaver/sha.first", "palaver/sha.words"], apart := false, laid := [("palaver/sha.first", laid_palaver_sha_first), ("palaver/sha.words", laid_palaver_sha_words)], narrowed := true }
def ShaClashesUptoSaid : Prop := shaClashesUptoRow.holds Tryd.pinned (OpenSpec.upto shaClashesSpec)

/-- 'palaverlaw02.ShaRoots', WHERE WHAT IT READS IS OF BULK AT MOST 1048576: true; the input reads as it did. -/
def shaRootsUptoRow : OpenClaim := { program := "ytkpcobahkpiogaadoor", sum := "9a67e892ba732b5692ad8678b8f9ece663ec4e4f37dcb48ca00d63627798f9f4", func := "palaver/palaverlaw02.ShaRoots", spec := "shaRoots", named := ["palaver/sha.first", "palaver/sha.words"], apart := false, laid := [("palaver/sha.first", laid_palaver_sha_first), ("palaver/sha.words", laid_palaver_sha_words)], narrowed := true }
def ShaRootsUptoSaid : Prop := shaRootsUptoRow.holds Tryd.pinned (OpenSpec.upto shaRootsSpec)

/-- 'palaverlaw03.WotsDigits', WHERE WHAT IT READS IS OF BULK AT MOST 1048576: true; the input reads as it did. -/
def wotsDigitsUptoRow : OpenClaim := { program := "ytkpcobahkpiogaadoor", sum := "9a67e892ba732b5692ad8678b8f9ece663ec4e4f37dcb48ca00d63627798f9f4", func := "palaver/palaverlaw03.WotsDigits", spec := "wotsDigits", named := ["palaver/sha.first", "palaver/sha.words"], apart := false, laid := [("palaver/sha.first", laid_palaver_sha_first), ("palaver/sha.words", laid_palaver_sha_words)], narrowed := true }
def WotsDigitsUptoSaid : Prop := wotsDigitsUptoRow.holds Tryd.pinned (OpenSpec.upto wotsDigitsSpec)

/-- 'palaverlaw03.WotsChains', WHERE WHAT IT READS IS OF BULK AT MOST 1048576: true; the input reads as it did. -/
def wotsChainsUptoRow : OpenClaim := { program := "ytkpcobahkpiogaadoor", sum := "9a67e892ba732b5692ad8678b8f9ece663ec4e4f37dcb48ca00d63627798f9f4", func := "palaver/palaverlaw03.WotsChains", spec := "wotsChains", named := ["palaver/sha.first", "palaver/sha.words"], apart := false, laid := [("palaver/sha.first", laid_palaver_sha_first), ("palaver/sha.words", laid_palaver_sha_words)], narrowed := true }
def WotsChainsUptoSaid : Prop := wotsChainsUptoRow.holds Tryd.pinned (OpenSpec.upto wotsChainsSpec)

/-- 'palaverlaw03.WotsSigns', WHERE WHAT IT READS IS OF BULK AT MOST 1048576: true; the input reads as it did. -/
def wotsSignsUptoRow : OpenClaim := { program := "ytkpcobahkpiogaadoor", sum := "9a67e892ba732b5692ad8678b8f9ece663ec4e4f37dcb48ca00d63627798f9f4", func := "palaver/palaverlaw03.WotsSigns", spec := "wotsSigns", unfollowed := true, recurses := true, named := ["palaver/sha.first", "palaver/sha.words"], apart := false, laid := [("palaver/sha.first", laid_palaver_sha_first), ("palaver/sha.words", laid_palaver_sha_words)], narrowed := true }
def WotsSignsUptoSaid : Prop := wotsSignsUptoRow.holds Tryd.pinned (OpenSpec.upto wotsSignsSpec)

/-- 'palaverlaw03.WotsPublics', WHERE WHAT IT READS IS OF BULK AT MOST 1048576: true; the input reads as it did. -/
def wotsPublicsUptoRow : OpenClaim := { program := "ytkpcobahkpiogaadoor", sum := "9a67e892ba732b5692ad8678b8f9ece663ec4e4f37dcb48ca00d63627798f9f4", func := "palaver/palaverlaw03.WotsPublics", spec := "wotsPublics", unfollowed := true, recurses := true, named := ["palaver/sha.first", "palaver/sha.words"], apart := false, laid := [("palaver/sha.first", laid_palaver_sha_first), ("palaver/sha.words", laid_palaver_sha_words)], narrowed := true }
def WotsPublicsUptoSaid : Prop := wotsPublicsUptoRow.holds Tryd.pinned (OpenSpec.upto wotsPublicsSpec)

/-- 'palaverlaw03.WotsRecovers', WHERE WHAT IT READS IS OF BULK AT MOST 1048576: true; the input reads as it did. -/
def wotsRecoversUptoRow : OpenClaim := { program := "ytkpcobahkpiogaadoor", sum := "9a67e892ba732b5692ad8678b8f9ece663ec4e4f37dcb48ca00d63627798f9f4", func := "palaver/palaverlaw03.WotsRecovers", spec := "wotsRecovers", unfollowed := true, recurses := true, named := ["palaver/sha.first", "palaver/sha.words"], apart := false, laid := [("palaver/sha.first", laid_palaver_sha_first), ("palaver/sha.words", laid_palaver_sha_words)], narrowed := true }
def WotsRecoversUptoSaid : Prop := wotsRecoversUptoRow.holds Tryd.pinned (OpenSpec.upto wotsRecoversSpec)

/-- 'palaverlaw03.WotsBack', WHERE WHAT IT READS IS OF BULK AT MOST 1048576: true; the input reads as it did. -/
def wotsBackUptoRow : OpenClaim := { program := "ytkpcobahkpiogaadoor", sum := "9a67e892ba732b5692ad8678b8f9ece663ec4e4f37dcb48ca00d63627798f9f4", func := "palaver/palaverlaw03.WotsBack", spec := "wotsBack", unfollowed := true, recurses := true, named := ["palaver/sha.first", "palaver/sha.words"], apart := false, laid := [("palaver/sha.first", laid_palaver_sha_first), ("palaver/sha.words", laid_palaver_sha_words)], narrowed := true }
def WotsBackUptoSaid : Prop := wotsBackUptoRow.holds Tryd.pinned (OpenSpec.upto wotsBackSpec)

/-- 'palaverlaw03.WotsLower', WHERE WHAT IT READS IS OF BULK AT MOST 1048576: true; the input reads as it did. -/
def wotsLowerUptoRow : OpenClaim := { program := "ytkpcobahkpiogaadoor", sum := "9a67e892ba732b5692ad8678b8f9ece663ec4e4f37dcb48ca00d63627798f9f4", func := "palaver/palaverlaw03.WotsLower", spec := "wotsLower", named := ["palaver/sha.first", "palaver/sha.words"], apart := false, laid := [("palaver/sha.first", laid_palaver_sha_first), ("palaver/sha.words", laid_palaver_sha_words)], narrowed := true }
def WotsLowerUptoSaid : Prop := wotsLowerUptoRow.holds Tryd.pinned (OpenSpec.upto wotsLowerSpec)

/-- 'palaverlaw03.WotsTurned', WHERE WHAT IT READS IS OF BULK AT MOST 1048576: true; the input reads as it did. -/
def wotsTurnedUptoRow : OpenClaim := { program := "ytkpcobahkpiogaadoor", sum := "9a67e892ba732b5692ad8678b8f9ece663ec4e4f37dcb48ca00d63627798f9f4", func := "palaver/palaverlaw03.WotsTurned", spec := "wotsTurned", unfollowed := true, recurses := true, named := ["palaver/sha.first", "palaver/sha.words"], apart := false, laid := [("palaver/sha.first", laid_palaver_sha_first), ("palaver/sha.words", laid_palaver_sha_words)], narrowed := true }
def WotsTurnedUptoSaid : Prop := wotsTurnedUptoRow.holds Tryd.pinned (OpenSpec.upto wotsTurnedSpec)

/-- 'palaverlaw04.MerkleRoots', WHERE WHAT IT READS IS OF BULK AT MOST 1048576: true; the input reads as it did. -/
def merkleRootsUptoRow : OpenClaim := { program := "ytkpcobahkpiogaadoor", sum := "9a67e892ba732b5692ad8678b8f9ece663ec4e4f37dcb48ca00d63627798f9f4", func := "palaver/palaverlaw04.MerkleRoots", spec := "merkleRoots", named := ["palaver/sha.first", "palaver/sha.words"], apart := false, laid := [("palaver/sha.first", laid_palaver_sha_first), ("palaver/sha.words", laid_palaver_sha_words)], narrowed := true }
def MerkleRootsUptoSaid : Prop := merkleRootsUptoRow.holds Tryd.pinned (OpenSpec.upto merkleRootsSpec)

/-- 'palaverlaw04.MerklePaths', WHERE WHAT IT READS IS OF BULK AT MOST 1048576: true; the input reads as it did. -/
def merklePathsUptoRow : OpenClaim := { program := "ytkpcobahkpiogaadoor", sum := "9a67e892ba732b5692ad8678b8f9ece663ec4e4f37dcb48ca00d63627798f9f4", func := "palaver/palaverlaw04.MerklePaths", spec := "merklePaths", named := ["palaver/sha.first", "palaver/sha.words"], apart := false, laid := [("palaver/sha.first", laid_palaver_sha_first), ("palaver/sha.words", laid_palaver_sha_words)], narrowed := true }
def MerklePathsUptoSaid : Prop := merklePathsUptoRow.holds Tryd.pinned (OpenSpec.upto merklePathsSpec)

/-- 'palaverlaw04.MerkleFolds', WHERE WHAT IT READS IS OF BULK AT MOST 1048576: true; the input reads as it did. -/
def merkleFoldsUptoRow : OpenClaim := { program := "ytkpcobahkpiogaadoor", sum := "9a67e892ba732b5692ad8678b8f9ece663ec4e4f37dcb48ca00d63627798f9f4", func := "palaver/palaverlaw04.MerkleFolds", spec := "merkleFolds", named := ["palaver/sha.first", "palaver/sha.words"], apart := false, laid := [("palaver/sha.first", laid_palaver_sha_first), ("palaver/sha.words", laid_palaver_sha_words)], narrowed := true }
def MerkleFoldsUptoSaid : Prop := merkleFoldsUptoRow.holds Tryd.pinned (OpenSpec.upto merkleFoldsSpec)

/-- 'palaverlaw04.MerkleBack', WHERE WHAT IT READS IS OF BULK AT MOST 1048576: true; the input reads as it did. -/
def merkleBackUptoRow : OpenClaim := { program := "ytkpcobahkpiogaadoor", sum := "9a67e892ba732b5692ad8678b8f9ece663ec4e4f37dcb48ca00d63627798f9f4", func := "palaver/palaverlaw04.MerkleBack", spec := "merkleBack", named := ["palaver/sha.first", "palaver/sha.words"], apart := false, laid := [("palaver/sha.first", laid_palaver_sha_first), ("palaver/sha.words", laid_palaver_sha_words)], narrowed := true }
def MerkleBackUptoSaid : Prop := merkleBackUptoRow.holds Tryd.pinned (OpenSpec.upto merkleBackSpec)

/-- 'palaverlaw04.MerkleBinds', WHERE WHAT IT READS IS OF BULK AT MOST 1048576: true; the input reads as it did. -/
def merkleBindsUptoRow : OpenClaim := { program := "ytkpcobahkpiogaadoor", sum := "9a67e892ba732b5692ad8678b8f9ece663ec4e4f37dcb48ca00d63627798f9f4", func := "palaver/palaverlaw04.MerkleBinds", spec := "merkleBinds", named := ["palaver/sha.first", "palaver/sha.words"], apart := false, laid := [("palaver/sha.first", laid_palaver_sha_first), ("palaver/sha.words", laid_palaver_sha_words)], narrowed := true }
def MerkleBindsUptoSaid : Prop := merkleBindsUptoRow.holds Tryd.pinned (OpenSpec.upto merkleBindsSpec)

/-- 'palaverlaw04.MerkleApart', WHERE WHAT IT READS IS OF BULK AT MOST 1048576: true; the input reads as it did. -/
def merkleApartUptoRow : OpenClaim := { program := "ytkpcobahkpiogaadoor", sum := "9a67e892ba732b5692ad8678b8f9ece663ec4e4f37dcb48ca00d63627798f9f4", func := "palaver/palaverlaw04.MerkleApart", spec := "merkleApart", named := ["palaver/sha.first", "palaver/sha.words"], apart := false, laid := [("palaver/sha.first", laid_palaver_sha_first), ("palaver/sha.words", laid_palaver_sha_words)], narrowed := true }
def MerkleApartUptoSaid : Prop := merkleApartUptoRow.holds Tryd.pinned (OpenSpec.upto merkleApartSpec)

end Rows
end Go.Proofs.YtkpcobahkpiogaaDoor
