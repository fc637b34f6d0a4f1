/-
  No cell of these rows narrows 'for every input' (looked for: loops, veiled, ifaces, maps, wideKeys, modest, calm, conditions, laid).
  DERIVED. THE GIVEN ROWS OF THIS SEAT. 11 by the template 'for every input the law returns true; each argument reads behind the call as it read before'; 0 by the template 'total and deterministic' (their statements: YtblojfgbdmnccaaTotals.lean).
  GIVEN WITH THE SEED: the statements are not yours to turn. If you find one false, say at which input.
  Laid BY PROGRAM, IN A SANDBOX (cutbox-rows.mjs): the forced cells as the released guide's own fill.sh prints them over the translation 598e7ac85d383081… (all of the seat's roots in one cut). By AI agents, Wed Nov 11 2026. No macro, syntax, notation, axiom, sorry.
-/
import Derived.Test.YtblojfgbdmnccaaChecked
import GoSem.Claim
import GoSem.ClaimJoined
import GoSem.ClaimMapViews
import Derived.JoinedTies
import Derived.KernelRfl
namespace Go.Proofs.Ytblojfgbdmnccaa
/- THE CELL 'sum', in the pinned program and in every row, IS THE sha256 OF THE DUMP (.gsa) THAT YtblojfgbdmnccaaProg.lean LOADS. Nothing in Lean hashes anything: it is a label: what it is worth is what the hold of that sum in a sandbox is worth. -/
noncomputable def Try.pinned : Pinned := { name := "ytblojfgbdmnccaa", sum := "598e7ac85d383081f9ae0642b0371cf0e62fdbac95ddc1de3889fab36f147add", checked := Try.checked }
namespace Rows
def none {H : Type} : Left H := { results := [], args := [] }

/-- 'portmanteaulaw04.PrefixReads': WHATEVER THE INPUT: true; the input reads as it did. -/
def prefixReadsSpec : ChangeSpec := { name := "prefixReads", fn := fun _ => fun
  | [d1, d2, d3, d4] => { results := [.lit (.bool true)], args := [d1, d2, d3, d4] }
  | _ => none }
def prefixReadsRow : OpenClaim := { program := "ytblojfgbdmnccaa", sum := "598e7ac85d383081f9ae0642b0371cf0e62fdbac95ddc1de3889fab36f147add", func := "portmanteau/portmanteaulaw04.PrefixReads", spec := "prefixReads", plainKeys := false, apart := false }
def PrefixReadsSaid : Prop := prefixReadsRow.holds Try.pinned (OpenSpec.ofChange prefixReadsSpec)

/-- ITS FALSE NEIGHBOUR: 'it returns false'. Refute it at one input. -/
def prefixReadsWrong : ChangeSpec := { name := "prefixReads", fn := fun _ => fun
  | [d1, d2, d3, d4] => { results := [.lit (.bool false)], args := [d1, d2, d3, d4] }
  | _ => none }
def PrefixReadsWrongFalsely : Prop := prefixReadsRow.holds Try.pinned (OpenSpec.ofChange prefixReadsWrong)

/-- 'portmanteaulaw07.MatchExpands': WHATEVER THE INPUT: true; the input reads as it did. -/
def matchExpandsSpec : ChangeSpec := { name := "matchExpands", fn := fun _ => fun
  | [d1, d2] => { results := [.lit (.bool true)], args := [d1, d2] }
  | _ => none }
def matchExpandsRow : OpenClaim := { program := "ytblojfgbdmnccaa", sum := "598e7ac85d383081f9ae0642b0371cf0e62fdbac95ddc1de3889fab36f147add", func := "portmanteau/portmanteaulaw07.MatchExpands", spec := "matchExpands", plainKeys := false, apart := false }
def MatchExpandsSaid : Prop := matchExpandsRow.holds Try.pinned (OpenSpec.ofChange matchExpandsSpec)

/-- ITS FALSE NEIGHBOUR: 'it returns false'. Refute it at one input. -/
def matchExpandsWrong : ChangeSpec := { name := "matchExpands", fn := fun _ => fun
  | [d1, d2] => { results := [.lit (.bool false)], args := [d1, d2] }
  | _ => none }
def MatchExpandsWrongFalsely : Prop := matchExpandsRow.holds Try.pinned (OpenSpec.ofChange matchExpandsWrong)

/-- 'portmanteaulaw07.MatchFinds': WHATEVER THE INPUT: true; the input reads as it did. -/
def matchFindsSpec : ChangeSpec := { name := "matchFinds", fn := fun _ => fun
  | [d1, d2] => { results := [.lit (.bool true)], args := [d1, d2] }
  | _ => none }
def matchFindsRow : OpenClaim := { program := "ytblojfgbdmnccaa", sum := "598e7ac85d383081f9ae0642b0371cf0e62fdbac95ddc1de3889fab36f147add", func := "portmanteau/portmanteaulaw07.MatchFinds", spec := "matchFinds", plainKeys := false, apart := false }
def MatchFindsSaid : Prop := matchFindsRow.holds Try.pinned (OpenSpec.ofChange matchFindsSpec)

/-- ITS FALSE NEIGHBOUR: 'it returns false'. Refute it at one input. -/
def matchFindsWrong : ChangeSpec := { name := "matchFinds", fn := fun _ => fun
  | [d1, d2] => { results := [.lit (.bool false)], args := [d1, d2] }
  | _ => none }
def MatchFindsWrongFalsely : Prop := matchFindsRow.holds Try.pinned (OpenSpec.ofChange matchFindsWrong)

/-- 'portmanteaulaw07.MatchCopies': WHATEVER THE INPUT: true; the input reads as it did. -/
def matchCopiesSpec : ChangeSpec := { name := "matchCopies", fn := fun _ => fun
  | [d1, d2, d3, d4, d5] => { results := [.lit (.bool true)], args := [d1, d2, d3, d4, d5] }
  | _ => none }
def matchCopiesRow : OpenClaim := { program := "ytblojfgbdmnccaa", sum := "598e7ac85d383081f9ae0642b0371cf0e62fdbac95ddc1de3889fab36f147add", func := "portmanteau/portmanteaulaw07.MatchCopies", spec := "matchCopies", plainKeys := false, apart := false }
def MatchCopiesSaid : Prop := matchCopiesRow.holds Try.pinned (OpenSpec.ofChange matchCopiesSpec)

/-- ITS FALSE NEIGHBOUR: 'it returns false'. Refute it at one input. -/
def matchCopiesWrong : ChangeSpec := { name := "matchCopies", fn := fun _ => fun
  | [d1, d2, d3, d4, d5] => { results := [.lit (.bool false)], args := [d1, d2, d3, d4, d5] }
  | _ => none }
def MatchCopiesWrongFalsely : Prop := matchCopiesRow.holds Try.pinned (OpenSpec.ofChange matchCopiesWrong)

/-- 'portmanteaulaw07.MatchSame': WHATEVER THE INPUT: true; the input reads as it did. -/
def matchSameSpec : ChangeSpec := { name := "matchSame", fn := fun _ => fun
  | [d1, d2, d3] => { results := [.lit (.bool true)], args := [d1, d2, d3] }
  | _ => none }
def matchSameRow : OpenClaim := { program := "ytblojfgbdmnccaa", sum := "598e7ac85d383081f9ae0642b0371cf0e62fdbac95ddc1de3889fab36f147add", func := "portmanteau/portmanteaulaw07.MatchSame", spec := "matchSame", plainKeys := false, apart := false }
def MatchSameSaid : Prop := matchSameRow.holds Try.pinned (OpenSpec.ofChange matchSameSpec)

/-- ITS FALSE NEIGHBOUR: 'it returns false'. Refute it at one input. -/
def matchSameWrong : ChangeSpec := { name := "matchSame", fn := fun _ => fun
  | [d1, d2, d3] => { results := [.lit (.bool false)], args := [d1, d2, d3] }
  | _ => none }
def MatchSameWrongFalsely : Prop := matchSameRow.holds Try.pinned (OpenSpec.ofChange matchSameWrong)

/-- 'portmanteaulaw07.MatchChains': WHATEVER THE INPUT: true; the input reads as it did. -/
def matchChainsSpec : ChangeSpec := { name := "matchChains", fn := fun _ => fun
  | [d1, d2, d3, d4] => { results := [.lit (.bool true)], args := [d1, d2, d3, d4] }
  | _ => none }
def matchChainsRow : OpenClaim := { program := "ytblojfgbdmnccaa", sum := "598e7ac85d383081f9ae0642b0371cf0e62fdbac95ddc1de3889fab36f147add", func := "portmanteau/portmanteaulaw07.MatchChains", spec := "matchChains", plainKeys := false, apart := false }
def MatchChainsSaid : Prop := matchChainsRow.holds Try.pinned (OpenSpec.ofChange matchChainsSpec)

/-- ITS FALSE NEIGHBOUR: 'it returns false'. Refute it at one input. -/
def matchChainsWrong : ChangeSpec := { name := "matchChains", fn := fun _ => fun
  | [d1, d2, d3, d4] => { results := [.lit (.bool false)], args := [d1, d2, d3, d4] }
  | _ => none }
def MatchChainsWrongFalsely : Prop := matchChainsRow.holds Try.pinned (OpenSpec.ofChange matchChainsWrong)

/-- 'portmanteaulaw07.MatchLong': WHATEVER THE INPUT: true; the input reads as it did. -/
def matchLongSpec : ChangeSpec := { name := "matchLong", fn := fun _ => fun
  | [] => { results := [.lit (.bool true)], args := [] }
  | _ => none }
def matchLongRow : OpenClaim := { program := "ytblojfgbdmnccaa", sum := "598e7ac85d383081f9ae0642b0371cf0e62fdbac95ddc1de3889fab36f147add", func := "portmanteau/portmanteaulaw07.MatchLong", spec := "matchLong", plainKeys := false, apart := false }
def MatchLongSaid : Prop := matchLongRow.holds Try.pinned (OpenSpec.ofChange matchLongSpec)

/-- ITS FALSE NEIGHBOUR: 'it returns false'. Refute it at one input. -/
def matchLongWrong : ChangeSpec := { name := "matchLong", fn := fun _ => fun
  | [] => { results := [.lit (.bool false)], args := [] }
  | _ => none }
def MatchLongWrongFalsely : Prop := matchLongRow.holds Try.pinned (OpenSpec.ofChange matchLongWrong)

/-- 'portmanteaulaw08.BlockSigns': WHATEVER THE INPUT: true; the input reads as it did. -/
def blockSignsSpec : ChangeSpec := { name := "blockSigns", fn := fun _ => fun
  | [d1, d2] => { results := [.lit (.bool true)], args := [d1, d2] }
  | _ => none }
def blockSignsRow : OpenClaim := { program := "ytblojfgbdmnccaa", sum := "598e7ac85d383081f9ae0642b0371cf0e62fdbac95ddc1de3889fab36f147add", func := "portmanteau/portmanteaulaw08.BlockSigns", spec := "blockSigns", unfollowed := true, recurses := true, plainKeys := false, apart := false }
def BlockSignsSaid : Prop := blockSignsRow.holds Try.pinned (OpenSpec.ofChange blockSignsSpec)

/-- ITS FALSE NEIGHBOUR: 'it returns false'. Refute it at one input. -/
def blockSignsWrong : ChangeSpec := { name := "blockSigns", fn := fun _ => fun
  | [d1, d2] => { results := [.lit (.bool false)], args := [d1, d2] }
  | _ => none }
def BlockSignsWrongFalsely : Prop := blockSignsRow.holds Try.pinned (OpenSpec.ofChange blockSignsWrong)

/-- 'portmanteaulaw08.BlockReads': WHATEVER THE INPUT: true; the input reads as it did. -/
def blockReadsSpec : ChangeSpec := { name := "blockReads", fn := fun _ => fun
  | [d1, d2, d3] => { results := [.lit (.bool true)], args := [d1, d2, d3] }
  | _ => none }
def blockReadsRow : OpenClaim := { program := "ytblojfgbdmnccaa", sum := "598e7ac85d383081f9ae0642b0371cf0e62fdbac95ddc1de3889fab36f147add", func := "portmanteau/portmanteaulaw08.BlockReads", spec := "blockReads", unfollowed := true, recurses := true, plainKeys := false, apart := false }
def BlockReadsSaid : Prop := blockReadsRow.holds Try.pinned (OpenSpec.ofChange blockReadsSpec)

/-- ITS FALSE NEIGHBOUR: 'it returns false'. Refute it at one input. -/
def blockReadsWrong : ChangeSpec := { name := "blockReads", fn := fun _ => fun
  | [d1, d2, d3] => { results := [.lit (.bool false)], args := [d1, d2, d3] }
  | _ => none }
def BlockReadsWrongFalsely : Prop := blockReadsRow.holds Try.pinned (OpenSpec.ofChange blockReadsWrong)

/-- 'portmanteaulaw08.BlockSizes': WHATEVER THE INPUT: true; the input reads as it did. -/
def blockSizesSpec : ChangeSpec := { name := "blockSizes", fn := fun _ => fun
  | [d1, d2, d3, d4] => { results := [.lit (.bool true)], args := [d1, d2, d3, d4] }
  | _ => none }
def blockSizesRow : OpenClaim := { program := "ytblojfgbdmnccaa", sum := "598e7ac85d383081f9ae0642b0371cf0e62fdbac95ddc1de3889fab36f147add", func := "portmanteau/portmanteaulaw08.BlockSizes", spec := "blockSizes", unfollowed := true, recurses := true, plainKeys := false, apart := false }
def BlockSizesSaid : Prop := blockSizesRow.holds Try.pinned (OpenSpec.ofChange blockSizesSpec)

/-- ITS FALSE NEIGHBOUR: 'it returns false'. Refute it at one input. -/
def blockSizesWrong : ChangeSpec := { name := "blockSizes", fn := fun _ => fun
  | [d1, d2, d3, d4] => { results := [.lit (.bool false)], args := [d1, d2, d3, d4] }
  | _ => none }
def BlockSizesWrongFalsely : Prop := blockSizesRow.holds Try.pinned (OpenSpec.ofChange blockSizesWrong)

/-- 'portmanteaulaw08.BlockShort': WHATEVER THE INPUT: true; the input reads as it did. -/
def blockShortSpec : ChangeSpec := { name := "blockShort", fn := fun _ => fun
  | [d] => { results := [.lit (.bool true)], args := [d] }
  | _ => none }
def blockShortRow : OpenClaim := { program := "ytblojfgbdmnccaa", sum := "598e7ac85d383081f9ae0642b0371cf0e62fdbac95ddc1de3889fab36f147add", func := "portmanteau/portmanteaulaw08.BlockShort", spec := "blockShort", unfollowed := true, recurses := true, plainKeys := false, apart := false }
def BlockShortSaid : Prop := blockShortRow.holds Try.pinned (OpenSpec.ofChange blockShortSpec)

/-- ITS FALSE NEIGHBOUR: 'it returns false'. Refute it at one input. -/
def blockShortWrong : ChangeSpec := { name := "blockShort", fn := fun _ => fun
  | [d] => { results := [.lit (.bool false)], args := [d] }
  | _ => none }
def BlockShortWrongFalsely : Prop := blockShortRow.holds Try.pinned (OpenSpec.ofChange blockShortWrong)

/- THE SECOND FORM. 'bulk': how many values and letters a reading holds, each counted each time it is reached (what is shared counts as often as it is met; a slice's spare places count too). A statement '..UptoSaid' is the law's where the arguments, and the package variables that the reading takes, are together of bulk at most 1048576: NARROWER than '..Said'. Prove '..Said' where nothing that the law and all that it calls make is longer than what came in: it says more and counts as full. Else prove '..UptoSaid'. A law counts once. -/
mutual
def uptoBulk {H : Type} : DataW H → Nat
  | .lit (.string bytes) => bytes.length + 1
  | .lit _ => 1
  | .nil => 1
  | .ptr d => uptoBulk d + 1
  | .slice elems spare => uptoBulkAll elems + uptoBulkAll spare + 1
  | .agg parts => uptoBulkAll parts + 1
  | .iface _ d => uptoBulk d + 1
  | .map entries => uptoBulkEntries entries + 1
  | .held _ => 1
def uptoBulkAll {H : Type} : List (DataW H) → Nat
  | [] => 0
  | d :: r => uptoBulk d + uptoBulkAll r
def uptoBulkEntries {H : Type} : List (Lit × DataW H) → Nat
  | [] => 0
  | x :: r => uptoBulkEntry x + uptoBulkEntries r
def uptoBulkEntry {H : Type} : Lit × DataW H → Nat
  | (.string bytes, d) => bytes.length + uptoBulk d + 1
  | (_, d) => uptoBulk d + 1
 end
def uptoSmall : (H : Type) → List (DataW H) → Bool := fun _ ds => decide (uptoBulkAll ds ≤ 1048576)
def OpenSpec.upto (s : _root_.Go.ChangeSpec) : _root_.Go.OpenSpec := { _root_.Go.OpenSpec.ofChange s with cond := some uptoSmall }

/-- 'portmanteaulaw04.PrefixReads', WHERE WHAT IT READS IS OF BULK AT MOST 1048576: true; the input reads as it did. -/
def prefixReadsUptoRow : OpenClaim := { program := "ytblojfgbdmnccaa", sum := "598e7ac85d383081f9ae0642b0371cf0e62fdbac95ddc1de3889fab36f147add", func := "portmanteau/portmanteaulaw04.PrefixReads", spec := "prefixReads", plainKeys := false, apart := false, narrowed := true }
def PrefixReadsUptoSaid : Prop := prefixReadsUptoRow.holds Try.pinned (OpenSpec.upto prefixReadsSpec)

/-- 'portmanteaulaw07.MatchExpands', WHERE WHAT IT READS IS OF BULK AT MOST 1048576: true; the input reads as it did. -/
def matchExpandsUptoRow : OpenClaim := { program := "ytblojfgbdmnccaa", sum := "598e7ac85d383081f9ae0642b0371cf0e62fdbac95ddc1de3889fab36f147add", func := "portmanteau/portmanteaulaw07.MatchExpands", spec := "matchExpands", plainKeys := false, apart := false, narrowed := true }
def MatchExpandsUptoSaid : Prop := matchExpandsUptoRow.holds Try.pinned (OpenSpec.upto matchExpandsSpec)

/-- 'portmanteaulaw07.MatchFinds', WHERE WHAT IT READS IS OF BULK AT MOST 1048576: true; the input reads as it did. -/
def matchFindsUptoRow : OpenClaim := { program := "ytblojfgbdmnccaa", sum := "598e7ac85d383081f9ae0642b0371cf0e62fdbac95ddc1de3889fab36f147add", func := "portmanteau/portmanteaulaw07.MatchFinds", spec := "matchFinds", plainKeys := false, apart := false, narrowed := true }
def MatchFindsUptoSaid : Prop := matchFindsUptoRow.holds Try.pinned (OpenSpec.upto matchFindsSpec)

/-- 'portmanteaulaw07.MatchCopies', WHERE WHAT IT READS IS OF BULK AT MOST 1048576: true; the input reads as it did. -/
def matchCopiesUptoRow : OpenClaim := { program := "ytblojfgbdmnccaa", sum := "598e7ac85d383081f9ae0642b0371cf0e62fdbac95ddc1de3889fab36f147add", func := "portmanteau/portmanteaulaw07.MatchCopies", spec := "matchCopies", plainKeys := false, apart := false, narrowed := true }
def MatchCopiesUptoSaid : Prop := matchCopiesUptoRow.holds Try.pinned (OpenSpec.upto matchCopiesSpec)

/-- 'portmanteaulaw07.MatchSame', WHERE WHAT IT READS IS OF BULK AT MOST 1048576: true; the input reads as it did. -/
def matchSameUptoRow : OpenClaim := { program := "ytblojfgbdmnccaa", sum := "598e7ac85d383081f9ae0642b0371cf0e62fdbac95ddc1de3889fab36f147add", func := "portmanteau/portmanteaulaw07.MatchSame", spec := "matchSame", plainKeys := false, apart := false, narrowed := true }
def MatchSameUptoSaid : Prop := matchSameUptoRow.holds Try.pinned (OpenSpec.upto matchSameSpec)

/-- 'portmanteaulaw07.MatchChains', WHERE WHAT IT READS IS OF BULK AT MOST 1048576: true; the input reads as it did. -/
def matchChainsUptoRow : OpenClaim := { program := "ytblojfgbdmnccaa", sum := "598e7ac85d383081f9ae0642b0371cf0e62fdbac95ddc1de3889fab36f147add", func := "portmanteau/portmanteaulaw07.MatchChains", spec := "matchChains", plainKeys := false, apart := false, narrowed := true }
def MatchChainsUptoSaid : Prop := matchChainsUptoRow.holds Try.pinned (OpenSpec.upto matchChainsSpec)

/-- 'portmanteaulaw07.MatchLong', WHERE WHAT IT READS IS OF BULK AT MOST 1048576: true; the input reads as it did. -/
def matchLongUptoRow : OpenClaim := { program := "ytblojfgbdmnccaa", sum := "598e7ac85d383081f9ae0642b0371cf0e62fdbac95ddc1de3889fab36f147add", func := "portmanteau/portmanteaulaw07.MatchLong", spec := "matchLong", plainKeys := false, apart := false, narrowed := true }
def MatchLongUptoSaid : Prop := matchLongUptoRow.holds Try.pinned (OpenSpec.upto matchLongSpec)

/-- 'portmanteaulaw08.BlockSigns', WHERE WHAT IT READS IS OF BULK AT MOST 1048576: true; the input reads as it did. -/
def blockSignsUptoRow : OpenClaim := { program := "ytblojfgbdmnccaa", sum := "598e7ac85d383081f9ae0642b0371cf0e62fdbac95ddc1de3889fab36f147add", func := "portmanteau/portmanteaulaw08.BlockSigns", spec := "blockSigns", unfollowed := true, recurses := true, plainKeys := false, apart := false, narrowed := true }
def BlockSignsUptoSaid : Prop := blockSignsUptoRow.holds Try.pinned (OpenSpec.upto blockSignsSpec)

/-- 'portmanteaulaw08.BlockReads', WHERE WHAT IT READS IS OF BULK AT MOST 1048576: true; the input reads as it did. -/
def blockReadsUptoRow : OpenClaim := { program := "ytblojfgbdmnccaa", sum := "598e7ac85d383081f9ae0642b0371cf0e62fdbac95ddc1de3889fab36f147add", func := "portmanteau/portmanteaulaw08.BlockReads", spec := "blockReads", unfollowed := true, recurses := true, plainKeys := false, apart := false, narrowed := true }
def BlockReadsUptoSaid : Prop := blockReadsUptoRow.holds Try.pinned (OpenSpec.upto blockReadsSpec)

/-- 'portmanteaulaw08.BlockSizes', WHERE WHAT IT READS IS OF BULK AT MOST 1048576: true; the input reads as it did. -/
def blockSizesUptoRow : OpenClaim := { program := "ytblojfgbdmnccaa", sum := "598e7ac85d383081f9ae0642b0371cf0e62fdbac95ddc1de3889fab36f147add", func := "portmanteau/portmanteaulaw08.BlockSizes", spec := "blockSizes", unfollowed := true, recurses := true, plainKeys := false, apart := false, narrowed := true }
def BlockSizesUptoSaid : Prop := blockSizesUptoRow.holds Try.pinned (OpenSpec.upto blockSizesSpec)

/-- 'portmanteaulaw08.BlockShort', WHERE WHAT IT READS IS OF BULK AT MOST 1048576: true; the input reads as it did. -/
def blockShortUptoRow : OpenClaim := { program := "ytblojfgbdmnccaa", sum := "598e7ac85d383081f9ae0642b0371cf0e62fdbac95ddc1de3889fab36f147add", func := "portmanteau/portmanteaulaw08.BlockShort", spec := "blockShort", unfollowed := true, recurses := true, plainKeys := false, apart := false, narrowed := true }
def BlockShortUptoSaid : Prop := blockShortUptoRow.holds Try.pinned (OpenSpec.upto blockShortSpec)

end Rows
end Go.Proofs.Ytblojfgbdmnccaa
