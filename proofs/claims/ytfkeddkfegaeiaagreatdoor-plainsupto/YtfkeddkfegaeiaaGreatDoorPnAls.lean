import Derived.Below
import Derived.Lib.Bytealg
import Derived.Lib.Strings
import Derived.JoinedTies
import Derived.KernelRfl
import Derived.WalkKit
import Derived.WalkSpells
import Derived.WalkLawsBesides
import Derived.Stop.Asserts
import Derived.LaidEql
import Derived.RowKitTokens
import Derived.Shelf.Strings.Builder1
import Derived.Shelf.Small.Strs
import Derived.Shelf.Strings.BuilderF
import Derived.Shelf.Strings.BuilderK
import Derived.Shelf.Strconv.Atoi
import Derived.Shelf.Strconv.AtoiErrFast
import Derived.Shelf.Strconv.ParseIntEmpty
import Derived.Shelf.Strconv.AtoiFail
import Derived.Shelf.LaysM
import Derived.Shelf.Strconv.Clone
import Derived.Shelf.Strconv.SyntaxError
import Derived.Shelf.LaysC
import Derived.Shelf.Strconv.ToError
import Derived.Shelf.Strconv.Lower
import Derived.Shelf.Strconv.ParseUint10
import Derived.Shelf.Strconv.ParseUint10Empty
import Derived.Shelf.Strconv.ParseUint10Any
import Derived.Shelf.Strconv.ParseInt10
import Derived.Shelf.Strconv.AtoiLong
import Derived.Shelf.Strconv.AtoiInnerAll
import Derived.Shelf.Strconv.RangeError
import Derived.Shelf.Strconv.ToErrorRange
import Derived.Shelf.Strconv.AtoiAll
import Derived.Shelf.Strconv.ErrVarAll
import Derived.Shelf.Strings.Search1
import Derived.Shelf.Slices.Turned
import Derived.Ground.Names2Prog
import Derived.Shelf.Slices.Clone
import Derived.Deep.RegionWith
import Derived.Deep.QuietTactic
import Derived.BigQuiet
import Derived.Deep.LoopGhost
import Derived.Lib.Builder
import Derived.Lib.AppendStr
import Derived.Lib.UnsafeStr
import Derived.Laws.Externs
import Derived.Deep.CutRange
import Derived.Deep.RegionLaw
import Derived.Lib.SlicesS
import Derived.Deep.DeepCutAuto
import Derived.Laws.CopyOwn
import Derived.OwnWalk
import Derived.Deep.AppendLies
import Derived.Laws.OwnMore
import Derived.Deep.RegionHeld3
import Derived.Ground.SlsfProg
import Derived.Shelf.SlSortCmp.Whole1
import Derived.RangeFuncNested
import Derived.RangeFuncBound
import Derived.RangeFuncCalls
import Derived.RangeFuncLeaves
import Derived.Shelf.Abstract
import Derived.Shelf.RegionOpen
import Derived.OwnWalkIn
import Derived.TacticsInMore
import Derived.LoopNIn
import Derived.LoopIn
import Derived.Conc.MuLone
import Derived.Maps.OwnSet
import Derived.Defers
import Derived.Lib.Walk
import Derived.Lib.SliceRun
import Derived.BigRegion
import Derived.Lib.SlBytesRow
import Derived.ChangeSlices
import Derived.SliceStrings
import Derived.ChangeArms
import Derived.ChangeOld
import Derived.ChangeAt
import Derived.ChangeMaps5
import Derived.ProofKit
import Derived.LaidMore
import Derived.LaidLaws
import Derived.OpenShut
import Derived.LaidSub
import Derived.JoinedOf
import Derived.Deep.DeepHandedRow
import Derived.Deep.DeepWitnessRowRef
import Derived.SevenTiedAt
import Derived.LaidByTextLater
import Derived.LaidOnce
namespace Go.Proofs.YtfkeddkfegaeiaaGreatDoor
theorem Ji:type_of% @Nat.le_refl:=@Nat.le_refl
theorem Jj:type_of% @Go.RowKit.Below.refl:=@Go.RowKit.Below.refl
theorem Jk:type_of% @List.length_append:=@List.length_append
theorem Jl:type_of% @List.getElem?_eq_getElem:=@List.getElem?_eq_getElem
theorem Jm:type_of% @List.length_map:=@List.length_map
theorem Jn:type_of% @if_neg:=@if_neg
theorem Jo:type_of% @if_pos:=@if_pos
theorem Jp:type_of% @Go.RowKit.Below.heap_setCell:=@Go.RowKit.Below.heap_setCell
theorem Jq:type_of% @Option.map_eq_some_iff:=@Option.map_eq_some_iff
theorem Jr:type_of% @Go.bodyPost_ret:=@Go.bodyPost_ret
theorem Js:type_of% @Nat.lt_of_lt_of_le:=@Nat.lt_of_lt_of_le
theorem Jt:type_of% @Nat.le_trans:=@Nat.le_trans
theorem Ju:type_of% @List.length_cons:=@List.length_cons
theorem Jv:type_of% @Array.getElem?_setIfInBounds_ne:=@Array.getElem?_setIfInBounds_ne
theorem Jw:type_of% @List.getElem?_append_right:=@List.getElem?_append_right
theorem Jy:type_of% @List.getElem?_eq_some_iff:=@List.getElem?_eq_some_iff
theorem Jz:type_of% @List.getElem?_append_left:=@List.getElem?_append_left
theorem JA:type_of% @Go.ByteArray.toList_eq:=@Go.ByteArray.toList_eq
theorem JB:type_of% @Prod.mk.injEq:=@Prod.mk.injEq
theorem JC:type_of% @List.getD_eq_getElem?_getD:=@List.getD_eq_getElem?_getD
theorem JD:type_of% @List.append_nil:=@List.append_nil
theorem JE:type_of% @congrArg:=@congrArg
theorem JF:type_of% @Go.World.ownsRow_nil:=@Go.World.ownsRow_nil
theorem JG:type_of% @List.mem_cons:=@List.mem_cons
theorem JH:type_of% @Go.run_callFunc_extern:=@Go.run_callFunc_extern
theorem JI:type_of% @Go.RowKit.Below.drew:=@Go.RowKit.Below.drew
theorem JJ:type_of% @List.take_of_length_le:=@List.take_of_length_le
theorem JK:type_of% @List.mem_cons_self:=@List.mem_cons_self
theorem JL:type_of% @List.mem_of_getElem?:=@List.mem_of_getElem?
theorem JM:type_of% @List.setIfInBounds_toArray:=@List.setIfInBounds_toArray
theorem JN:type_of% @List.mem_singleton:=@List.mem_singleton
theorem JO:type_of% @List.mem_nil_iff:=@List.mem_nil_iff
theorem JP:type_of% @Array.length_toList:=@Array.length_toList
theorem JQ:type_of% @decide_eq_true_eq:=@decide_eq_true_eq
theorem JR:type_of% @Go.World.block_lt_of_cell?:=@Go.World.block_lt_of_cell?
theorem JS:type_of% @Go.World.cell?_alloc_lt:=@Go.World.cell?_alloc_lt
theorem JT:type_of% @Go.wpList_append_lies:=@Go.wpList_append_lies
theorem JU:type_of% @List.length_take:=@List.length_take
theorem JV:type_of% @Nat.zero_add:=@Nat.zero_add
theorem JW:type_of% @List.mem_append:=@List.mem_append
theorem JX:type_of% @List.set_cons_zero:=@List.set_cons_zero
theorem JY:type_of% @Go.RowKit.Below.alloc:=@Go.RowKit.Below.alloc
theorem JZ:type_of% @List.length_singleton:=@List.length_singleton
theorem J0:type_of% @Go.RowKit.Below.setCell:=@Go.RowKit.Below.setCell
theorem J1:type_of% @Array.getElem?_setIfInBounds_self_of_lt:=@Array.getElem?_setIfInBounds_self_of_lt
theorem J2:type_of% @Go.Lib.containsS_iff:=@Go.Lib.containsS_iff
theorem J3:type_of% @Array.getElem?_eq_some_iff:=@Array.getElem?_eq_some_iff
theorem J4:type_of% @List.mem_append_left:=@List.mem_append_left
theorem J5:type_of% @Go.WideShapes.bytes_inj:=@Go.WideShapes.bytes_inj
theorem J6:type_of% @List.length_drop:=@List.length_drop
theorem J7:type_of% @List.getElem?_map:=@List.getElem?_map
theorem J8:type_of% @Bool.or_eq_true:=@Bool.or_eq_true
theorem J9:type_of% @Go.RowKit.Below.heap_alloc:=@Go.RowKit.Below.heap_alloc
theorem J':type_of% @Nat.lt_or_ge:=@Nat.lt_or_ge
theorem Ka:type_of% @List.pairwise_cons:=@List.pairwise_cons
theorem Kb:type_of% @beq_eq_false_iff_ne:=@beq_eq_false_iff_ne
theorem Kc:type_of% @Bool.and_eq_true:=@Bool.and_eq_true
theorem Kd:type_of% @Go.wpList_append_own:=@Go.wpList_append_own
theorem Ke:type_of% @Option.some.injEq:=@Option.some.injEq
theorem Kf:type_of% @List.append_assoc:=@List.append_assoc
theorem Kg:type_of% @or_false:=@or_false
theorem Kh:type_of% @List.getElem?_take_of_lt:=@List.getElem?_take_of_lt
theorem Ki:type_of% @List.set_cons_succ:=@List.set_cons_succ
theorem Kj:type_of% @List.getElem?_eq_none:=@List.getElem?_eq_none
theorem Kk:type_of% @Nat.add_sub_cancel_left:=@Nat.add_sub_cancel_left
theorem Kl:type_of% @List.getElem?_take:=@List.getElem?_take
theorem Km:type_of% @Bool.false_eq_true:=@Bool.false_eq_true
theorem Kn:type_of% @Go.RowKit.Below.trans:=@Go.RowKit.Below.trans
theorem Ko:type_of% @decide_eq_true:=@decide_eq_true
theorem Kq:type_of% @List.any_cons:=@List.any_cons
theorem Kr:type_of% @List.length_nil:=@List.length_nil
theorem Ks:type_of% @List.map_append:=@List.map_append
theorem Kt:type_of% @Array.getElem?_toList:=@Array.getElem?_toList
theorem Ku:type_of% @decide_eq_false_iff_not:=@decide_eq_false_iff_not
theorem Kv:type_of% @Nat.sub_self:=@Nat.sub_self
theorem Kw:type_of% @List.any_append:=@List.any_append
theorem Kx:type_of% @ByteArray.data_extract:=@ByteArray.data_extract
theorem Ky:type_of% @List.getElem_mem:=@List.getElem_mem
theorem Kz:type_of% @List.drop_eq_getElem_cons:=@List.drop_eq_getElem_cons
theorem KC:type_of% @List.set_append_right:=@List.set_append_right
theorem KD:type_of% @beq_iff_eq:=@beq_iff_eq
theorem KE:type_of% @Go.step_append_lies:=@Go.step_append_lies
theorem KG:type_of% @Array.getElem?_eq_none:=@Array.getElem?_eq_none
theorem KH:type_of% @List.takeWhile_cons:=@List.takeWhile_cons
theorem KI:type_of% @List.extract_eq_take_drop:=@List.extract_eq_take_drop
theorem KJ:type_of% @List.mem_append_right:=@List.mem_append_right
theorem KK:type_of% @List.take_append_drop:=@List.take_append_drop
theorem KL:type_of% @List.eq_nil_of_length_eq_zero:=@List.eq_nil_of_length_eq_zero
theorem KM:type_of% @List.mem_map:=@List.mem_map
theorem KN:type_of% @Nat.le_succ:=@Nat.le_succ
theorem KO:type_of% @Nat.zero_le:=@Nat.zero_le
theorem KP:type_of% @Array.toList_extract:=@Array.toList_extract
theorem KQ:type_of% @List.mem_cons_of_mem:=@List.mem_cons_of_mem
theorem KR:type_of% @Go.World.news_of_block:=@Go.World.news_of_block
theorem KS:type_of% @List.cons_append:=@List.cons_append
theorem KU:type_of% @Go.wpList_make_full:=@Go.wpList_make_full
theorem KV:type_of% @Go.run_typeAssert_lacksB:=@Go.run_typeAssert_lacksB
theorem KX:type_of% @Go.wpAnyH_take:=@Go.wpAnyH_take
theorem KY:type_of% @Bool.eq_iff_iff:=@Bool.eq_iff_iff
theorem KZ:type_of% @bne_iff_ne:=@bne_iff_ne
theorem K8:type_of% @Option.some.inj:=@Option.some.inj
theorem K':type_of% @List.take_add_one:=@List.take_add_one
theorem La:type_of% @ByteArray.size_extract:=@ByteArray.size_extract
theorem Lb:type_of% @Nat.mul_one:=@Nat.mul_one
theorem Lc:type_of% @Option.map_some:=@Option.map_some
theorem Ld:type_of% @List.all_append:=@List.all_append
theorem Le:type_of% @Nat.min_eq_left:=@Nat.min_eq_left
theorem Lg:type_of% @List.pairwise_iff_getElem:=@List.pairwise_iff_getElem
theorem Lh:type_of% @List.getElem?_of_mem:=@List.getElem?_of_mem
theorem Li:type_of% @Bool.and_false:=@Bool.and_false
theorem Lj:type_of% @if_false:=@if_false
theorem Lk:type_of% @List.prefix_iff_eq_take:=@List.prefix_iff_eq_take
theorem Ll:type_of% @Go.World.frozen?_alloc_old:=@Go.World.frozen?_alloc_old
theorem Lm:type_of% @Ne.symm:=@Ne.symm
theorem Ln:type_of% @List.getElem?_drop:=@List.getElem?_drop
theorem Lo:type_of% @Go.WideMaps.keyOf_string_mk:=@Go.WideMaps.keyOf_string_mk
theorem Lp:type_of% @Go.MuLone.unlock_deferred:=@Go.MuLone.unlock_deferred
theorem Lq:type_of% @Go.rounds_succ:=@Go.rounds_succ
theorem Lr:type_of% @Go.World.frozen?_of_block:=@Go.World.frozen?_of_block
theorem Ls:type_of% @List.take_append_of_le_length:=@List.take_append_of_le_length
theorem Lt:type_of% @of_decide_eq_true:=@of_decide_eq_true
theorem Lu:type_of% @Go.run_underlying:=@Go.run_underlying
theorem Lv:type_of% @Go.wp_loop_rounds:=@Go.wp_loop_rounds
theorem Lx:type_of% @List.takeWhile_prefix:=@List.takeWhile_prefix
theorem Ly:type_of% @Array.getElem?_modify:=@Array.getElem?_modify
theorem Lz:type_of% @List.length_filter_le:=@List.length_filter_le
theorem LA:type_of% @List.getElem?_toArray:=@List.getElem?_toArray
theorem LB:type_of% @List.mem_iff_getElem?:=@List.mem_iff_getElem?
theorem LC:type_of% @List.take_length:=@List.take_length
theorem LD:type_of% @List.pairwise_append:=@List.pairwise_append
theorem LF:type_of% @Bool.or_eq_false_iff:=@Bool.or_eq_false_iff
theorem LG:type_of% @List.replicate_succ':=@List.replicate_succ'
theorem LH:type_of% @Go.World.cell?_spot:=@Go.World.cell?_spot
theorem LI:type_of% @List.all_cons:=@List.all_cons
theorem LJ:type_of% @List.mergeSort_perm:=@List.mergeSort_perm
theorem LK:type_of% @List.nil_append:=@List.nil_append
theorem LL:type_of% @Go.World.ownsRow_lit:=@Go.World.ownsRow_lit
theorem LM:type_of% @List.flatMap_cons:=@List.flatMap_cons
theorem LN:type_of% @List.ext_getElem?:=@List.ext_getElem?
theorem LO:type_of% @List.foldl_append:=@List.foldl_append
theorem LP:type_of% @Go.run_eql_iface_ptr_same:=@Go.run_eql_iface_ptr_same
theorem LQ:type_of% @List.findIdx?_eq_some_iff_getElem:=@List.findIdx?_eq_some_iff_getElem
theorem LR:type_of% @Go.leaves_cons:=@Go.leaves_cons
theorem LS:type_of% @List.all_eq_true:=@List.all_eq_true
theorem LU:type_of% @forall_eq_or_imp:=@forall_eq_or_imp
theorem LV:type_of% @List.ext_getElem:=@List.ext_getElem
theorem LW:type_of% @List.length_replicate:=@List.length_replicate
theorem LX:type_of% @Nat.mul_le_mul_right:=@Nat.mul_le_mul_right
theorem LY:type_of% @decide_eq_false:=@decide_eq_false
theorem LZ:type_of% @Array.replicate_succ:=@Array.replicate_succ
theorem L0:type_of% @Array.replicate_zero:=@Array.replicate_zero
theorem L5:type_of% @Go.results_tmp2:=@Go.results_tmp2
theorem L6:type_of% @Array.toArray_toList:=@Array.toArray_toList
theorem L7:type_of% @Go.Obj.cells.injEq:=@Go.Obj.cells.injEq
theorem L8:type_of% @List.append_toArray:=@List.append_toArray
theorem L9:type_of% @List.findIdx?_cons:=@List.findIdx?_cons
theorem Ma:type_of% @List.filter_append:=@List.filter_append
theorem Mb:type_of% @Go.MuLone.lock_free:=@Go.MuLone.lock_free
theorem Mc:type_of% @Int.tmod_eq_emod_of_nonneg:=@Int.tmod_eq_emod_of_nonneg
theorem Md:type_of% @Int.tdiv_eq_ediv_of_nonneg:=@Int.tdiv_eq_ediv_of_nonneg
theorem Me:type_of% @List.size_toArray:=@List.size_toArray
theorem Mf:type_of% @List.push_toArray:=@List.push_toArray
theorem Mg:type_of% @List.any_eq_false:=@List.any_eq_false
theorem Mh:type_of% @Array.getElem?_eq_getElem:=@Array.getElem?_eq_getElem
theorem Mi:type_of% @if_true:=@if_true
theorem Mj:type_of% @List.any_eq_true:=@List.any_eq_true
theorem Mk:type_of% @Go.World.size_alloc:=@Go.World.size_alloc
theorem Ml:type_of% @List.map_map:=@List.map_map
theorem Mm:type_of% @List.append_cancel_left:=@List.append_cancel_left
theorem Mn:type_of% @Go.run_eql_iface_ptr_other:=@Go.run_eql_iface_ptr_other
theorem Mo:type_of% @Option.bind_eq_some_iff:=@Option.bind_eq_some_iff
theorem Mp:type_of% @List.getElem_cons_zero:=@List.getElem_cons_zero
theorem Mq:type_of% @List.drop_eq_nil_of_le:=@List.drop_eq_nil_of_le
theorem Mr:type_of% @List.drop_drop:=@List.drop_drop
theorem Ms:type_of% @Go.Sort.heap_grow_old:=@Go.Sort.heap_grow_old
theorem Mt:type_of% @List.mem_range:=@List.mem_range
theorem Mv:type_of% @Int.not_lt:=@Int.not_lt
theorem Mx:type_of% @List.mem_of_mem_take:=@List.mem_of_mem_take
theorem My:type_of% @Bool.or_false:=@Bool.or_false
theorem Mz:type_of% @List.map_cons:=@List.map_cons
theorem MA:type_of% @Nat.add_assoc:=@Nat.add_assoc
theorem MB:type_of% @Array.getElem?_push:=@Array.getElem?_push
theorem ME:type_of% @List.replicate_succ:=@List.replicate_succ
theorem MF:type_of% @List.map_congr_left:=@List.map_congr_left
theorem MG:type_of% @List.any_nil:=@List.any_nil
theorem MI:type_of% @forall_eq:=@forall_eq
theorem MK:type_of% @Nat.le_of_lt:=@Nat.le_of_lt
theorem MM:type_of% @Go.Sem.run_bind:=@Go.Sem.run_bind
theorem MN:type_of% @Nat.le_of_eq:=@Nat.le_of_eq
theorem MU:type_of% @Nat.mod_one:=@Nat.mod_one
theorem MW:type_of% @Nat.div_one:=@Nat.div_one
theorem MX:type_of% @Nat.one_mul:=@Nat.one_mul
theorem ag{p0 p1:Prop}(h0:p0)(h1:p1):Go.RowKit.Hid p0/\Go.RowKit.Hid p1:=⟨h0,h1⟩
theorem aC{p0 p1 p2:Prop}(h0:p0)(h1:p1)(h2:p2):Go.RowKit.Hid p0/\Go.RowKit.Hid p1/\Go.RowKit.Hid p2:=⟨h0,h1,h2⟩
theorem aP{p0 p1 p2 p3:Prop}(h0:p0)(h1:p1)(h2:p2)(h3:p3):Go.RowKit.Hid p0/\Go.RowKit.Hid p1/\Go.RowKit.Hid p2/\Go.RowKit.Hid p3:=⟨h0,h1,h2,h3⟩
theorem dD{p0 p1 p2 p3 p4:Prop}(h0:p0)(h1:p1)(h2:p2)(h3:p3)(h4:p4):Go.RowKit.Hid p0/\Go.RowKit.Hid p1/\Go.RowKit.Hid p2/\Go.RowKit.Hid p3/\Go.RowKit.Hid p4:=⟨h0,h1,h2,h3,h4⟩
theorem io{p0 p1 p2 p3 p4 p5:Prop}(h0:p0)(h1:p1)(h2:p2)(h3:p3)(h4:p4)(h5:p5):Go.RowKit.Hid p0/\Go.RowKit.Hid p1/\Go.RowKit.Hid p2/\Go.RowKit.Hid p3/\Go.RowKit.Hid p4/\Go.RowKit.Hid p5:=⟨h0,h1,h2,h3,h4,h5⟩
theorem sq{p0 p1 p2 p3 p4 p5 p6:Prop}(h0:p0)(h1:p1)(h2:p2)(h3:p3)(h4:p4)(h5:p5)(h6:p6):Go.RowKit.Hid p0/\Go.RowKit.Hid p1/\Go.RowKit.Hid p2/\Go.RowKit.Hid p3/\Go.RowKit.Hid p4/\Go.RowKit.Hid p5/\Go.RowKit.Hid p6:=⟨h0,h1,h2,h3,h4,h5,h6⟩
theorem A0{p0 p1 p2 p3 p4 p5 p6 p7:Prop}(h0:p0)(h1:p1)(h2:p2)(h3:p3)(h4:p4)(h5:p5)(h6:p6)(h7:p7):Go.RowKit.Hid p0/\Go.RowKit.Hid p1/\Go.RowKit.Hid p2/\Go.RowKit.Hid p3/\Go.RowKit.Hid p4/\Go.RowKit.Hid p5/\Go.RowKit.Hid p6/\Go.RowKit.Hid p7:=⟨h0,h1,h2,h3,h4,h5,h6,h7⟩
end Go.Proofs.YtfkeddkfegaeiaaGreatDoor
