import PyProof.Rows.All
import Wide.FinOn
import Wide.Line
import Wide.Tac
import Wide.Pins
import Open.Line
import OpenK.KLine
import OpenK.KMake
import KE.KTops
import KE.KDictText
import KE.KLam
import KE.KNestM
import KE.KItem
import PyProof.TupleKey
import PyProof.EqAt
import PyProof.EqKinds
import Wide.Seal
import Lean
import PyProof.TupleCall
import KE.KTryMore
import KE.KRevIter
import PyProof.CollectIter
import PyProof.ConsumeWalk
import PyProof.TupleOfStr
import KE.KIsAll
import PyProof.ExcArgs
import PyProof.ExcAttrAll.ValueError
import PyProof.CompUse
import PyProof.NeKinds
import PyProof.EnumIter
import PyProof.EnumFor
import PyProof.EnumMake
import PyProof.EnumStmt
import PyProof.ListMulRoad
import PyProof.ZipIter
import PyProof.TupleIter
import PyProof.Rows.SortWalk
import PyProof.SetKind
import PyProof.Rows.SetFrom
import PyProof.FactsAll.set_1
import KE.KDictSum
import PyProof.FactsAll.set_2
import PyProof.FactsAll.tuple_2
import PyProof.ReprRoads
import PyProof.Rows.SeqMore
import PyProof.ReprLen
import PyProof.WalkInts
import PyProof.SeqI3
import PyProof.Rows.TupIter
import PyProof.ListRange
import PyProof.SumWalk
import PyProof.DictIter
import PyProof.DictWalks
import PyProof.DictRoadsH
import PyProof.DictTruth
import KE.KDictList
import PyProof.Rows.TupDisplay
import PyProof.Draws
import PyProof.StrBlockI
import PyProof.StrLawsIn
import PyProof.StrOps2
import PyProof.ReprStr
import PyProof.ListNew
import PyProof.Rows.SortRev
import KE.KMinKey
import PyProof.Rows.SortStr
import PyProof.Rows.SortRunsK
import PyProof.Rows.SortKeyStr
import KE.RegMulBits
import KE.KRevSl
import PyProof.CallStr
import PySem.Challenge.RW_circuits_k67_covers_of_made
set_option Elab.async false
set_option linter.all false
set_option maxRecDepth 100000
set_option maxHeartbeats 1000000
local macro_rules | `(tactic| cases $h:ident) => `(tactic| first | (guard_hyp $h : _ = _; first | subst $h:ident | (injection $h:ident; done) | (injection $h:ident with z1 z2 z3; cases z1; cases z2; cases z3) | (injection $h:ident with z1 z2; cases z1; cases z2) | (injection $h:ident with z1; cases z1)) | cases ($h))
local macro_rules | `(tactic| omega) => `(tactic| first | with_reducible assumption | decide | with_reducible exact Nat.le_refl _ | with_reducible exact Nat.zero_le _ | lia)
set_option genSizeOf false
set_option genInjectivity false
set_option compiler.extract_closed false
local macro_rules | `(tactic| walk_at "1") => `(tactic| (first | exact Or.inl rfl | exact Or.inr (Or.inl rfl) | exact Or.inr (Or.inr rfl)))
local macro_rules | `(tactic| walk_at "2") => `(tactic| (first | exact .inl rfl | exact .inr rfl | assumption))
local macro_rules | `(tactic| walk_at "3") => `(tactic| (first | exact Or.inl rfl | exact Or.inr rfl))
open PySem.W (codeHdIn exmOne findIn hideAll_get keepIn kia_one kitOne kla_fn kla_obj methodObj pyHash_slot specialIn tabObj takesIn)
def w0a:=@List.length_map
def w0b:=@List.getElem?_eq_getElem
def w0c:=@List.getElem?_eq_some_iff
def w0d:=@List.getElem?_cons_succ
def w0e:=@List.size_toArray
def w0f:=@Nat.le_refl
def w0g:=@List.getElem?_cons_zero
def w0h:=@List.mem_cons
def w0i:=@Option.map_eq_some_iff
def w0j:=@List.getElem?_set_ne
def w0k:=@List.mem_append_right
def w0l:=@Bool.and_eq_true
def w0m:=@List.getElem?_set_self
def w0n:=@List.map_cons
def w0o:=@List.mem_cons_of_mem
def w0p:=@Nat.ne_of_lt
def w0q:=@Nat.le_trans
def w0r:=@List.mem_map
def w0s:=@Nat.pow_le_pow_right
def w0t:=@List.getElem?_map
def w0u:=@List.mem_range
def w0v:=@List.set_cons_succ
def w0w:=@List.set_cons_zero
def w0x:=@List.length_cons
def w0y:=@List.mem_of_getElem?
def w0z:=@List.map_map
def w1a:=@List.length_range
def w1b:=@List.map_append
def w1c:=@Nat.zero_le
def w1d:=@List.all_eq_true
def w1e:=@List.mem_cons_self
def w1f:=@Nat.lt_of_lt_of_le
def w1g:=@List.not_mem_nil
def w1h:=@List.mem_singleton
def w1i:=@Bool.false_ne_true
def w1j:=@List.getD_eq_getElem?_getD
def w1k:=@List.length_append
def w1l:=@List.mem_filter
def w1m:=@List.nodup_cons
def w1n:=@List.map_congr_left
def w1o:=@List.getElem_mem
def w1p:=@Option.bind_eq_some_iff
def w1q:=@List.append_nil
def w1r:=@Bool.eq_iff_iff
def w1s:=@List.mem_iff_getElem
def w1t:=@Array.getElem?_append_left
def w1u:=@List.getElem?_append_right
def w1v:=@Int.toNat_natCast
def w1w:=@Nat.lt_succ_of_lt
def w1x:=@List.foldl_cons
def w1y:=@List.mem_append_left
def w1z:=@Nat.lt_irrefl
def w2a:=@Nat.zero_add
def w2b:=@List.find?_cons
def w2c:=@Array.getElem?_eq_some_iff
def w2d:=@List.length_take
def w2e:=@List.any_eq_true
def w2f:=@List.length_replicate
def w2g:=@List.length_filter_le
def w2h:=@List.getElem?_append_left
def w2i:=@Bool.eq_false_iff
def w2j:=@List.ext_getElem?
def w2k:=@List.idxOf_lt_length_iff
def w2l:=@List.map_nil
def w2m:=@List.replicate_succ
def w2n:=@List.mem_map_of_mem
def w2o:=@Int.toNat_of_nonneg
def w2p:=@List.drop_length
def w2q:=@List.filter_cons
def w2r:=@List.mem_filterMap
def w2s:=@Nat.ne_of_gt
def w2t:=@List.length_zip
def w2u:=@List.cons_lt_cons_iff
def w2v:=@List.all_cons
def w2w:=@List.any_cons
def w2x:=@List.reverse_cons
def w2y:=@List.append_assoc
def w2z:=@List.forall_mem_cons
def w3a:=@List.drop_eq_getElem_cons
def w3b:=@List.pairwise_iff_getElem
def w3c:=@List.length_drop
def w3d:=@List.getElem_of_mem
def w3e:=@Int.zero_add
def w3f:=@List.forIn_cons
def w3g:=@List.mem_append
def w3h:=@List.of_mem_zip
def w3i:=@List.getElem?_replicate
def w3j:=@Bool.or_eq_true
def w3k:=@List.nil_append
def w3l:=@List.zip_cons_cons
def w3m:=@Bool.true_and
def w3n:=@List.take_succ_eq_append_getElem
def w3o:=@List.range_succ_eq_map
def w3p:=@List.flatten_cons
def w3q:=@Bool.not_eq_true'
def w3r:=@Nat.not_lt
def w3s:=@Option.isSome_map
def w3t:=@List.pairwise_map
def w3u:=@Nat.le_of_lt
def w3v:=@List.getElem?_eq_none
def w3w:=@Nat.le_of_ble_eq_true
def w3x:=@Nat.succ_ne_self
def w3y:=@List.lookup_cons
def w3z:=@Int.mul_le_mul_of_nonneg_left
def w4a:=@Int.natCast_emod
def w4b:=@Array.toArray_toList
def w4c:=@Array.length_toList
def w4d:=@List.length_reverse
def w4e:=@List.filter_eq_self
def w4f:=@Nat.add_sub_cancel'
def w4g:=@List.nodup_iff_pairwise_ne
def w4h:=@Bool.false_eq_true
def w4i:=@List.all_map
def w4j:=@Nat.mul_comm
def w4k:=@Nat.add_zero
def w4l:=@List.pairwise_cons
def w4m:=@Int.pow_succ
def w4n:=@List.forIn_nil
def w4o:=@List.getElem?_zip_eq_some
def w4p:=@Option.isSome_iff_exists
def w4q:=@List.length_erase_of_mem
def w4r:=@List.eq_of_mem_replicate
def w4s:=@Nat.le_succ
def w4t:=@Bool.and_true
def w4u:=@List.length_eq_zero_iff
def w4v:=@Nat.min_le_right
def w4w:=@Nat.le_of_not_lt
def w4x:=@Nat.le_add_right
def w4y:=@List.not_of_lt_findIdx
def w4z:=@List.take_of_length_le
def w5a:=@List.filter_eq_nil_iff
def w5b:=@List.any_map
def w5c:=@List.contains_iff_mem
def w5d:=@Nat.pow_succ
def w5e:=@List.pairwise_flatMap
def w5f:=@List.idxOf_cons
def w5g:=@List.take_append_drop
def w5h:=@Nat.two_pow_pos
def w5i:=@Int.emod_nonneg
def w5j:=@Nat.succ_mul
def w5k:=@Bool.false_and
def w5l:=@Bool.and_assoc
def w5m:=@Bool.and_false
def w5n:=@List.filterMap_cons
def w5o:=@Array.toList_append
def w5p:=@List.getElem?_range
def w5q:=@List.map_eq_nil_iff
def w5r:=@Array.forIn_toList
def w5s:=@Nat.add_assoc
def w5t:=@List.map_inj_right
def w5u:=@List.lookup_append
def w5v:=@List.map_drop
def w5w:=@Int.emod_lt_of_pos
def w5x:=@List.getElem_idxOf
def w5y:=@Int.mul_comm
def w5z:=@Int.ofNat_lt
def w6a:=@Nat.pow_add
theorem jJ0(_:True:=by rfl):True:=trivial
def jJ:=jJ0._auto_1
theorem jK0(_:True:=by decide):True:=trivial
def jK:=jK0._auto_1
theorem jL0(_:True:=by walk_at "2"):True:=trivial
def jL:=jL0._auto_1
theorem jM0(_:True:=by walk_at "3"):True:=trivial
def jM:=jM0._auto_1
theorem jN0(_:True:=by walk_at "1"):True:=trivial
def jN:=jN0._auto_1
abbrev Fg:=PySem.W.Frag
def jQz:="ai some aj List aO length aT Nat a6 int a7 map bj heap dr Int dt env dI ref dS lst d0 pins d3 size eT Value fv Str fy Option f' Addr gs scope gu autoParam gw tup g0 objs g6 Heap hW lookup ia pos ie Bool iT get? jd getD je type jf prog j3 Inv j9 inl j' Den ke own ku True kT base lb trans ll run lS toArray lT wpAny_bind lU PySem l_ cls mS if_pos mT rel mU Name mV mono mW inr ny upd nU elim n9 data oh wpAny oi Shared oj starEach ot seq oL row oP Expr pg wide ph Rel pA sub pW Rep p5 model p6 names p7 items p9 cons qp outer qH Obj qK bind ri set rk free ro nil rJ toks rM all rN qual sF if_neg sG toNat tB push tT refl tW acc tZ any t6 body t8 wpAny_pure t9 Vals ua params uc RelV ur cell uu Builtin uv absurd uw cnt uz len uG World uH False uV pure uX imp uY mpr uZ out u0 sizeLine u5 range vd Pos vr toList vI val wt zip wu Call wJ enc wO builtin wR hlen wV rest wW Program w4 replicate w5 count w6 get?_push_of_some w8 depth xg fin xv bool xA iter xJ keep xM new xP slot xT list x8 dict yn eq2 yq tabs yr Nodup yt extBut yu lt_size yw Array yy SeqAt yB inj yC backTo yD kind yE take yF old yG call yH units yI fresh yJ grow yK ifs yL kindOf yM rep yN cLine yO elt yW foldl zb Scope zd drop zf isList zi isSome zW ret z_ ord A' get Bt get?_push_size Dh in1 Dl isEmpty Dn Stmt DV filter FY sizeLine_eq FZ Around Ku PyProof Mk laid MO Env M4 Rows M_ bare NI calm NJ fields NN kitOne N3 stack N' fuel OK succ TL zero Ue idxOf Uj holds Uk ne2 Uo tuple Up obj V3 reverse V5 told WE EqAt WI mod W6 target Xn NameKind Xt mem Xu move Xx Key Xy append XB cells XE kept X9 line Ya look Yb slots Yc frames Yd mainGlobals Ye stC Yf stK Yg tok Yh update Yi Tuple Yj cps Yk String Yl Subscript Ym apos Yn doc Yo flatten Yp mapSeq Yq exc Yr locals Ys pin Yt seqObj Yu decide_eq_false Yv sgn Yw Compare Yx IsPair Yy IsTuple YA posK YB WData YC ent YD gens YE keeps YF loc YG ofString YH one YI pos' YJ BoolOp YK hd2 YL key YM turn YN ListComp YO has YQ wpAny_mono YR Calls YS Constant YT Loc YU arr YV handled YW many YX or_false YY step YZ there Y5 Keyword Y6 Lambda Y7 Pairwise Y8 Sum Y9 assignEach Y_ bits Za codeAny Zb swapsWith Zc write Zd congrArg Ze envOfC Zf func Zg top Zh typeIs Zi Assign Zj Paired Zk Perm Zl putK Zm value Zo FuncData Zp IsZip Zq SmallTypes Zr binaryOp Zs compareOp Zu deeper Zv foldedSetIterable Zw function Zx glob Zy hit Zz kla_obj ZA tab ZC Binds ZD beq_iff_eq ZE best ZF item ZG noFn ZH size_push ZI wpAny_field ZJ wpAny_holding ZK Slice ZL brk ZM callerA ZN cont ZO init ZP liftT ZQ mem_of_lookup ZR more ZS sep ZT slice ZU turned ZV AllBare ZW IsTup ZX NotIn ZY SameBut ZZ Txt Z1 above Z2 assign Z3 behindInMarks Z4 decide_eq_true Z5 elts Z6 fits Z7 rule Z8 snoc Z9 start Z_ Arguments _a Attribute _b IsTupleIter _c contains _g join _h odd _i rawInt _j sysModules _k vals1 _l BMain _m BinOp _n Boot _o Classical _p IsList _q Meets _r bootBuiltins _s codeIn _t error _u findIn _v get?_update_other _w holding _x keepIn _y nsIn _z of_wp _A wpAny_seqItems _B And _C BindsTo _D Data _E Ends _F Sem _G TypeIs _H UnaryOp _I Way _J again _K all1 _L call_meets _M fnOf _N if_true _O loose _P nextOf _Q plain _R putL _S relabel _T wpAny_newObj_type _U wpAny_truthy_bool _V ForInStep _W IsCell _X Looks _Y OpenLaw _Z Tok Α attributeBase Β backToKw Γ codeAny_mono Δ endLine Ε isIn Ζ keywordEach Η pyNext Θ tail Ι up1 Κ whole Λ wpAny_Call_Name_kw Μ wpAny_letGo Ν wpAny_pyIter_list Ξ Apart Ο FlyingW Ρ IsPart Τ Mod Υ Mult Φ RcAt Χ Turn Ψ at' Ω atKey γ bindArgs δ bindC ε bindL ζ binds η blt θ code ι col μ dList ν drawn ξ eqIsQuiet_byValue ο field π frame ρ getItem ς hints τ listUpdate υ natAbs χ par ψ toRowW ω wpAny_pyIter_tuple ϊ DecidableEq ϋ Dict ό DictOf ύ FunFrames ώ IntsAre Ϗ IsListIter ϐ Maker ϑ OldK ϒ PUnit ϓ Return ϔ Walk ϕ Walks ϖ addW ϗ after Ϙ andThen ϙ bne_iff_ne Ϛ callWith_type1 ϛ encC Ϝ filterMap ϝ forIn Ϟ kia_one ϟ mroIn Ϡ sliceBounds ϡ tabObj Ϣ wpAny_call ϣ wpAny_of_eq Ϥ wpAny_passesOwn ϥ yield Ϧ Char ϧ CmpOp Ϩ ExcAt ϩ PassesOwn Ϫ RcNeAt ϫ bool_bool Ϭ builtins ϭ builtinsNs Ϯ codeAmong ϯ core ϰ defaults ϱ ellipsis ϲ excIn ϳ find? ϴ flatMap ϵ get?_update_seq ϶ hash Ϸ intBits ϸ isTrue Ϻ listTooLong ϻ loop À most Á of_eq Â plainId_quiet Ã plain_min_loop Ä sameAt Å spliced Æ tupleExact Ç wpAny_callSpecial?_slot È wpAny_setField_rec É Decidable Ê ItemsOf Ë Moved Ì NoLimit Í Params Î UpToSlots Ï WShape Ð WalkO Ñ argsOk Ò back Ó bool_none Ô cellsFrom Õ choose_spec Ö codeAny_builtin Ø codeHdIn Ù defaultsOf Ú eqBool Û flat Ü globals Ý int_int Þ isCoroutine ß isGenerator à kla_fn á nolimit â none_bool ã pinned ä pow10 å propDecidable æ resolve_left ç retS è sameBut é seen ê slot_tuple_mul ë spliced_cons ì spliced_nil í standAt î typeIs_int ï vals ð valueAt ñ wpAny_attempt ò wpAny_call_entry ó wpAny_execs_nil ô wpAny_ite_split õ wpAny_loadPart' ö wpAny_rule ø Call_ ù Challenge ú Dflts û FunctionDef ü IsEnum ý IsSliceOf þ arrOf ÿ beq_eq_false_iff_ne Ā builtinLookup_eq_fast ā closureFor Ă clsIn ă compEnvC Ą concat_meets ą eq_of_beq Ć exmOne ć failedOf Ĉ hideAll_get ĉ if_false Ċ int_str ċ isCodeTable Č join_list č letOwnedTupleGo Ď listUpdate_at ď not_lt Đ not_or đ ownedTupleIsFree Ē plainAttrs_list ē putAt Ĕ pyHash ĕ rJoin Ė seqItems? ė setItem Ę slicePlaces ę slot_int_rmul Ě slot_list_index ě slot_tuple_getitem Ĝ slot_tuple_iterator_next ĝ slot_zip_next Ğ specialIn ğ storedH Ġ strKind ġ str_int Ģ str_str ģ subscripted Ĥ taken ĥ toString Ħ touched ħ tryCatch Ĩ typeLookup ĩ typeLookup_type Ī typeOf ī under_plainId Ĭ weightAll ĭ wpAny_mkInt Į wpAny_onRaise į wpAny_pyIter_enum İ wpAny_specialOf ı wpAny_standAt Ĳ wpAny_tryCatch ĳ wpAny_updateSeq Ĵ CodeRec ĵ DefRec Ķ GenState ķ IsRevIter ĸ LawfulBEq Ĺ SortedToK ĺ StrsAre Ļ Subscript_ ļ TriplesOk Ľ UnaryOp_ ľ args_tuple_add_2 Ŀ args_tuple_mul_2 ŀ beq_self_eq_true Ł bne_self_eq_false ł bool_int Ń bool_str ń boot_len Ņ callType_new ņ cellOf Ň choose ň closure ŉ collect Ŋ compLoop ŋ compPost Ō dif_pos ō entry_tuple_add Ŏ entry_tuple_mul ŏ findBy Ő findIdx? ő forall_congr' Œ freeze œ get?_none_of_le Ŕ int_bool ŕ int_none Ŗ isInstance ŗ isSubtype_type Ř listItems ř looks_findIn Ś methodObj ś noFill_tuple_add Ŝ none_int ŝ none_str Ş of_decide_eq_true ş operate Š pyIter š recursionLimit Ţ seqEpoch ţ seqIndex_neg Ť seqIndex_of ť seq_tuple_add Ŧ sliceAdjust ŧ slot_tuple_add Ũ some_of ũ str_bool Ū str_none ū subscriptTail Ŭ swapAt ŭ tail_any Ů takesIn ů toList_inj Ű tracked ű truthy Ų tuples ų unaryOp Ŵ wpAny_Name ŵ wpAny_isInstance Ŷ wpAny_newFunctionEnv ŷ wpAny_newList Ÿ wpAny_typeOf Ź wpAny_updateSeq_pair ź ClassData Ż ExactDict ż ExceptHandler Ž IsRangeIter ž Name_function_global ſ PlainAttrs zb5 args_int_rmul_2 zb6 args_list_index_2 zb7 args_object_init_2 zb8 args_tuple_iterator_next_1 zb9 args_zip_next_1 zb_ beq_builtin_none zca boot_enumerate zcb call_list_seq zcc cellsFrom_some zcd checkBuiltinCall zce codeAny_call_builtin zcf codeAny_compStart_list zck data_mapFields zcn entry_int_rmul zco entry_list_index zcp entry_min_loop zcq entry_tuple_iterator_next zcr entry_zip_next zcs evalArgs_plain zct evalPart_none zcu excAttr_ValueError zcw fills_int_mul zcx firstArgMember zcy frames_deeper zcC get?_update_self zcK imp_congr_right zcL intBits_le_64 zcZ listExtendWith zc0 listFitsIndex zc1 listItems_at zc2 list_indexAt zc3 lists_lengths zc5 lt_succ_self zc' map_congr_left zdc newFunctionEnv zdd notImplemented zdh ofString_eq_toList zdm ownedTupleHandOut zdu plain_list_iadd zdE setIfInBounds zdF sliceApplied zdG slicePart_none zdH slot_dict_getitem zdI slot_dict_len zdJ slot_int_index zdK slot_list_append zdL slot_list_extend zdM slot_list_getitem zdN slot_tuple_rmul zdO subscriptTail_builtinR zdP swappedStores zdQ swapsWithSole zdX tupleTooMany zdY type_list_index zej wpAny_binaryOp_repeat_ref zek wpAny_comprehension_free zel wpAny_execs_cons zem wpAny_getItem_of zen wpAny_isTrue_Compare1 zeo wpAny_ite_false zep wpAny_ite_true zeq wpAny_letOwnedTupleGo_enum zer wpAny_newTuple zes wpAny_pyIter_zip zet wpAny_setField"
def jSz:List String->List (String×String)
 |a::b::l=>(a,b)::jSz l
 |_=>[]
def jRz{k}(d:Lean.TSyntax k):Lean.Syntax:=
 let t:=Std.HashMap.ofList (jSz (jQz.splitOn " "))
 let rec g:Lean.Name->Lean.Name
  |.str p s=>.str (g p) (t.getD s s)
  |.num p n=>.num (g p) n
  |n=>n
 d.raw.rewriteBottomUp fun|.ident i r n p=>.ident i r (g n) p|s=>s
local macro_rules
|`(Lean.Parser.Command.declaration|$m:declModifiers $d)=>do
 let e:=jRz d
 if e==d.raw then Lean.Macro.throwUnsupported
 return .node .none ``Lean.Parser.Command.declaration #[m,e]
|`(variable $b*)=>do
 let e:=b.map fun x=>(jRz x)
 if e==b.map (·.raw) then Lean.Macro.throwUnsupported
 return .node .none ``Lean.Parser.Command.variable #[.atom .none "variable",.node .none `null e]
local macro_rules|`(Lean.Parser.Command.declaration|$m:declModifiers $d)=>do
 unless m.raw.getArgs.all (·.isNone) do Lean.Macro.throwUnsupported
 let d:=d.raw
 if d[3][1].isOfKind ``Lean.Parser.Term.byTactic&&d.isOfKind ``Lean.Parser.Command.definition then return .node .none ``Lean.Parser.Command.declaration #[m,.node .none ``Lean.Parser.Command.theorem #[.atom .none "theorem",d[1],.node .none ``Lean.Parser.Command.declSig #[d[2][0],d[2][1][0]],d[3]]]
 unless d.isOfKind ``Lean.Parser.Command.definition||d.isOfKind ``Lean.Parser.Command.abbrev do Lean.Macro.throwUnsupported
 return .node .none ``Lean.Parser.Command.declaration #[m.raw.setArg 4 (.node .none `null #[.node .none ``Lean.Parser.Command.noncomputable #[.atom .none "noncomputable"]]),d]
local macro_rules|`(tactic|let ⟨$p,*⟩:=$e)=>do
 let rec go:Nat->Lean.Syntax->Lean.MacroM (Lean.TSyntax `Lean.Parser.Tactic.rcasesPatLo)
  |n+1,t=>do
   let p:Lean.TSyntax `rcasesPat←match t with
    |`(⟨$p,*⟩)=>do
     let q←p.getElems.mapM (go n ·.raw)
     `(rcasesPat|⟨$q,*⟩)
    |`($i:ident)=>`(rcasesPat|$i:ident)
    |_=>`(rcasesPat|_)
   `(Lean.Parser.Tactic.rcasesPatLo|$p:rcasesPat)
  |_,_=>Lean.Macro.throwUnsupported
 let q←p.getElems.mapM (go 9 ·.raw)
 `(tactic|obtain ⟨$q,*⟩:=$e)
namespace PySem.W.Fast
theorem tw16228636467352592216:ku:=trivial
theorem tw1372688801264348669:ku:=trivial
theorem tw3389544802881544251:ku:=trivial
theorem tw9348385126384777745:ku:=trivial
theorem tw15476919546642253271:ku:=trivial
theorem tw3105764344294507352:ku:=trivial
theorem tw11884202171253578154:ku:=trivial
theorem tw6230583154641399135:ku:=trivial
theorem tw10685317403420891818:ku:=trivial
theorem tw2986428392350833430:ku:=trivial
theorem tw16791347980606758437:ku:=trivial
theorem tw14636087631266496570:ku:=trivial
theorem tw13109243300213975788:ku:=trivial
theorem tw4944222290973136374:ku:=trivial
theorem tw11783210140355821107:ku:=trivial
theorem tw3278771069555983659:ku:=trivial
theorem tw13116786203091558802:ku:=trivial
theorem tw8073357727420979584:ku:=trivial
theorem tw15291067446995617826:ku:=trivial
theorem tw14663887425542162976:ku:=trivial
theorem tw9412645772770218004:ku:=trivial
theorem tw12156033607758244389:ku:=trivial
theorem tw4924362505937172468:ku:=trivial
theorem tw10653116674110718928:ku:=trivial
theorem tw15692985959619597024:ku:=trivial
theorem tw5167225326311997272:ku:=trivial
theorem tw5690510475870438027:ku:=trivial
theorem tw13274539960638800056:ku:=trivial
theorem tw12060180623148818365:ku:=trivial
theorem tw12571869376106428405:ku:=trivial
theorem tw15119944751188331350:ku:=trivial
theorem tw11349039999397500721:ku:=trivial
theorem tw6436347958439529453:ku:=trivial
theorem tw5515425280686776222:ku:=trivial
theorem tw9072357631259364966:ku:=trivial
theorem tw2700660099484816328:ku:=trivial
theorem tw15153737296415637809:ku:=trivial
theorem tw12097796859428445473:ku:=trivial
theorem tw3975427519732180123:ku:=trivial
theorem tw17804605128948768227:ku:=trivial
theorem tw17986187186714325065:ku:=trivial
theorem tw17795735483318902773:ku:=trivial
theorem tw11941537242689049449:ku:=trivial
theorem tw11819462789510622076:ku:=trivial
theorem tw14272295436421446708:ku:=trivial
theorem tw6495992221900928656:ku:=trivial
theorem tw4919656338896033368:ku:=trivial
theorem tw3069209455934670368:ku:=trivial
theorem tw2297754423274055176:ku:=trivial
theorem tw169245627779959455:ku:=trivial
theorem tw14596821447380544217:ku:=trivial
theorem tw7105933494670375573:ku:=trivial
theorem tw3918844044128506997:ku:=trivial
theorem tw14664378649165043514:ku:=trivial
theorem tw14907365458162991917:ku:=trivial
theorem tw5372391015031978243:ku:=trivial
theorem tw14340089858307917399:ku:=trivial
theorem tw9600455129455533721:ku:=trivial
theorem tw9066831020059976377:ku:=trivial
theorem tw5013909802469695378:ku:=trivial
theorem tw18011300956334455045:ku:=trivial
theorem tw11967987132413874931:ku:=trivial
theorem tw10142912736716944746:ku:=trivial
theorem tw1983383293980839802:ku:=trivial
theorem tw6768282466667489585:ku:=trivial
theorem tw8248713090572316072:ku:=trivial
theorem tw552780512601477960:ku:=trivial
theorem tw10345906920046088481:ku:=trivial
theorem tw7795378873000114407:ku:=trivial
theorem tw10985280748421923278:ku:=trivial
theorem tw14230567476089413469:ku:=trivial
theorem tw12853078740475185887:ku:=trivial
theorem tw6116441250186521084:ku:=trivial
theorem tw2026855668899890505:ku:=trivial
theorem tw539094422743345913:ku:=trivial
theorem tw15569775838542081652:ku:=trivial
theorem tw7744504564385703593:ku:=trivial
theorem tw16564547428408757046:ku:=trivial
theorem tw11925142555984272148:ku:=trivial
theorem tw4545853517470683260:ku:=trivial
theorem tw4836158236469950420:ku:=trivial
theorem tw16226597817651722369:ku:=trivial
theorem tw1575779766185619008:ku:=trivial
theorem tw4127171522784721320:ku:=trivial
theorem tw3033739404902352959:ku:=trivial
theorem tw6161065360931353217:ku:=trivial
theorem tw14298249757747837435:ku:=trivial
theorem tw13787533972658844113:ku:=trivial
theorem tw16164498896913158576:ku:=trivial
theorem tw7847119672607175812:ku:=trivial
theorem tw7784088908750985322:ku:=trivial
theorem tw7816547651957273590:ku:=trivial
theorem tw6691502871279531021:ku:=trivial
theorem tw2399296238212174864:ku:=trivial
theorem tw13330339728786929457:ku:=trivial
theorem tw13945512991607420982:ku:=trivial
theorem tw3984922096248386853:ku:=trivial
theorem tw14537359998279199916:ku:=trivial
theorem tw17806071477251213948:ku:=trivial
theorem tw7136753005671744919:ku:=trivial
theorem tw10386293235223444847:ku:=trivial
theorem tw754300044920169590:ku:=trivial
theorem tw9710646134452499435:ku:=trivial
theorem tw9882012547972048850:ku:=trivial
theorem tw6239475829091874448:ku:=trivial
theorem tw16988934415815558593:ku:=trivial
theorem tw909946165760396802:ku:=trivial
theorem tw4812623173324526114:ku:=trivial
theorem tw5182524156680459724:ku:=trivial
theorem tw5242130101467361939:ku:=trivial
theorem tw9166070876644207153:ku:=trivial
theorem tw5645440407134412885:ku:=trivial
theorem tw2219000997059056026:ku:=trivial
theorem tw2440170532892803336:ku:=trivial
theorem tw11223327977154172392:ku:=trivial
theorem tw17126034016834493473:ku:=trivial
theorem tw16559100041810670531:ku:=trivial
theorem tw13504654426226213410:ku:=trivial
theorem tw7142445071528852813:ku:=trivial
theorem tw18200126056499010438:ku:=trivial
theorem tw17236111577308588507:ku:=trivial
theorem tw3227520504436948128:ku:=trivial
theorem tw9860610448775856616:ku:=trivial
theorem tw3909288145637434811:ku:=trivial
theorem tw13399492866256975208:ku:=trivial
theorem tw9125102951718533913:ku:=trivial
theorem tw3141282155701114263:ku:=trivial
theorem tw11994620923937053138:ku:=trivial
theorem tw2506396297091700597:ku:=trivial
theorem tw12677649574547961937:ku:=trivial
theorem tw1221125970902793819:ku:=trivial
theorem tw1011310672584130059:ku:=trivial
theorem tw15618823738224880230:ku:=trivial
theorem tw14161483501487791163:ku:=trivial
theorem tw12485520757927336262:ku:=trivial
theorem tw16718597824523020818:ku:=trivial
theorem tw3267415364553227242:ku:=trivial
theorem tw940611450991180004:ku:=trivial
theorem tw12134533620039001696:ku:=trivial
theorem tw941370470847866377:ku:=trivial
theorem tw4613839250038666753:ku:=trivial
theorem tw1541164971901432013:ku:=trivial
theorem tw86241730181643689:ku:=trivial
theorem tw2915577533873747646:ku:=trivial
theorem tw2185058335684560488:ku:=trivial
theorem tw16970001720356903140:ku:=trivial
theorem tw197872272410074683:ku:=trivial
theorem tw4353014729844641520:ku:=trivial
theorem tw7663896732833180582:ku:=trivial
theorem tw1834683430752930792:ku:=trivial
theorem tw10101376098526695318:ku:=trivial
theorem tw8039916502300989239:ku:=trivial
theorem tw9189415444434837990:ku:=trivial
theorem tw4020759553260875681:ku:=trivial
theorem tw293804414215110381:ku:=trivial
theorem tw9498028096069312334:ku:=trivial
theorem tw9152788551180007354:ku:=trivial
theorem tw9758251633987850986:ku:=trivial
theorem tw4535090136917122447:ku:=trivial
theorem tw17615132663020785973:ku:=trivial
theorem tw8824054336028240489:ku:=trivial
theorem tw9542271742150052606:ku:=trivial
theorem tw4312958689571101161:ku:=trivial
theorem tw5737080080093470984:ku:=trivial
theorem tw5382988289984120269:ku:=trivial
theorem tw3088764292523640588:ku:=trivial
theorem tw13151396170261765020:ku:=trivial
theorem tw834774247357030829:ku:=trivial
theorem tw7969157627802304149:ku:=trivial
theorem tw788994405670430691:ku:=trivial
theorem tw16956230394053091815:ku:=trivial
theorem tw8680148666965470891:ku:=trivial
theorem tw12044774605312623808:ku:=trivial
theorem tw9316426990626628817:ku:=trivial
theorem tw17256437144321427009:ku:=trivial
theorem tw13386094104909648640:ku:=trivial
theorem tw18437518130739790235:ku:=trivial
theorem tw2225008083853549460:ku:=trivial
theorem tw12954022903380037924:ku:=trivial
theorem tw10099778374145945016:ku:=trivial
theorem tw12310712615986535209:ku:=trivial
theorem tw3011415688765474742:ku:=trivial
theorem tw1642919914602212086:ku:=trivial
theorem tw14796439223034121193:ku:=trivial
theorem tw2723243849750752758:ku:=trivial
theorem tw8788518333195874105:ku:=trivial
theorem tw5772225780936788347:ku:=trivial
theorem tw2675747075624623845:ku:=trivial
theorem tw10242640147102233227:ku:=trivial
theorem tw1359689879310609253:ku:=trivial
theorem tw14592366188648053627:ku:=trivial
theorem tw12435450741607832438:ku:=trivial
theorem tw7369579629519085169:ku:=trivial
theorem tw4314410895018131039:ku:=trivial
theorem tw2845998403985401980:ku:=trivial
theorem tw15260015576955652211:ku:=trivial
theorem tw12200046854348883559:ku:=trivial
theorem tw3711721071259727962:ku:=trivial
theorem tw48392429956295612:ku:=trivial
theorem tw5709198607493327810:ku:=trivial
end PySem.W.Fast
namespace L2
open PySem PySem.Spec PyProof.Rows
variable{C a:f'}{A:FZ}{op:ϧ}{c e tg:oP}{fd:Zo}{kT h h':g6}{d0:aj (f'×qH)}{ch fp:aj f'}{es:aj oP}{N:aj fv}{us:aj eT}{M:Model}{i t':aT}{p ia:vd}{jf:wW}{K:Fg}{s:oi}{x:fv}{mg:fv->fy eT}{u:eT}{E:eT->oi->Prop}{f:eT->eT->_F eT}{w:uG}
set_option genInjectivity true in
inductive Kx where
 |aC|bl (b:ie)|a6 (i:dr)|str (x:fv)|gw (ks:aj Kx)
inductive Sh where
 |ob|bl|a6|str|gw (ss:aj Sh)|YW (s:Sh)
noncomputable instance:ϊ Kx:=λ_ _=>_o.å _
mutual
noncomputable def Kx.depth:Kx->Nat
 |.tup ks=>Kx.dn ks+1
 |_=>0
noncomputable def Kx.dn:List Kx->Nat
 |[]=>0
 |k::ks=>max k.depth (Kx.dn ks)
end
mutual
noncomputable def fw:Kx->Sh->Prop
 |.aC,.ob=>True
 |.bl _,.ob=>True
 |.bl _,.bl=>True
 |.int _,.int=>True
 |.str _,.str=>True
 |.tup ks,.tup ss=>qv ks ss
 |.tup ks,.many s=>l4 ks s
 |_,_=>False
noncomputable def qv:List Kx->List Sh->Prop
 |[],[]=>True
 |k::ks,s::ss=>fw k s/\qv ks ss
 |_,_=>False
noncomputable def l4:List Kx->Sh->Prop
 |[],_=>True
 |k::ks,s=>fw k s/\l4 ks s
end
mutual
noncomputable def pf(h:Heap):Kx->Value->Prop
 |.aC,v=>v=.none
 |.bl b,v=>v=.bool b
 |.int i,v=>∃t,v=.int i t
 |.str x,v=>∃t,v=.str x t
 |.tup ks,v=>∃a o items n,v=.ref a/\h.get? a=some o/\o.cls=.type "tuple" /\ o.data=.seq items n/\g8 h ks items.toList
noncomputable def g8(h:Heap):List Kx->List Value->Prop
 |[],vs=>vs=[]
 |k::ks,vs=>∃v r,vs=v::r/\pf h k v/\g8 h ks r
end
mutual
theorem Rw{h:Heap}:∀(k k':Kx){v:Value},pf h k v->pf h k' v->k=k'
 |.aC,k',v,x,y=>by
  cases(show v=.none from x);cases k' with
  |aC=>rfl
  |bl c=>cases(show Value.none=.bool c from y)
  |int i=>let⟨t,e⟩:=y;cases e
  |str i=>let⟨t,e⟩:=y;cases e
  |tup ks=>let⟨_,_,_,_,e,_⟩:=y;cases e
 |.bl b,k',v,x,y=>by
  cases(show v=.bool b from x);cases k' with
  |aC=>cases(show Value.bool b=.none from y)
  |bl c=>cases(show Value.bool b=.bool c from y);rfl
  |int i=>let⟨t,e⟩:=y;cases e
  |str i=>let⟨t,e⟩:=y;cases e
  |tup ks=>let⟨_,_,_,_,e,_⟩:=y;cases e
 |.int b,k',v,x,y=>by
  let⟨t,rfl⟩:=x;cases k' with
  |aC=>cases y
  |bl c=>cases y
  |int i=>let⟨t,e⟩:=y;cases e;rfl
  |str i=>let⟨t,e⟩:=y;cases e
  |tup ks=>let⟨_,_,_,_,e,_⟩:=y;cases e
 |.str b,k',v,x,y=>by
  let⟨t,rfl⟩:=x;cases k' with
  |aC=>cases y
  |bl c=>cases y
  |int i=>let⟨t,e⟩:=y;cases e
  |str i=>let⟨t,e⟩:=y;cases e;rfl
  |tup ks=>let⟨_,_,_,_,e,_⟩:=y;cases e
 |.tup ks,k',v,x,y=>by
  let⟨a,o,it,n,rfl,h1,h2,h3,h4⟩:=x;cases k' with
  |aC=>cases y
  |bl c=>cases y
  |int i=>let⟨t,e⟩:=y;cases e
  |str i=>let⟨t,e⟩:=y;cases e
  |tup ks'=>
   let⟨a',o',DR,n',e,g1,g2,g3,g4⟩:=y;cases e;rw[h1]at g1;cases g1;rw[h3]at g3;injection g3 with e1 _
   subst e1;rw[KQ ks ks' h4 g4]
theorem KQ{h:Heap}:∀(ks ks':List Kx){vs:List Value},g8 h ks vs->g8 h ks' vs->ks=ks'
 |[],ks',vs,x,y=>by
  cases(show vs=[]from x);cases ks' with
  |nil=>rfl
  |cons k ks'=>let⟨v,r,e,_⟩:=y;cases e
 |k::ks,ks',vs,x,y=>by
  let⟨v,r,rfl,h1,h2⟩:=x;cases ks' with
  |nil=>cases(show v::r=[]from y)
  |cons k' ks'=>
   let⟨v',r',e,g1,g2⟩:=y;cases e;rw[Rw k k' h1 g1,KQ ks ks' h2 g2]
end
mutual
theorem Pw{h h':Heap}(hk:∀a o,h.get? a=some o->o.cls=.type "tuple"->(∃it n,o.data=.seq it n)->h'.get? a=some o):∀(k:Kx){v:Value},pf h k v->pf h' k v
 |.aC,v,x=>x
 |.bl b,v,x=>x
 |.int b,v,x=>x
 |.str b,v,x=>x
 |.tup ks,v,x=>by
  let⟨a,o,it,n,rfl,h1,h2,h3,h4⟩:=x;exact⟨a,o,it,n,rfl,hk a o h1 h2 ⟨it,n,h3⟩,h2,h3,O7 hk ks h4⟩
theorem O7{h h':Heap}(hk:∀a o,h.get? a=some o->o.cls=.type "tuple"->(∃it n,o.data=.seq it n)->h'.get? a=some o):∀(ks:List Kx){vs:List Value},g8 h ks vs->g8 h' ks vs
 |[],vs,x=>x
 |k::ks,vs,x=>by
  let⟨v,r,rfl,h1,h2⟩:=x;exact⟨v,r,rfl,Pw hk k h1,O7 hk ks h2⟩
end
theorem g8.aO:∀(ks:aj Kx){vs:aj eT},g8 h ks vs->vs.aO=ks.aO
 |[],vs,x=>by cases(show vs=[]from x);rfl
 |k::ks,vs,x=>by
  let⟨v,r,rfl,h1,h2⟩:=x;rw[w0x,w0x,g8.aO ks h2]
mutual
noncomputable def kI(w:World):Kx->Int
 |.aC=>PySem.W.hashW w.params .none
 |.bl b=>reduceHash (if b=true then 1 else 0)
 |.int i=>hashInt i
 |.str x=>hashStr w x
 |.tup ks=>reduceHash (Builtin.Tuple.tupleHashOf (ig w ks))
noncomputable def ig(w:World):List Kx->List Int
 |[]=>[]
 |k::ks=>kI w k::ig w ks
end
mutual
noncomputable def ly:Kx->Nat
 |.tup ks=>jk ks+1
 |_=>1
noncomputable def jk:List Kx->Nat
 |[]=>0
 |k::ks=>ly k+jk ks
end
mutual
theorem Rl:∀(k:Kx)(v:Value)(A:Around)(s:Shared)(Q:Int->Shared->Prop),pf s.heap k v->A.units+k.depth<cLine->Q (kI w k) {s with toks:=s.toks+ly k}->wpAny (model prog w) A (pyHash v) Q E s
 |.aC,v,A,s,Q,x,hu,h=>by
  cases(show v=.none from x);exact pyHash_slot (T:="NoneType") rfl F.slot_NoneType_hash F.entry_NoneType_hash (F.args_NoneType_hash_1 _) (beq_builtin_none _) (.inr (by omega)) (wpAny_bind (wpAny_pure (wpAny_bind (wpAny_mkInt (wpAny_pure ⟨_,_,rfl,h⟩)))))
 |.bl b,v,A,s,Q,x,hu,h=>by
  cases(show v=.bool b from x);refine pyHash_slot (T:="bool") rfl F.slot_bool_hash entry_int_hash (args_int_hash _) (beq_builtin_none _) (.inr (by omega)) ?_;cases b
  .exact(show wpAny _ _ (do ret (<- mkInt 0)) _ _ s from wpAny_bind (wpAny_mkInt (wpAny_pure ⟨_,_,rfl,h⟩)))
  .exact(show wpAny _ _ (do ret (<- mkInt 1)) _ _ s from wpAny_bind (wpAny_mkInt (wpAny_pure ⟨_,_,rfl,h⟩)))
 |.int i,v,A,s,Q,x,hu,h=>by
  let⟨t,rfl⟩:=x;exact wpAny_pyHash_int h
 |.str i,v,A,s,Q,x,hu,h=>by
  let⟨t,rfl⟩:=x;exact wpAny_pyHash_str h
 |.tup ks,v,A,s,Q,x,hu,h=>by
  let⟨a,o,it,n,rfl,h1,h2,h3,h4⟩:=x;refine pyHash_slot (T:="tuple") ⟨_,h1,h2⟩ F.slot_tuple_hash F.entry_tuple_hash (F.args_tuple_hash_1 _) (beq_builtin_none _) (.inr (by omega)) ?_;show wpAny _ _ (Builtin.Tuple.tupleItemsOf (.ref a) >>= _) _ _ s;refine wpAny_bind (wpAny_tupleItemsOf h1 h3 ?_);refine wpAny_bind ?_;rw[<- w5r];refine Px ks it.toList A.in1 s #[] _ h4 (by simp only[Kx.depth,Around.in1_units]at hu |-;omega) λb hb=>?_
  show wpAny _ _ (retInt (Builtin.Tuple.tupleHashOf b.toList)) _ _ _;rw[hb];exact wpAny_bind (wpAny_mkInt (wpAny_pure ⟨_,_,rfl,by simpa [kI,ly,w5s]using h⟩))
theorem Px:∀(ks:List Kx)(vs:List Value)(A:Around)(s:Shared)(b:Array Int)(Q:Array Int->Shared->Prop),g8 s.heap ks vs->A.units+Kx.dn ks<cLine ->
  (∀b',b'.toList=b.toList++ig w ks->Q b' {s with toks:=s.toks+jk ks}) ->
  wpAny (model prog w) A (forIn vs b λx r=>do let h <- pyHash x;pure PUnit.unit;pure (ForInStep.yield (r.push h))) Q E s
 |[],vs,A,s,b,Q,x,hu,h=>by
  cases(show vs=[]from x);exact wpAny_pure (h b (by simp[ig]))
 |k::ks,vs,A,s,b,Q,x,hu,h=>by
  let⟨v,r,rfl,h1,h2⟩:=x;simp only[Kx.dn]at hu;rw[w3f];refine wpAny_bind (wpAny_bind (Rl k v A s _ h1 (by omega) ?_));refine wpAny_bind (wpAny_pure (wpAny_pure ?_))
  exact Px ks r A _ _ Q h2 (by omega) λb' hb=>by
   have:=h b' (by simp[hb,ig])
   simpa [jk,w5s]using this
end
def Rm(a b):decide (Kx.bl a=Kx.bl b)=(a==b):=by
 grind
def y86(a b):decide (Kx.a6 a=Kx.a6 b)=(a==b):=by
 grind
def y87(a b):decide (Kx.str a=Kx.str b)=(a==b):=by
 grind
def Ä(ks ks':aj Kx)(j:aT):ie:=decide (ks[j]?=ks'[j]?)
def y88:∀ks ks':aj Kx,((aj.u5 (min ks.aO ks'.aO)).rM (Ä ks ks')&&ks.aO==ks'.aO)=decide (Kx.gw ks=Kx.gw ks'):=by
 intro ks ks'
 by_cases e:ks=ks'
 .grind [Ä]
 .rw[Yu (λz=>e (by injection z))]
  rw[ie.and_eq_false_iff]
  by_cases hl:ks.aO=ks'.aO
  .left
   rw[w2i];intro ha;refine e (w2j λj=>?_)
   by_cases hj:j<ks.aO
   .have:=w1d.mp ha j (w0u.uY (by omega));exact Ş this
   grind
  grind
theorem ES:∀(ks:aj Kx){vs:aj eT},g8 h ks vs->∀(j:aT)(v:eT),vs[j]?=ai v->∃k,ks[j]?=ai k/\pf h k v
 |[],vs,x,j,v,e=>by cases(show vs=[]from x);simp at e
 |k::ks,vs,x,j,v,e=>by
  let⟨u,r,rfl,h1,h2⟩:=x;cases j with
  |TL=>cases e;exact⟨k,rfl,h1⟩
  |OK j=>exact ES ks h2 j v (by simpa using e)
theorem JW:∀(ks:aj Kx)(j:aT)(k:Kx),ks[j]?=ai k->k.w8<=Kx.dn ks
 |[],j,k,e=>by simp at e
 |x::ks,j,k,e=>by
  simp only[Kx.dn];cases j with
  |TL=>cases e;omega
  |OK j=>have:=JW ks j k (by simpa using e);omega
theorem JX:∀(ks:aj Kx)(ss:aj Sh),qv ks ss->∀(j:aT)(k:Kx),ks[j]?=ai k->∃s,ss[j]?=ai s/\fw k s
 |[],ss,_,j,k,e=>by simp at e
 |x::ks,[],c,j,k,e=>c.nU
 |x::ks,s::ss,c,j,k,e=>by
  cases j with
  |TL=>cases e;exact⟨s,rfl,c.1⟩
  |OK j=>exact JX ks ss c.2 j k (by simpa using e)
theorem JQ:∀(ks:aj Kx)(s:Sh),l4 ks s->∀(j:aT)(k:Kx),ks[j]?=ai k->fw k s
 |[],s,_,j,k,e=>by simp at e
 |x::ks,s,c,j,k,e=>by
  cases j with
  |TL=>cases e;exact c.1
  |OK j=>exact JQ ks s c.2 j k (by simpa using e)
def Vx(s:oi):∀(n:aT)(k k':Kx)(sh:Sh)(v v':eT)(A:FZ),k.w8<=n->fw k sh->fw k' sh->pf s.bj k v->pf s.bj k' v'->A.yH+n<yN->yy.WE A s v v' (decide (k=k')):=by
 intro n
 induction n with
 |TL=>
  intro k k' sh v v' A hd c c' x y hu;cases k with
  |aC=>
   cases sh with
   |ob=>
    cases k' with
    |aC=>cases(show v=.none from x);cases(show v'=.none from y);rw[Z4 rfl];exact .same _
    |bl b=>cases(show v=.none from x);cases(show v'=.xv b from y);rw[Yu (λz=>nomatch z)];exact .â b
    |_=>exact c'.nU
   |_=>exact c.nU
  |bl a=>
   cases sh with
   |ob=>
    cases k' with
    |aC=>cases(show v=.xv a from x);cases(show v'=.none from y);rw[Yu (λz=>nomatch z)];exact .Ó a
    |bl b=>cases(show v=.xv a from x);cases(show v'=.xv b from y);rw[Rm];exact .ϫ a b
    |_=>exact c'.nU
   |bl=>
    cases k' with
    |bl b=>cases(show v=.xv a from x);cases(show v'=.xv b from y);rw[Rm];exact .ϫ a b
    |_=>exact c'.nU
   |_=>exact c.nU
  |a6 a=>
   cases sh with
   |a6=>
    cases k' with
    |a6 b=>let⟨t,rfl⟩:=x;let⟨u,rfl⟩:=y;rw[y86];exact .Ý a t b u
    |_=>exact c'.nU
   |_=>exact c.nU
  |str a=>
   cases sh with
   |str=>
    cases k' with
    |str b=>let⟨t,rfl⟩:=x;let⟨u,rfl⟩:=y;rw[y87];exact .Ģ a t b u
    |_=>exact c'.nU
   |_=>exact c.nU
  |gw ks=>simp only[Kx.w8]at hd;omega
 |OK n ih=>
  intro k k' sh v v' A hd c c' x y hu;cases k with
  |aC=>exact ih .aC k' sh v v' A (w1c _) c c' x y (by omega)
  |bl a=>exact ih (.bl a) k' sh v v' A (w1c _) c c' x y (by omega)
  |a6 a=>exact ih (.a6 a) k' sh v v' A (w1c _) c c' x y (by omega)
  |str a=>exact ih (.str a) k' sh v v' A (w1c _) c c' x y (by omega)
  |gw ks=>
   let⟨a,o,it,m,rfl,h1,h2,h3,h4⟩:=x
   have Θ:∀ks',k'=.gw ks'->(∀(j:aT)(u u':Kx),ks[j]?=ai u->ks'[j]?=ai u'->∃s,fw u s/\fw u' s)->yy.WE A s (.dI a) v' (decide (Kx.gw ks=k')):=by
    rintro ks' rfl hc;let⟨b,o',DR,m',rfl,g1,g2,g3,g4⟩:=y
    by_cases sU:a=b
    .subst sU;rw[h1]at g1;cases g1;rw[h3]at g3;injection g3 with e1 _
     subst e1;rw[KQ ks ks' h4 g4,Z4 rfl];exact .same _
    .have l1:=g8.aO ks h4;have l2:=g8.aO ks' g4;rw[<- y88]
     have:=yy.Φ.Ų (A:=A) (s:=s) (e:=Ä ks ks') (show s.bj.Yy a it from⟨o,h1,h2,m,h3⟩) (show s.bj.Yy b DR from⟨o',g1,g2,m',g3⟩) (by omega) (λj j1 j2=>by
      let⟨u,u1,u2⟩:=ES ks h4 j it[j] (by simp[j1]);let⟨u',OR,zaI⟩:=ES ks' g4 j DR[j] (by simp[j2]);let⟨X7,c1,c2⟩:=hc j u u' u1 OR;have hdj:=JW ks j u u1;simp only[Kx.w8]at hd;have z:=ih u u' X7 _ _ A.Dh (by omega) c1 c2 u2 zaI (by rw[FZ.in1_units];omega)
      have e:Ä ks ks' j=decide (u=u'):=by
       unfold Ä;rw[u1,OR]
       by_cases q:u=u'
       .rw[q];simp
       .rw[Yu q,Yu (λz=>q (fy.ai.yB z))]
      rw[e];exact z)
     rw[show it.d3=ks.aO by simpa using l1,show DR.d3=ks'.aO by simpa using l2]at this;exact .of_refs sU this
   cases sh with
   |gw ss=>
    cases k' with
    |gw ks'=>
     refine Θ ks' rfl λj u u' e1 e2=>?_
     let⟨s1,q1,q2⟩:=JX ks ss c j u e1;let⟨s2,q3,q4⟩:=JX ks' ss c' j u' e2;rw[q1]at q3;cases q3;exact⟨s1,q2,q4⟩
    |_=>exact c'.nU
   |YW s1=>
    cases k' with
    |gw ks'=>exact Θ ks' rfl λj u u' e1 e2=>⟨s1,JQ ks s1 c j u e1,JQ ks' s1 c' j u' e2⟩
    |_=>exact c'.nU
   |_=>exact c.nU
def y89:∀(n:aT)(k:Kx)(v:eT)(s:oi)(Q:ie->oi->Prop),k.w8<=n->pf s.bj k v->Q true s->oh (p5 jf w) A (eqIsQuiet n v) Q E s:=by
 intro n
 induction n with
 |TL=>
  intro k v s Q hd x h;cases k with
  |aC=>cases(show v=.none from x);rw[ξ _ rfl];exact t8 h
  |bl b=>cases(show v=.xv b from x);rw[ξ _ rfl];exact t8 h
  |a6 i=>let⟨t,rfl⟩:=x;rw[ξ _ rfl];exact t8 h
  |str i=>let⟨t,rfl⟩:=x;rw[ξ _ rfl];exact t8 h
  |gw ks=>simp only[Kx.w8]at hd;omega
 |OK n ih=>
  intro k v s Q hd x h;cases k with
  |aC=>cases(show v=.none from x);rw[ξ _ rfl];exact t8 h
  |bl b=>cases(show v=.xv b from x);rw[ξ _ rfl];exact t8 h
  |a6 i=>let⟨t,rfl⟩:=x;rw[ξ _ rfl];exact t8 h
  |str i=>let⟨t,rfl⟩:=x;rw[ξ _ rfl];exact t8 h
  |gw ks=>
   let⟨a,o,it,m,rfl,h1,h2,h3,h4⟩:=x;have hT:s._G (.dI a) "tuple":=⟨o,h1,h2⟩;unfold eqIsQuiet;refine lT (İ hT F.slot_tuple_eq.hW ?_);show oh _ _ (Ŗ (.dI a) (.je "tuple") >>= _) _ _ s;refine lT (ŵ hT isSubtype_tuple_tuple ?_);simp only[ie.not_true,w4h,ĉ];refine lT (_A h1 h3 ?_);refine lT ?_;show oh _ _ (ϝ it _ _) _ _ s;rw[<- w5r];refine wpAny_forIn_list _ (λwV r s'=>r.1=none/\s'=s/\∀v∈wV,∃k:Kx,k.w8<=n/\pf s.bj k v) _ ?_ ?_ _ _ ⟨rfl,rfl,λv hv=>?_⟩
   .rintro v wV r s' ⟨hr,rfl,qT⟩;let⟨k,k1,k2⟩:=qT v w1e;refine lT (ih k v _ _ k1 k2 ?_);simp only[ie.not_true,w4h,ĉ];exact t8 ⟨rfl,rfl,λu Ho=>qT u (w0o _ Ho)⟩
   .rintro⟨r1,r2⟩ s' ⟨hr,rfl,_⟩;simp only at hr;subst hr;exact t8 h
   .let⟨j,hj,e⟩:=w1s.mp hv;let⟨k,k1,k2⟩:=ES ks h4 j v (by rw[w0b hj,e]);have:=JW ks j k k1;simp only[Kx.w8]at hd;exact⟨k,by omega,k2⟩
def e5(jf)(w)(sh:Sh):HeapKind jf w Kx where
 is:=λh k a=>pf h k (.dI a)/\fw k sh/\k.w8<=7
 ϶:=kI w
 draws:=ly
 room:=λA=>A.yH+8<yN
 yB:=λhx hy=>Rw _ _ hx.1 hy.1
 YE:=λ{h h' k a d o es ep} x ho hd hs=>⟨Pw (λb ob e1 e2 e3=>by
  have gH:b≠d:=by
   grind
  exact(hs.2 b gH).lb e1) _ x.1,x.2⟩
 Ĕ:=λ{A E s k a Q} hu hk h=>Rl k _ A s Q hk.1 (by have:=hk.2.2;omega) h
 Ú:=λ{A E s x y a b Q} hu hx hy h=>Vx s 7 x y sh _ _ A hx.2.2 hx.2.1 hy.2.1 hx.1 hy.1 (by omega) jf w E Q h
 quiet:=λ{A E s k a Q} hk h=>y89 8 k _ s Q (by have:=hk.2.2;omega) hk.1 h
set_option Elab.async false
set_option linter.all false
set_option maxRecDepth 100000
abbrev Xx:=Y8 dr fv
def kK:Xx->eT->ie
 |.j9 k,v=>eT.isInt k v
 |.mW x,v=>eT.isStrOf x v
def HD(w:uG):Xx->dr
 |.j9 k=>hashInt k
 |.mW x=>hashStr w x
theorem uM:∀{k:Xx}{v:eT},kK k v=true->(∃i t,k=Y8.j9 i/\v=eT.a6 i t)\/(∃x t,k=Y8.mW x/\v=eT.str x t)
 |.j9 i,v,h=>by
  let⟨t,e⟩:=eT.isInt_shape (k:=i) (v:=v) h;exact .j9 ⟨i,t,rfl,e⟩
 |.mW x,v,h=>by
  let⟨t,e⟩:=eT.isStrOf_shape (x:=x) (v:=v) h;exact .mW ⟨x,t,rfl,e⟩
def y4o(i)(t):kK (.j9 i) (.a6 i t)=true:=by simp[kK,eT.isInt]
def y4p(x)(t):kK (.mW x) (.str x t)=true:=by simp[kK,eT.isStrOf]
def z82(a b):decide ((Y8.j9 a:Xx)=Y8.j9 b)=(a==b):=by
 grind
def z83(a b):decide ((Y8.mW a:Xx)=Y8.mW b)=decide (a=b):=by
 grind
theorem z84(a)(b):decide ((Y8.j9 a:Xx)=Y8.mW b)=false:=Yu (λq=>nomatch q)
theorem z85(a)(b):decide ((Y8.mW a:Xx)=Y8.j9 b)=false:=Yu (λq=>nomatch q)
def cZ(jf:wW)(w:uG):lU.KeyKind jf w Xx where
 is:=kK
 ϶:=HD w
 yB:=λv a b ha hb=>by
  rcases uM ha with⟨i,t,rfl,rfl⟩|⟨x,t,rfl,rfl⟩
  .rcases uM hb with⟨j,u,rfl,e⟩|⟨y,u,rfl,e⟩
   .injection e with e1 _;rw[e1]
   .exact nomatch e
  .rcases uM hb with⟨j,u,rfl,e⟩|⟨y,u,rfl,e⟩
   .exact nomatch e
   .injection e with e1 _;rw[e1]
 byValue:=λk v h=>by
  rcases uM h with⟨i,t,rfl,rfl⟩|⟨x,t,rfl,rfl⟩<;>rfl
 Ĕ:=λhv h=>by
  rcases uM hv with⟨i,t,rfl,rfl⟩|⟨x,t,rfl,rfl⟩
  .exact wpAny_pyHash_int h
  .exact wpAny_pyHash_str h
 Ú:=λhu hv h=>by
  rcases uM hu with⟨i,t,rfl,rfl⟩|⟨x,t,rfl,rfl⟩
  .rcases uM hv with⟨j,u,rfl,rfl⟩|⟨y,u,rfl,rfl⟩
   .rw[z82]at h;exact wpAny_eqBool_int h
   .rw[z84]at h;exact yy.WE.Ċ i t y u _ _ _ _ h
  .rcases uM hv with⟨j,u,rfl,rfl⟩|⟨y,u,rfl,rfl⟩
   .rw[z85]at h;exact yy.WE.ġ x t j u _ _ _ _ h
   .rw[z83]at h;exact wpAny_eqBool_str h
 «strs»:=λk x t v h=>by
  rcases uM h with⟨i,u,rfl,e⟩|⟨y,u,rfl,e⟩
  .exact nomatch e
  .injection e with e1 _
   subst e1;cases v<;>rfl
theorem za'(jf)(w)(i)(t):(cZ jf w).is (.j9 i) (.a6 i t)=true:=y4o i t
theorem zba(jf)(w)(x)(t):(cZ jf w).is (.mW x) (.str x t)=true:=y4p x t
set_option genInjectivity true in
inductive V where
 |aC|bl (b:ie)|a6 (i:dr)|str (x:fv)|vh (b:yw UInt8)|vp (b:UInt64)|dI (a:f')|ty (n:Yk)
 deriving ϊ
variable{xs:aj V}{v:V}
def uc:V->eT->Prop
 |.aC,u=>u=eT.none
 |.bl b,u=>u=eT.xv b
 |.a6 i,u=>∃t,u=eT.a6 i t
 |.str x,u=>∃t,u=eT.str x t
 |.vh b,u=>∃t,u=eT.bytes b t
 |.vp b,u=>∃t,u=eT.float b t
 |.dI a,u=>u=eT.dI a
 |.ty n,u=>u=eT.je n
abbrev t9:aj V->aj eT->Prop:=Zj uc
theorem t9.aO(r:t9 xs us):xs.aO=us.aO:=Zj.aO r
theorem t9.A':∀{xs:aj V}{us:aj eT}{i:aT}{x:V},t9 xs us->xs[i]?=ai x->∃u,us[i]?=ai u/\uc x u
 |_,_,_,_,.ro,e=>by simp at e
 |_,_,0,_,.p9 r _,e=>by simp at e;subst e;exact⟨_,rfl,r⟩
 |_,_,i+1,x,.p9 _ t,e=>by
  let⟨u,h1,h2⟩:=t9.A' (i:=i) (x:=x) t (by simpa using e);exact⟨u,by simpa using h1,h2⟩
theorem t9.ri{x:V}(r:uc x u):∀{xs:aj V}{us:aj eT}(i:aT),t9 xs us->t9 (xs.ri i x) (us.ri i u)
 |_,_,_,.ro=>.ro
 |_,_,0,.p9 _ t=>.p9 r t
 |_,_,i+1,.p9 q t=>.p9 q (t9.ri r i t)
theorem t9.Xy:∀{xs ys:aj V}{us ws:aj eT},t9 xs us->t9 ys ws->t9 (xs++ys) (us++ws)
 |_,_,_,_,.ro,s=>s
 |_,_,_,_,.p9 r t,s=>.p9 r (t9.Xy t s)
theorem t9.yE:∀{xs:aj V}{us:aj eT}(n:aT),t9 xs us->t9 (xs.yE n) (us.yE n)
 |_,_,0,_=>.ro
 |_,_,_+1,.ro=>.ro
 |_,_,n+1,.p9 r t=>.p9 r (t9.yE n t)
theorem t9.zd:∀{xs:aj V}{us:aj eT}(n:aT),t9 xs us->t9 (xs.zd n) (us.zd n)
 |_,_,0,r=>r
 |_,_,_+1,.ro=>.ro
 |_,_,n+1,.p9 _ t=>t9.zd n t
def kl:fy V->fy eT->Prop
 |ai v,ai u=>uc v u
 |none,none=>ku
 |_,_=>uH
def KV{κ:Type}:aj (κ×V)->aj (κ×eT)->Prop:=Zj fun(p:κ×V) (q:κ×eT)=>p.1=q.1/\uc p.2 q.2
def kV:Xx->V
 |.j9 i=>.a6 i
 |.mW x=>.str x
inductive HO where
 |dS (xs:aj V)
 |gw (xs:aj V)
 |dK (kvs:aj (Xx×V))|dT (sh:Sh) (kvs:aj (Kx×V)) (bD:aj f')
 |ri (S:dr->ie) (n:aT)
 |ins (C dx:f') (fs:aj (fv×V))
 |ke (x:f')
 |xd (fs:aj (fv×V))
 |met (f x:f')
 |Ks (lo hi:dr)
 |cB (o:qH) (u:HO)
 |om (ps:yw eT)
 |ext (φ:g6->Prop)
abbrev Hp:=f'->fy HO
variable{H H':Hp}
def eg:HO->Prop
 |.gw _=>ku
 |.cB _ (.gw _)=>ku
 |.cB _ (.ke _)=>ku
 |_=>uH
mutual
noncomputable def cF(H:Hp):Kx->V->Prop
 |.aC,v=>v=.aC
 |.bl b,v=>v=.bl b
 |.int i,v=>v=.int i
 |.str x,v=>v=.str x
 |.tup ks,v=>∃a xs,v=.ref a/\(H a=some (.tup xs)\/∃o,H a=some (.cB o (.tup xs)))/\fm H ks xs
noncomputable def fm(H:Hp):List Kx->List V->Prop
 |[],vs=>vs=[]
 |k::ks,vs=>∃v r,vs=v::r/\cF H k v/\fm H ks r
end
mutual
theorem cF.keeps{H H':Hp}(ht:∀b u,eg u->H b=some u->H' b=some u):∀(k:Kx){v:V},cF H k v->cF H' k v
 |.aC,_,x=>x
 |.bl _,_,x=>x
 |.int _,_,x=>x
 |.str _,_,x=>x
 |.tup ks,_,x=>by
  let⟨a,xs,e,q,r⟩:=x;refine⟨a,xs,e,?_,fm.keeps ht ks r⟩;rcases q with q|⟨o,q⟩
  .exact .inl (ht _ _ True.intro q)
  .exact .inr ⟨o,ht _ _ True.intro q⟩
theorem fm.keeps{H H':Hp}(ht:∀b u,eg u->H b=some u->H' b=some u):∀(ks:List Kx){vs:List V},fm H ks vs->fm H' ks vs
 |[],_,x=>x
 |k::ks,_,x=>by
  let⟨v,r,e,h1,h2⟩:=x;exact⟨v,r,e,cF.keeps ht k h1,fm.keeps ht ks h2⟩
end
def ny(H:Hp)(a:f')(o:HO):Hp:=λb=>if b=a then ai o else H b
def bQ:ny H a o a=ai o:=by simp_all [ny]
def aR(h:b≠a):ny H a o b=H b:=by unfold ny;rw[sF h]
def E4{o u:HO}:ny (ny H a o) a u=ny H a u:=by
 funext b;unfold ny;split<;>rfl
def fG{u:HO}(h:H a=ai o)(h':H b=ai u)(d:o≠u):a≠b:=by
 grind
def gh(h:H a=ai o)(h':H b=none):a≠b:=by
 grind
section
variable(P:wW)(w:uG)
def zeU(h:g6)(a:f'):Prop:=∃o,h.iT a=ai o/\o.x8=none
def aS(H:Hp)(h:g6)(a:f'):HO->Prop
 |.dS xs=>xs.aO<=u0/\∃(av:aj eT)(n:aT),t9 xs av/\h.iT a=ai {l_:=.je "list", n9:=.ot av.lS n}
 |.gw xs=>xs.aO<=u0/\∃av:aj eT,t9 xs av/\ZW h a av.lS/\zeU h a
 |.dK kvs=>kvs.aO<=u0/\(a==_j)=false/\∃vs,KV kvs vs/\h.ό (cZ P w) a vs
 |.dT sh kvs bD=>kvs.aO<=u0/\(a==_j)=false/\∃xs:aj (Kx×f'×eT),
   Zj (fun(p:Kx×V) (q:Kx×f'×eT)=>p.1=q.1/\(cF H p.1 (.dI q.2.1)/\fw p.1 sh/\p.1.w8<=7)/\uc p.2 q.2.2) kvs xs/\xs.a7 (·.2.1)=bD /\
   ∃o es ep,h.iT a=ai o/\o.Ż/\o.n9=.x8 es ep/\es.vr=xs.a7 (entryOfKey (e5 P w sh))/\(xs.a7 (·.1)).yr
 |.ri S n=>h.SetOf (intKind P w) a S n
 |.ins C dx fs=>H dx=ai (.ke a)/\fs.aO<=1000/\dx≠a/\h.iT a=ai (lU.W.instObj C dx) /\
   ∃mA,h.Ns1 dx mA/\(∀f,kl (fs.hW f) (mA f))/\lU.Within mA (fs.a7 (·.1))
 |.ke _=>∃o,h.iT a=ai o
 |.xd fs=>∃mA,h.Ns1 a mA/\∀f,kl (fs.hW f) (mA f)
 |.Ks lo hi=>∃t u v,h.iT a=ai {l_:=.je "range", n9:=.NJ #[.a6 lo t,.a6 hi u,.a6 1 v]}
 |.cB o u=>h.iT a=ai o/\aS H h a u
 |.om ps=>(∃(q:fv)(qs:yw eT),ps[0]?=ai (.xv true)/\ps[1]?=ai (.str q 0)/\h.iT a=ai {l_:=.none,n9:=.NJ qs}/\ļ qs.vr/\∀(ia:vd)(cv:eT),Ϯ ia qs.vr=ai cv ->
   ∃(c:f')(oc:qH)(vs:yw eT)(t:_Z),cv=.dI c/\H c=ai (.cB oc (.ke 0))/\oc.n9=.NJ vs/\vs[1]?=ai (.str q t)) \/
   ∃(q:fv)(c:f')(oc ob:qH)(vs:yw eT)(t:_Z),ps[0]?=ai (.xv false)/\ps[1]?=ai (.str q 0)/\ps[2]?=ai (.dI c)/\H c=ai (.cB oc (.ke 0))/\oc.n9=.NJ vs/\vs[1]?=ai (.str q t)/\h.iT a=ai ob
 |.met f x=>h.iT a=ai (Ś (.dI f) (.dI x))
 |.ext φ=>φ h/\(∃o,h.iT a=ai o)/\∀h1 h2:g6,φ h1->(∀o,h1.iT a=ai o->h2.iT a=ai o)->φ h2
def dg(H:Hp)(h:g6):Prop:=∀a o,H a=ai o->aS P w H h a o
end
section
variable{P:wW}{o:HO}
def aS.A'(x:aS P w H h a o):∃ob,h.iT a=ai ob:=by
 cases o with
 |dS xs=>let⟨_,_,_,_,e⟩:=x;exact⟨_,e⟩
 |gw xs=>let⟨_,_,_,p,_⟩:=x;let⟨o,e,_⟩:=p;exact⟨o,e⟩
 |dK kvs=>let⟨_,_,_,_,o,_,_,e,_⟩:=x;exact⟨_,e⟩
 |dT sh kvs bD=>let⟨_,_,_,_,_,o,_,_,e,_⟩:=x;exact⟨_,e⟩
 |ri S n=>let⟨o,_,_,_,e,_⟩:=x;exact⟨_,e⟩
 |ins C dx fs=>let⟨_,_,_,e,_⟩:=x;exact⟨_,e⟩
 |ke y=>let⟨_,e⟩:=x;exact⟨_,e⟩
 |xd fs=>let⟨_,⟨_,_,_,e,_⟩,_⟩:=x;exact⟨_,e⟩
 |Ks lo hi=>let⟨_,_,_,e⟩:=x;exact⟨_,e⟩
 |cB ob u=>let⟨e,_⟩:=x;exact⟨_,e⟩
 |om ps=>rcases x with⟨_,_,_,_,e,_⟩|⟨_,_,_,_,_,_,_,_,_,_,_,_,e⟩<;>exact⟨_,e⟩
 |met f y=>exact⟨_,(show h.iT a=ai _ from x)⟩
 |ext φ=>let⟨_,⟨_,e⟩,_⟩:=x;exact⟨_,e⟩
def aS.lt(x:aS P w H h a o):a<h.g0.d3:=by
 let⟨_,e⟩:=x.A';exact g6.yu e
theorem Zj.xO{α β:Type}{F G:α->β->Prop}:∀{Bq:aj α}{Br:aj β},Zj F Bq Br->(∀a b,F a b->G a b)->Zj G Bq Br
 |_,_,.ro,_=>.ro
 |_,_,.p9 r t,f=>.p9 (f _ _ r) (Zj.xO t f)
def aS.fi(x:aS P w H h a o)(k:∀b u,(b=a\/H b=ai (.ke a))->h.iT b=ai u->h'.iT b=ai u)
  (ho:∀b,H b=ai (.ke a)->H' b=ai (.ke a))(ht:∀b u,eg u->H b=ai u->H' b=ai u):aS P w H' h' a o:=by
 induction o with
 |dS xs=>let⟨z,av,n,r,e⟩:=x;exact⟨z,av,n,r,k _ _ (.j9 rfl) e⟩
 |gw xs=>let⟨z,av,r,⟨ob,e,c⟩,⟨o2,e2,c2⟩⟩:=x;exact⟨z,av,r,⟨ob,k _ _ (.j9 rfl) e,c⟩,⟨o2,k _ _ (.j9 rfl) e2,c2⟩⟩
 |dK kvs=>let⟨z,y,vs,r,ob,es,ep,e,c⟩:=x;exact⟨z,y,vs,r,ob,es,ep,k _ _ (.j9 rfl) e,c⟩
 |dT sh kvs bD=>
  let⟨z,y,xs,r,ka,ob,es,ep,e,c⟩:=x;exact⟨z,y,xs,Zj.xO r λp q z=>⟨z.1,⟨cF.YE ht _ z.2.1.1,z.2.1.2⟩,z.2.2⟩,ka,ob,es,ep,k _ _ (.j9 rfl) e,c⟩
 |ri S n=>let⟨ob,es,ep,t,e,c⟩:=x;exact⟨ob,es,ep,t,k _ _ (.j9 rfl) e,c⟩
 |ins C dx fs=>
  let⟨d,z,ne,e,mA,⟨od,es,ep,e2,c⟩,r⟩:=x;exact⟨ho _ d,z,ne,k _ _ (.j9 rfl) e,mA,⟨od,es,ep,k _ _ (.mW d) e2,c⟩,r⟩
 |ke y=>let⟨ob,e⟩:=x;exact⟨ob,k _ _ (.j9 rfl) e⟩
 |xd fs=>let⟨mA,⟨od,es,ep,e,c⟩,r⟩:=x;exact⟨mA,⟨od,es,ep,k _ _ (.j9 rfl) e,c⟩,r⟩
 |Ks lo hi=>let⟨t,u,v,e⟩:=x;exact⟨t,u,v,k _ _ (.j9 rfl) e⟩
 |cB ob u ih=>let⟨e,q⟩:=x;exact⟨k _ _ (.j9 rfl) e,ih q⟩
 |om ps=>
  rcases x with⟨q,qs,p0,p1,e,tr,cd⟩|⟨q,c,oc,ob,vs,t,p0,p1,p2,h3,h4,h5,e⟩
  .refine .j9 ⟨q,qs,p0,p1,k _ _ (.j9 rfl) e,tr,λia cv z=>?_⟩
   let⟨c,oc,vs,t,h1,h3,h4,h5⟩:=cd ia cv z;exact⟨c,oc,vs,t,h1,ht _ _ ku.intro h3,h4,h5⟩
  .exact .mW ⟨q,c,oc,ob,vs,t,p0,p1,p2,ht _ _ ku.intro h3,h4,h5,k _ _ (.j9 rfl) e⟩
 |met f y=>
  have e:h.iT a=ai (Ś (.dI f) (.dI y)):=x;show h'.iT a=ai (Ś (.dI f) (.dI y));exact k a _ (.j9 rfl) e
 |ext φ=>let⟨p,⟨o,e⟩,st⟩:=x;exact⟨st _ _ p λo q=>k _ _ (.j9 rfl) q,⟨o,k _ _ (.j9 rfl) e⟩,st⟩
theorem dg.lt(x:dg P w H h)(e:H a=ai o):a<h.g0.d3:=(x a o e).lt
def dg.yI(x:dg P w H h)(e:h.g0.d3<=a):H a=none:=by
 cases q:H a with
 |none=>rfl
 |ai u=>exact uv (w1f (x.lt q) e) (w1z _)
theorem dg.XE(x:dg P w H h)(k:∀b u,h.iT b=ai u->h'.iT b=ai u):dg P w H h':=λa o e=>
 (x a o e).fi (λb u _ q=>k b u q) (λ_ q=>q) λ_ _ _ q=>q
theorem dg.Mk(x:dg P w H h)(k:∀b u,h.iT b=ai u->h'.iT b=ai u)(hp:h.g0.d3<=a)(xM:aS P w (ny H a o) h' a o):dg P w (ny H a o) h':=λb u e=>by
 have hn:=x.yI hp
 by_cases hb:b=a
 .grind [bQ]
 .rw[aR hb]at e;exact(x b u e).fi (λc v _ q=>k c v q) (λc q=>by rw[aR (gh q hn)];exact q) λc xs _ q=>by rw[aR (gh q hn)];exact q
end
def Rd(H:Hp)(a:f')(u:HO):Prop:=H a=ai u\/∃o,H a=ai (.cB o u)
def Rd.ok{u:HO}(r:Rd H a u)(x:dg P w H h):aS P w H h a u:=by
 rcases r with r|⟨o,r⟩
 .exact x a u r
 .let⟨_,q⟩:=x a _ r;exact q
def Am:fy HO->Prop
 |ai (.dS _)=>ku
 |ai (.dK _)=>ku
 |ai (.dT _ _ _)=>ku
 |ai (.ri _ _)=>ku
 |ai (.ins _ _ _)=>ku
 |ai (.ext _)=>ku
 |_=>uH
section
variable{P:wW}{x e:f'}{o':HO}
theorem dg.Zc(ok:dg P w H h)(mu:Am (H x))(he:e=x\/H e=ai (.ke x))(k:∀b u,b≠e->h.iT b=ai u->h'.iT b=ai u)(ug:∃u,h'.iT e=ai u)
  (xM:aS P w (ny H x o') h' x o'):dg P w (ny H x o') h':=λb u q=>by
 have HR:∀c y,H c=ai (.ke y)->c≠x:=λc y r z=>by subst z;rw[r]at mu;exact mu
 have zfs:∀c u,eg u->H c=ai u->c≠x:=λc u t r z=>by
  subst z;rw[r]at mu;cases u<;>first|exact mu|exact t
 by_cases hb:b=x
 .grind [bQ]
 .rw[aR hb]at q
  by_cases MX:b=e
  .have q':H b=ai (.ke x):=by
    grind
   rw[q]at q';cases q';let⟨v,hv⟩:=ug;exact⟨v,by rw[MX];exact hv⟩
  .refine(ok b u q).fi (λc v hc r=>k c v ?_ r) (λc r=>by grind [aR]) λc xs t r=>by grind [aR]
   rcases hc with rfl|hc
   .exact MX
   .rintro rfl;rcases he with z|z
    .exact HR c b hc z
    .rw[hc]at z;cases z;exact hb rfl
end
structure Un(fs ex:aj f')(H H':Hp)(h h':g6):Prop where
 xJ:∀b o,h.iT b=ai o->H b=none->b∉fs->b∉ex->h'.iT b=ai o
 xP:∀b o,h.iT b=ai o->H b=none->b∈fs->b∉ex->∃sl,h'.iT b=ai {o with Yb:=sl}
 rk:∀b o,h.iT b=ai o->H b=none->b∉ex->H' b=none
 YZ:∀b o,h.iT b=ai o->b∉ex->∃o',h'.iT b=ai o'
 gq:∀b xs,H b=ai (.gw xs)->H' b=ai (.gw xs)
 aY:∀b o u,H b=ai (.cB o u)->H' b=ai (.cB o u)
 fj:∀b ps,H b=ai (.om ps)->∃ZR,H' b=ai (.om (ps++ZR))
section
variable{fs fs' ex MN:aj f'}{H1 H2:Hp}{h1 h2:g6}{x e:f'}{o:HO}
def Un.tZ(u:Un fs ex H H1 h h1)(q:h.iT b=ai ob)(n:H b=none)(hx:b∉ex):∃sl,h1.iT b=ai {ob with Yb:=sl}:=by
 by_cases hb:b∈fs
 .exact u.xP b ob q n hb hx
 .exact⟨ob.Yb,u.xJ b ob q n hb hx⟩
theorem Un.XE(k:∀b u,h.iT b=ai u->h'.iT b=ai u):Un fs ex H H h h':=
 ⟨λb ob q _ _ _=>k b ob q,λb ob q _ _ _=>⟨ob.Yb,k b ob q⟩,λ_ _ _ n _=>n,λb ob q _=>⟨ob,k b ob q⟩,λ_ _ q=>q,λ_ _ _ q=>q,λ_ ps q=>⟨#[],by rw[q];simp⟩⟩
theorem Un.tT:Un fs ex H H h h:=Un.XE λ_ _ q=>q
theorem Un.Mk(k:∀b u,h.iT b=ai u->h'.iT b=ai u)(hp:h.g0.d3<=a)(hn:H a=none):Un fs ex H (ny H a o) h h' where
 xJ:=λb u q _ _ _=>k b u q
 xP:=λb u q _ _ _=>⟨u.Yb,k b u q⟩
 rk:=λb u q n _=>by rw[aR (w0p (w1f (g6.yu q) hp))];exact n
 YZ:=λb u q _=>⟨u,k b u q⟩
 gq:=λb xs q=>by rw[aR (gh q hn)];exact q
 aY:=λb u xs q=>by rw[aR (gh q hn)];exact q
 fj:=λb ps q=>⟨#[],by rw[aR (gh q hn),q];simp⟩
def Un.Zc(mu:Am (H x))(he:e=x\/H e=ai (.ke x))(k:∀b u,b≠e->h.iT b=ai u->h'.iT b=ai u)(ug:∃u,h'.iT e=ai u):Un fs ex H (ny H x o) h h':=by
 have hx:∀b,H b=none->b≠x:=λb n z=>by subst z;rw[n]at mu;exact mu
 have hb:∀b,H b=none->b≠e:=λb n z=>by
  grind
 have hm:∀b u,H b=ai u->¬Am (ai u)->b≠x:=λb u q nm z=>by grind
 refine⟨λb u q n _ _=>k b u (hb b n) q,λb u q n _ _=>⟨u.Yb,k b u (hb b n) q⟩,λb u q n _=>by grind [aR],λb u q _=>?_,
  λb xs q=>by rw[aR (hm b _ q λz=>z)];exact q,λb u xs q=>by rw[aR (hm b _ q λz=>z)];exact q,λb ps q=>⟨#[],by rw[aR (hm b _ q λz=>z),q];simp⟩⟩
 grind
end
def oo(h:g6)(H:Hp):aj f':=(aj.u5 h.g0.d3).DV λa=>(H a).zi
def gT(h:g6)(H:Hp):g6:=lU.W.hideAll h (oo h H)
theorem Py(h)(H):(gT h H).g0.d3=h.g0.d3:=lU.W.hideAll_size _ _
theorem QE(e:h.iT b=ai o)(n:H b=none):(gT h H).iT b=ai o:=
 Ĉ _ e λhm=>by
  have q:(H b).zi=true:=(w1l.mp hm).2;rw[n]at q;simp at q
def Rn(e:(gT h H).iT b=ai o):h.iT b=ai o/\H b=none:=by
 have e':h.iT b=ai o:=lU.W.of_hideAll (oo h H) e;refine⟨e',?_⟩;cases q:H b with
 |none=>rfl
 |ai x=>
  grind [oo,g6.yu,gT,W.hideAll_none]
def zdV(g h:g6)(L:f'):aj (f'×qH):=(aj.u5 h.g0.d3).Ϝ λa=>if a=L\/(g.iT a).zi=true then none else(h.iT a).a7 λo=>(a,o)
def wV(g h:g6)(L d:f'):aj (f'×qH):=(zdV g h L).DV λp=>decide (p.1≠d)
structure Τ(K:Fg)(mg:fv->fy eT)(kT:g6):Prop where
 vG:K.In kT
 Zx:kT.Ns Yd mg
 η:∃mb,kT.Ns ϭ mb/\∀x:fv,x≠"__name__"->mb x=_r x
 á:kT.Ì
structure Cx where
 jf:wW
 w:uG
 K:Fg
 mg:fv->fy eT
 kT:g6
 A:FZ
 N:aj fv
 ax:oi
 aE:Hp
 dt:MO
 qp:aj MO
 N3:aj MO
 ex:aj f'
 fn:fv->ie
 NI:ie
 pn:aj (f'×qH)
 xe:eT->oi->Prop
variable{X:Cx}
def fu(l:aj MO):aj f':=l.Ϝ (·.π)
abbrev Cx.fs(X:Cx):aj f':=fu X.qp
def kg(sc:zb)(x:fv):Prop:=sc.p6.hW x=ai .local\/sc.p6.hW x=ai .ur\/sc.p6.hW x=ai .rk
def YT(sc:zb)(x:fv):Prop:=sc.p6.hW x=ai .local\/sc.p6.hW x=ai .ur
def Look(dt:MO)(h:g6)(m:fv->fy eT)(x:fv)(u:eT):Prop:=
 (dt.yL x=ai .local/\m x=ai u)\/((dt.yL x=ai .ur\/dt.yL x=ai .rk)/\∃c,dt.XB.hW x=ai c/\h._W c (ai u))
abbrev ip(P:f')(q:fv):qH:={l_:=.str q 0,n9:=.NJ #[.dI P]}
def gv(K:Fg)(H:Hp):Prop:=∀(a:f')(q:fv)(P:f'),(a,ip P q)∈K->∃ps:yw eT,H P=ai (.om ps)/\ps[0]?=ai (.xv true)/\ps[1]?=ai (.str q 0)
def gX(K:Fg):ie:=K.rM λp=>match p.2.l_ with
 |.str _ _=>false
 |_=>true
theorem gv.zaL(h:gX K=true):gv K H:=λa q P m=>by
 have:=w1d.mp h _ m;cases this
theorem gv.un{fs ex:aj f'}{h':g6}(t:gv K H)(u:Un fs ex H H' h h'):gv K H':=λa q P m=>by
 let⟨ps,e,p0,p1⟩:=t a q P m;let⟨ZR,e'⟩:=u.fj P ps e;refine⟨_,e',?_,?_⟩
 .rw[w1t (by let⟨z,_⟩:=w2c.mp p0;exact z)];exact p0
 .rw[w1t (by let⟨z,_⟩:=w2c.mp p1;exact z)];exact p1
theorem gv.Mk(t:gv K H)(hn:H D=none):gv K (ny H D o):=λa q P m=>by
 let⟨ps,e,p⟩:=t a q P m;exact⟨ps,by rw[aR (gh e hn)];exact e,p⟩
structure Cx.Ok(X:Cx):Prop where
 WI:Τ X.K X.mg X.kT
 yD:X.dt.gs.yD=.Zw
 Zx:X.dt.Ü=Yd
 η:X.dt.Ϭ=ϭ
 Z1:X.ax.bj.g0.d3<=X.dt.Yr
 yB:∀x y c,X.dt.XB.hW x=ai c->X.dt.XB.hW y=ai c->x=y
 YO:∀x,(X.dt.yL x=ai .ur\/X.dt.yL x=ai .rk)->∃c,X.dt.XB.hW x=ai c
 vi:∀x c,X.fn x=true->X.dt.XB.hW x=ai c->X.ax.bj.g0.d3<=c
 hd:X.NI=true->X.A.YV=none
 Yc:X.A.Yc=ai X.N3
 CJ:X.N3=X.qp\/(X.N3=X.dt::X.qp/\X.dt.π=ai X.dt.Yr)
 w_:∀b∈X.ex,b≠X.dt.Yr/\∀x c,X.dt.XB.hW x=ai c->c≠b
 bs:∀b o,X.kT.iT b=ai o->X.ax.bj.iT b=ai o/\X.aE b=none
 m4:X.kT.g0.d3<=X.ax.bj.g0.d3
 pM:∀b o,X.kT.iT b=ai o->b∉X.ex
 nF:∀b∈X.ex,b∉X.fs
 eX:X.ax.bj.ύ X.kT X.qp
 oG:∀b∈X.fs,X.aE b=none
 ZA:gv X.K X.aE
structure j3(X:Cx)(d0:aj (f'×qH))(σ:aj (fy V))(H:Hp)(s:oi):Prop where
 ok:X.Ok
 os:s.os=X.ax.os
 M_:ZV s.YD
 kT:Un X.fs X.ex X.aE H X.ax.bj s.bj
 YF:∃m,s.bj.Ns X.dt.Yr m/\∀(i:aT)(x:fv)(v:V),X.N[i]?=ai x->σ[i]?=ai (ai v)->kg X.dt.gs x->∃u,uc v u/\Look X.dt s.bj m x u
 ur:∀x c,X.dt.XB.hW x=ai c->∃v,s.bj._W c v
 rk:H X.dt.Yr=none
 dy:∀x c,X.dt.XB.hW x=ai c->H c=none
 Ys:∀p∈X.pn++d0,s.bj.iT p.1=ai p.2/\H p.1=none/\p.1≠X.dt.Yr/\p.1∉X.fs/\∀v,p.2.n9≠.ur v
 aJ:dg X.jf X.w H s.bj
 uz:σ.aO=X.N.aO
section
variable{σ:aj (fy V)}
theorem Cx.Ok.HP(ok:X.Ok)(e:X.kT.iT b=ai o):b∉X.fs:=λhb=>by
 have:=(ok.eX.Xt hb).1
 grind
theorem j3.bs(I:j3 X d0 σ H s):∀b o,X.kT.iT b=ai o->s.bj.iT b=ai o/\H b=none:=λb o e=>
 ⟨I.kT.xJ b o (I.ok.bs b o e).1 (I.ok.bs b o e).2 (I.ok.HP e) (I.ok.pM b o e),I.kT.rk b o (I.ok.bs b o e).1 (I.ok.bs b o e).2 (I.ok.pM b o e)⟩
theorem j3.bk(I:j3 X d0 σ H s):∀b o,X.kT.iT b=ai o->s.bj.iT b=ai o:=λb o e=>(I.bs b o e).1
theorem j3.WI(I:j3 X d0 σ H s):Τ X.K X.mg X.kT:=I.ok.WI
theorem j3.kJ(I:j3 X d0 σ H s):X.K.In s.bj:=I.ok.WI.vG.YE I.bk
theorem j3.fr(I:j3 X d0 σ H s):∃m,Fr X.kT X.dt.Yr s.bj m:=
 let ⟨m,hn,_⟩:=I.YF
 ⟨m,hn,I.bk,w0q I.ok.m4 I.ok.Z1⟩
theorem j3.lt(I:j3 X d0 σ H s):X.dt.Yr<s.bj.g0.d3:=let ⟨_,hn,_⟩:=I.YF;hn.lt
theorem j3.sz(I:j3 X d0 σ H s):X.ax.bj.g0.d3<=s.bj.g0.d3:=w0q I.ok.Z1 (w3u I.lt)
theorem j3.HQ(I:j3 X d0 σ H s)(h:s.bj.g0.d3<=a):a∉X.fs:=λhb=>by
 let⟨_,o,ho,_⟩:=I.ok.eX.Xt hb
 exact uv (w1f (g6.yu ho) (w0q I.sz h)) (w1z _)
theorem j3.t5(I:j3 X d0 σ H s):∀x c,X.dt.XB.hW x=ai c->c≠X.dt.Yr:=λx c e z=>by
 let⟨v,o,ho,hd⟩:=I.ur x c e;let⟨m,⟨o',es,ep,zc,M3,_⟩,_⟩:=I.YF
 grind
def j3.eX(I:j3 X d0 σ H s):s.bj.ύ X.kT X.qp:=by
 have rM:∀(l:aj MO),(∀b∈fu l,b∈X.fs)->X.ax.bj.ύ X.kT l->s.bj.ύ X.kT l:=by
  intro l
  induction l with
  |ro=>intro _ _;trivial
  |p9 dt r ih=>
   intro hs hl;let⟨hk,⟨L,o,hf,hn,ho,hd⟩,hr⟩:=hl;have hL:L∈X.fs:=hs L (by unfold fu;rw[w5n,hf];exact w1e);let⟨sl,e⟩:=I.kT.xP L o ho (I.ok.oG L hL) hL λz=>I.ok.nF L z hL
   exact⟨hk,⟨L,_,hf,hn,e,hd⟩,ih (λb hb=>hs b (by unfold fu;rw[w5n,hf];exact w0o _ hb)) hr⟩
 exact rM X.qp (λ_ hb=>hb) I.ok.eX
def j3.N3(I:j3 X d0 σ H s):s.bj.ύ X.kT X.N3:=by
 rcases I.ok.CJ with e|⟨e,hf⟩
 .rw[e];exact I.eX
 .rw[e];let⟨m,hn,_⟩:=I.YF;refine .p9 (by rw[I.ok.yD];decide) hf hn ?_ I.eX
  exact g6.œ (w0q I.ok.m4 I.ok.Z1)
theorem j3.j8(I:j3 X d0 σ H s):∀b∈fu X.N3,b∈X.dt.Yr::X.fs:=λb hb=>by
 rcases I.ok.CJ with e|⟨e,hf⟩
 all_goals grind [fu]
theorem j3.lR(I:j3 X d0 σ H s):∀b∈fu X.N3,H b=none:=λb hb=>by
 rcases w0h.mp (I.j8 b hb)with e|hb
 .rw[e];exact I.rk
 .let⟨_,o,ho,_⟩:=I.ok.eX.Xt hb
  exact I.kT.rk b o ho (I.ok.oG b hb) λz=>I.ok.nF b z hb
def j3.YY{g':yw Ķ}{d':Drawn}{ch:aj f'}(I:j3 X d0 σ H s)
  (qb:∀b∈ch,(b∈X.ex\/X.ax.bj.g0.d3<=b)/\b≠X.dt.Yr/\(∀x c,X.dt.XB.hW x=ai c->c≠b)/\∀p∈X.pn++d0,p.1≠b)
  (xJ:∀b o,b≠X.dt.Yr->b∉X.fs->b∉ch->s.bj.iT b=ai o->H b=none->h'.iT b=ai o)
  (xP:∀b o,b≠X.dt.Yr->b∈X.fs->b∉ch->s.bj.iT b=ai o->H b=none->∃sl,h'.iT b=ai {o with Yb:=sl})(rk:∀b o,b∉ch->s.bj.iT b=ai o->H b=none->H' b=none)
  (YZ:∀b o,b∉ch->s.bj.iT b=ai o->∃o',h'.iT b=ai o')
  (gq:∀b xs,H b=ai (.gw xs)->H' b=ai (.gw xs))(aY:∀b o u,H b=ai (.cB o u)->H' b=ai (.cB o u))(fj:∀b ps,H b=ai (.om ps)->∃ZR,H' b=ai (.om (ps++ZR)))
  (ns:∀m,s.bj.Ns X.dt.Yr m->h'.Ns X.dt.Yr m)(aJ:dg X.jf X.w H' h')(hg:ZV g'):
  j3 X d0 σ H' {s with bj:=h',YD:=g',ν:=d',rJ:=t'}:=by
 have xQ:∀b o,X.ax.bj.iT b=ai o->b≠X.dt.Yr:=λb o e=>w0p (w1f (g6.yu e) I.ok.Z1)
 have vN:∀b o,X.ax.bj.iT b=ai o->b∉X.ex->b∉ch:=λb o e hx hb=>by
  rcases(qb b hb).1 with z|z
  .exact hx z
  .exact uv (w1f (g6.yu e) z) (w1z _)
 have cellK:∀x c,X.dt.XB.hW x=ai c->∀v,s.bj._W c v->h'._W c v:=λx c e v ⟨o,ho,hd⟩=>by
  have Bv:c∉ch:=λz=>(qb c z).2.2.1 x c e rfl
  by_cases hc:c∈X.fs
  .let⟨sl,q⟩:=xP c o (I.t5 x c e) hc Bv ho (I.dy x c e);exact⟨_,q,hd⟩
  .exact⟨o,xJ c o (I.t5 x c e) hc Bv ho (I.dy x c e),hd⟩
 refine⟨I.ok,I.os,hg,⟨λb o e n hb hx=>?_,λb o e n hb hx=>?_,λb o e n hx=>?_,λb o e hx=>?_,λb xs e=>gq b xs (I.kT.gq b xs e),λb o xs e=>aY b o xs (I.kT.aY b o xs e),λb ps e=>?_⟩,?_,λx c e=>?_,?_,λx c e=>?_,λp hp=>?_,aJ,I.uz⟩
 .exact xJ b o (xQ b o e) hb (vN b o e hx) (I.kT.xJ b o e n hb hx) (I.kT.rk b o e n hx)
 .let⟨sl,e1⟩:=I.kT.xP b o e n hb hx;let⟨tL,e2⟩:=xP b _ (xQ b o e) hb (vN b o e hx) e1 (I.kT.rk b o e n hx);exact⟨tL,e2⟩
 .let⟨o',e1⟩:=I.kT.YZ b o e hx;exact rk b o' (vN b o e hx) e1 (I.kT.rk b o e n hx)
 .let⟨o',e1⟩:=I.kT.YZ b o e hx;exact YZ b o' (vN b o e hx) e1
 .let⟨m1,e1⟩:=I.kT.fj b ps e;let⟨m2,e2⟩:=fj b _ e1;exact⟨m1++m2,by rw[e2,yw.append_assoc]⟩
 .let⟨m,hn,hl⟩:=I.YF;refine⟨m,ns m hn,λi x v e1 e2 e3=>?_⟩
  let⟨u,r,l⟩:=hl i x v e1 e2 e3;refine⟨u,r,?_⟩;rcases l with l|⟨k,c,e,z⟩
  .exact .j9 l
  .exact .mW ⟨k,c,e,cellK x c e _ z⟩
 .let⟨v,z⟩:=I.ur x c e;exact⟨v,cellK x c e v z⟩
 .let⟨m,⟨o,_,_,ho,_⟩,_⟩:=I.YF;exact rk _ o (λz=>(qb _ z).2.1 rfl) ho I.rk
 .let⟨v,o,ho,hd⟩:=I.ur x c e;exact rk c o (λz=>(qb c z).2.2.1 x c e rfl) ho (I.dy x c e)
 .let⟨e,n,ne,nf,d⟩:=I.Ys p hp;have Bv:p.1∉ch:=λz=>(qb p.1 z).2.2.2 p hp rfl
  exact⟨xJ p.1 p.2 ne nf Bv e n,rk p.1 p.2 Bv e n,ne,nf,d⟩
def j3.un(I:j3 X d0 σ H s)(u:Un X.fs [] H H' s.bj h')(aJ:dg X.jf X.w H' h'):j3 X d0 σ H' {s with bj:=h',rJ:=t'}:=by
 let⟨m,⟨o,es,ep,ho,r⟩,_⟩:=id I.YF;let⟨sl,hL⟩:=u.tZ ho I.rk (by simp)
 exact I.YY (g':=s.YD) (d':=s.ν) (ch:=[]) (λ_ z=>nomatch z) (λb o _ hb _ e n=>u.xJ b o e n hb (by simp)) (λb o _ hb _ e n=>u.xP b o e n hb (by simp)) (λb o _ e n=>u.rk b o e n (by simp)) (λb o _ e=>u.YZ b o e (by simp)) u.gq u.aY u.fj (λm' hm=>by
  let⟨o',Gg,Gf,zc,r'⟩:=hm;rw[ho]at zc;cases zc;exact⟨_,Gg,Gf,hL,r'⟩) aJ I.M_
def j3.yG{g':yw Ķ}{d':Drawn}(I:j3 X d0 σ H s)(u:Un (fu X.N3) ch H H' s.bj h')(aJ:dg X.jf X.w H' h')(hg:ZV g')
  (qb:∀b∈ch,(b∈X.ex\/X.ax.bj.g0.d3<=b)/\b≠X.dt.Yr/\(∀x c,X.dt.XB.hW x=ai c->c≠b)/\∀p∈X.pn++d0,p.1≠b):
  j3 X d0 σ H' {s with bj:=h',YD:=g',ν:=d',rJ:=t'}:=by
 let⟨m,⟨o,es,ep,ho,r⟩,_⟩:=id I.YF;let⟨sl,hL⟩:=u.tZ ho I.rk λz=>(qb _ z).2.1 rfl
 exact I.YY (ch:=ch) qb (λb o hL hb hc e n=>u.xJ b o e n (λz=>(w0h.mp (I.j8 b z)).nU hL hb) hc) (λb o _ _ hc e n=>u.tZ e n hc) (λb o hc e n=>u.rk b o e n hc) (λb o hc e=>u.YZ b o e hc) u.gq u.aY u.fj (λm' hm=>by
  let⟨o',Gg,Gf,zc,r'⟩:=hm;rw[ho]at zc;cases zc;exact⟨_,Gg,Gf,hL,r'⟩) aJ hg
def j3.ZU{t':aT}{it:f'}(I:j3 X d0 σ H s)(k:∀b o,b≠it->s.bj.iT b=ai o->h'.iT b=ai o)(hn:H it=none)(hL:it≠X.dt.Yr)
  (h1:it∈X.ex\/X.ax.bj.g0.d3<=it)(h2:∀x c,X.dt.XB.hW x=ai c->c≠it)(h3:∀p∈X.pn++d0,p.1≠it):j3 X d0 σ H {s with bj:=h',rJ:=t'}:=by
 have NL:∀b u,H b=ai u->b≠it:=λb u e z=>by rw[z,hn]at e;cases e
 refine I.YY (g':=s.YD) (d':=s.ν) (ch:=[it]) (λb hb=>?_) (λb o _ _ hc e _=>k b o (λz=>hc (by simp[z])) e) (λb o _ _ hc e _=>⟨o.Yb,k b o (λz=>hc (by simp[z])) e⟩) (λ_ _ _ _ n=>n)
  (λb o hc e=>⟨o,k b o (λz=>hc (by simp[z])) e⟩) (λ_ _ e=>e) (λ_ _ _ e=>e) (λb ps e=>⟨#[],by rw[e];simp⟩) (λm hm=>?_) (λb u e=>?_) I.M_
 .have e:b=it:=by simpa using hb
  subst e;exact⟨h1,hL,h2,h3⟩
 .let⟨o,es,ep,ho,r⟩:=hm;exact⟨o,es,ep,k _ o (Ne.symm hL) ho,r⟩
 .refine(I.aJ b u e).fi (λc v hc q=>k c v ?_ q) (λ_ q=>q) λ_ _ _ q=>q
  rcases hc with z|z
  .rw[z];exact NL b u e
  .exact NL c _ z
theorem j3.Yg(I:j3 X d0 σ H s)(t:aT):j3 X d0 σ H {s with rJ:=t}:=I.un (h':=s.bj) (t':=t) Un.tT I.aJ
theorem j3.XE{t':aT}(I:j3 X d0 σ H s)(k:∀b u,s.bj.iT b=ai u->h'.iT b=ai u):j3 X d0 σ H {s with bj:=h',rJ:=t'}:=I.un (Un.XE k) (I.aJ.XE k)
theorem j3.Mk{a:f'}{o:HO}{t':aT}(I:j3 X d0 σ H s)(k:∀b u,s.bj.iT b=ai u->h'.iT b=ai u)(hp:s.bj.g0.d3<=a)(xM:aS X.jf X.w (ny H a o) h' a o):
  j3 X d0 σ (ny H a o) {s with bj:=h',rJ:=t'}:=I.un (Un.Mk k hp (I.aJ.yI hp)) (I.aJ.Mk k hp xM)
theorem j3.Zc{x e:f'}{o:HO}{t':aT}(I:j3 X d0 σ H s)(mu:Am (H x))(he:e=x\/H e=ai (.ke x))(k:∀b u,b≠e->s.bj.iT b=ai u->h'.iT b=ai u)(ug:∃u,h'.iT e=ai u)
  (xM:aS X.jf X.w (ny H x o) h' x o):j3 X d0 σ (ny H x o) {s with bj:=h',rJ:=t'}:=I.un (Un.Zc mu he k ug) (I.aJ.Zc mu he k ug xM)
theorem j3.weak{aM:aj (fy V)}(I:j3 X d0 σ H s)(hl:aM.aO=σ.aO)(w:∀(i:aT) v,aM[i]?=ai (ai v)->σ[i]?=ai (ai v)):j3 X d0 aM H s:=
 ⟨I.ok,I.os,I.M_,I.kT,let ⟨m,hn,Ng⟩:=I.YF;⟨m,hn,λi x v e1 e2 e3=>Ng i x v e1 (w i v e2) e3⟩,I.ur,I.rk,I.dy,I.Ys,I.aJ,hl.lb I.uz⟩
theorem j3.jl{pins':aj (f'×qH)}(I:j3 X d0 σ H s)(h:∀p∈pins',s.bj.iT p.1=ai p.2/\H p.1=none/\p.1≠X.dt.Yr/\p.1∉X.fs/\∀v,p.2.n9≠.ur v):j3 X pins' σ H s:=
 ⟨I.ok,I.os,I.M_,I.kT,I.YF,I.ur,I.rk,I.dy,λp hp=>(w3g.mp hp).nU (λz=>I.Ys p (w1y _ z)) (h p),I.aJ,I.uz⟩
def QF(hN:N.yr){j:aT}(a:N[i]?=ai x)(b:N[j]?=ai x):i=j:=by
 let⟨h1,e1⟩:=w0c.mp a;let⟨h2,e2⟩:=w0c.mp b;exact(aj.getElem_inj hN).mp (e1.lb e2.symm)
def y4q{Q:Unit->oi->Prop}(I:j3 X d0 σ H s)(hN:X.N.yr)(hi:X.N[i]?=ai x)(hx:YT X.dt.gs x)(r:uc v u)
  (h:∀s',j3 X d0 (σ.ri i (ai v)) H s'->(∃a,g6.ZY a s.bj s'.bj/\(a=X.dt.Yr\/X.dt.XB.hW x=ai a))->Q () s')(hf:gu (X.fn x=true\/X.dt.gs.p6.hW x=ai .local) jL):oh M A (storeName X.dt x u) Q E s:=by
 let⟨m,hn,hl⟩:=id I.YF;have Gw:(X.dt.gs.yD==.class||(X.dt.gs.yD==.module&&X.dt.Yr != X.dt.Ü))=false:=by rw[I.ok.yD];rfl
 have A1:i<σ.aO:=by rw[I.uz];exact(w0c.mp hi).1
 have t5:=I.t5
 have Ű:∀{a:f'}{h':g6},(∃o,s.bj.iT a=ai o/\H a=none)->g6.ZY a s.bj h'->dg X.jf X.w H h':=λ{a h'} ha hs b ob e=>by
  let⟨_,_,bX⟩:=ha;refine(I.aJ b ob e).fi (λc w' hc q=>(hs.2 c ?_).lb q) (λ_ q=>q) λ_ _ _ q=>q
  rintro rfl;rcases hc with rfl|hc
  .rw[bX]at e;cases e
  .rw[bX]at hc;cases hc
 rcases hx with hk|hk
 .refine wpAny_storeName_local hk hn (λh' GY hs=>?_) Gw
  let⟨zdf,_,_,W5,_⟩:=id hn;refine h _ ⟨I.ok,I.os,I.M_,⟨λb o e n hb hx=>?_,λb o e n hb hx=>?_,I.kT.rk,λb o e hx=>?_,I.kT.gq,I.kT.aY,I.kT.fj⟩,⟨_,GY,λj y v' e1 e2 e3=>?_⟩,λy c e=>?_,I.rk,I.dy,λp hp=>?_,Ű ⟨zdf,W5,I.rk⟩ hs,by simpa using I.uz⟩ ⟨_,hs,.j9 rfl⟩
  .exact(hs.2 b (w0p (w1f (g6.yu e) I.ok.Z1))).lb (I.kT.xJ b o e n hb hx)
  .let⟨sl,e1⟩:=I.kT.xP b o e n hb hx;exact⟨sl,(hs.2 b (w0p (w1f (g6.yu e) I.ok.Z1))).lb e1⟩
  .let⟨o',e1⟩:=I.kT.YZ b o e hx;exact⟨o',(hs.2 b (w0p (w1f (g6.yu e) I.ok.Z1))).lb e1⟩
  .by_cases hj:j=i
   .subst hj;rw[hi]at e1;cases e1;rw[w0m A1]at e2;cases e2;exact⟨u,r,.j9 ⟨hk,by simp⟩⟩
   .rw[w0j (Ne.symm hj)]at e2;let⟨u',r',q⟩:=hl j y v' e1 e2 e3;refine⟨u',r',?_⟩;rcases q with⟨k,e⟩|⟨k,c,e,z⟩
    .refine .j9 ⟨k,?_⟩;have:y≠x:=λe=>hj (QF hN e1 (e ▸ hi))
     simp[this,e]
    .exact .mW ⟨k,c,e,z.è hs (t5 y c e)⟩
  .let⟨w',z⟩:=I.ur y c e;exact⟨w',z.è hs (t5 y c e)⟩
  .let⟨e,n,ne,nf,d⟩:=I.Ys p hp;exact⟨(hs.2 p.1 ne).lb e,n,ne,nf,d⟩
 .have qW:X.fn x=true:=by
   rcases hf with z|z
   .exact z
   .rw[z]at hk;cases hk
  let⟨c,hc⟩:=I.ok.YO x (.j9 hk);let⟨w',z⟩:=I.ur x c hc;refine wpAny_storeName_cell I.ok.yD hk hc z (λh' Dw hs=>?_)
  let⟨oc,uj,G6⟩:=id z;refine h {s with bj:=h'} ⟨I.ok,I.os,I.M_,⟨λb o e n hb hx=>?_,λb o e n hb hx=>?_,I.kT.rk,λb o e hx=>?_,I.kT.gq,I.kT.aY,I.kT.fj⟩,⟨m,hn.è hs (Ne.symm (t5 x c hc)),λj y v' e1 e2 e3=>?_⟩,λy c' e=>?_,I.rk,I.dy,λp hp=>?_,Ű ⟨oc,uj,I.dy x c hc⟩ hs,by simpa using I.uz⟩ ⟨c,hs,.mW hc⟩
  .exact(hs.2 b (w0p (w1f (g6.yu e) (I.ok.vi x c qW hc)))).lb (I.kT.xJ b o e n hb hx)
  .let⟨sl,e1⟩:=I.kT.xP b o e n hb hx;exact⟨sl,(hs.2 b (w0p (w1f (g6.yu e) (I.ok.vi x c qW hc)))).lb e1⟩
  .let⟨o',e1⟩:=I.kT.YZ b o e hx;exact⟨o',(hs.2 b (w0p (w1f (g6.yu e) (I.ok.vi x c qW hc)))).lb e1⟩
  .by_cases hj:j=i
   .subst hj;rw[hi]at e1;cases e1;rw[w0m A1]at e2;cases e2;exact⟨u,r,.mW ⟨.j9 hk,c,hc,Dw⟩⟩
   .rw[w0j (Ne.symm hj)]at e2;let⟨u',r',q⟩:=hl j y v' e1 e2 e3;refine⟨u',r',?_⟩;rcases q with q|⟨k,c',e,z'⟩
    .exact .j9 q
    .refine .mW ⟨k,c',e,z'.è hs ?_⟩;rintro rfl;exact hj (QF hN e1 (I.ok.yB _ _ _ e hc ▸ hi))
  .by_cases MZ:c'=c
   .subst MZ;exact⟨_,Dw⟩
   .let⟨w2,z2⟩:=I.ur y c' e;exact⟨w2,z2.è hs MZ⟩
  .let⟨e,n,ne,nf,d⟩:=I.Ys p hp;refine⟨(hs.2 p.1 ?_).lb e,n,ne,nf,d⟩;intro q;rw[q,uj]at e;have q':oc=p.2:=fy.ai.yB e;exact d w' (by rw[<- q'];exact G6)
theorem QG{Q:Unit->oi->Prop}(I:j3 X d0 σ H s)(hN:X.N.yr)(hi:X.N[i]?=ai x)(hx:YT X.dt.gs x)(r:uc v u)
  (h:∀s',j3 X d0 (σ.ri i (ai v)) H s'->Q () s')(hf:gu (X.fn x=true\/X.dt.gs.p6.hW x=ai .local) jL):oh M A (storeName X.dt x u) Q E s:=
 y4q I hN hi hx r (λs' I' _=>h s' I') hf
def j3.oA{s':oi}{ch:aj f'}(I:j3 X d0 σ H s)(ho:s'.os=s.os)(u:Un (fu X.N3) ch H H' s.bj s'.bj)(aJ:dg X.jf X.w H' s'.bj)(hg:ZV s'.YD)
  (qb:∀b∈ch,(b∈X.ex\/X.ax.bj.g0.d3<=b)/\b≠X.dt.Yr/\(∀x c,X.dt.XB.hW x=ai c->c≠b)/\∀p∈X.pn++d0,p.1≠b):j3 X d0 σ H' s':=by
 let⟨h',g',d',t',o'⟩:=s';have e:o'=s.os:=ho;subst e;exact I.yG (g':=g') (t':=t') (d':=d') u aJ hg qb
end
abbrev XK:=eT->fy f'->Hp->Prop
abbrev St:=aj (fy V)
variable{σ:St}
abbrev VK:=V->Hp->Prop
abbrev TE:=St->Hp->VK->Prop
variable{ta te:TE}
abbrev TT:=St->Hp->(ie->Hp->Prop)->Prop
abbrev TA:=St->Hp->(aj V->Hp->Prop)->Prop
structure _E where
 nx:St->Hp->Prop
 rt:VK
 bk:St->Hp->Prop:=λ_ _=>uH
 ct:St->Hp->Prop:=λ_ _=>uH
abbrev TS:=_E->St->Hp->Prop
variable{tb:TS}
def EP(X:Cx)(d0:aj (f'×qH))(σ:St)(Q:VK)(u:eT)(s':oi):Prop:=∃v H',j3 X d0 σ H' s'/\uc v u/\Q v H'
def TP(X:Cx)(d0:aj (f'×qH))(σ:St)(Q:ie->Hp->Prop)(b:ie)(s':oi):Prop:=∃H',j3 X d0 σ H' s'/\Q b H'
def AP(X:Cx)(d0:aj (f'×qH))(σ:St)(Q:aj V->Hp->Prop)(us:aj eT)(s':oi):Prop:=∃vs H',j3 X d0 σ H' s'/\t9 vs us/\Q vs H'
def SP(X:Cx)(d0:aj (f'×qH))(D:_E)(f:Flow)(s':oi):Prop:=
 match f with
 |.next=>∃aM H',j3 X d0 aM H' s'/\D.nx aM H'
 |.ZL=>∃aM H',j3 X d0 aM H' s'/\D.bk aM H'
 |.ZN=>∃aM H',j3 X d0 aM H' s'/\D.ct aM H'
 |.zW u=>∃v aM H',j3 X d0 aM H' s'/\uc v u/\D.rt v H'
def PE(X:Cx)(e:oP)(t:TE):Prop:=
 ∀(d0:aj (f'×qH))(s:oi)(σ:St)(H:Hp)(Q:VK),j3 X d0 σ H s->t σ H Q->oh (p5 X.jf X.w) X.A (eval e X.dt) (EP X d0 σ Q) X.xe s
def PT(X:Cx)(e:oP)(t:TT):Prop:=
 ∀(d0:aj (f'×qH))(s:oi)(σ:St)(H:Hp)(Q:ie->Hp->Prop),j3 X d0 σ H s->t σ H Q->oh (p5 X.jf X.w) X.A (ϸ e X.dt (eval e X.dt)) (TP X d0 σ Q) X.xe s
def PW(X:Cx)(e:oP)(t:TT):Prop:=
 ∀(Κ:_F eT)(d0:aj (f'×qH))(s:oi)(σ:St)(H:Hp)(Q:ie->Hp->Prop),j3 X d0 σ H s->t σ H Q->oh (p5 X.jf X.w) X.A (ϸ e X.dt Κ) (TP X d0 σ Q) X.xe s
theorem PW.pt{t:TT}(h:PW X e t):PT X e t:=h _
def PA(X:Cx)(es:aj oP)(t:TA):Prop:=
 ∀(ia:vd)(d0:aj (f'×qH))(s:oi)(σ:St)(H:Hp)(Q:aj V->Hp->Prop),j3 X d0 σ H s->t σ H Q->oh (p5 X.jf X.w) X.A (Å (yC ia (oj es X.dt))) (AP X d0 σ Q) X.xe s
def PS(X:Cx)(st:Dn)(t:TS):Prop:=
 ∀(d0:aj (f'×qH))(s:oi)(σ:St)(H:Hp)(D:_E),j3 X d0 σ H s->t D σ H->oh (p5 X.jf X.w) X.A (exec st X.dt) (SP X d0 D) X.xe s
def lX(X:Cx)(st:aj Dn)(t:TS):Prop:=
 ∀(d0:aj (f'×qH))(s:oi)(σ:St)(H:Hp)(D:_E),j3 X d0 σ H s->t D σ H->oh (p5 X.jf X.w) X.A (execs st X.dt) (SP X d0 D) X.xe s
theorem bC{α:Type}{t:_F α}{Q Q':α->oi->Prop}(h:oh M A t Q E s)(hQ:∀a s,Q a s->Q' a s):oh M A t Q' E s:=YQ h hQ λ_ _ x=>x
section
def sH(i:aT):TE:=λσ H Q=>∃v,σ[i]?=ai (ai v)/\Q v H
def tC(v:V):TE:=λ_ H Q=>Q v H
def z86(hN:X.N[i]?=ai x)(hv:kg X.dt.gs x)(hd:gu ((x==("__debug__":fv))=false) jK)(eK:gu ((x==("__classdict__":fv))=false) jK):PE X (.mU x ia) (sH i):=by
 intro d0 s σ H Q I h;let⟨v,e,h⟩:=h;let⟨m,hn,hl⟩:=I.YF;let⟨u,r,l⟩:=hl i x v hN e hv;have xg:EP X d0 σ Q u s:=⟨v,H,I,r,h⟩;rcases l with⟨hk,hm⟩|⟨hk,c,hc,dY⟩
 .exact Ŵ (wpAny_loadName_local I.ok.yD hk hn hm xg) hd
 .rcases hk with hk|hk
  .exact Ŵ (wpAny_loadName_cell I.ok.yD hk hc dY xg) hd
  .exact Ŵ (wpAny_loadName_free I.ok.yD hk hc dY xg eK) hd
theorem Ft{i j ia}:PE X (.YS (.a6 i) j ia) (tC (.a6 i)):=λ_ _ _ H _ I h=>wpAny_Constant_int ⟨.a6 i,H,I.Yg _,⟨_,rfl⟩,h⟩
theorem Vy{b j ia}:PE X (.YS (.xv b) j ia) (tC (.bl b)):=λ_ _ _ H _ I h=>Constant_bool ⟨.bl b,H,I,rfl,h⟩
theorem SJ{j ia}:PE X (.YS .none j ia) (tC .aC):=λ_ _ _ H _ I h=>Constant_none ⟨.aC,H,I,rfl,h⟩
theorem z87{x j ia}:PE X (.YS (.str x) j ia) (tC (.str x)):=λ_ _ _ H _ I h=>YR.Constant_str ⟨.str x,H,I.Yg _,⟨_,rfl⟩,h⟩
def Gl(X:Cx)(x:fv):Prop:=X.dt.yL x=ai .globalImplicit
theorem zO{Q:eT->oi->Prop}(I:j3 X d0 σ H s)(hg:Gl X x)(hm:X.mg x=ai u)(h:Q u s)
  (hd:gu ((x==("__debug__":fv))=false) jK):oh (p5 X.jf X.w) X.A (eval (.mU x ia) X.dt) Q E s:=
 YR.ž I.ok.yD hg (YR.loadGlobal_global (by rw[I.ok.Zx];exact I.WI.Zx.YE I.bk) hm h) hd
def rY{Q:eT->oi->Prop}(I:j3 X d0 σ H s)(hg:Gl X x)(hm:X.mg x=none)(hv:_r x=ai u)(h:Q u s)
  (hn:gu (x≠"__name__") jK)(hd:gu ((x==("__debug__":fv))=false) jK):oh (p5 X.jf X.w) X.A (eval (.mU x ia) X.dt) Q E s:=by
 let⟨mb,h1,h2⟩:=I.WI.η;exact YR.ž I.ok.yD hg (YR.loadGlobal_builtin (by rw[I.ok.Zx];exact I.WI.Zx.YE I.bk) hm (by rw[I.ok.η];exact h1.YE I.bk) ((h2 x hn).lb hv) h) hd
theorem Ro{v:V}(hg:Gl X x)(hm:X.mg x=ai u)(r:uc v u)(hd:gu ((x==("__debug__":fv))=false) jK):PE X (.mU x ia) (tC v):=
 λ_ _ _ H _ I h=>zO I hg hm ⟨v,H,I,r,h⟩ hd
theorem z33{v:V}(hg:Gl X x)(hm:X.mg x=none)(hv:_r x=ai u)(r:uc v u)(hn:gu (x≠"__name__") jK)(hd:gu ((x==("__debug__":fv))=false) jK):PE X (.mU x ia) (tC v):=
 λ_ _ _ H _ I h=>rY I hg hm hv ⟨v,H,I,r,h⟩ hn hd
variable{a b:oP}{tb:TE}
def PC(X:Cx)(op:ϧ)(a b:oP)(t:TE):Prop:=
 ∀(d0:aj (f'×qH))(s:oi)(σ:St)(H:Hp)(Q:VK),j3 X d0 σ H s->t σ H Q ->
  oh (p5 X.jf X.w) X.A (eval a X.dt) (λv aH=>oh (p5 X.jf X.w) X.A (eval b X.dt) (λu mR=>oh (p5 X.jf X.w) X.A (Zs op v u) (EP X d0 σ Q) X.xe mR) X.xe aH) X.xe s
def zdy(b:oP)(h:op≠.In)(h2:op≠.ZX):Z3 op b=false:=by
 have e1:(op==ϧ.In)=false:=by grind
 have e2:(op==ϧ.ZX)=false:=by grind
 cases b<;>simp[Z3,e1,e2]
def zdT(t:TE):TT:=λσ H Q=>t σ H λx H1=>∃c,x=.bl c/\Q c H1
def SM{t:TE}(h:PC X op a b t)(h1:Z3 op b=false:=by first|exact zdy _ (by decide) (by decide)|rfl):PT X (.Yw a [op] [b] ia) (zdT t):=by
 intro d0 s σ H Q I hw;refine zen (bC (h d0 s σ H _ I hw) λv s1 h1=>bC h1 λu s2 h2=>bC h2 λc s3 ⟨x,H1,I1,r1,q1⟩=>?_) h1
 let⟨d,rfl,q⟩:=q1;cases r1;exact _U ⟨H1,I1,q⟩
variable{tA E9:TT}{wV:aj oP}
def CL(t u:TT):TT:=λσ H Q=>t σ H λc H1=>if c=true then u σ H1 Q else Q false H1
def ON(t u:TT):TT:=λσ H Q=>t σ H λc H1=>if c=true then Q true H1 else u σ H1 Q
def KA(t:TT):TT:=λσ H Q=>t σ H λc H1=>Q (!c) H1
def z34(ha:PT X a tA):PW X (.YJ ._B [a] ia) tA:=by
 intro wh d0 s σ H Q I h;refine isTrue_and (bC (ha d0 s σ H Q I h) λc s1 e=>?_)
 grind [isTrue_and_nil]
def z88(ha:PT X a tA):PW X (.YJ .Or [a] ia) tA:=by
 intro wh d0 s σ H Q I h;refine isTrue_or (bC (ha d0 s σ H Q I h) λc s1 e=>?_)
 cases c with
 |false=>exact isTrue_or_nil e
 |true=>exact e
def z89(ha:PT X a tA)(hb:PW X (.YJ ._B (b::wV) ia) E9):PW X (.YJ ._B (a::b::wV) ia) (CL tA E9):=by
 intro wh d0 s σ H Q I h;refine isTrue_and (bC (ha d0 s σ H _ I h) λc s1 ⟨H1,I1,q1⟩=>?_)
 cases c with
 |true=>exact hb wh d0 s1 σ H1 Q I1 q1
 |false=>exact⟨H1,I1,q1⟩
def Vz(ha:PT X a tA)(hb:PW X (.YJ .Or (b::wV) ia) E9):PW X (.YJ .Or (a::b::wV) ia) (ON tA E9):=by
 intro wh d0 s σ H Q I h;refine isTrue_or (bC (ha d0 s σ H _ I h) λc s1 ⟨H1,I1,q1⟩=>?_)
 cases c with
 |true=>exact⟨H1,I1,q1⟩
 |false=>exact hb wh d0 s1 σ H1 Q I1 q1
def z9a(ha:PT X a tA):PT X (._H .Not a ia) (KA tA):=by
 intro d0 s σ H Q I h;exact isTrue_not (ha d0 s σ H (λc H1=>Q (!c) H1) I h)
def CM(ta tb:TE):TE:=λσ H Q=>ta σ H λx H1=>∃c,x=.bl c/\if c=true then tb σ H1 Q else Q (.bl false) H1
def KC(ta tb:TE):TE:=λσ H Q=>ta σ H λx H1=>∃c,x=.bl c/\if c=true then Q (.bl true) H1 else tb σ H1 Q
def CW(ta:TE):TE:=λσ H Q=>ta σ H λx H1=>∃c,x=.bl c/\Q (.bl (!c)) H1
theorem z9b{op}{t:TE}(h:PE X a t):PE X (.YJ op [a] ia) t:=λd0 s σ H Q I hw=>BoolOp_one (h d0 s σ H Q I hw)
def z9c(ha:PE X a ta)(hb:PE X (.YJ ._B (b::wV) ia) tb):PE X (.YJ ._B (a::b::wV) ia) (CM ta tb):=by
 intro d0 s σ H Q I h;refine BoolOp_and (bC (ha d0 s σ H _ I h) λv s1 ⟨x,H1,I1,r1,q1⟩=>?_)
 let⟨c,rfl,q1⟩:=q1;cases r1;refine _U ?_;cases c with
 |true=>exact hb d0 s1 σ H1 Q I1 q1
 |false=>exact⟨.bl false,H1,I1,rfl,q1⟩
def VA(ha:PE X a ta)(hb:PE X (.YJ .Or (b::wV) ia) tb):PE X (.YJ .Or (a::b::wV) ia) (KC ta tb):=by
 intro d0 s σ H Q I h;refine BoolOp_or (bC (ha d0 s σ H _ I h) λv s1 ⟨x,H1,I1,r1,q1⟩=>?_)
 let⟨c,rfl,q1⟩:=q1;cases r1;refine _U ?_;cases c with
 |false=>exact hb d0 s1 σ H1 Q I1 q1
 |true=>exact⟨.bl true,H1,I1,rfl,q1⟩
def z9d(ha:PE X a ta):PE X (._H .Not a ia) (CW ta):=by
 intro d0 s σ H Q I h;refine Ľ (bC (ha d0 s σ H _ I h) λv s1 ⟨x,H1,I1,r1,q1⟩=>?_)
 let⟨c,rfl,q1⟩:=q1;cases r1;exact not_of (_U ⟨.bl (!c),H1,I1,rfl,q1⟩)
def zaF(t:TT)(ta tb:TE):TE:=λσ H Q=>t σ H λc H1=>if c=true then ta σ H1 Q else tb σ H1 Q
def y9a(hc:PT X c tA)(ha:PE X a ta)(hb:PE X b tb):PE X (.IfExp c a b ia) (zaF tA ta tb):=by
 intro d0 s σ H Q I h;refine wpAny_IfExp (bC (hc d0 s σ H _ I h) λd s1 ⟨H1,I1,q1⟩=>?_)
 cases d with
 |true=>exact ha d0 s1 σ H1 Q I1 q1
 |false=>exact hb d0 s1 σ H1 Q I1 q1
end
def bI(K:Fg)(H:Hp)(a:f')(xs:aj V):Prop:=
 Rd H a (.dS xs) \/
  ∃(o:qH)(av:yw eT)(n:aT),K.hW a=ai o/\o.l_=.je "list" /\ o.x8=none/\o.n9=.ot av n/\av.d3<=u0/\t9 xs av.vr
def cH(K:Fg)(H:Hp)(a:f')(xs:aj V):Prop:=
 Rd H a (.gw xs) \/
  ∃(o:qH)(av:yw eT)(n:aT),K.hW a=ai o/\o.l_=.je "tuple" /\ o.x8=none/\o.n9=.ot av n/\av.d3<=u0/\t9 xs av.vr
def F5:eT->fy V
 |.none=>ai .aC
 |.xv b=>ai (.bl b)
 |.a6 i _=>ai (.a6 i)
 |.str x _=>ai (.str x)
 |.bytes b _=>ai (.vh b)
 |.float b _=>ai (.vp b)
 |.dI a=>ai (.dI a)
 |.je n=>ai (.ty n)
 |_=>none
def uc.abs{x:V}(r:uc x u):F5 u=ai x:=by
 cases x with
 |aC=>cases r;rfl
 |bl _=>cases r;rfl
 |a6 _=>let⟨t,rfl⟩:=r;rfl
 |str _=>let⟨t,rfl⟩:=r;rfl
 |vh _=>let⟨t,rfl⟩:=r;rfl
 |vp _=>let⟨t,rfl⟩:=r;rfl
 |dI _=>cases r;rfl
 |ty _=>cases r;rfl
theorem uc.yB{x y:V}(r:uc x u)(q:uc y u):x=y:=fy.ai.yB (r.abs.symm.lb q.abs)
theorem t9.yB:∀{xs ys:aj V}{us:aj eT},t9 xs us->t9 ys us->xs=ys
 |_,_,_,.ro,.ro=>rfl
 |_,_,_,.p9 r t,.p9 r' t'=>by rw[r.yB r',t9.yB t t']
section
variable{ys:aj V}
theorem bI.of(h:H a=ai (.dS xs)):bI K H a xs:=.j9 (.j9 h)
theorem cH.of(h:H a=ai (.gw xs)):cH K H a xs:=.j9 (.j9 h)
def j3.xT(I:j3 X d0 σ H s)(h:bI X.K H a xs):∃av:aj eT,t9 xs av/\PlainL s.bj a av.lS/\xs.aO<=u0:=by
 rcases h with h|⟨o,av,n,hk,hc,hd,hs,hz,r⟩
 .let⟨z,av,n,r,e⟩:=h.ok I.aJ;exact⟨av,r,⟨_,n,e,rfl,rfl,rfl⟩,z⟩
 .refine⟨av.vr,r,⟨o,n,I.kJ a o hk,hc,hd,by simpa using hs⟩,?_⟩;have e:=r.aO;simp only[w4c]at e;omega
def j3.Uo(I:j3 X d0 σ H s)(h:cH X.K H a xs):∃av:aj eT,t9 xs av/\ZW s.bj a av.lS/\xs.aO<=u0:=by
 rcases h with h|⟨o,av,n,hk,hc,_,hs,hz,r⟩
 .let⟨z,av,r,p,_⟩:=h.ok I.aJ;exact⟨av,r,p,z⟩
 .refine⟨av.vr,r,⟨o,I.kJ a o hk,hc,n,by simpa using hs⟩,?_⟩
  grind [t9.aO,yw.length_toList]
def j3.il(I:j3 X d0 σ H s)(h:bI X.K H a xs)(h':bI X.K H a ys):xs=ys:=by
 let⟨av,r,⟨o,n,e,_,_,d⟩,_⟩:=I.xT h;let⟨its',r',⟨o',n',e',_,_,d'⟩,_⟩:=I.xT h';rw[e]at e';cases e';rw[d]at d';injection d' with d1 _
 have:av=its':=by grind
 subst this;exact r.yB r'
def j3.gm(I:j3 X d0 σ H s)(h:cH X.K H a xs)(h':cH X.K H a ys):xs=ys:=by
 let⟨av,r,⟨o,e,_,n,d⟩,_⟩:=I.Uo h;let⟨its',r',⟨o',e',_,n',d'⟩,_⟩:=I.Uo h';rw[e]at e';cases e';rw[d]at d';injection d' with d1 _
 have:av=its':=by grind
 subst this;exact r.yB r'
end
section
variable{st:Dn}{wV:aj Dn}{t u:TS}
def CU:TS:=λD σ H=>D.nx σ H
def C0(t u:TS):TS:=λD σ H=>t {D with nx:=u D} σ H
theorem z35:lX X [] CU:=λ_ _ σ H _ I h=>ó ⟨σ,H,I,h⟩
def y9b(h1:PS X st t)(h2:lX X wV u):lX X (st::wV) (C0 t u):=by
 intro d0 s σ H D I h;refine zel (bC (h1 d0 s σ H {D with nx:=u D} I h) λf s1 q=>?_)
 cases f with
 |next=>
  let⟨aM,H',I',q⟩:=q;exact h2 d0 s1 aM H' D I' q
 |zW v=>exact q
 |ZL=>exact q
 |ZN=>exact q
def z36(h1:PS X st t):lX X [st] t:=by
 intro d0 s σ H D I h;refine zel (bC (h1 d0 s σ H D I h) λf s1 q=>?_)
 grind [ó]
def j3.quiet(I:j3 X d0 σ H s):interactive X.dt=false:=by simp[interactive,I.ok.yD]
def CP(te:TE):TS:=λD σ H=>te σ H λ_ H1=>D.nx σ H1
def E5(he:PE X e te)(hs:gu (Zb e none ia.X9 X.dt=uV false) jJ):PS X (.oP e ia) (CP te):=by
 intro d0 s σ H D I h;exact wpAny_Expr_any (bC (he d0 s σ H _ I h) λv s1 ⟨x,H1,I1,r1,q1⟩=>⟨σ,H1,I1,q1⟩) I.quiet hs
def KD(te:TE):TS:=λD σ H=>te σ H D.rt
def Cj(he:PE X e te):PS X (.ϓ (ai e) ia) (KD te):=by
 intro d0 s σ H D I h;exact wpAny_Return_some (bC (he d0 s σ H _ I h) λv s1 ⟨x,H1,I1,r1,q1⟩=>⟨x,σ,H1,I1,r1,q1⟩)
def CQ(c:TT)(t u:TS):TS:=λD σ H=>c σ H λb H1=>if b=true then t D σ H1 else u D σ H1
def VB{a b:aj Dn}{tc:TT}(hc:PT X c tc)(ha:lX X a t)(hb:lX X b u):PS X (.If c a b ia) (CQ tc t u):=by
 intro d0 s σ H D I h;refine wpAny_If (bC (hc d0 s σ H _ I h) λd s1 ⟨H1,I1,q1⟩=>?_)
 cases d with
 |true=>exact ha d0 s1 σ H1 D I1 q1
 |false=>exact hb d0 s1 σ H1 D I1 q1
end
abbrev TG:=V->St->Hp->(St->Hp->Prop)->Prop
abbrev wF:=aj V->St->Hp->(St->Hp->Prop)->Prop
def PG(X:Cx)(W6:oP)(t:TG):Prop:=
 ∀(d0:aj (f'×qH))(s:oi)(σ:St)(H:Hp)(v:V)(u:eT)(Q:St->Hp->Prop),j3 X d0 σ H s->uc v u->t v σ H Q ->
  oh (p5 X.jf X.w) X.A (Z2 W6 X.dt u) (λ_ s'=>∃aM H',j3 X d0 aM H' s'/\Q aM H') X.xe s
def Ao(X:Cx)(ts:aj oP)(t:wF):Prop:=
 ∀(d0:aj (f'×qH))(s:oi)(σ:St)(H:Hp)(vs:aj V)(us:aj eT)(Q:St->Hp->Prop),j3 X d0 σ H s->t9 vs us->t vs σ H Q ->
  oh (p5 X.jf X.w) X.A (assignInOrder ((Y9 ts X.dt).a7 (·.2)) us) (λ_ s'=>∃aM H',j3 X d0 aM H' s'/\Q aM H') X.xe s
abbrev wG:=V->V->V->Hp->(Hp->Prop)->Prop
def Ap(X:Cx)(t:wG):Prop:=
 ∀(d0:aj (f'×qH))(s:oi)(σ:St)(H:Hp)(o i v:V)(ov iv u:eT)(Q:Hp->Prop),j3 X d0 σ H s->uc o ov->uc i iv->uc v u->t o i v H Q ->
  oh (p5 X.jf X.w) X.A (ė ov iv u) (λ_ s'=>∃H',j3 X d0 σ H' s'/\Q H') X.xe s
def bJ(i:aT):TG:=λv σ H Q=>Q (σ.ri i (ai v)) H
def z37(hN:X.N.yr)(hi:X.N[i]?=ai x)(hx:YT X.dt.gs x)(hf:gu (X.fn x=true\/X.dt.gs.p6.hW x=ai .local) jL):PG X (.mU x ia) (bJ i):=by
 intro d0 s σ H v u Q I r h;exact wpAny_assign_Name (QG I hN hi hx r (λs' I'=>⟨_,H,I',h⟩) hf)
def pD:wF:=λvs σ H Q=>vs=[]/\Q σ H
def fM(t:TG)(u:wF):wF:=λvs σ H Q=>∃v r,vs=v::r/\t v σ H λaM H'=>u r aM H' Q
def Rp:Ao X [] pD:=by
 intro d0 s σ H vs us Q I r h;let⟨e,h⟩:=h;subst e;cases r;exact assignInOrder_nil ⟨σ,H,I,h⟩
def ET{t:TG}{u:wF}(h1:PG X e t)(h2:Ao X es u)
  (hs:gu ((Y9 (e::es) X.dt).a7 (·.2)=Z2 e X.dt::(Y9 es X.dt).a7 (·.2)) jJ):Ao X (e::es) (fM t u):=by
 intro d0 s σ H vs us Q I r h;let⟨v,zfJ,e1,h⟩:=h;subst e1;cases r with
 |p9 r rr=>
  rw[hs];refine assignInOrder_cons (bC (h1 d0 s σ H _ _ _ I r h) λ_ s1 ⟨tN,H1,I1,q1⟩=>?_)
  exact h2 d0 s1 tN H1 _ _ Q I1 rr q1
def pE(K:Fg)(n:aT)(t:wF):TG:=λv σ H Q=>∃a xs,v=.dI a/\cH K H a xs/\xs.aO=n/\t xs σ H Q
def SN{k:aT}{t:wF}{n:aT}(hc:X.NI=true)(h:Ao X es t)
  (hn:gu ((Y9 es X.dt).aO=n) jJ)(ko:gu ((Y9 es X.dt).Ő (·.1)=none) jJ):PG X (.Yi es k ia) (pE X.K n t):=by
 intro d0 s σ H v u Q I r hw;let⟨a,xs,e1,hq,hl,hw⟩:=hw;subst e1;cases r;let⟨av,rv,ht,hz⟩:=I.Uo hq;refine assign_Tuple_tuple (I.ok.hd hc) ht (by simp[hn,<- hl,rv.aO]) ko λh' hx=>?_
 have I1:j3 X d0 σ H {s with bj:=h'}:=I.XE (t':=s.rJ) λb o e=>hx b o (w0p (g6.yu e)) e
 exact h d0 _ σ H xs _ Q I1 (by simpa using rv) hw
def Gj(to ti:TE)(t:wG):TG:=λv σ H Q=>to σ H λo H1=>ti σ H1 λi H2=>t o i v H2 λH3=>Q σ H3
def z9e{o i:oP}{to ti:TE}{t:wG}(ho:PE X o to)(hi:PE X i ti)(hs:Ap X t)
  (ha:∀v,Z2 (.Yl o i ia) X.dt v=(do
   let ov <- _w [v] (eval o X.dt)
   let iv <- _w [v,ov] (eval i X.dt)
   í ia
   _w [v,ov,iv] (ė ov iv v)
   release [v,ov,iv] []):=by intro _;rfl):PG X (.Yl o i ia) (Gj to ti t):=by
 intro d0 s σ H v u Q I r h;rw[ha];refine lT (ZJ (bC (ho d0 s σ H _ I h) λov s1 ⟨x,H1,I1,r1,q1⟩=>?_))
 refine lT (ZJ (bC (hi d0 s1 σ H1 _ I1 q1) λiv s2 ⟨y,H2,I2,r2,q2⟩=>?_))
 refine lT (ı (lT (ZJ (bC (hs d0 s2 σ H2 x y v ov iv u _ I2 r1 r2 r q2) λ_ s3 ⟨H3,I3,q3⟩=>?_))))
 exact wpAny_release ⟨σ,H3,I3,q3⟩
def sC(te:TE)(g:TG):TS:=λD σ H=>te σ H λx H1=>g x σ H1 D.nx
def z9f{g:TG}(he:PE X e te)(hg:PG X tg g)(hs:gu (zdQ [tg] e ia.X9 X.dt=uV false) jJ)(hw:gu (zdP [tg] e X.dt=uV none) jJ)
  (h1:gu ((Y9 [tg] X.dt).a7 (·.2)=[Z2 tg X.dt]) jJ):PS X (.Zi [tg] e ia) (sC te g):=by
 intro d0 s σ H D I h;refine wpAny_Assign_stores (bC (he d0 s σ H _ I h) λv s1 ⟨x,H1,I1,r1,q1⟩=>?_) hs hw
 rw[h1];exact bC (hg d0 s1 σ H1 x v _ I1 r1 q1) λ_ s2 q=>q
def z9g{YI:vd}(hN:X.N.yr)(hi:X.N[i]?=ai x)(hx:YT X.dt.gs x)(he:PE X e te)(hs:gu (Zb e (ai (.mU x YI)) ia.X9 X.dt=uV false) jJ)(hf:gu (X.fn x=true\/X.dt.gs.p6.hW x=ai .local) jL):
  PS X (.Zi [.mU x YI] e ia) (sC te (bJ i)):=by
 intro d0 s σ H D I h;refine wpAny_Assign_Name (bC (he d0 s σ H _ I h) λv s1 ⟨y,H1,I1,r1,q1⟩=>?_) hs
 exact QG I1 hN hi hx r1 (λs2 I2=>⟨_,H1,I2,q1⟩) hf
def zeI(c:TT)(tb:TS):TS:=λD σ H=>∃W:aT->St->Hp->Prop,(∃m,W m σ H)/\∀m σ H,W m σ H ->
 c σ H λb H1=>if b=true then ∃N:St->Hp->Prop,(∀aM H',N aM H'->∃m',m'<m/\W m' aM H')/\tb {D with nx:=N,ct:=N,bk:=D.nx} σ H1 else D.nx σ H1
def y9c{t6:aj Dn}{tc:TT}(hp:ϩ (p5 X.jf X.w) X.A X.dt X.xe)(hc:PT X c tc)(hb:lX X t6 tb):PS X (.While c t6 [] ia) (zeI tc tb):=by
 intro d0 s σ H D I h;let⟨W,⟨m0,w0⟩,YM⟩:=h;refine wpAny_While (codeAny_whileLoop (λn s'=>∃aM H',j3 X d0 aM H' s'/\W n aM H') ?_ m0 ⟨σ,H,I,w0⟩)
 rintro n s1 ⟨tN,H1,I1,w1⟩;refine Ϥ hp (bC (hc d0 s1 tN H1 _ I1 (YM n tN H1 w1)) λb s2 ⟨H2,I2,q2⟩=>?_)
 cases b with
 |true=>
  let⟨N,hN,q2⟩:=q2;rw[mS rfl];refine Ϥ hp (bC (hb d0 s2 tN H2 _ I2 q2) λf s3 q3=>?_)
  cases f with
  |next=>
   let⟨sM,H3,I3,n3⟩:=q3;let⟨m',hm,w3⟩:=hN sM H3 n3;exact⟨m',hm,sM,H3,I3,w3⟩
  |ZN=>
   let⟨sM,H3,I3,n3⟩:=q3;let⟨m',hm,w3⟩:=hN sM H3 n3;exact⟨m',hm,sM,H3,I3,w3⟩
  |ZL=>exact q3
  |zW v=>exact q3
 |false=>
  rw[sF w1i];exact ó ⟨tN,H2,I2,q2⟩
structure It where
 go:aT->Hp->Prop
 kQ:aT->Hp->V->Hp->Prop
 stop:aT->Hp->Prop
def eO(X:Cx)(d0:aj (f'×qH))(H:Hp)(b:f'):Prop:=
 H b=none/\b≠X.dt.Yr/\b∉X.fs/\(b∈X.ex\/X.ax.bj.g0.d3<=b)/\(∀x c,X.dt.XB.hW x=ai c->c≠b)/\∀p∈X.pn++d0,p.1≠b
def j3.jI{b:f'}(I:j3 X d0 σ H s)(hb:s.bj.g0.d3<=b)(hn:H' b=none):eO X d0 H' b:=by
 refine⟨hn,w2s (w1f I.lt hb),I.HQ hb,.mW (w0q I.sz hb),λx c e z=>?_,λp hp z=>?_⟩
 .let⟨v,q⟩:=I.ur x c e;exact uv (w1f q.lt (by rw[z];exact hb)) (w1z _)
 .exact uv (w1f (g6.yu (I.Ys p hp).1) (by rw[z];exact hb)) (w1z _)
structure Χ(P:wW)(w:uG)(K:Fg)(tg:oP)(J:It)(fp:aj f')(it:f')(tn:aT->g6->Prop):Prop where
 Xt:it∈fp
 Up:∀i h,tn i h->∀b∈fp,∃o,h.iT b=ai o/\∀v,o.n9≠.ur v
 xJ:∀i h h',tn i h->(∀b∈fp,∀o,h.iT b=ai o->h'.iT b=ai o)->tn i h'
 ZF:∀(X:Cx),X.jf=P->X.w=w->X.K=K->X.NI=true->∀(i:aT)(d0:aj (f'×qH))(s:oi)(σ:St)(H:Hp)(E:eT->oi->Prop),j3 X d0 σ H s->(∀b∈fp,eO X d0 H b)->tn i s.bj->J.go i H ->
  oh (p5 P w) X.A (Η (.dI it)) (λr s1=>∃u,r=ai u /\
   oh (p5 P w) X.A (č tg (.dI it) u) (λ_ s2=>∃x H',j3 X d0 σ H' s2/\uc x u/\J.kQ i H x H'/\tn (i+1) s2.bj/\∀b∈fp,H' b=none) E s1) E s
 done:∀(X:Cx),X.jf=P->X.w=w->X.K=K->X.NI=true->∀(i:aT)(d0:aj (f'×qH))(s:oi)(σ:St)(H:Hp)(E:eT->oi->Prop),j3 X d0 σ H s->(∀b∈fp,eO X d0 H b)->tn i s.bj->J.stop i H ->
  oh (p5 P w) X.A (Η (.dI it)) (λr s1=>r=none/\j3 X d0 σ H s1) E s
 self:∀(A:FZ)(i:aT)(s:oi)(Q:eT->oi->Prop)(E:eT->oi->Prop),tn i s.bj->Q (.dI it) s->oh (p5 P w) A (Š (.dI it)) Q E s
abbrev TI:=St->Hp->(It->Hp->Prop)->Prop
def Mr(X:Cx)(d0:aj (f'×qH))(σ:St)(tg:oP)(R:It->Hp->Prop)(DU:eT)(s2:oi):Prop:=
 ∃(it:f')(fp:aj f')(tn:aT->g6->Prop)(J:It)(H':Hp),DU=.dI it/\j3 X d0 σ H' s2/\Χ X.jf X.w X.K tg J fp it tn/\tn 0 s2.bj/\(∀b∈fp,eO X d0 H' b)/\R J H'
def PI(X:Cx)(tg xA:oP)(wi:TI):Prop:=
 ∀(d0:aj (f'×qH))(s:oi)(σ:St)(H:Hp)(R:It->Hp->Prop),j3 X d0 σ H s->wi σ H R ->
  oh (p5 X.jf X.w) X.A (eval xA X.dt) (λv s1=>oh (p5 X.jf X.w) X.A (Š v) (Mr X d0 σ tg R) X.xe s1) X.xe s
def Mb{E : eT -> oi -> Prop}{s : oi}{it : f'}{o : qH}{n : Yk}{vs : yw eT}{Q : Unit -> oi -> Prop}(ho : s.bj.iT it = ai o)(hc : o.l_ = .je n)(hd : o.n9 = .NJ vs)
    (hn : ["enumerate", "zip", "dict_itemiterator", "dict_reverseitemiterator", "odict_iterator", "itertools.zip_longest", "itertools.pairwise"]._c n = false)(hQ : Q () s) : oh M A (č tg (.dI it) u) Q E s := by
  unfold č
  cases tg <;> first
    | exact t8 hQ
    | (cases u <;> first
        | exact t8 hQ
        | (refine lT (wpAny_load ho ?_)
           rw [hc, hd];show oh M A (if (["enumerate", "zip", "dict_itemiterator", "dict_reverseitemiterator", "odict_iterator", "itertools.zip_longest", "itertools.pairwise"]._c n && vs[0]? == ai (_i _)) = true then _ else _) Q E s;rw [sF (by intro h; rw [hn, w5k] at h; cases h)];exact t8 hQ))
def yS(K:Fg)(a:f'):It:=
 ⟨λi H=>∃xs x,bI K H a xs/\xs[i]?=ai x,λi H x H'=>H'=H/\∀xs,bI K H a xs->xs[i]?=ai x,λi H=>∃xs,bI K H a xs/\xs.aO<=i⟩
def yT(K:Fg)(a:f'):It:=
 ⟨λi H=>∃xs x,cH K H a xs/\xs[i]?=ai x,λi H x H'=>H'=H/\∀xs,cH K H a xs->xs[i]?=ai x,λi H=>∃xs,cH K H a xs/\xs.aO<=i⟩
def qx(lo:dr)(n:aT):It:=⟨λi _=>i<n,λi H x H'=>H'=H/\x=.a6 (lo+i),λi _=>n<=i⟩
theorem y4u{P:wW}(a it:f'):Χ P w K tg (yS K a) [it] it (λi h=>h.Ϗ it a i) where
 Xt:=by simp
 Up:=λi h st b hb=>by
  have e:b=it:=by simpa using hb
  subst e;let⟨o,e,c,d⟩:=st;exact⟨o,e,λv z=>by rw[d]at z;cases z⟩
 xJ:=λi h h' st k=>st.at λo e=>k it (by simp) o e
 ZF:=by
  intro X hP hw hK hc i d0 s σ H E I hf st hg;subst hP hw hK;let⟨xs,x,hq,hx⟩:=hg;let⟨av,rv,p,hz⟩:=I.xT hq;let⟨u,hu,ru⟩:=rv.A' hx;let⟨f0,f1,f2,f3,f4,f5⟩:=hf it (by simp);refine wpAny_pyNext_list_item st p.zf (x:=u) (by simpa using hu) λh' n6 sb=>?_
  have I1:j3 X d0 σ H {s with bj:=h'}:=I.ZU (t':=s.rJ) (λb o hb e=>(sb.2 b hb).lb e) f0 f1 f3 f4 f5
  let⟨o,e,c,d⟩:=id n6;exact⟨u,rfl,Mb (s:={s with bj:=h'}) e c d (by decide) ⟨x,H,I1,ru,⟨rfl,λys hy=>by rw[I.il hy hq];exact hx⟩,n6,λb hb=>(hf b hb).1⟩⟩
 done:=by
  intro X hP hw hK hc i d0 s σ H E I hf st hg;subst hP hw hK;let⟨xs,hq,hx⟩:=hg;let⟨av,rv,p,hz⟩:=I.xT hq;let⟨f0,f1,f2,f3,f4,f5⟩:=hf it (by simp);have hl:=rv.aO;exact wpAny_pyNext_list_end (I.ok.hd hc) st p.zf (by simp;omega) λh' eb=>⟨rfl,I.ZU (t':=s.rJ) (λb o hb e=>eb b o hb e) f0 f1 f3 f4 f5⟩
 self:=λ_ _ _ _ _ st h=>wpAny_pyIter_listiter st h
theorem y21{P:wW}(a it:f'):Χ P w K tg (yT K a) [it] it (λi h=>h._b it a i) where
 Xt:=by simp
 Up:=λi h st b hb=>by
  have e:b=it:=by simpa using hb
  subst e;let⟨o,e,c,d⟩:=st
  grind
 xJ:=λi h h' st k=>st.at λo e=>k it (by simp) o e
 ZF:=by
  intro X hP hw hK hc i d0 s σ H E I hf st hg;subst hP hw hK;let⟨xs,x,hq,hx⟩:=hg;let⟨av,rv,p,hz⟩:=I.Uo hq;let⟨u,hu,ru⟩:=rv.A' hx;let⟨f0,f1,f2,f3,f4,f5⟩:=hf it (by simp);refine wpAny_pyNext_tuple_item st (show s.bj.Yy a av.lS from p) (x:=u) (by simpa using hu) λh' n6 sb=>?_
  have I1:j3 X d0 σ H {s with bj:=h'}:=I.ZU (t':=s.rJ) (λb o hb e=>(sb.2 b hb).lb e) f0 f1 f3 f4 f5
  let⟨o,e,c,d⟩:=id n6;exact⟨u,rfl,Mb (s:={s with bj:=h'}) e c d (by decide) ⟨x,H,I1,ru,⟨rfl,λys hy=>by rw[I.gm hy hq];exact hx⟩,n6,λb hb=>(hf b hb).1⟩⟩
 done:=by
  intro X hP hw hK hc i d0 s σ H E I hf st hg;subst hP hw hK;let⟨xs,hq,hx⟩:=hg;let⟨av,rv,p,hz⟩:=I.Uo hq;let⟨f0,f1,f2,f3,f4,f5⟩:=hf it (by simp);have hl:=rv.aO;exact wpAny_pyNext_tuple_end (I.ok.hd hc) st (show s.bj.Yy a av.lS from p) (by simp;omega) λh' eb=>⟨rfl,I.ZU (t':=s.rJ) (λb o hb e=>eb b o hb e) f0 f1 f3 f4 f5⟩
 self:=λ_ _ _ _ _ st h=>wpAny_pyIter_tupleiter st h
theorem y22{P:wW}(it:f')(lo:dr)(n:aT):Χ P w K tg (qx lo n) [it] it (λi h=>Ž h it (lo+(i:aT)*1) ((n:dr)-(i:aT)) 1) where
 Xt:=by simp
 Up:=λi h st b hb=>by
  have e:b=it:=by simpa using hb
  subst e
  exact⟨_,st,λv z=>by
   have z':_D.NJ _=_D.ur v:=z;cases z'⟩
 xJ:=λi h h' st k=>k it (by simp) _ st
 ZF:=by
  intro X hP hw hK hc i d0 s σ H E I hf st hg;subst hP hw hK;let⟨f0,f1,f2,f3,f4,f5⟩:=hf it (by simp);have W:=ϕ.u5 (jf:=X.jf) (w:=X.w) (I.ok.hd hc) it lo 1 n;refine W.ZF i s _ _ hg st λv h' tk hv n6 kk=>?_
  let⟨t,rfl⟩:=hv;have I1:j3 X d0 σ H {s with bj:=h',rJ:=tk}:=I.ZU (λb o hb e=>kk b o (by simpa using hb) e) f0 f1 f3 f4 f5
  refine⟨_,rfl,Mb (s:={s with bj:=h',rJ:=tk}) (n:="range_iterator") n6 rfl rfl (by decide) ⟨.a6 (lo+i),H,I1,⟨t,?_⟩,⟨rfl,rfl⟩,n6,λb hb=>(hf b hb).1⟩⟩
  rw[dr.mul_one]
 done:=by
  intro X hP hw hK hc i d0 s σ H E I hf st hg;subst hP hw hK;let⟨f0,f1,f2,f3,f4,f5⟩:=hf it (by simp);exact wpAny_pyNext_range_end (I.ok.hd hc) st (by have:n<=i:=hg;omega) λh' eb=>⟨rfl,I.ZU (t':=s.rJ) (λb o hb e=>eb b o hb e) f0 f1 f3 f4 f5⟩
 self:=λ_ _ _ _ _ st h=>wpAny_pyIter_rangeiter st h
def y9d{R:It->Hp->Prop}{lo hi:dr}{t u v:_Z}{tk:aT}(I:j3 X d0 σ H s)(h1:-(2^62)<=lo)(h2:lo<2^62)(h3:-(2^62)<=hi)(h4:hi<2^62)
  (q:R (qx lo (hi-lo).sG) H):oh (p5 X.jf X.w) X.A (Š (.dI s.bj.g0.d3)) (Mr X d0 σ tg R) E {s with bj:=s.bj.tB {l_:=.je "range", n9:=.NJ #[.a6 lo t,.a6 hi u,.a6 1 v]},rJ:=tk}:=by
 refine wpAny_pyIter_range (IsRange.xM ..) (small_one h1 h2 h3 h4) ?_;have I1:j3 X d0 σ H {s with bj:=s.bj.tB {l_:=.je "range", n9:=.NJ #[.a6 lo t,.a6 hi u,.a6 1 v]},rJ:=tk}:=I.XE λb o e=>g6.w6 _ e
 refine⟨(s.bj.tB {l_:=.je "range", n9:=.NJ #[.a6 lo t,.a6 hi u,.a6 1 v]}).g0.d3,[(s.bj.tB {l_:=.je "range", n9:=.NJ #[.a6 lo t,.a6 hi u,.a6 1 v]}).g0.d3],_,_,H,rfl,
  I1.XE (t':=tk) λb o e=>g6.w6 _ e,y22 _ lo (hi-lo).sG,?_,λb hb=>?_,q⟩
 .have e1:lo+((0:aT):dr)*1=lo:=by simp
  have e2:(((hi-lo).sG:aT):dr)-((0:aT):dr)=uu.Range.rangeSize lo hi 1:=by grind [rangeSize_one]
  show Ž _ _ (lo+((0:aT):dr)*1) ((((hi-lo).sG:aT):dr)-((0:aT):dr)) 1;rw[e1,e2];exact g6.Bt _ rfl
 .have e:b=(s.bj.tB {l_:=.je "range", n9:=.NJ #[.a6 lo t,.a6 hi u,.a6 1 v]}).g0.d3:=by simpa using hb
  subst e;exact I1.jI (w0f _) (I1.aJ.yI (w0f _))
def vE(ta:TA):TI:=λσ H R=>ta σ H λvs H1=>∃j:dr,vs=[.a6 j]/\-(2^62)<=j/\j<2^62/\R (qx 0 j.sG) H1
def EH{a:oP}{ta:TA}(hg:Gl X "range")(hm:X.mg "range"=none)(ha:PA X [a] ta)(hs:gu (oj [a] X.dt=[(false,eval a X.dt)]) jJ):PI X tg (.wu (.mU "range" p) [a] [] ia) (vE ta):=by
 intro d0 s σ H R I h;refine ø (rY I hg hm boot_range (Ku.M4.Ϛ (bC (ha ia d0 s σ H _ I h) λus s1 ⟨vs,H1,I1,r1,q1⟩=>?_) hs rfl))
 let⟨j,e,q1,q2,q⟩:=q1;subst e;cases r1 with
 |p9 r rr=>
  cases rr;let⟨t,rfl⟩:=r;exact call_range_1 (y9d I1 (by omega) (by omega) q1 q2 (by simpa using q))
def Ky(wi:TI)(g:TG)(tb:TS):TS:=λD σ H=>wi σ H λJ H1=>∃W:aT->aT->St->Hp->Prop,(∃m,W 0 m σ H1)/\∀i m σ H,W i m σ H ->
 (J.stop i H/\D.nx σ H)\/(J.go i H/\∃N:St->Hp->Prop,(∀aM H',N aM H'->∃m',m'<m/\W (i+1) m' aM H')/\∀x H',J.kQ i H x H'->g x σ H' λjq H2=>tb {D with nx:=N,ct:=N,bk:=D.nx} jq H2)
def iQ(fp:aj f')(h:g6):aj (f'×qH):=fp.Ϝ λb=>(h.iT b).a7 λo=>(b,o)
theorem ya{b:f'}{o:qH}(hb:b∈fp)(e:h.iT b=ai o):(b,o)∈iQ fp h:=w2r.uY ⟨b,hb,by rw[e];rfl⟩
def y4v{p:f'×qH}(hp:p∈iQ fp h):p.1∈fp/\h.iT p.1=ai p.2:=by
 let⟨b,hb,e⟩:=w2r.mp hp;cases q:h.iT b with
 |none=>rw[q]at e;cases e
 |ai o=>
  grind
theorem j3.ã(I:j3 X d0 σ H s)(hf:∀b∈fp,eO X d0 H b)(ho:∀b∈fp,∃o,s.bj.iT b=ai o/\∀v,o.n9≠.ur v):j3 X (d0++iQ fp s.bj) σ H s:=
 I.jl λp hp=>(w3g.mp hp).nU (λz=>I.Ys p (w0k _ z)) λz=>by
  let⟨hb,e⟩:=y4v z;let⟨f0,f1,f2,_⟩:=hf p.1 hb
  grind
theorem j3.e7{pl:aj (f'×qH)}(I:j3 X (d0++pl) σ H s):j3 X d0 σ H s:=I.jl λp hp=>I.Ys p (w0k _ (w1y _ hp))
def LW{xA:oP}{t6:aj Dn}{wi:TI}{g:TG}(hp:ϩ (p5 X.jf X.w) X.A X.dt X.xe)(hc:X.NI=true)(hi:PI X tg xA wi)(hg:PG X tg g)(hb:lX X t6 tb)
  (hs:∀x,Zv xA X.dt x=uV x:=by intro _;rfl):PS X (.For tg xA t6 [] ia) (Ky wi g tb):=by
 intro d0 s σ H D I h;refine wpAny_For (bC (hi d0 s σ H _ I h) λv s1 h1=>bC h1 λDU s2 h2=>?_) hs
 let⟨it,fp,tn,J,H2,e,I2,T,iS,f2,W,⟨m0,w0⟩,YM⟩:=h2;subst e;have j7:∀{H':Hp},(∀b∈fp,H' b=none)->∀b∈fp,eO X d0 H' b:=λhn b hb=>⟨hn b hb,(f2 b hb).2⟩
 refine codeAny_forLoop_any (λn s'=>∃i aM H',j3 X d0 aM H' s'/\tn i s'.bj/\(∀b∈fp,H' b=none)/\W i n aM H') ?_ m0 ⟨0,σ,H2,I2,iS,λb hb=>(f2 b hb).1,w0⟩
 rintro n s3 ⟨i,sM,H3,I3,wo,vt,w3⟩;rcases YM i n sM H3 w3 with⟨stop,qn⟩|⟨go,N,hN,YY⟩
 .refine Ϥ hp (bC (T.done X rfl rfl rfl hc i d0 s3 sM H3 X.xe I3 (j7 vt) wo stop) λr s4 ⟨hr,I4⟩=>?_)
  subst hr;exact ó ⟨sM,H3,I4,qn⟩
 .refine Ϥ hp (bC (T.ZF X rfl rfl rfl hc i d0 s3 sM H3 X.xe I3 (j7 vt) wo go) λr s4 ⟨u,hr,h4⟩=>?_)
  subst hr;refine Ϥ hp (bC h4 λ_ s5 ⟨x,H5,I5,r5,y5,Kv,Ds⟩=>?_)
  have Um:=I5.ã (j7 Ds) (T.Up _ _ Kv);refine Ϥ hp (bC (hg _ s5 sM H5 x u _ Um r5 (YY x H5 y5)) λ_ s6 ⟨Mp,H6,I6,q6⟩=>?_)
  refine Ϥ hp (bC (hb _ s6 Mp H6 _ I6 q6) λf s7 q7=>?_)
  have _J:∀{lW:St}{H7:Hp},j3 X (d0++iQ fp s5.bj) lW H7 s7->N lW H7->∃m,m<n/\∃i aM H',j3 X d0 aM H' s7/\tn i s7.bj/\(∀b∈fp,H' b=none)/\W i m aM H':=λ{lW H7} I7 n7=>by
   let⟨m',hm,w7⟩:=hN lW H7 n7;refine⟨m',hm,i+1,lW,H7,I7.e7,T.xJ _ _ _ Kv λb hb o e=>(I7.Ys (b,o) (w0k _ (w0k _ (ya hb e)))).1,λb hb=>?_,w7⟩
   let⟨o,e,d⟩:=T.Up _ _ Kv b hb;exact(I7.Ys (b,o) (w0k _ (w0k _ (ya hb e)))).2.1
  cases f with
  |next=>let⟨lW,H7,I7,n7⟩:=q7;exact _J I7 n7
  |ZN=>let⟨lW,H7,I7,n7⟩:=q7;exact _J I7 n7
  |ZL=>let⟨lW,H7,I7,q7⟩:=q7;exact⟨lW,H7,I7.e7,q7⟩
  |zW v=>let⟨x7,lW,H7,I7,r7,q7⟩:=q7;exact⟨x7,lW,H7,I7.e7,r7,q7⟩
def y9e{g:TG}{D:_E}(Pv:aT->St->Hp->Prop)(h0:Pv 0 σ H)(hl:∀i σ H,i<=xs.aO->Pv i σ H->bI K H a xs)
  (hs:∀i x σ H,xs[i]?=ai x->Pv i σ H->g x σ H λjq H2=>tb {D with nx:=Pv (i+1),ct:=Pv (i+1),bk:=D.nx} jq H2)(hd:∀σ H,Pv xs.aO σ H->D.nx σ H):
  ∃W:aT->aT->St->Hp->Prop,(∃m,W 0 m σ H)/\∀i m σ H,W i m σ H ->
   ((yS K a).stop i H/\D.nx σ H)\/((yS K a).go i H/\∃N:St->Hp->Prop,(∀aM H',N aM H'->∃m',m'<m/\W (i+1) m' aM H')/\∀x H',(yS K a).kQ i H x H'->g x σ H' λjq H2=>tb {D with nx:=N,ct:=N,bk:=D.nx} jq H2):=by
 refine⟨λi m σ H=>m=xs.aO-i/\i<=xs.aO/\Pv i σ H,⟨xs.aO,by simp,w1c _,h0⟩,?_⟩
 rintro i m σ H ⟨rfl,hi,p⟩;have q:=hl i σ H hi p
 by_cases b8:i<xs.aO
 .refine .mW ⟨⟨xs,xs[i],q,by simp[b8]⟩,Pv (i+1),λaM H' p'=>⟨xs.aO-(i+1),by omega,rfl,b8,p'⟩,λx H' y=>?_⟩
  let⟨e,y⟩:=y;subst e;exact hs i x σ _ (y xs q) p
 .have e:i=xs.aO:=by omega
  subst e;exact .j9 ⟨⟨xs,q,w0f _⟩,hd σ H p⟩
def z38{g:TG}{D:_E}(Pv:aT->St->Hp->Prop)(h0:Pv 0 σ H)(hl:∀i σ H,i<=xs.aO->Pv i σ H->cH K H a xs)
  (hs:∀i x σ H,xs[i]?=ai x->Pv i σ H->g x σ H λjq H2=>tb {D with nx:=Pv (i+1),ct:=Pv (i+1),bk:=D.nx} jq H2)(hd:∀σ H,Pv xs.aO σ H->D.nx σ H):
  ∃W:aT->aT->St->Hp->Prop,(∃m,W 0 m σ H)/\∀i m σ H,W i m σ H ->
   ((yT K a).stop i H/\D.nx σ H)\/((yT K a).go i H/\∃N:St->Hp->Prop,(∀aM H',N aM H'->∃m',m'<m/\W (i+1) m' aM H')/\∀x H',(yT K a).kQ i H x H'->g x σ H' λjq H2=>tb {D with nx:=N,ct:=N,bk:=D.nx} jq H2):=by
 refine⟨λi m σ H=>m=xs.aO-i/\i<=xs.aO/\Pv i σ H,⟨xs.aO,by simp,w1c _,h0⟩,?_⟩
 rintro i m σ H ⟨rfl,hi,p⟩;have q:=hl i σ H hi p
 by_cases b8:i<xs.aO
 .refine .mW ⟨⟨xs,xs[i],q,by simp[b8]⟩,Pv (i+1),λaM H' p'=>⟨xs.aO-(i+1),by omega,rfl,b8,p'⟩,λx H' y=>?_⟩
  let⟨e,y⟩:=y;subst e;exact hs i x σ _ (y xs q) p
 .have e:i=xs.aO:=by omega
  subst e;exact .j9 ⟨⟨xs,q,w0f _⟩,hd σ H p⟩
def y4w{lo:dr}{n:aT}{g:TG}{D:_E}(Pv:aT->St->Hp->Prop)(h0:Pv 0 σ H)
  (hs:∀i σ H,i<n->Pv i σ H->g (.a6 (lo+i)) σ H λjq H2=>tb {D with nx:=Pv (i+1),ct:=Pv (i+1),bk:=D.nx} jq H2)(hd:∀σ H,Pv n σ H->D.nx σ H):
  ∃W:aT->aT->St->Hp->Prop,(∃m,W 0 m σ H)/\∀i m σ H,W i m σ H ->
   ((qx lo n).stop i H/\D.nx σ H)\/((qx lo n).go i H/\∃N:St->Hp->Prop,(∀aM H',N aM H'->∃m',m'<m/\W (i+1) m' aM H')/\∀x H',(qx lo n).kQ i H x H'->g x σ H' λjq H2=>tb {D with nx:=N,ct:=N,bk:=D.nx} jq H2):=by
 refine⟨λi m σ H=>m=n-i/\i<=n/\Pv i σ H,⟨n,by simp,w1c _,h0⟩,?_⟩
 rintro i m σ H ⟨rfl,hi,p⟩
 by_cases b8:i<n
 .refine .mW ⟨b8,Pv (i+1),λaM H' p'=>⟨n-(i+1),by omega,rfl,b8,p'⟩,λx H' y=>?_⟩
  let⟨e,y⟩:=y;subst e y;exact hs i σ _ b8 p
 .have e:i=n:=by omega
  subst e;exact .j9 ⟨w0f _,hd σ H p⟩
abbrev R2:=V->V->Hp->VK->Prop
variable{r:R2}
def fF(X:Cx)(f:eT->eT->_F eT)(r:R2):Prop:=
 ∀(d0:aj (f'×qH))(s:oi)(σ:St)(H:Hp)(x y:V)(v u:eT)(Q:VK),j3 X d0 σ H s->uc x v->uc y u->r x y H Q ->
  oh (p5 X.jf X.w) X.A (f v u) (EP X d0 σ Q) X.xe s
def As(X:Cx)(f:eT->_F eT)(r:V->Hp->VK->Prop):Prop:=
 ∀(d0:aj (f'×qH))(s:oi)(σ:St)(H:Hp)(x:V)(v:eT)(Q:VK),j3 X d0 σ H s->uc x v->r x H Q ->
  oh (p5 X.jf X.w) X.A (f v) (EP X d0 σ Q) X.xe s
def c6(X:Cx)(f:eT)(r:aj V->Hp->VK->Prop):Prop:=
 ∀(d0:aj (f'×qH))(s:oi)(σ:St)(H:Hp)(xs:aj V)(us:aj eT)(Q:VK),j3 X d0 σ H s->t9 xs us->r xs H Q ->
  oh (p5 X.jf X.w) X.A (yG f us) (EP X d0 σ Q) X.xe s
def Ar(X:Cx)(r:V->Hp->(ie->Hp->Prop)->Prop):Prop:=
 ∀(d0:aj (f'×qH))(s:oi)(σ:St)(H:Hp)(x:V)(v:eT)(Q:ie->Hp->Prop),j3 X d0 σ H s->uc x v->r x H Q ->
  oh (p5 X.jf X.w) X.A (ű v) (TP X d0 σ Q) X.xe s
def CY(r:R2)(ta tb:TE):TE:=λσ H Q=>ta σ H λx H1=>tb σ H1 λy H2=>r x y H2 Q
def OP(r:V->Hp->VK->Prop)(ta:TE):TE:=λσ H Q=>ta σ H λx H1=>r x H1 Q
def rI(C:dr->dr->Prop)(g:dr->dr->V):R2:=λx y H Q=>∃i j,x=.a6 i/\y=.a6 j/\C i j/\Q (g i j) H
def nY(g:dr->dr->V):R2:=λx y H Q=>∃i j,x=.a6 i/\y=.a6 j/\Q (g i j) H
def rU(g:dr->V):V->Hp->VK->Prop:=λx H Q=>∃i,x=.a6 i/\Q (g i) H
section
variable{a b:oP}{tb tc:TE}
def wN(ha:PE X a ta)(hb:PE X b tb){R:V->V->Hp->Prop}(I:j3 X d0 σ H s)
  (h:ta σ H λx H1=>tb σ H1 λy H2=>R x y H2){Q:eT->oi->Prop}
  (hf:∀v u s2 x y H2,j3 X d0 σ H2 s2->uc x v->uc y u->R x y H2->oh (p5 X.jf X.w) X.A (f v u) Q X.xe s2):
  oh (p5 X.jf X.w) X.A (eval a X.dt) (λv aH=>oh (p5 X.jf X.w) X.A (eval b X.dt) (λu mR=>oh (p5 X.jf X.w) X.A (f v u) Q X.xe mR) X.xe aH) X.xe s:=by
 refine bC (ha d0 s σ H _ I h) λv s1 ⟨x,H1,I1,r1,q1⟩=>?_
 refine bC (hb d0 s1 σ H1 _ I1 q1) λu s2 ⟨y,H2,I2,r2,q2⟩=>?_
 exact hf v u s2 x y H2 I2 r1 r2 q2
def TR{op:Operator}(ho:fF X (Zr op) r)(ha:PE X a ta)(hb:PE X b tb):PE X (._m a op b ia) (CY r ta tb):=by
 intro d0 s σ H Q I h;exact wpAny_BinOp (wN ha hb I h λv u s2 x y H2 I2 rx ry q=>ho d0 s2 σ H2 x y v u Q I2 rx ry q)
def VC{op:_H}{r:V->Hp->VK->Prop}(ho:As X (ų op) r)(ha:PE X a ta):PE X (._H op a ia) (OP r ta):=by
 intro d0 s σ H Q I h;exact Ľ (bC (ha d0 s σ H _ I h) λv s1 ⟨x,H1,I1,r1,q1⟩=>ho d0 s1 σ H1 x v Q I1 r1 q1)
def D1{C:dr->dr->Prop}{g:dr->dr->dr}
  (Z7:∀(i j:dr)(t u:_Z)(s:oi)(Q:eT->oi->Prop)(E:eT->oi->Prop),C i j->Q (.a6 (g i j) s.rJ) {s with rJ:=s.rJ+1}->oh (p5 X.jf X.w) X.A (f (.a6 i t) (.a6 j u)) Q E s):
  fF X f (rI C λi j=>.a6 (g i j)):=by
 intro d0 s σ H x y v u Q I rx ry h;let⟨i,j,rfl,rfl,hc,q⟩:=h;let⟨t,rfl⟩:=rx;let⟨t',rfl⟩:=ry;exact Z7 i j t t' s _ _ hc ⟨.a6 (g i j),H,I.Yg _,⟨_,rfl⟩,q⟩
def BD{g:dr->dr->dr}
  (Z7:∀(i j:dr)(t u:_Z)(s:oi)(Q:eT->oi->Prop)(E:eT->oi->Prop),Q (.a6 (g i j) s.rJ) {s with rJ:=s.rJ+1}->oh (p5 X.jf X.w) X.A (f (.a6 i t) (.a6 j u)) Q E s):
  fF X f (nY λi j=>.a6 (g i j)):=by
 intro d0 s σ H x y v u Q I rx ry h;let⟨i,j,rfl,rfl,q⟩:=h;let⟨t,rfl⟩:=rx;let⟨t',rfl⟩:=ry;exact Z7 i j t t' s _ _ ⟨.a6 (g i j),H,I.Yg _,⟨_,rfl⟩,q⟩
def uF{g:dr->dr->ie}
  (Z7:∀(i j:dr)(t u:_Z)(s:oi)(Q:eT->oi->Prop)(E:eT->oi->Prop),Q (.xv (g i j)) s->oh (p5 X.jf X.w) X.A (f (.a6 i t) (.a6 j u)) Q E s):
  fF X f (nY λi j=>.bl (g i j)):=by
 intro d0 s σ H x y v u Q I rx ry h;let⟨i,j,rfl,rfl,q⟩:=h;let⟨t,rfl⟩:=rx;let⟨t',rfl⟩:=ry;exact Z7 i j t t' s _ _ ⟨.bl (g i j),H,I,rfl,q⟩
def Aa(i j:dr):Prop:=0<j/\j<1073741824
def Ab(i j:dr):Prop:=0<=j/\j<=1000000/\i.υ<2^64
def tP(i j:dr):Prop:=(-(2^64)<i/\i<2^64)\/(-(2^64)<j/\j<2^64)
def tP.ok{i j:dr}(h:tP i j):IntMulOk i j:=by
 rcases h with⟨h1,h2⟩|⟨h1,h2⟩
 .exact .of_left (zcL h1 h2)
 .exact .of_right (zcL h1 h2)
theorem zeA:fF X (Zr .Add) (nY λi j=>.a6 (i+j)):=BD λ_ _ _ _ _ _ _ q=>add_int q
theorem z9h:fF X (Zr .Sub) (nY λi j=>.a6 (i-j)):=BD λ_ _ _ _ _ _ _ q=>sub_int q
theorem z9i:fF X (Zr .Υ) (rI tP λi j=>.a6 (i*j)):=D1 λ_ _ _ _ _ _ _ hc q=>mul_int q hc.ok
theorem z39:fF X (Zr .FloorDiv) (rI Aa λi j=>.a6 (i / j)):=D1 λi j _ _ _ _ _ hc q=>by
 have h1:(0:dr)<j:=hc.1;have h2:j<1073741824:=hc.2;exact floordiv_int (by omega) (by rw[dr.fdiv_eq_ediv_of_nonneg i (by omega)];exact q) (.j9 (Ku.noPylong_small (by omega)))
theorem z9j:fF X (Zr .Τ) (rI (λ_ j=>0<j) λi j=>.a6 (i%j)):=D1 λi j _ _ _ _ _ hc q=>by
 have h1:(0:dr)<j:=hc;exact mod_int' (by omega) (by rw[dr.fmod_eq_emod_of_nonneg i (by omega)];exact q)
theorem z9k:fF X (Zr .Pow) (rI Ab λi j=>.a6 (i^j.sG)):=D1 λ_ _ _ _ _ _ _ hc q=>pow_int_small hc.1 hc.2.1 hc.2.2 q
def zaJ{f:eT->_F eT}{g:dr->dr}
  (Z7:∀(i:dr)(t:_Z)(s:oi)(Q:eT->oi->Prop)(E:eT->oi->Prop),Q (.a6 (g i) s.rJ) {s with rJ:=s.rJ+1}->oh (p5 X.jf X.w) X.A (f (.a6 i t)) Q E s):
  As X f (rU λi=>.a6 (g i)):=by
 intro d0 s σ H x v Q I rx h;let⟨i,rfl,q⟩:=h;let⟨t,rfl⟩:=rx;exact Z7 i t s _ _ ⟨.a6 (g i),H,I.Yg _,⟨_,rfl⟩,q⟩
theorem z9l:As X (ų .USub) (rU λi=>.a6 (-i)):=zaJ λ_ _ _ _ _ q=>neg_int q
end
section
variable{a b:oP}{tb tc:TE}
def SO{Q:VK}{k k':ie}(I:j3 X d0 σ H s)(q:Q (.bl k) H)(e:k=k'):EP X d0 σ Q (.xv k') s:=by
 subst e;exact⟨.bl k,H,I,rfl,q⟩
theorem TU:fF X (Zs .Lt) (nY λi j=>.bl (decide (i<j))):=uF λ_ _ _ _ _ _ _ q=>lt_int q
theorem TV:fF X (Zs .LtE) (nY λi j=>.bl (decide (i<=j))):=uF λ_ _ _ _ _ _ _ q=>le_int q
theorem TX:fF X (Zs .Gt) (nY λi j=>.bl (decide (j<i))):=uF λ_ _ _ _ _ _ _ q=>gt_int q
theorem VD:fF X (Zs .GtE) (nY λi j=>.bl (decide (j<=i))):=uF λ_ _ _ _ _ _ _ q=>ge_int q
def fF.or{r':R2}(h:fF X f r)(h':fF X f r'):fF X f (λx y H Q=>r x y H Q\/r' x y H Q):=by
 intro d0 s σ H x y v u Q I rx ry q;rcases q with q|q
 .exact h d0 s σ H x y v u Q I rx ry q
 .exact h' d0 s σ H x y v u Q I rx ry q
def cy(b:oP)(h:gu (op≠.In) jK)(h2:gu (op≠.ZX) jK):Z3 op b=false:=by
 have e1:(op==ϧ.In)=false:=by grind
 have e2:(op==ϧ.ZX)=false:=by grind
 cases b<;>simp[Z3,e1,e2]
def z4a(ho:fF X (Zs op) r)(ha:PE X a ta)(hb:PE X b tb)(hm:Z3 op b=false):PE X (.Yw a [op] [b] ia) (CY r ta tb):=by
 intro d0 s σ H Q I h;exact wpAny_Compare1 (wN ha hb I h λv u s2 x y H2 I2 rx ry q=>ho d0 s2 σ H2 x y v u Q I2 rx ry q) hm
def C1(t:TE):TT:=λσ H Q=>t σ H λx H'=>∃k,x=.bl k/\Q k H'
def z4b(ho:fF X (Zs op) r)(ha:PE X a ta)(hb:PE X b tb)(hm:Z3 op b=false):PT X (.Yw a [op] [b] ia) (C1 (CY r ta tb)):=by
 intro d0 s σ H Q I h
 refine zen (bC (ha d0 s σ H _ I h) λv s1 ⟨x,H1,I1,r1,q1⟩=>bC (hb d0 s1 σ H1 _ I1 q1) λu s2 ⟨y,H2,I2,r2,q2⟩=>
  bC (ho d0 s2 σ H2 x y v u _ I2 r1 r2 q2) λc s3 ⟨z,H3,I3,r3,k,e,q3⟩=>?_) hm
 subst e;cases r3;exact _U ⟨H3,I3,q3⟩
def tV(K:Fg)(x:V)(H:Hp)(k:ie):Prop:=
 match x with
 |.aC=>k=false
 |.bl b=>k=b
 |.a6 i=>k=(i != 0)
 |.str y=>y.aO<=u0/\k=((y.aO:dr) != 0)
 |.vh y=>y.d3<=u0/\k=((y.d3:dr) != 0)
 |.dI p=>(∃xs,bI K H p xs/\k=!xs.Dl)\/(∃xs,cH K H p xs/\k=!xs.Dl)\/∃kvs,H p=ai (.dK kvs)/\k=!kvs.Dl
 |_=>uH
def y23{κ:Type}{kvs:aj (κ×V)}{vs:aj (κ×eT)}(r:KV kvs vs):(!vs.Dl)=!kvs.Dl:=by
 cases r<;>rfl
def O8{av:aj eT}(r:t9 xs av):(!av.lS.Dl)=!xs.Dl:=by
 cases r<;>simp
def fO:(u0:aT)<2^63:=by rw[FY];decide
def SS:Ar X (λx H Q=>∃k,tV X.K x H k/\Q k H):=by
 intro d0 s σ H x v Q I rx h;let⟨k,e,q⟩:=h;have hl:=fO;have hs:u0=16777216:=FY;cases x with
 |aC=>
  cases rx;have e':k=false:=e;subst e';exact truthy_none ⟨H,I,q⟩
 |bl b=>
  cases rx;have e':k=b:=e;subst e';exact _U ⟨H,I,q⟩
 |a6 i=>
  let⟨t,rfl⟩:=rx;have e':k=(i != 0):=e;subst e';exact lU.P.truthy_int ⟨H,I,q⟩
 |str y=>
  let⟨t,rfl⟩:=rx;obtain⟨hy,e'⟩:y.aO<=u0/\k=((y.aO:dr) != 0):=e;subst e';exact lU.P.truthy_str (by omega) ⟨H,I.Yg _,q⟩
 |vh y=>
  let⟨t,rfl⟩:=rx;obtain⟨hy,e'⟩:y.d3<=u0/\k=((y.d3:dr) != 0):=e;subst e';exact lU.W.truthy_bytes (by omega) ⟨H,I.Yg _,q⟩
 |dI p=>
  cases rx;have e':(∃xs,bI X.K H p xs/\k=!xs.Dl)\/(∃xs,cH X.K H p xs/\k=!xs.Dl)\/∃kvs,H p=ai (.dK kvs)/\k=!kvs.Dl:=e;rcases e' with⟨xs,hx,e'⟩|⟨xs,hx,e'⟩|⟨kvs,hx,e'⟩
  .subst e';let⟨av,r,pl,hz⟩:=I.xT hx;have wR:=r.aO;exact wpAny_truthy_list pl.zf (by simp only[w0e];omega) ⟨H,I.Yg _,by rw[O8 r];exact q⟩
  .subst e';let⟨av,r,pl,hz⟩:=I.Uo hx;have wR:=r.aO;exact truthy_tuple pl (by simp only[w0e];omega) ⟨H,I.Yg _,by rw[O8 r];exact q⟩
  .subst e';obtain⟨hz,hS,vs,r,m⟩:kvs.aO<=u0/\(p==_j)=false/\∃vs,KV kvs vs/\s.bj.ό (cZ X.jf X.w) p vs:=I.aJ p _ hx;have wR:kvs.aO=vs.aO:=Zj.aO r;exact wpAny_truthy_dict hS m (by omega) ⟨H,I.Yg _,by rw[y23 r];exact q⟩
 |_=>exact(show uH from e).nU
def y9f(ha:PE X a ta)(he:∀Κ,ϸ a X.dt Κ=(do let v <- Κ;í a.ia;_w [v] (ű v))):
  PT X a (λσ H Q=>ta σ H λx H'=>∃k,tV X.K x H' k/\Q k H'):=by
 intro d0 s σ H Q I h;exact isTrue_plain (bC (ha d0 s σ H _ I h) λv s1 ⟨x,H1,I1,r1,q1⟩=>SS d0 s1 σ H1 x v Q I1 r1 q1) (he _)
def zdb:fF X (Zr .Add) (λx y H Q=>∃i j,x=.str i/\y=.str j/\i.aO+j.aO<=u0/\Q (.str (i++j)) H):=by
 intro d0 s σ H x y v u Q I rx ry h;let⟨i,j,rfl,rfl,hz,q⟩:=h;let⟨t,rfl⟩:=rx;let⟨t',rfl⟩:=ry;exact add_str (λt' tk=>⟨.str (i++j),H,I.Yg _,⟨_,rfl⟩,q⟩) hz
def _k{x:V}(r:t9 [x] us):∃u,us=[u]/\uc x u:=by
 cases r with
 |p9 r1 r2=>cases r2;exact⟨_,rfl,r1⟩
def vals2{x y:V}(r:t9 [x,y] us):∃u w',us=[u,w']/\uc x u/\uc y w':=by
 cases r with
 |p9 r1 r2=>
  cases r2 with
  |p9 r3 r4=>cases r4;exact⟨_,_,rfl,r1,r3⟩
def y4z:c6 X (.je "int") (λxs H Q=>(∃i,xs=[.a6 i]/\Q (.a6 i) H)\/∃k,xs=[.bl k]/\Q (.a6 (if k then 1 else 0)) H):=by
 intro d0 s σ H xs us Q I r h;rcases h with⟨i,rfl,q⟩|⟨k,rfl,q⟩
 .let⟨u,rfl,t,rfl⟩:=_k r;exact call_int_int ⟨.a6 i,H,I,⟨_,rfl⟩,q⟩
 .let⟨u,rfl,r1⟩:=_k r;cases r1;exact call_int_bool ⟨.a6 (if k then 1 else 0),H,I.Yg _,⟨_,rfl⟩,q⟩
def Aj(K:Fg)(x:V)(H:Hp)(n:aT):Prop:=
 match x with
 |.str y=>y.aO<=u0/\n=y.aO
 |.vh y=>y.d3<=u0/\n=y.d3
 |.dI p=>(∃xs,bI K H p xs/\n=xs.aO)\/∃xs,cH K H p xs/\n=xs.aO
 |_=>uH
def QH:c6 X (.wO "len") (λxs H Q=>∃x n,xs=[x]/\Aj X.K x H n/\Q (.a6 n) H):=by
 intro d0 s σ H xs us Q I r h;let⟨x,n,rfl,e,q⟩:=h;let⟨u,rfl,rx⟩:=_k r;have hl:=fO;have hs:u0=16777216:=FY;cases x with
 |str y=>
  let⟨t,rfl⟩:=rx;obtain⟨hy,e'⟩:y.aO<=u0/\n=y.aO:=e;subst e';exact len_str (by omega) ⟨.a6 _,H,I.Yg _,⟨_,rfl⟩,q⟩
 |vh y=>
  let⟨t,rfl⟩:=rx;obtain⟨hy,e'⟩:y.d3<=u0/\n=y.d3:=e;subst e';exact lU.W.len_bytes (by omega) ⟨.a6 _,H,I.Yg _,⟨_,rfl⟩,q⟩
 |dI p=>
  cases rx;have e':(∃xs,bI X.K H p xs/\n=xs.aO)\/∃xs,cH X.K H p xs/\n=xs.aO:=e;rcases e' with⟨xs,hx,e'⟩|⟨xs,hx,e'⟩
  .subst e';let⟨av,r',pl,hz⟩:=I.xT hx;have wR:=r'.aO;exact YR.call_len_list pl.zf (by simp only[w0e];omega) ⟨.a6 xs.aO,H,I.Yg _,⟨_,by simp only[w0e];rw[wR]⟩,q⟩
  .subst e';let⟨av,r',pl,hz⟩:=I.Uo hx;have wR:=r'.aO;exact len_tuple pl (by simp only[w0e];omega) ⟨.a6 xs.aO,H,I.Yg _,⟨_,by simp only[w0e];rw[wR]⟩,q⟩
 |_=>exact(show uH from e).nU
end
structure zfk(h:g6)(x dx C:f')(mA:fv->fy eT):Prop where
 Up:h.iT x=ai (lU.W.instObj C dx)
 ns:h.Ns1 dx mA
 ne:dx≠x
def kl.Ũ{v:V}{o:fy eT}(r:kl (ai v) o):∃u,o=ai u/\uc v u:=by
 cases o with
 |none=>exact(show uH from r).nU
 |ai u=>exact⟨u,rfl,r⟩
structure Ug(K:Fg)(C:f'):Prop where
 zfC:lU.W.plainGet K C fv.empty=true
 hd:lU.W.hasDictIn K C=true
 po:lU.W.plainOver K C=true
 sa:_u K (.dI C) "__setattr__"=ai (ai (.wO "object.__setattr__"))
structure Con(K:Fg)(C:f')(f:fv)(v:V)(u:eT):Prop where
 at_:_u K (.dI C) f=ai (ai u)
 mT:uc v u
 A':Ğ K u "__get__"=ai none
 cp:lU.W.copiedNames._c f=false
structure Meth(K:Fg)(C:f')(m:fv)(f:f'):Prop where
 at_:_u K (.dI C) m=ai (ai (.dI f))
 fn:lU.W.isFn K (.dI f)=true
 kp:_x K (.dI f)=true
section
variable{Q:eT->oi->Prop}{c:eT}{b:ie}
inductive jw(K:Fg)(H:Hp):V->eT->Prop where
 |aC:jw K H .aC (.je "NoneType")
 |bl (x:ie):jw K H (.bl x) (.je "bool")
 |a6 (i:dr):jw K H (.a6 i) (.je "int")
 |str (x:fv):jw K H (.str x) (.je "str")
 |vp (x:UInt64):jw K H (.vp x) (.je "float")
 |dS {a:f'} {xs:aj V} (e:H a=ai (.dS xs)):jw K H (.dI a) (.je "list")
 |cB {a:f'} {o:qH} {xs:aj V} (e:H a=ai (.cB o (.dS xs))):jw K H (.dI a) (.je "list")
 |gw {a:f'} {xs:aj V} (e:H a=ai (.gw xs)):jw K H (.dI a) (.je "tuple")
 |dK {a:f'} {kvs:aj (Xx×V)} (e:H a=ai (.dK kvs)):jw K H (.dI a) (.je "dict")
 |dT {a:f'} {sh:Sh} {kvs:aj (Kx×V)} {bD:aj f'} (e:H a=ai (.dT sh kvs bD)):jw K H (.dI a) (.je "dict")
 |ins {a C dx:f'} {fs:aj (fv×V)} (e:H a=ai (.ins C dx fs)) (cl:Ug K C) (ha:_u K (.dI C) "__class__"=ai (ai (.wO "object.__class__")))
   (hn:Ğ K (.wO "object.__class__") "__get__"=ai (ai (.wO "getset_descriptor.__get__"))) (htk:Ů K (.wO "object.__class__")=ai true)
   (hm:lU.W.ϟ K C (.je "object")=ai true):jw K H (.dI a) (.dI C)
end
structure bA(k:aT)(A:FZ):Prop where
 hd:A.YV=none
 dp:A.w8+3*k+5<š
 un:A.yH+16*k+200<yN
 gd:A.guards=ai []
theorem bA.mV{j k:aT}(r:bA k A)(h:j<=k):bA j A:=⟨r.hd,by have:=r.dp;omega,by have:=r.un;omega,r.gd⟩
theorem bA.Zu{k:aT}(r:bA (k+1) A)(dt:MO):bA k (A.Zu dt):=
 ⟨r.hd,by have:=r.dp;show A.w8+1+3*k+5<_;omega,by have:=r.un;show A.yH+3+16*k+200<_;omega,r.gd⟩
theorem bA.Dh{k:aT}(r:bA (k+1) A):bA k A.Dh:=
 ⟨r.hd,by have:=r.dp;grind,by have:=r.un;grind,r.gd⟩
def bA.w8{k:aT}(r:bA k A):A.w8<š:=by have:=r.dp;omega
def CV:TA:=λ_ H Q=>Q [] H
def sE(ta:TE)(tr:TA):TA:=λσ H Q=>ta σ H λx H1=>tr σ H1 λxs H2=>Q (x::xs) H2
section
variable{t:TA}
theorem ye:PA X [] CV:=λ_ _ _ _ H Q I h=>YR.ì ⟨[],H,I,.ro,h⟩
def tH(ha:PE X e te)(hr:PA X es t)(hs:gu (oj (e::es) X.dt=(false,eval e X.dt)::oj es X.dt) jJ):PA X (e::es) (sE te t):=by
 intro ia d0 s σ H Q I h;rw[hs];show oh _ _ (Å ((false,eval e X.dt)::yC ia (oj es X.dt))) _ _ s;refine YR.ë (bC (ha d0 s σ H _ I h) λu s1 ⟨x,H1,I1,r1,q1⟩=>?_)
 exact bC (hr ia d0 s1 σ H1 _ I1 q1) λus s2 ⟨xs,H2,I2,r2,q2⟩=>⟨x::xs,H2,I2,.p9 r1 r2,q2⟩
def KG(t:TA):TE:=λσ H Q=>t σ H λxs H1=>xs.aO<=u0/\∀p,H1 p=none->Q (.dI p) (ny H1 p (.gw xs))
def Kz(t:TA):TE:=λσ H Q=>t σ H λxs H1=>xs.aO<=u0/\∀p,H1 p=none->Q (.dI p) (ny H1 p (.dS xs))
def SD{x1}(h:PA X es t):PE X (.Yi es x1 ia) (KG t):=by
 intro d0 s σ H Q I hq;refine wpAny_Tuple_spliced (bC (h ia d0 s σ H _ I hq) λus s1 ⟨xs,H1,I1,r,z,q⟩=>⟨by rw[<- r.aO];exact z,?_⟩)
 have hf:H1 s1.bj.g0.d3=none:=I1.aJ.yI (w0f _);refine⟨.dI s1.bj.g0.d3,ny H1 s1.bj.g0.d3 (.gw xs),I1.Mk (t':=s1.rJ) (λb u e=>g6.w6 _ e) (w0f _) ?_,rfl,q _ hf⟩
 exact⟨z,us,r,⟨_,g6.Bt _ rfl,rfl,_,rfl⟩,⟨_,g6.Bt _ rfl,rfl⟩⟩
def z9m(h:PA X es t):PE X (.aj es ia) (Kz t):=by
 intro d0 s σ H Q I hq;refine wpAny_List_spliced (bC (h ia d0 s σ H _ I hq) λus s1 ⟨xs,H1,I1,r,z,q⟩=>⟨by rw[<- r.aO];exact z,?_⟩)
 have hf:H1 s1.bj.g0.d3=none:=I1.aJ.yI (w0f _);refine⟨.dI s1.bj.g0.d3,ny H1 s1.bj.g0.d3 (.dS xs),I1.Mk (t':=s1.rJ) (λb u e=>g6.w6 _ e) (w0f _) ?_,rfl,q _ hf⟩
 exact⟨z,us,0,r,g6.Bt _ rfl⟩
end
abbrev Sp:=aj V->Hp->VK->XK->Prop
variable{sp:Sp}
abbrev m_:=aj MO->Hp->oi->XK->eT->oi->Prop
variable{CX:m_}
structure i3(P:wW)(w:uG)(K:Fg)(mg:fv->fy eT)(kT:g6)(A:FZ)(qp:aj MO)(s:oi)(H:Hp):Prop where
 Yc:A.Yc=ai qp
 WI:Τ K mg kT
 bs:∀b o,kT.iT b=ai o->s.bj.iT b=ai o/\H b=none
 m4:kT.g0.d3<=s.bj.g0.d3
 eX:s.bj.ύ kT qp
 oG:∀b∈fu qp,H b=none
 aJ:dg P w H s.bj
 M_:ZV s.YD
 ZA:gv K H
def CE(qp:aj MO)(P:wW)(w:uG)(H:Hp)(s:oi)(Q:VK)(u:eT)(s':oi):Prop:=
 ∃v H',s'.os=s.os/\ZV s'.YD/\Un (fu qp) [] H H' s.bj s'.bj/\dg P w H' s'.bj/\uc v u/\Q v H'
def CR(CX:m_)(qp:aj MO)(P:wW)(w:uG)(H:Hp)(s:oi)(Q:VK)(E:XK)(r:Result)(s':oi):Prop:=
 match r with
 |.ok (.zW u)=>CE qp P w H s Q u s'
 |.ok _=>uH
 |._t e=>CX qp H s E e s'
structure eN(P:wW)(w:uG)(K:Fg)(mg:fv->fy eT)(kT:g6)(CX:m_)(k:aT)(f:f')(fd:Zo)(ps:aj fv)(sp:Sp):Prop where
 uz:∀vs H Q E,sp vs H Q E->vs.aO=ps.aO
 ll:∀(A:FZ)(qp:aj MO)(s:oi)(H:Hp)(args:Args)(us:aj eT)(vs:aj V)(Q:VK)(E:XK),bA k A->i3 P w K mg kT A qp s H->_C s fd args (ps.wt us)->t9 vs us->sp vs H Q E ->
  Za (p5 P w) A (.yG (.dI f) args) (CR CX qp P w H s Q E) s
theorem eN.uX{P:wW}{k:aT}{f:f'}{ps:aj fv}{OJ:Sp}(F:eN P w K mg kT CX k f fd ps sp)
  (h:∀vs H Q E,OJ vs H Q E->sp vs H Q E):eN P w K mg kT CX k f fd ps OJ:=
 ⟨λvs H Q E q=>F.uz vs H Q E (h _ _ _ _ q),λA qp s H args us vs Q E hr he hb hv hs=>F.ll A qp s H args us vs Q E hr he hb hv (h _ _ _ _ hs)⟩
section
variable{s':oi}
theorem j3.qP(I:j3 X d0 σ H s):i3 X.jf X.w X.K X.mg X.kT X.A X.N3 s H:=
 ⟨I.ok.Yc,I.ok.WI,I.bs,w0q I.ok.m4 I.sz,I.N3,I.lR,I.aJ,I.M_,I.ok.ZA.un I.kT⟩
def j3.ϗ{Q:VK}(I:j3 X d0 σ H s)(h:CE X.N3 X.jf X.w H s Q u s'):EP X d0 σ Q u s':=by
 let⟨v,H',os,M_,un,aJ,r,q⟩:=h;let⟨hh,g,d,t,XI⟩:=s';obtain rfl:XI=s.os:=os;exact⟨v,H',I.yG (h':=hh) (g':=g) (d':=d) (t':=t) (ch:=[]) un aJ M_ (λb z=>uv z (by simp)),r,q⟩
end
def ZC(K:Fg)(fd:Zo)(ps:aj fv)(ds:aj eT):Prop:=
 ∀(s:oi)(us:aj eT),K.In s.bj->(us++ds).aO=ps.aO->_C s fd ⟨us,[]⟩ (ps.wt (us++ds))
theorem ZC.rM{ps:aj fv}(h:∀us:aj eT,us.aO=ps.aO->γ fd ⟨us,[]⟩=uV (ps.wt us)):ZC K fd ps []:=λs us _ hl=>by
 rw[w1q]at hl |-
 exact .Á (h us hl)
section
variable{k:aT}{f:f'}{ps:aj fv}{t7:aj V}{ds:aj eT}{E:XK}{m:fv}{Ym:vd}{o:oP}{t:TA}
structure ze_(K:Fg)(C f:f'):Prop where
 makes:lU.W.makesIn K C=true
 ZO:_u K (.dI C) "__init__"=ai (ai (.dI f))
 fn:lU.W.isFn K (.dI f)=true
 kp:_x K (.dI C)=true
end
section
variable{k:aT}{f:f'}{ps ks:aj fv}{E:XK}{m:fv}{Ym zfv:vd}{o:oP}{kws:aj Y5}{t tk:TA}{nm:fy fv}
structure ze4(K:Fg)(fd:Zo)(ps ks:aj fv)(g:aj eT->aj eT->aj eT)(gV:aj V->aj V->aj V):Prop where
 to:∀(s:oi)(us ws:aj eT),K.In s.bj->(g us ws).aO=ps.aO->_C s fd ⟨us,ks.wt ws⟩ (ps.wt (g us ws))
 mT:∀{vs:aj V}{us:aj eT}{zs:aj V}{ws:aj eT},t9 vs us->t9 zs ws->t9 (gV vs zs) (g us ws)
variable{g:aj eT->aj eT->aj eT}{gV:aj V->aj V->aj V}
end
structure fX(N P:aj fv)(sc:zb):Prop where
 yD:sc.yD=.Zw
 co:sc.Þ=false
 gen:sc.ß=false
 nd:N.yr
 pre:N.yE P.aO=P
 χ:∀x∈P,sc.p6.hW x=ai .local\/sc.p6.hW x=ai .ur
 lG:∀y∈sc.p6,y.2≠.rk
theorem Pz{yL:fv->fy Xn}:∀{ζ:aj (fv×eT)}{m:fv->fy eT},(∀v,(x,v)∉ζ)->ε yL ζ m x=m x
 |[],_,_=>rfl
 |(n,v)::r,m,h=>by
  unfold ε;rw[Pz λw hw=>h w (w0o _ hw)]
  split
  .have:x≠n:=by rintro rfl;exact h v w1e
   simp[this]
  .rfl
theorem PU{yL:fv->fy Xn}:∀{ζ:aj (fv×eT)}{m:fv->fy eT},(∀v,(x,v)∉ζ)->δ yL ζ m x=m x
 |[],_,_=>rfl
 |(n,v)::r,m,h=>by
  unfold δ;rw[PU λw hw=>h w (w0o _ hw)]
  split
  all_goals grind
theorem PV{yL:fv->fy Xn}{x:fv}{v:eT}:∀{P:aj fv}{vs:aj eT}{i:aT}{m:fv->fy eT},P.yr->P[i]?=ai x->vs[i]?=ai v->yL x=ai .local ->
  ε yL (P.wt vs) m x=ai v
 |[],_,_,_,_,h,_,_=>by simp at h
 |_::_,[],_,_,_,_,h,_=>by simp at h
 |p::P,w::vs,0,m,nd,h1,h2,hk=>by
  simp at h1 h2;subst h1;subst h2;show ε yL ((p,w)::P.wt vs) m p=_;unfold ε;rw[Pz λv hv=>(w1m.mp nd).1 (w3h hv).1,mS hk]
  simp
 |p::P,w::vs,i+1,m,nd,h1,h2,hk=>by
  show ε yL ((p,w)::P.wt vs) m x=_;unfold ε;exact PV (i:=i) (w1m.mp nd).2 (by simpa using h1) (by simpa using h2) hk
theorem PX{yL:fv->fy Xn}{x:fv}{v:eT}:∀{P:aj fv}{vs:aj eT}{i:aT}{m:fv->fy eT},P.yr->P[i]?=ai x->vs[i]?=ai v->yL x≠ai .local ->
  δ yL (P.wt vs) m x=ai v
 |[],_,_,_,_,h,_,_=>by simp at h
 |_::_,[],_,_,_,_,h,_=>by simp at h
 |p::P,w::vs,0,m,nd,h1,h2,hk=>by
  simp at h1 h2;subst h1;subst h2;show δ yL ((p,w)::P.wt vs) m p=_;unfold δ;rw[PU λv hv=>(w1m.mp nd).1 (w3h hv).1,sF hk]
  simp
 |p::P,w::vs,i+1,m,nd,h1,h2,hk=>by
  show δ yL ((p,w)::P.wt vs) m x=_;unfold δ;exact PX (i:=i) (w1m.mp nd).2 (by simpa using h1) (by simpa using h2) hk
def Z9(N:aj fv)(vs:aj V):St:=vs.a7 ai++aj.w4 (N.aO-vs.aO) none
def hV(CX:m_)(P:wW)(w:uG)(K:Fg)(mg:fv->fy eT)(kT:g6)(N:aj fv)(rN:fv)(gs:zb)(f:f')(cd:eT)(A:FZ)(qp:aj MO)(s:oi)(H:Hp)(E:XK):Cx where
 jf:=P
 w:=w
 K:=K
 mg:=mg
 kT:=kT
 A:=A.Zu (Ze rN gs s.bj.g0.d3 f cd)
 N:=N
 ax:=s
 aE:=H
 dt:=Ze rN gs s.bj.g0.d3 f cd
 qp:=qp
 N3:=Ze rN gs s.bj.g0.d3 f cd::qp
 ex:=[]
 NI:=true
 fn:=λ_=>true
 pn:=[]
 xe:=λe s'=>oh (p5 P w) (A.Zu (Ze rN gs s.bj.g0.d3 f cd)) (leaving (Ze rN gs s.bj.g0.d3 f cd) e) (λ_ iR=>CX qp H s E e iR) (λe' iR=>CX qp H s E e' iR) s'
def QI{sc:zb}{n:aT}(h:sc.p6.hW x=ai .ur):∃c,(Ô n sc.p6 []).hW x=ai c:=by
 have q:=lU.W.zcc sc.p6 n [] (.j9 h);exact w4p.mp q
def y41{P:wW}{ps:aj fv}{rN:fv}{gs:zb}{f:f'}{cd:eT}{qp:aj MO}{s1:oi}{E:XK}{vs:aj V}
  (S:fX N ps gs)(hd:A.YV=none)(e0:i3 P w K mg kT A qp s H)(hl:vs.aO=ps.aO)(r:t9 vs us)
  (x:InCallC s s.bj.g0.d3 (ε (Ze rN gs s.bj.g0.d3 f cd).yL (ps.wt us) λ_=>none) (Ô (s.bj.g0.d3+1) gs.p6 []) (δ (Ze rN gs s.bj.g0.d3 f cd).yL (ps.wt us) λ_=>none) s1):
  j3 (hV CX P w K mg kT N rN gs f cd A qp s H E) [] (Z9 N vs) H s1:=by
 have dz:ps.aO<=N.aO:=by have:=Zd aj.aO S.pre;rw[w2d]at this;omega
 let⟨h1,tk,rfl,hk⟩:=x.done;have uC:∀b:f',b∉(hV CX P w K mg kT N rN gs f cd A qp s H E).ex:=λb z=>uv (show b∈([]:aj f')from z) (by simp)
 refine⟨⟨e0.WI,S.yD,rfl,rfl,w0f _,λy z c h1 h2=>?_,λy hy=>?_,λy c _ h=>?_,λ_=>hd,FZ.zcy e0.Yc,.mW ⟨rfl,rfl⟩,λb z=>uv z (uC b),e0.bs,e0.m4,λb _ _=>uC b,λb z=>uv z (uC b),e0.eX,e0.oG,e0.ZA⟩,
  rfl,e0.M_,Un.XE hk,⟨_,x.toInCall.ns,λi y v h1 h2 h3=>?_⟩,λy c h=>⟨_,x.ur y c h⟩,e0.aJ.yI (w0f _),λy c h=>?_,λp hp=>uv (show p∈([]:aj (f'×qH))from hp) (by simp),e0.aJ.XE hk,?_⟩
 .exact name_of_addr x.apart (lU.ZQ h1) (lU.ZQ h2)
 .have hy:gs.p6.hW y=ai .ur\/gs.p6.hW y=ai .rk:=hy;rcases hy with hy|hy
  .exact QI hy
  .exact uv rfl (S.lG _ (lU.ZQ hy))
 .exact w3u (x.Z1 y c (lU.ZQ h))
 .have hi:i<vs.aO:=by
   unfold Z9 at h2
   by_cases hi:i<vs.aO
   .exact hi
   .rw[w1u (by simpa using hi)]at h2;rw[w3i]at h2;split at h2<;>cases h2
  have ha:vs[i]?=ai v:=by
   unfold Z9 at h2;rw[w2h (by simpa using hi),w0t]at h2;cases e:vs[i]? with
   |none=>rw[e]at h2;cases h2
   |ai a=>rw[e]at h2;cases (h2);rfl
  let⟨u,hu,rv⟩:=r.A' ha
  have hp:ps[i]?=ai y:=by
   rw[<- S.pre,aj.getElem?_take_of_lt (by omega)];exact h1
  have NK:ps.yr:=by rw[<- S.pre];exact S.nd.sublist (aj.take_sublist _ _)
  refine⟨u,rv,?_⟩;rcases S.χ y (w0y hp)with k|k
  .exact .j9 ⟨k,PV NK hp hu k⟩
  .let⟨c,e⟩:=QI (n:=s.bj.g0.d3+1) k;refine .mW ⟨.j9 k,c,e,?_⟩;have q:=x.ur y c e;rw[PX NK hp hu (by show gs.p6.hW y≠_;rw[k];decide)]at q;exact q
 .exact e0.aJ.yI (w3u (x.Z1 y c (lU.ZQ h)))
 .unfold Z9;show _=N.aO;rw[w1k,w0a,w2f];omega
def VE{P:wW}{k:aT}{f:f'}{name rN:fv}{ua:Z_}{t6:aj Dn}{gs:zb}{dV kV Yn pm eD ct oc:eT}{an od:fy f'}
  {vO:yw (fy eT)}{ps:aj fv}(lk:K.hW f=ai ⟨oc,od,.Zf (lU.W._M name rN ua t6 gs dV kV Yn pm an eD ct),vO⟩)(eK:lU.W._s K eD rN=true)(S:fX N ps gs)
  (uz:∀vs H Q E,sp vs H Q E->vs.aO=ps.aO)
  (AU:∀(A:FZ)(qp:aj MO)(s:oi)(H:Hp)(vs:aj V)(Q:VK)(E:XK),bA k (A.Zu (Ze rN gs s.bj.g0.d3 f eD))->sp vs H Q E ->
   ∃t,lX (hV CX P w K mg kT N rN gs f eD A qp s H E) t6 t/\t {nx:=λ_ H'=>Q .aC H',rt:=Q} (Z9 N vs) H):
  eN P w K mg kT CX (k+1) f (lU.W._M name rN ua t6 gs dV kV Yn pm an eD ct) ps sp:=by
 refine⟨uz,λA qp s H args us vs Q E hr e0 hb r tj=>?_⟩
 have hl:=uz _ _ _ _ tj;have KX:K.In s.bj:=e0.WI.vG.YE λb o e=>(e0.bs b o e).1
 have lim:s.bj.Ì:=e0.WI.á.YE λb o e=>(e0.bs b o e).1
 have A2:∀y∈ps.wt us,gs.p6.hW y.1=ai .local\/(gs.p6.hW y.1=ai .ur/\((Ô (s.bj.g0.d3+1) gs.p6 []).hW y.1).zi=true):=fun⟨n,v⟩ hy=>by
  rcases S.χ n (w3h hy).1 with q|q
  .exact .j9 q
  .exact .mW ⟨q,lU.W.zcc _ _ _ (.j9 q)⟩
 refine codeAny_call_function hr.w8 (KX _ _ lk) rfl S.co S.gen rfl (lU.W.codeRec_of KX eK) (hb _ _ _ _ ?_)
 refine wpAny_newFunctionEnv_cells S.yD A2 λdt he s1 x=>?_
 subst he;refine⟨lim.YE x.toInCall.xJ,codeAny_func ?_⟩
 let⟨t,ht,hq⟩:=AU A qp s H vs Q E (hr.Zu _) tj;have I:j3 (hV CX P w K mg kT N rN gs f eD A qp s H E) [] (Z9 N vs) H s1:=y41 S hr.hd e0 hl r x;refine YQ (ht [] s1 (Z9 N vs) H _ I hq) (λfl s' hs=>?_) λe s' hs=>hs
 have xg:∀{aM:St}{H':Hp}{v:V}{u:eT},j3 (hV CX P w K mg kT N rN gs f eD A qp s H E) [] aM H' s'->uc v u->Q v H'->CE qp P w H s Q u s':=
  λ{aM H' v u} J rv q=>⟨v,H',J.os,J.M_,J.kT,J.aJ,rv,q⟩
 cases fl with
 |zW u=>
  let⟨v,aM,H',J,rv,q⟩:=hs;exact xg J rv q
 |next=>
  let⟨aM,H',J,q⟩:=hs;exact xg (v:=V.aC) (u:=eT.none) J rfl q
 |ZL=>
  let⟨_,_,_,q⟩:=hs;exact uH.nU q
 |ZN=>
  let⟨_,_,_,q⟩:=hs;exact uH.nU q
section
variable{t:TA}{id T:Yk}{r:aj V->Hp->VK->Prop}
def Kw(r:aj V->Hp->VK->Prop)(t:TA):TE:=λσ H Q=>t σ H λvs H1=>r vs H1 Q
def KR(hc:c6 X (.wO id) r)(hg:Gl X x)(hm:X.mg x=none)(hv:_r x=ai (.wO id))(ha:PA X (e::es) t)(hn:gu (x≠"__name__") jK)(f_:gu ((x==("__debug__":fv))=false) jK)
  (he:gu (oj (e::es) X.dt=(false,eval e X.dt)::oj es X.dt) jJ)(dz:gu ((yC ia (oj es X.dt)).tZ (·.1)=false) jJ):PE X (.wu (.mU x p) (e::es) [] ia) (Kw r t):=by
 intro d0 s σ H Q I h;refine Λ (rY I hg hm hv ?_ hn f_);exact Ku.M4.callWith_builtin1 (bC (ha ia d0 s σ H _ I h) λus s1 ⟨vs,H1,I1,r1,q1⟩=>hc d0 s1 σ H1 vs us Q I1 r1 q1) he dz
def PY(hc:c6 X (.je T) r)(hg:Gl X x)(hm:X.mg x=none)(hv:_r x=ai (.je T))(ha:PA X (e::es) t)(hn:gu (x≠"__name__") jK)(f_:gu ((x==("__debug__":fv))=false) jK)
  (he:gu (oj (e::es) X.dt=(false,eval e X.dt)::oj es X.dt) jJ)(dz:gu ((yC ia (oj es X.dt)).tZ (·.1)=false) jJ):PE X (.wu (.mU x p) (e::es) [] ia) (Kw r t):=by
 intro d0 s σ H Q I h;refine Λ (rY I hg hm hv ?_ hn f_);exact Ku.M4.Ϛ (bC (ha ia d0 s σ H _ I h) λus s1 ⟨vs,H1,I1,r1,q1⟩=>hc d0 s1 σ H1 vs us Q I1 r1 q1) he dz
end
end L2
namespace HT
open PySem PyProof.Rows
section
variable{jf:wW}{w:uG}{A:FZ}{E:eT->oi->Prop}{s:oi}
def zdW{t b:f'}{vs ws:aj eT}{Q:eT->oi->Prop}(ht:ZW s.bj t vs.lS)(hb:ZW s.bj b ws.lS)(hv:vs≠[])
  (h1:ws=[]->Q (.dI t) s)(h2:ws≠[]->Q (.dI s.bj.g0.d3) {s with bj:=s.bj.tB {l_:=.je "tuple", n9:=.ot (vs++ws).lS}})
  (hsz:vs.aO+ws.aO<=u0):oh (p5 jf w) A (Zr .Add (.dI t) (.dI b)) Q E s:=by
 let⟨⟨l_,dd,n9,sl⟩,ho,hc,n,hd⟩:=id ht;let⟨⟨Az,vo,data2,zT⟩,tf,cQ,n2,YK⟩:=id hb;simp only at hc hd cQ YK;subst hc hd cQ YK;have e:vs.lS++ws.lS=(vs++ws).lS:=by simp
 by_cases hw:ws=[]
 .exact Ą ⟨_,ho,rfl⟩ ⟨_,tf,rfl⟩ ś ť lU.F.ŧ lU.F.ō (lU.F.ľ _ _)
   (tuple_addW1 t b vs.lS ws.lS n n2 dd vo sl zT (by simpa using hv) (by simp[hw])) ⟨ho,tf,h1 hw⟩
 .refine Ą ⟨_,ho,rfl⟩ ⟨_,tf,rfl⟩ ś ť lU.F.ŧ lU.F.ō (lU.F.ľ _ _)
   (tuple_addW2 t b vs.lS ws.lS n n2 dd vo sl zT (by simpa using hv) (by simpa using hw) (by rw[w0e,w0e];exact hsz)) ⟨ho,tf,?_⟩
  rw[e];exact h2 hw
def cC(n d:aT):fy dr->aT
 |none=>d
 |ai v=>if v<0 then(v+(n:dr)).sG else min v.sG n
theorem mM(n d:aT):cC n d none=d:=rfl
def jn(n d k:aT):cC n d (ai (k:dr))=min k n:=by
 show(if(k:dr)<0 then((k:dr)+(n:dr)).sG else min (k:dr).sG n)=min k n;rw[sF (by omega),w1v]
def z9n(n d:aT)(hd:d<=n)(o:fy dr):cC n d o<=n:=by
 cases o with
 |none=>exact hd
 |ai v=>
  show(if v<0 then(v+(n:dr)).sG else min v.sG n)<=n
  by_cases hv:v<0
  .rw[mS hv];omega
  .rw[sF hv];exact w4v _ _
def Rq(v:dr)(n d:aT):(if v<0 then max (v+(n:dr)) 0 else min v (n:dr))=((cC n d (ai v):aT):dr):=by
 show(if v<0 then max (v+(n:dr)) 0 else min v (n:dr))=(((if v<0 then(v+(n:dr)).sG else min v.sG n):aT):dr)
 grind
def y24(lo hi:fy dr)(n:aT):uu.ZK.Ŧ lo hi 1 (n:dr)=(((cC n 0 lo:aT):dr),((cC n n hi:aT):dr)):=by
 have h1:¬((1:dr)<0):=by omega
 unfold uu.ZK.Ŧ;simp only[h1,ĉ];refine Prod.ext ?_ ?_
 .cases lo with
  |none=>rfl
  |ai v=>exact Rq v n 0
 .cases hi with
  |none=>rfl
  |ai v=>exact Rq v n n
def y25(i j:aT):uu.ZK.Ę (i:dr) (j:dr) 1=j-i:=by
 unfold uu.ZK.Ę
 grind
def O9{v:eT}{o:fy dr}{Q:fy dr->oi->Prop}(p:Ρ v o)(h:Q o s):oh (p5 jf w) A (uu.ZK.slicePartIndex v) Q E s:=by
 cases p with
 |none=>exact zdG h
 |a6 i t=>exact slicePart_int h
def zaO{sl:f'}{vl vu:eT}{lo hi:fy dr}{n:aT}{Q:dr×dr×aT->oi->Prop}(hs:s.bj.ý sl vl vu .none)(pl:Ρ vl lo)(pu:Ρ vu hi)
  (h:Q (((cC n 0 lo:aT):dr),1,cC n n hi-cC n 0 lo) s):oh (p5 jf w) A (uu.ZK.zdF (.dI sl) (uV (n:dr))) Q E s:=by
 let⟨os,qg,sW,Dz⟩:=id hs;unfold uu.ZK.zdF uu.ZK.sliceFields;refine lT (lT (ZI qg Dz (x:=vl) rfl (lT (ZI qg Dz (x:=vu) rfl (lT (ZI qg Dz (x:=.none) rfl (t8 ?_)))))));refine lT (zdG ?_);show oh _ _ (if((1:dr)==0)=true then _ else _) _ _ s;rw[sF (by decide)];refine lT (O9 pl (lT (O9 pu (lT (t8 ?_)))));show oh _ _ (match uu.ZK.Ŧ lo hi 1 (n:dr)with|(lo,hi)=>uV (lo,(1:dr),uu.ZK.Ę lo hi 1)) _ _ s;rw[y24 lo hi n];show oh _ _ (uV (((cC n 0 lo:aT):dr),(1:dr),uu.ZK.Ę ((cC n 0 lo:aT):dr) ((cC n n hi:aT):dr) 1)) _ _ s;rw[y25];exact t8 h
def y9g(xs:yw eT)(i k:aT):((aj.u5 k).Ϝ fun(m:aT)=>xs[((i:dr)+(m:dr)*1).sG]?).lS=((xs.vr.zd i).yE k).lS:=by
 have e:(fun(m:aT)=>xs[((i:dr)+(m:dr)*1).sG]?)=λm=>xs[i+m]?:=by
  funext m
  have:((i:dr)+(m:dr)*1).sG=i+m:=by omega
  rw[this]
 rw[e];have:=pick_run xs i k;rw[aj.filterMap_map]at this;have e2:((λx=>xs[x]?) ∘ λx=>i+x)=λm=>xs[i+m]?:=rfl
 rw[e2]at this;rw[this]
def zcI{t sl:f'}{p7:yw eT}{vl vu:eT}{lo hi:fy dr}{Q:eT->oi->Prop}(ht:ZW s.bj t p7)(hs:s.bj.ý sl vl vu .none)(pl:Ρ vl lo)(pu:Ρ vu hi)
  (hw:¬(cC p7.d3 0 lo=0/\cC p7.d3 p7.d3 hi=p7.d3))
  (h:Q (.dI s.bj.g0.d3) {s with bj:=s.bj.tB {l_:=.je "tuple", n9:=.ot ((p7.vr.zd (cC p7.d3 0 lo)).yE (cC p7.d3 p7.d3 hi-cC p7.d3 0 lo)).lS}})
  (hsz:p7.d3<=u0):oh (p5 jf w) A (ρ (.dI t) (.dI sl)) Q E s:=by
 have oM:sizeOk (.ot ((p7.vr.zd (cC p7.d3 0 lo)).yE (cC p7.d3 p7.d3 hi-cC p7.d3 0 lo)).lS):=by
  show((p7.vr.zd (cC p7.d3 0 lo)).yE (cC p7.d3 p7.d3 hi-cC p7.d3 0 lo)).lS.d3<=u0;rw[w0e,w2d,w3c,w4c];exact w0q (w4v _ _) (w0q (aT.sub_le _ _) hsz)
 have hj:cC p7.d3 p7.d3 hi<=p7.d3:=z9n _ _ (w0f _) hi;let⟨os,qg,sW,Dz⟩:=id hs;have Wz:s._G (.dI sl) "slice":=⟨os,qg,sW⟩;unfold ρ;try with_reducible refine ZJ ?_
 first|refine lT (t8 ?_)|skip
 refine lT (wpAny_sequenceKey ht.Zh (by decide) ?_)
 refine lT (Ç (name:=fv.YG "__getitem__") ht.Zh Ku.M4.ě
  (ò Ku.M4.ě ht.Zh entry_tuple_getitem ?_ (args_tuple_getitem _ _)))
 show oh _ _ (uu.Yi.tupleItemsOf (.dI t) >>= _) _ _ s;refine lT (tupleItemsOf_ ht ?_);refine lT (Ÿ Wz ?_);rw[mS (by decide)];refine lT (zaO hs pl pu ?_)
 have W4:¬((((cC p7.d3 0 lo:aT):dr)==0&&(1:dr)==1&&(cC p7.d3 p7.d3 hi-cC p7.d3 0 lo)==p7.d3)=true):=by
  intro q;rw[w0l,w0l]at q;have q1:((cC p7.d3 0 lo:aT):dr)=0:=ą q.1.1;have q2:cC p7.d3 p7.d3 hi-cC p7.d3 0 lo=p7.d3:=ą q.2;exact hw ⟨by omega,by omega⟩
 show oh _ _ (if(((cC p7.d3 0 lo:aT):dr)==0&&(1:dr)==1&&(cC p7.d3 p7.d3 hi-cC p7.d3 0 lo)==p7.d3)=true then _ else _) _ _ s;rw[sF W4,y9g]
 first
  |exact lT (m:=uu.Yi.Æ _) (_T (t8 ⟨_,rfl,t8 h⟩) oM)
  |exact lT (m:=uu.Yi.Æ _) (_T (lT (t8 (t8 ⟨_,rfl,t8 h⟩))) oM)
  |exact lT (lT (m:=uu.Yi.Æ _) (_T (t8 (t8 ⟨_,rfl,t8 h⟩)) oM))
  |exact lT (lT (m:=uu.Yi.Æ _) (_T (t8 ⟨_,rfl,t8 h⟩) oM))
end
end HT
namespace L2
open PySem PySem.Spec PyProof.Rows
variable{A:FZ}{X:Cx}{H:Hp}{d0:aj (f'×qH)}{xs:aj V}{av us:aj eT}{n:aT}{s:oi}{σ:St}{α:Type}{x:V}{v:eT}
abbrev TO:=St->Hp->(fy dr->Hp->Prop)->Prop
def PO(X:Cx)(e:fy oP)(t:TO):Prop:=
 ∀(d0:aj (f'×qH))(s:oi)(σ:St)(H:Hp)(Q:fy dr->Hp->Prop),j3 X d0 σ H s->t σ H Q ->
  oh (p5 X.jf X.w) X.A (evalPart e X.dt) (λu s'=>∃o H',j3 X d0 σ H' s'/\Ρ u o/\Q o H') X.xe s
def zd4:TO:=λ_ H Q=>Q none H
def CZ(t:TE):TO:=λσ H Q=>t σ H λx H1=>∃i,x=.a6 i/\Q (ai i) H1
section
variable{e:oP}{te:TE}{lo hi:fy oP}{tl th:TO}{ia p2:vd}
def z4c:PO X none zd4:=by
 intro d0 s σ H Q I h;rw[zct];exact t8 ⟨none,H,I,.none,h⟩
def z4d(h:PE X e te):PO X (ai e) (CZ te):=by
 intro d0 s σ H Q I hw;rw[evalPart_some];refine bC (h d0 s σ H _ I hw) λu s1 ⟨x,H1,I1,r1,q1⟩=>?_
 let⟨i,rfl,q⟩:=q1;let⟨t,rfl⟩:=r1;exact⟨ai i,H1,I1,.a6 i t,q⟩
def vc(X:Cx)(r:V->fy dr->fy dr->Hp->VK->Prop):Prop:=
 ∀(d0:aj (f'×qH))(s:oi)(σ:St)(H:Hp)(x:V)(v vl vu:eT)(lo hi:fy dr)(sl:f')(Q:VK),j3 X d0 σ H s->uc x v->s.bj.ý sl vl vu .none->Ρ vl lo->Ρ vu hi->r x lo hi H Q ->
  ∃T id,Ĩ (.je T) "__getitem__"=uV (ai (.wO id))/\s._G v T/\oh (p5 X.jf X.w) X.A (ρ v (.dI sl)) (EP X d0 σ Q) X.xe s
def vc.or{r r':V->fy dr->fy dr->Hp->VK->Prop}(h:vc X r)(h':vc X r'):vc X (λx lo hi H Q=>r x lo hi H Q\/r' x lo hi H Q):=by
 intro d0 s σ H x v vl vu lo hi sl Q I rx hs pl pu q;rcases q with q|q
 .exact h d0 s σ H x v vl vu lo hi sl Q I rx hs pl pu q
 .exact h' d0 s σ H x v vl vu lo hi sl Q I rx hs pl pu q
def zaG(r:V->fy dr->fy dr->Hp->VK->Prop)(te:TE)(tl th:TO):TE:=λσ H Q=>te σ H λx H1=>tl σ H1 λl H2=>th σ H2 λu H3=>r x l u H3 Q
def y9h{r:V->fy dr->fy dr->Hp->VK->Prop}(hr:vc X r)(he:PE X e te)(hl:PO X lo tl)(hu:PO X hi th):PE X (.Yl e (.ZK lo hi none p2) ia) (zaG r te tl th):=by
 intro d0 s σ H Q I h;refine Ļ (bC (he d0 s σ H _ I h) λv s1 ⟨x,H1,I1,r1,q1⟩=>?_)
 refine wpAny_Slice (bC (hl d0 s1 σ H1 _ I1 q1) λvl s2 ⟨l,H2,I2,pl,q2⟩=>bC (hu d0 s2 σ H2 _ I2 q2) λvu s3 ⟨u,H3,I3,pu,q3⟩=>?_)
 rw[zct];refine t8 ?_;have I4:j3 X d0 σ H3 {s3 with bj:=s3.bj.tB {l_:=.je "slice", n9:=.NJ #[vl,vu,.none]}}:=I3.XE (t':=s3.rJ) λb ob q=>g6.w6 _ q
 let⟨T,id,hT,ht,hg⟩:=hr d0 {s3 with bj:=s3.bj.tB {l_:=.je "slice", n9:=.NJ #[vl,vu,.none]}} σ H3 x v vl vu l u s3.bj.g0.d3 Q I4 r1 (g6.ý.xM ..) pl pu q3;show oh (p5 X.jf X.w) X.A (ū e (.ZK lo hi none p2) v (.dI s3.bj.g0.d3)) (EP X d0 σ Q) X.xe {s3 with bj:=s3.bj.tB {l_:=.je "slice", n9:=.NJ #[vl,vu,.none]}};exact ŭ (ops:=[.dI s3.bj.g0.d3,v]) ht hT hg (by with_unfolding_all rfl)
def kn(xs:aj V)(lo hi:fy dr):aj V:=(xs.zd (HT.cC xs.aO 0 lo)).yE (HT.cC xs.aO xs.aO hi-HT.cC xs.aO 0 lo)
def OY(xs:aj V)(lo hi:fy dr):(kn xs lo hi).aO<=xs.aO:=by
 unfold kn;rw[w2d,w3c];exact w0q (w4v _ _) (aT.sub_le _ _)
def Kq(K:Fg):V->fy dr->fy dr->Hp->VK->Prop:=λx lo hi H Q=>∃a xs,x=.dI a/\cH K H a xs /\
 ¬(HT.cC xs.aO 0 lo=0/\HT.cC xs.aO xs.aO hi=xs.aO)/\∀p,H p=none->Q (.dI p) (ny H p (.gw (kn xs lo hi)))
def z9o:vc X (Kq X.K):=by
 intro d0 s σ H x v vl vu lo hi sl Q I rx hs pl pu h;let⟨a,xs,rfl,hx,hw,q⟩:=h;cases rx;let⟨av,r,ht,hz⟩:=I.Uo hx;have wR:av.lS.d3=xs.aO:=by rw[w0e];exact r.aO.symm
 refine⟨"tuple", _,Ku.M4.ě.hW,ht.Zh,?_⟩;refine HT.zcI ht hs pl pu (by rw[wR];exact hw) ?_ (by rw[wR];exact hz);rw[wR];refine⟨.dI s.bj.g0.d3,_,I.Mk (t':=s.rJ) (o:=.gw (kn xs lo hi)) (λb ob q=>g6.w6 _ q) (w0f _) ?_,rfl,q _ (I.aJ.yI (w0f _))⟩
 exact⟨w0q (OY xs lo hi) hz,_,(r.zd (HT.cC xs.aO 0 lo)).yE (HT.cC xs.aO xs.aO hi-HT.cC xs.aO 0 lo),ZW.xM _ _,_,g6.Bt _ rfl,rfl⟩
def si(K:Fg):R2:=λx y H Q=>∃a b xs ys,x=.dI a/\y=.dI b/\cH K H a xs/\cH K H b ys/\xs≠[]/\xs.aO+ys.aO<=u0 /\
 (ys=[]->Q (.dI a) H)/\(ys≠[]->∀p,H p=none->Q (.dI p) (ny H p (.gw (xs++ys))))
def t9.lF(r:t9 xs us):us=[]↔xs=[]:=by
 cases r with
 |ro=>simp
 |p9 _ _=>simp
def zd1:fF X (Zr .Add) (si X.K):=by
 intro d0 s σ H x y v u Q I rx ry h;let⟨a,b,xs,ys,rfl,rfl,ha,hb,hx,hz,q1,q2⟩:=h;cases rx;cases ry;let⟨av,r1,p1,_⟩:=I.Uo ha;let⟨fg,r2,p2,_⟩:=I.Uo hb;refine HT.zdW p1 p2 (λz=>hx (r1.lF.mp z)) (λz=>⟨.dI a,H,I,rfl,q1 (r2.lF.mp z)⟩) (λz=>?_) (by rw[<- r1.aO,<- r2.aO];exact hz)
 refine⟨.dI s.bj.g0.d3,_,I.Mk (t':=s.rJ) (o:=.gw (xs++ys)) (λb ob q=>g6.w6 _ q) (w0f _) ?_,rfl,q2 (λw=>z (r2.lF.uY w)) _ (I.aJ.yI (w0f _))⟩
 exact⟨by rw[w1k];exact hz,_,r1.Xy r2,ZW.xM _ _,_,g6.Bt _ rfl,rfl⟩
end
def oO(n:aT)(i:dr):fy aT:=if 0<=i then(if i<n then ai i.sG else none)else if -(n:dr)<=i then ai (i+n).sG else none
def d8(xs:aj α)(i:dr):fy α:=(oO xs.aO i).qK λj=>xs[j]?
def Rr{i:dr}{j:aT}(h:oO n i=ai j):seqIndex? i n=ai j/\j<n/\-(n:dr)<=i/\i<n:=by
 unfold oO at h
 by_cases h0:0<=i
 .rw[mS h0]at h
  by_cases h1:i<n
  .rw[mS h1]at h
   grind [Ť]
  grind
 .rw[sF h0]at h
  by_cases h1:-(n:dr)<=i
  .rw[mS h1]at h
   grind [ţ]
  grind
def Lx{xs:aj α}{i:dr}{v:α}(h:d8 xs i=ai v):∃j,seqIndex? i xs.aO=ai j/\xs[j]?=ai v/\j<xs.aO/\-(xs.aO:dr)<=i/\i<xs.aO:=by
 unfold d8 at h;cases e:oO xs.aO i with
 |none=>rw[e]at h;cases h
 |ai j=>
  rw[e]at h;let⟨h1,h2,h3,h4⟩:=Rr e;exact⟨j,h1,h,h2,h3,h4⟩
def oW{xs:aj α}{j:aT}{v:α}(h:xs[j]?=ai v):d8 xs (j:dr)=ai v:=by
 have hj:j<xs.aO:=(w0c.mp h).1
 simp_all [oO,d8]
def fY(b:oP):Prop:=∀o i,ģ b false o i=ş [o,i] (ρ o i)
def qy(X:Cx)(r:R2):Prop:=
 ∀(Zm ZT:oP)(d0:aj (f'×qH))(s:oi)(σ:St)(H:Hp)(x y:V)(v u:eT)(Q:VK),j3 X d0 σ H s->uc x v->uc y u->r x y H Q ->
  ģ ZT false v u=ş [v,u] (ρ v u)->oh (p5 X.jf X.w) X.A (ū Zm ZT v u) (EP X d0 σ Q) X.xe s
def wC(X:Cx)(id:Yk)(r:V->aj V->Hp->VK->Prop):Prop:=
 ∀(d0:aj (f'×qH))(s:oi)(σ:St)(H:Hp)(x:V)(xs:aj V)(v:eT)(us:aj eT)(Q:VK),j3 X d0 σ H s->uc x v->t9 xs us->r x xs H Q ->
  oh (p5 X.jf X.w) X.A (yG (.wO id) (v::us)) (EP X d0 σ Q) X.xe s
section
variable{a b:oP}{ta tb:TE}{ia:vd}
def qy.or{r r':R2}(h:qy X r)(h':qy X r'):qy X (λx y H Q=>r x y H Q\/r' x y H Q):=by
 intro Zm ZT d0 s σ H x y v u Q I rx ry q hs;rcases q with q|q
 .exact h Zm ZT d0 s σ H x y v u Q I rx ry q hs
 .exact h' Zm ZT d0 s σ H x y v u Q I rx ry q hs
def C7{r:R2}(hr:qy X r)(ha:PE X a ta)(hb:PE X b tb)(hs:fY b):PE X (.Yl a b ia) (CY r ta tb):=by
 intro d0 s σ H Q I h;exact Ļ (wN ha hb I h λv u s2 x y H2 I2 rx ry q=>hr a b d0 s2 σ H2 x y v u Q I2 rx ry q (hs _ _))
def Cu(K:Fg):R2:=λx y H Q=>∃p xs i v,x=.dI p/\y=.a6 i/\bI K H p xs/\d8 xs i=ai v/\Q v H
def Cw(K:Fg):R2:=λx y H Q=>∃p xs i v,x=.dI p/\y=.a6 i/\cH K H p xs/\d8 xs i=ai v/\Q v H
def Cv:R2:=λx y H Q=>∃z i c,x=.str z/\y=.a6 i/\z.aO<=u0/\d8 z.Yj.vr i=ai c/\Q (.str ⟨#[c]⟩) H
def oQ:qy X (Cu X.K):=by
 intro Zm ZT d0 s σ H x y v u Q I rx ry h hs;let⟨p,xs,i,z,rfl,rfl,hq,he,q⟩:=h;cases rx;let⟨t,rfl⟩:=ry;let⟨av,r,pl,hz⟩:=I.xT hq;let⟨j,h1,h2,h3,h4,h5⟩:=Lx he;let⟨w,ew,uT⟩:=r.A' h2;have hl:=r.aO;have hn:=fO;have xg:EP X d0 σ Q w s:=⟨z,H,I,uT,q⟩
 by_cases h0:0<=i
 .have hj:i.sG=j:=by
   rw[Ť h0 h5]at h1;exact fy.ai.yB h1
  exact item_listR pl.zf h0 (by omega) (by rw[hj];simpa using ew) xg hs
 .have hj:(i+(av.lS.d3:dr)).sG=j:=by
   rw[ţ (by omega) h4]at h1;rw[w0e,<- hl];exact fy.ai.yB h1
  exact zdO (x:=w) pl.zf.Zh zdM.hW
   (wpAny_getItem_list_neg (Q:=λr s'=>r=w/\EP X d0 σ Q r s') pl.zf (by omega) (by rw[w0e]<;>omega) (by omega) (by rw[hj];simpa using ew) ⟨rfl,xg⟩) hs
def rA:qy X (Cw X.K):=by
 intro Zm ZT d0 s σ H x y v u Q I rx ry h hs;let⟨p,xs,i,z,rfl,rfl,hq,he,q⟩:=h;cases rx;let⟨t,rfl⟩:=ry;let⟨av,r,pl,hz⟩:=I.Uo hq;let⟨j,h1,h2,h3,h4,h5⟩:=Lx he;let⟨w,ew,uT⟩:=r.A' h2;have hl:=r.aO;have hn:=fO;have xg:EP X d0 σ Q w s:=⟨z,H,I,uT,q⟩
 exact zdO (x:=w) pl.Zh ě.hW
  (getItem_tuple (j:=j) (Q:=λr s'=>r=w/\EP X d0 σ Q r s') pl (by omega) (by omega) (by rw[w0e,<- hl];exact h1) (by simpa using ew) ⟨rfl,xg⟩) hs
def z9p:qy X Cv:=by
 intro Zm ZT d0 s σ H x y v u Q I rx ry h hs;let⟨z,i,c,rfl,rfl,hz,he,q⟩:=h;let⟨t,rfl⟩:=rx;let⟨t',rfl⟩:=ry;let⟨j,h1,h2,h3,h4,h5⟩:=Lx he;have hl:z.Yj.vr.aO=z.aO:=by simp[fv.aO]
 rw[hl]at h1 h4 h5;have hn:=fO
 exact ŭ (typeIs_str s z t) slot_str_getitem.hW (getItem_str (c:=c) (by
  grind) (by rw[h1];simpa using h2) ⟨.str ⟨#[c]⟩,H,I.Yg _,⟨_,rfl⟩,q⟩) hs
def OG(K:Fg):R2:=λx y H Q=>Cu K x y H Q\/Cw K x y H Q\/Cv x y H Q
theorem SE:qy X (OG X.K):=oQ.or (rA.or z9p)
def y26(av:aj eT)(n j:aT)(u:eT):qH.Yp (·.zdE j u) {l_:=.je "list", n9:=.ot av.lS n}={l_:=.je "list", n9:=.ot (av.ri j u).lS n}:=by
 simp[qH.Yp]
def j3.dS{p:f'}(I:j3 X d0 σ H s)(h:H p=ai (.dS xs)):
  ∃(av:aj eT)(n:aT),t9 xs av/\s.bj.iT p=ai {l_:=.je "list", n9:=.ot av.lS n}/\xs.aO<=u0:=by
 let⟨z,av,n,r,e⟩:=I.aJ p _ h;exact⟨av,n,r,e,z⟩
def j3.zey{p:f'}{ys:aj V}{its':aj eT}{n':aT}{f:qH->qH}(I:j3 X d0 σ H s)(h:H p=ai (.dS xs))
  (ho:s.bj.iT p=ai {l_:=.je "list", n9:=.ot av.lS n})(hf:f {l_:=.je "list", n9:=.ot av.lS n}={l_:=.je "list", n9:=.ot its'.lS n'})(r:t9 ys its')(hz:ys.aO<=u0)(t:aT):
  j3 X d0 σ (ny H p (.dS ys)) {s with bj:=s.bj.Yh p f,rJ:=t}:=by
 have e:(s.bj.Yh p f).iT p=ai {l_:=.je "list", n9:=.ot its'.lS n'}:=by
  rw[g6.zcC f ho (by rw[hf]<;>rfl),hf]
 refine I.Zc (x:=p) (e:=p) (by rw[h];trivial) (.j9 rfl) (λb u hb q=>(g6._v _ _ (Ne.symm hb)).lb q) ⟨_,e⟩ ?_
 exact⟨hz,its',n',r,e⟩
def CC:V->V->V->Hp->(Hp->Prop)->Prop:=λo i v H Q=>∃p xs k j,o=.dI p/\i=.a6 k/\H p=ai (.dS xs)/\oO xs.aO k=ai j/\Q (ny H p (.dS (xs.ri j v)))
def y9i:Ap X CC:=by
 intro d0 s σ H o i v ov iv u Q I zdB zdz rv h;let⟨p,xs,k,j,rfl,rfl,hp,hj,q⟩:=h;cases zdB;let⟨t,rfl⟩:=zdz;let⟨av,n,r,ho,hz⟩:=I.dS hp;let⟨h1,h2,h3,h4⟩:=Rr hj;have hl:=r.aO;have hn:=fO
 have I':j3 X d0 σ (ny H p (.dS (xs.ri j v))) {s with bj:=s.bj.Yh p (qH.Yp (·.zdE j u))}:=
  I.zey hp ho (y26 av n j u) (r.ri rv j) (by rw[aj.length_set];exact hz) s.rJ
 by_cases h0:0<=k
 .have hk:k.sG=j:=by
   rw[Ť h0 h4]at h1;exact fy.ai.yB h1
  exact lU.W.ki_setAt ho h0 (by omega) (by rw[w0e,<- hl];exact h4) (by rw[hk];exact⟨_,I',q⟩)
 .have hk:(k+(av.lS.d3:dr)).sG=j:=by
   rw[ţ (by omega) h3]at h1;rw[w0e,<- hl];exact fy.ai.yB h1
  exact lU.W.ki_setBack ho (by omega) (by rw[w0e,<- hl];exact h3) (by omega) (by rw[hk];exact⟨_,I',q⟩)
def zbe(lo hi:fy dr)(n:aT):(Ϡ lo hi none n).1=((HT.cC n 0 lo:aT):dr)/\(Ϡ lo hi none n).2.1=((HT.cC n n hi:aT):dr)/\(Ϡ lo hi none n).2.2=1:=by
 refine⟨?_,?_,rfl⟩
 .cases lo with
  |none=>simp[Ϡ,HT.cC]
  |ai i=>
   simp only[Ϡ,HT.cC,fy.getD_none,show(1:dr)>0 by decide,_N]
   grind
 .cases hi with
  |none=>simp[Ϡ,HT.cC]
  |ai i=>
   simp only[Ϡ,HT.cC,fy.getD_none,show(1:dr)>0 by decide,_N]
   grind
def zbK(av:aj eT)(lo hi:fy dr):slicePick av.lS lo hi none=((av.zd (HT.cC av.aO 0 lo)).yE (HT.cC av.aO av.aO hi-HT.cC av.aO 0 lo)).lS:=by
 let⟨h1,h2,h3⟩:=zbe lo hi av.lS.d3;unfold slicePick;rw[h1,h2,h3];simp only[sliceRange_one,pick_run,w0e]<;>rfl
def Ko(K:Fg):V->fy dr->fy dr->Hp->VK->Prop:=λx lo hi H Q=>∃a xs,x=.dI a/\bI K H a xs/\∀p,H p=none->Q (.dI p) (ny H p (.dS (kn xs lo hi)))
def zd2:vc X (Ko X.K):=by
 intro d0 s σ H x v vl vu lo hi sl Q I rx hs pl pu h;let⟨a,xs,rfl,hx,q⟩:=h;cases rx;let⟨av,r,ht,hz⟩:=I.xT hx;have wR:=r.aO;refine⟨"list", _,zdM.hW,ht.zf.Zh,?_⟩;refine wpAny_getItem_list_slice ht.zf hs pl pu .none (by simp) ?_ (by grind);rw[zbK,<- wR];refine⟨.dI s.bj.g0.d3,_,I.Mk (t':=s.rJ) (o:=.dS (kn xs lo hi)) (λb ob q=>g6.w6 _ q) (w0f _) ?_,rfl,q _ (I.aJ.yI (w0f _))⟩
 exact⟨w0q (OY xs lo hi) hz,_,0,(r.zd (HT.cC xs.aO 0 lo)).yE (HT.cC xs.aO xs.aO hi-HT.cC xs.aO 0 lo),g6.Bt _ rfl⟩
def gE:V->ie
 |.aC=>true
 |.bl _=>true
 |.a6 _=>true
 |.str _=>true
 |_=>false
def sR:V->V->ie
 |.aC,.aC=>true
 |.bl a,.bl b=>a==b
 |.bl a,.a6 b=>(if a then 1 else 0)==b
 |.a6 a,.bl b=>a==(if b then 1 else 0)
 |.a6 a,.a6 b=>a==b
 |.str a,.str b=>a==b
 |_,_=>false
def z9q{y:V}{u:eT}(ry:uc y u)(rx:uc x v)(zcA:gE y=true)(fx:gE x=true):yy.WE A s u v (sR y x):=by
 cases y with
 |aC=>
  cases ry;cases x with
  |aC=>cases rx;exact yy.WE.same _
  |bl b=>cases rx;exact yy.WE.â b
  |a6 b=>let⟨t,rfl⟩:=rx;exact yy.WE.Ŝ b t
  |str b=>let⟨t,rfl⟩:=rx;exact yy.WE.ŝ b t
  |_=>exact uv (show false=true from fx) w1i
 |bl a=>
  cases ry;cases x with
  |aC=>cases rx;exact yy.WE.Ó a
  |bl b=>cases rx;exact yy.WE.ϫ a b
  |a6 b=>let⟨t,rfl⟩:=rx;exact yy.WE.ł a b t
  |str b=>let⟨t,rfl⟩:=rx;exact yy.WE.Ń a b t
  |_=>exact uv (show false=true from fx) w1i
 |a6 a=>
  let⟨t',rfl⟩:=ry;cases x with
  |aC=>cases rx;exact yy.WE.ŕ a t'
  |bl b=>cases rx;exact yy.WE.Ŕ a t' b
  |a6 b=>let⟨t,rfl⟩:=rx;exact yy.WE.Ý a t' b t
  |str b=>let⟨t,rfl⟩:=rx;exact yy.WE.Ċ a t' b t
  |_=>exact uv (show false=true from fx) w1i
 |str a=>
  let⟨t',rfl⟩:=ry;cases x with
  |aC=>cases rx;exact yy.WE.Ū a t'
  |bl b=>cases rx;exact yy.WE.ũ a t' b
  |a6 b=>let⟨t,rfl⟩:=rx;exact yy.WE.ġ a t' b t
  |str b=>let⟨t,rfl⟩:=rx;exact yy.WE.Ģ a t' b t
  |_=>exact uv (show false=true from fx) w1i
 |_=>exact uv (show false=true from zcA) w1i
def nC(x:V)(u:eT):ie:=match u with
 |.none=>sR .aC x
 |.xv b=>sR (.bl b) x
 |.a6 i _=>sR (.a6 i) x
 |.str z _=>sR (.str z) x
 |_=>false
def SF{y:V}{u:eT}(r:uc y u)(f:gE y=true):nC x u=sR y x:=by
 cases y with
 |aC=>cases r;rfl
 |bl b=>cases r;rfl
 |a6 i=>let⟨t,rfl⟩:=r;rfl
 |str z=>let⟨t,rfl⟩:=r;rfl
 |_=>exact uv (show false=true from f) w1i
theorem Ca:∀{xs:aj V}{us:aj eT},t9 xs us->xs.rM gE=true->us.tZ (nC x)=xs.tZ λy=>sR y x
 |_,_,.ro,_=>rfl
 |y::xs,u::us,.p9 r t,f=>by
  rw[w2v,w0l]at f;rw[w2w,w2w,SF r f.1,Ca t f.2]
theorem B3(rx:uc x v)(fx:gE x=true):∀{xs:aj V}{us:aj eT},t9 xs us->xs.rM gE=true->∀u∈us,yy.WE A s u v (nC x u)
 |_,_,.ro,_=>λu hu=>by cases hu
 |y::xs,u::us,.p9 r t,f=>λu' hu=>by
  rw[w2v,w0l]at f;rcases w0h.mp hu with rfl|hu
  .rw[SF r f.1];exact z9q r rx f.1 fx
  .exact B3 rx fx t f.2 u' hu
def DQ(x:V)(xs:aj V):ie:=xs.tZ λy=>sR y x
def E6(K:Fg)(neg:ie):R2:=λx y H Q=>∃p xs,y=.dI p/\(bI K H p xs\/cH K H p xs)/\gE x=true/\xs.rM gE=true/\Q (.bl (if neg then !DQ x xs else DQ x xs)) H
def y44:fF X (Zs .In) (E6 X.K false):=by
 intro d0 s σ H x y v u Q I rx ry h;let⟨p,xs,rfl,hq,fx,fs,q⟩:=h;cases ry;rcases hq with hq|hq
 .let⟨av,r,pl,hz⟩:=I.xT hq;refine yy.in_listAt (nC x) pl.zf (λw hw=>B3 rx fx r fs w (by simpa using hw)) ⟨.bl _,H,I,rfl,?_⟩
  rw[show av.lS.tZ (nC x)=av.tZ (nC x) by simp,Ca r fs];exact q
 .let⟨av,r,pl,hz⟩:=I.Uo hq;refine yy.in_tupleAt (nC x) pl (λw hw=>B3 rx fx r fs w (by simpa using hw)) ⟨.bl _,H,I,rfl,?_⟩
  rw[show av.lS.tZ (nC x)=av.tZ (nC x) by simp,Ca r fs];exact q
def zbf:fF X (Zs .ZX) (E6 X.K true):=by
 intro d0 s σ H x y v u Q I rx ry h;let⟨p,xs,rfl,hq,fx,fs,q⟩:=h;cases ry;rcases hq with hq|hq
 .let⟨av,r,pl,hz⟩:=I.xT hq;refine yy.notIn_listAt (nC x) pl.zf (λw hw=>B3 rx fx r fs w (by simpa using hw)) ⟨.bl _,H,I,rfl,?_⟩
  rw[show av.lS.tZ (nC x)=av.tZ (nC x) by simp,Ca r fs];exact q
 .let⟨av,r,pl,hz⟩:=I.Uo hq;refine yy.notIn_tupleAt (nC x) pl (λw hw=>B3 rx fx r fs w (by simpa using hw)) ⟨.bl _,H,I,rfl,?_⟩
  rw[show av.lS.tZ (nC x)=av.tZ (nC x) by simp,Ca r fs];exact q
def zbg:c6 X (.je "list") (λxs H Q=>∃p ys,xs=[.dI p]/\(bI X.K H p ys\/cH X.K H p ys)/\∀l,H l=none->Q (.dI l) (ny H l (.dS ys))):=by
 intro d0 s σ H xs us Q I r h;let⟨p,ys,rfl,hq,q⟩:=h;let⟨u,rfl,rx⟩:=_k r;cases rx
 have xg:∀(av:aj eT),t9 ys av->ys.aO<=u0->∀(h':g6)(c':aT),(∀b o',s.bj.iT b=ai o'->h'.iT b=ai o') ->
   h'.iT s.bj.g0.d3=ai {l_:=.je "list", x8:=none,n9:=.ot av.lS c',Yb:=#[]}->EP X d0 σ Q (.dI s.bj.g0.d3) {s with bj:=h'}:=λav r' hz h' c' kp e=>
  ⟨.dI s.bj.g0.d3,_,I.Mk (t':=s.rJ) kp (w0f _) (show aS X.jf X.w _ h' _ (.dS ys)from⟨hz,av,c',r',e⟩),rfl,q _ (I.aJ.yI (w0f _))⟩
 rcases hq with hq|hq
 .let⟨av,r',pl,hz⟩:=I.xT hq;have wR:=r'.aO;let⟨o,ho,hc,n,hd⟩:=pl.zf;exact zcb p (.j9 rfl) ho hc hd (λh' c' kp e=>xg av r' hz h' c' kp e) (by simp only[w0e]<;>omega)
 .let⟨av,r',pl,hz⟩:=I.Uo hq;have wR:=r'.aO;let⟨o,ho,hc,n,hd⟩:=pl;exact zcb p (.mW rfl) ho hc hd (λh' c' kp e=>xg av r' hz h' c' kp e) (by simp only[w0e]<;>omega)
def zbL:c6 X (.je "tuple") (λxs H Q=>∃p ys,xs=[.dI p]/\((bI X.K H p ys/\∀l,H l=none->Q (.dI l) (ny H l (.gw ys)))\/(cH X.K H p ys/\Q (.dI p) H))):=by
 intro d0 s σ H xs us Q I r h;let⟨p,ys,rfl,h⟩:=h;let⟨u,rfl,rx⟩:=_k r;cases rx;rcases h with⟨hq,q⟩|⟨hq,q⟩
 .let⟨av,r',pl,hz⟩:=I.xT hq;have wR:=r'.aO;refine call_tuple_list pl.zf (λh' kp=>?_) (by grind)
  have I1:j3 X d0 σ H {s with bj:=h'}:=I.XE (t':=s.rJ) kp
  have I2:j3 X d0 σ (ny H h'.g0.d3 (.gw ys)) {s with bj:=h'.tB {l_:=.je "tuple", n9:=.ot av.lS}}:=
   I1.Mk (t':=s.rJ) (λb o e=>g6.w6 _ e) (w0f _) (show aS X.jf X.w _ _ _ (.gw ys)from⟨hz,av,r',ZW.xM _ _,_,g6.Bt _ rfl,rfl⟩)
  exact⟨.dI h'.g0.d3,_,I2,rfl,q _ (I1.aJ.yI (w0f _))⟩
 .let⟨av,r',pl,hz⟩:=I.Uo hq;exact call_tuple_same pl ⟨.dI p,H,I,rfl,q⟩
def OQ(K:Fg)(T:Yk)(x:V)(H:Hp):Prop:=match x with
 |.str _=>T="str"
 |.a6 _=>T="int"
 |.dI p=>(T="list" /\ ∃xs,bI K H p xs)\/(T="tuple" /\ ∃o,K.hW p=ai o/\o.l_=.je "tuple" /\ o.x8=none) \/
   (T="dict" /\ ((∃kvs,H p=ai (.dK kvs))\/∃sh kvs bD,H p=ai (.dT sh kvs bD)))\/(T="set" /\ ∃S n,H p=ai (.ri S n))
 |_=>uH
def z9r{T:Yk}(I:j3 X d0 σ H s)(r:uc x v)(ty:OQ X.K T x H):
  s._G v T/\∀a,v=.dI a->∃ob,s.bj.iT a=ai ob/\ob.x8=none:=by
 cases x with
 |str z=>
  let⟨t,rfl⟩:=r;cases(show T="str" from ty);exact⟨typeIs_str s z t,λ_ e=>nomatch e⟩
 |a6 i=>
  let⟨t,rfl⟩:=r;cases(show T="int" from ty);exact⟨î s i t,λ_ e=>nomatch e⟩
 |dI p=>
  cases r;rcases ty with⟨rfl,xs,hq⟩|⟨rfl,o,hk,hc,hd⟩|⟨rfl,hk⟩|⟨rfl,S,n,hk⟩
  .let⟨av,_,pl,_⟩:=I.xT hq;refine⟨pl.zf.Zh,λa e=>?_⟩
   cases e;let⟨o,n,e,c,hd,_⟩:=pl;exact⟨o,e,hd⟩
  .refine⟨⟨o,I.kJ p o hk,hc⟩,λa e=>?_⟩
   cases e;exact⟨o,I.kJ _ o hk,hd⟩
  .have z:∃o,s.bj.iT p=ai o/\o.Ż:=by
    rcases hk with⟨kvs,hk⟩|⟨sh,kvs,bD,hk⟩
    .let⟨_,_,_,_,o,_,_,e,ex,_⟩:=I.aJ p _ hk;exact⟨o,e,ex⟩
    .let⟨_,_,_,_,_,o,_,_,e,ex,_⟩:=I.aJ p _ hk;exact⟨o,e,ex⟩
   let⟨o,e,ex⟩:=z;refine⟨⟨o,e,ex.1⟩,λa e2=>?_⟩
   cases e2;exact⟨o,e,ex.2.1⟩
  .let⟨o,_,_,_,e,ex,_⟩:=I.aJ p _ hk;refine⟨⟨o,e,ex.1⟩,λa e2=>?_⟩
   cases e2;exact⟨o,e,ex.2.1⟩
 |_=>exact uH.nU ty
def OM(K:Fg)(T:Yk)(r:V->aj V->Hp->VK->Prop)(to:TE)(t:TA):TE:=λσ H Q=>to σ H λx H1=>OQ K T x H1/\t σ H1 λxs H2=>r x xs H2 Q
variable{o e:oP}{es:aj oP}{to:TE}{t:TA}{name:fv}{Ym aX:vd}{T id:Yk}{r:V->aj V->Hp->VK->Prop}
def Md(pa:ſ T)(xP:Slot T name id)(Hn:Ī (.wO id)=uV (.je "method_descriptor"))(hm:wC X id r)(ho:PE X o to)(ha:PA X (e::es) t)
  (c_:gu (Α o name X.dt (eval o X.dt)=eval o X.dt) jJ)
  (cx:gu (((yC aX (oj (e::es) X.dt)).rM (λx=>!x.1)&&(Β aX (Ζ [] X.dt)).rM (λx=>x.1.zi)
   && decide ((e::es).aO+([]:aj Y5).aO+(if([]:aj Y5).Dl then 0 else 1)<30))=true) jJ)
  (de:gu ((Ym.Δ==aX.X9)=true) jJ)(hs:gu (oj (e::es) X.dt=(false,eval e X.dt)::oj es X.dt) jJ)(bY:gu ((yC aX (oj es X.dt)).tZ (·.1)=false) jJ):
  PE X (.wu (._a o name Ym) (e::es) [] aX) (OM X.K T r to t):=by
 intro d0 s σ H Q I h;refine wpAny_Call_method_late c_ cx de rfl (bC (ho d0 s σ H _ I h) λv s1 ⟨x,H1,I1,r1,ty,q1⟩=>?_)
 let⟨h1,h2⟩:=z9r I1 r1 ty;refine⟨T,id,pa,xP,Hn,h1,h2,?_⟩;have hA:=ha aX d0 s1 σ H1 _ I1 q1;rw[hs]at hA |-
 refine YR.callWith_builtin (by show(false||(yC aX (oj es X.dt)).tZ (·.1))=false;rw[bY]<;>rfl) (YR.zcs ?_);exact bC hA λus s2 ⟨vs,H2,I2,r2,q2⟩=>hm d0 s2 σ H2 x vs v us Q I2 r1 r2 q2
/- xs.Xy(e),xT.index on a zeZ Uo .. are wC facts of 06m -/
end
def F3(X:Cx)(id:Yk)(r:V->aj V->Hp->VK->Prop):Prop:=
 ∀(d0:aj (f'×qH))(s:oi)(σ:St)(H:Hp)(x:V)(xs:aj V)(v:eT)(us:aj eT)(Q:VK),j3 X d0 σ H s->uc x v->t9 xs us->r x xs H Q ->
  oh (p5 X.jf X.w) X.A (yG (.wO id) (v::us)) (EP X d0 σ Q) X.xe s
theorem t9.YH(h:t9 [x] us):∃u,us=[u]/\uc x u:=_k h
def t9.V3(h:t9 xs us):t9 xs.V3 us.V3:=by
 induction h with
 |ro=>exact .ro
 |p9 r t ih=>rw[w2x,w2x];exact t9.Xy ih (.p9 r .ro)
theorem t9.yM(h:t9 xs us):∀k:aT,t9 (aj.w4 k xs).Yo (aj.w4 k us).Yo
 |0=>.ro
 |k+1=>by
  rw[w2m,w2m,w3p,w3p];exact t9.Xy h (t9.yM h k)
theorem JR(av:aj eT):∀(k:aT)(tW:aj eT),
  aj.yW (λx1 x2=>x1++x2) tW.lS (aj.w4 k av.lS)=(tW++(aj.w4 k av).Yo).lS
 |0,tW=>by simp
 |k+1,tW=>by
  have e:tW.lS++av.lS=(tW++av).lS:=by simp
  have e2:(tW++av)++(aj.w4 k av).Yo=tW++(aj.w4 (k+1) av).Yo:=by
   grind
  rw[<- e2,<- JR av k (tW++av),<- e,w2m,w1x]
section
variable{l b:f'}{ys zs:aj V}
def j3.Bo{its':aj eT}{f:yw eT->yw eT}{t':aT}(I:j3 X d0 σ H s)(hH:H l=ai (.dS xs))
  (e:s.bj.iT l=ai {l_:=.je "list", n9:=.ot av.lS n})(hf:f av.lS=its'.lS)(hv:t9 ys its')(hz:ys.aO<=u0):
  j3 X d0 σ (ny H l (.dS ys)) {s with bj:=s.bj.Yh l (qH.Yp f),rJ:=t'}:=by
 have q:=lU.IsL.Yh e f;rw[hf]at q;refine I.Zc (x:=l) (e:=l) (by rw[hH];exact trivial) (.j9 rfl) (λb' u hb hu=>(g6._v s.bj (qH.Yp f) (Ne.symm hb)).lb hu) ⟨_,q⟩ ?_
 exact⟨hz,its',_,hv,q⟩
theorem j3.Bn{t':aT}(I:j3 X d0 σ H s)(hv:t9 ys av)(hz:ys.aO<=u0):
  j3 X d0 σ (ny H s.bj.g0.d3 (.dS ys)) {s with bj:=s.bj.tB {l_:=.je "list", n9:=.ot av.lS},rJ:=t'}:=
 I.Mk (λ_ _ q=>g6.w6 _ q) (w0f _) ⟨hz,av,0,hv,g6.Bt _ rfl⟩
theorem j3.yI(I:j3 X d0 σ H s):H s.bj.g0.d3=none:=I.aJ.yI (w0f _)
def j3.Bp(I:j3 X d0 σ H s)(hH:H l=ai (.dS xs)):xs.aO<=u0/\∃(av:aj eT)(n:aT),t9 xs av/\xs.aO=av.aO/\s.bj.iT l=ai {l_:=.je "list", n9:=.ot av.lS n}:=by
 let⟨z,av,n,r,e⟩:=I.aJ l _ hH;exact⟨z,av,n,r,r.aO,e⟩
def mH(h:n<=u0):uu.aj.Ϻ n=false:=by
 grind [uu.aj.Ϻ]
end
def oZ:V->aj V->Hp->VK->Prop:=λx vs H Q=>∃l xs y,x=.dI l/\vs=[y]/\H l=ai (.dS xs)/\xs.aO<u0/\Q .aC (ny H l (.dS (xs++[y])))
def JS:F3 X "list.append" oZ:=by
 intro d0 s σ H x vs v us Q I rx rv h;let⟨l,xs,y,rfl,rfl,hH,hz,q⟩:=h;cases rx;let⟨u,rfl,ru⟩:=rv.YH;let⟨z,av,n,r,hl,e⟩:=I.Bp hH;refine _L F.zdK ⟨_,e,rfl⟩ F.entry_list_append (F.args_list_append_2 _ _) (lU.list_append l av.lS n u (by grind)) ⟨e,?_⟩;refine⟨.aC,_,I.Bo (its':=av++[u]) hH e (by simp) (r.Xy (.p9 ru .ro)) ?_,rfl,q⟩
 grind
def Ly(xs:aj α)(k:aT):(aj.w4 k xs).Yo.aO=k*xs.aO:=by
 simp_all
end L2
namespace zZ
open PySem PySem.W PySem.Calls PyProof.Rows
def zao{P:Í}{h:g6}:∀(ns:aj dr)(vs:aj eT),WellAll P h vs (ns.a7 YB.a6)->ώ vs ns:=by
 intro ns
 induction ns with
 |ro=>
  intro vs w;rw[w2l]at w;cases w;exact .ro
 |p9 n ns ih=>
  intro vs w;rw[w0n]at w;cases w with
  |p9 a b=>
   cases a;exact .p9 _ _ (ih _ b)
def PZ{l:_Y}{n:aT}(hn:l.À=ai n){P:Í}{h:g6}{args:aj YB}{ï:aj eT}
  (pH:l.oL.ψ.claim.pre args=true)(tq:WellAll P h ï args):
  ∃a vs ns,ï=[eT.dI a]/\args=[YB.xT (ns.a7 YB.a6)]/\h.iT a=ai {l_:=.je "list", n9:=.ot vs.lS}/\ώ vs ns/\ns.aO<=n:=by
 have W_:Ï.hasAll [] args [.xT .a6]=true:=(pre_splitW pH).1;have hc:l.pre.Uj [] {args:=args}=true:=(pre_splitW pH).2;let⟨d,r,rfl,h1,h2⟩:=hasAllW_cons W_;obtain rfl:=hasAllW_nil h2;let⟨xs,rfl,h3⟩:=hasW_list h1;let⟨ns,rfl⟩:=items_int h3
 have wR:ns.aO<=n:=by
  unfold _Y.pre at hc
  have h4:(WTm.not (.lt (.lit (.a6 (n:dr))) (.uz (.arg 0)))).Uj [] {args:=[.xT (ns.a7 .a6)]}=true:=by
   have h4:=(holds_andW hc).1;rw[hn]at h4;exact h4
  have h5:=condW_of h4 (w_not (w_lt w_lit (w_len_list (w_arg rfl))));rw[w0a]at h5;refine w4w λq=>?_
  have q':(n:dr)<((ns.aO:aT):dr):=by omega
  first
   |(rw[Z4 q']at h5;exact uv h5 (by decide))
   |(simp at h5;omega)
 cases tq with
 |p9 w1 w2=>
  cases w2;cases w1 with
  |xT ho qT=>exact⟨_,_,ns,rfl,rfl,ho,zao ns _ qT,wR⟩
theorem P0(l:_Y)(args:aj YB):l.oL.ψ.claim.post args (.xv true) args=true:=
 postW_of (r:=l.oL.ψ) (X:=(true==true))
  (show Ï.YO [] (.xv true) .xv=true by first|rfl|decide|simp[Ï.YO,Ï.arms,Ï.armsAll])
  (show(WTm.eq .res (.lit (.xv true))).Zm [] {args:=args,res:=ai (.xv true),ϗ:=args}=ai (.xv (true==true))from w_eq_bool (w_res rfl) w_lit) rfl
def zcY{l:_Y}{n:aT}{q:wW}{_O:aj fv}{XP:(fv->fy eT)->g6->Prop}{YP:uG->g6->Prop}{d:ĵ}
  (hn:l.À=ai n)(ue:d.ua.ϰ=[])
  (yG:∀(w:uG)(ax aH:oi)(mg mb:fv->fy eT)(fa:f')(o:qH)(pm cd Yn:eT)(a:f')(vs:aj eT)(ns:aj dr),
   Ground q _O [] XP w ax mg mb aH.bj->YP w aH.bj ->
   aH.bj.iT fa=ai o->o.n9=.Zf (docDef d.name d.ua d.t6 d.gs pm cd Yn)->aH.bj.Ĵ cd d.name->mg d.name=ai (.dI fa) ->
   aH.bj.iT a=ai {l_:=.je "list", n9:=.ot vs.lS}->ώ vs ns->ns.aO<=n->aH.YD=#[] ->
   Za (p5 l.jf w) ZM (.yG (.dI fa) ⟨[.dI a],[]⟩) (λr s'=>r=.ok (.zW (.xv true))/\ϑ aH.bj s'.bj/\s'.os=aH.os/\ZV s'.YD) aH):
  Ð q _O XP YP l.oL.ψ d [] (λf vs=>lU.yG f vs):=by
 intro w ax aH mg mb G Y fa o pm cd Yn dV kV ho hd eK hD hmg hg args ï as pH A5 W8 tq WX;obtain rfl:dV=.none:=ú.none hD ue;obtain rfl:kV=.none:=ú.noKw hD;let⟨a,vs,ns,rfl,rfl,nN,ς,wR⟩:=PZ hn pH tq;refine enter_call (Γ (yG w ax aH mg mb fa o pm cd Yn a vs ns G Y ho (fd_plain hd) eK hmg nN ς wR hg) λr s' hq=>?_)
 let⟨rfl,h2,h3,h4⟩:=hq;exact⟨.j9 ⟨.xv true,.xv true,[],rfl,λ_=>rfl,.xv true,P0 l _,λ_=>⟨aj.Y7.ro,λ_ hm=>(nomatch hm)⟩⟩,h2,h3,h4⟩
section
variable{jf:wW}{w:uG}{A:FZ}{E:eT->oi->Prop}{s:oi}{K:Frag}
def ledger(h:g6)(L d:f'):aj (f'×qH):=(aj.u5 h.g0.d3).Ϝ λa=>if a=L\/a=d then none else(h.iT a).a7 λo=>(a,o)
end
end zZ
namespace L2
open PySem PySem.Spec PyProof.Rows
theorem JT:∀{vs:aj eT}{ns:aj dr},ώ vs ns->t9 (ns.a7 V.a6) vs
 |_,_,.ro=>.ro
 |_,_,.p9 n t h=>.p9 ⟨t,rfl⟩ (JT h)
def wD(H:Hp):Prop:=∀b,H b=none\/∃o xs,H b=ai (.cB o (.dS xs))
def y9j{P:wW}{w:uG}{K:Fg}{mg mb:fv->fy eT}{CX:m_}{k:aT}{fa a:f'}{fd:Zo}{x:fv}{sp:Sp}{aH:oi}{vs:aj eT}{ns:aj dr}
  (KX:K.In aH.bj)(m8:aH.bj.Ns Yd mg)(hb:aH.bj.Ns ϭ mb)(yY:∀x:fv,x≠"__name__"->mb x=_r x)(xt:aH.bj.Ì)(hg:aH.YD=#[])
  (ha:aH.bj.iT a=ai {l_:=.je "list", n9:=.ot vs.lS})(hi:ώ vs ns)(hl:ns.aO<=u0)(hr:bA k ZM)
  (F:∀kT:g6,K.In kT->kT.Ns Yd mg->eN P w K mg kT CX k fa fd [x] sp)(mn:∀(s:oi)(u:eT),_C s fd ⟨[u],[]⟩ [(x,u)])
  (tj:∀H:Hp,wD H->bI K H a (ns.a7 V.a6)->sp [.dI a] H (λv _=>v=.bl true) λ_ _ _=>uH)
  (xl:∀H e s',CX [] H aH (λ_ _ _=>uH) e s'->uH)(AN:gX K=true):
  Za (p5 P w) ZM (.yG (.dI fa) ⟨[.dI a],[]⟩) (λr s'=>r=.ok (.zW (.xv true))/\ϑ aH.bj s'.bj/\s'.os=aH.os/\ZV s'.YD) aH:=by
 have rv:=JT hi;have Bk:=hi.aO
 have ϯ:∀H:Hp,wD H->bI K H a (ns.a7 V.a6)->dg P w H aH.bj->(∀b,H b≠none->b=a)->(H a≠none->K.hW a=none) ->
   Za (p5 P w) ZM (.yG (.dI fa) ⟨[.dI a],[]⟩) (λr s'=>r=.ok (.zW (.xv true))/\ϑ aH.bj s'.bj/\s'.os=aH.os/\ZV s'.YD) aH:=by
  intro H hO hS aJ hA hK;have fZ:∀{b:f'}{o:qH},aH.bj.iT b=ai o->H b=none->(gT aH.bj H).iT b=ai o:=λe n=>QE e n
  have uC:∀{b:f'}{o:qH}{es:yw DictEntry}{ep:aT},aH.bj.iT b=ai o->o.n9=.x8 es ep->H b=none:=λ{b o es ep} e d=>by
   grind
  have uD:∀{b:f'}{m:fv->fy eT},aH.bj.Ns b m->(gT aH.bj H).Ns b m:=λ{b m} ⟨o,es,ep,e,d,r⟩=>⟨o,es,ep,fZ e (uC e d),d,r⟩
  have AM:K.In (gT aH.bj H):=λb o e=>fZ (KX b o e) (by
   grind)
  have hM:Τ K mg (gT aH.bj H):=⟨AM,uD m8,⟨mb,uD hb,yY⟩,let ⟨mc,h1,h2⟩:=xt;⟨mc,uD h1,h2⟩⟩;have e0:i3 P w K mg (gT aH.bj H) ZM [] aH H:=⟨rfl,hM,λb o e=>Rn e,aT.le_of_eq (Py _ _),trivial,λb hb=>uv (show b∈([]:aj f')from hb) (by simp),aJ,.Á hg,.zaL AN⟩
  refine Γ ((F _ AM (uD m8)).ll ZM [] aH H ⟨[.dI a],[]⟩ [.dI a] [.dI a] _ _ hr e0 (mn aH (.dI a)) (.p9 rfl .ro) (tj H hO hS)) λr s' h=>?_
  cases r with
  |_t e=>exact(xl H e s' h).nU
  |ok fl=>
   cases fl with
   |next=>exact uH.nU h
   |ZL=>exact uH.nU h
   |ZN=>exact uH.nU h
   |zW u=>
    let⟨v,H',os,M_,un,uk,r',q⟩:=h;have q':v=.bl true:=q;subst q';obtain rfl:u=eT.xv true:=r';refine⟨rfl,ϑ.of_keep λb o e=>?_,os,M_⟩
    cases q:H b with
    |none=>exact un.xJ b o e q (by intro z;exact uv (show b∈([]:aj f')from z) (by simp)) (by simp)
    |ai u=>
     rcases hO b with z|⟨ob,xs,z⟩
     .rw[q]at z;cases z
     .have z2:=un.aY b ob _ z;let⟨e1,_⟩:=aJ b _ z;let⟨e2,_⟩:=uk b _ z2
      grind
 cases hk:K.hW a with
 |ai o=>
  have e:=KX a o hk;rw[ha]at e;cases e;refine ϯ (λ_=>none) (λ_=>.j9 rfl) (.mW ⟨_,vs.lS,_,hk,rfl,rfl,rfl,by grind,by simpa using rv⟩) (λb u z=>by grind) (λb z=>uv rfl z) λz=>uv rfl z
 |none=>
  refine ϯ (λb=>if b=a then ai (.cB {l_:=.je "list", n9:=.ot vs.lS} (.dS (ns.a7 V.a6)))else none) (λb=>?_) (.j9 (.mW ⟨{l_:=.je "list", n9:=.ot vs.lS},mS rfl⟩)) (λb u z=>?_) (λb z=>?_) λ_=>hk
  .grind
  .by_cases hb:b=a
   .have z':=(mS hb).symm.lb z;cases z';subst hb;exact⟨ha,by grind,vs,_,rv,ha⟩
   grind
  grind
abbrev Mq{K:Fg}{h:g6}(_:K.In h):Fg:=K
def z4e{l:lU.W._Y}{n k:aT}{q:wW}{_O:aj fv}{XP:(fv->fy eT)->g6->Prop}{YP:uG->g6->Prop}{d:ĵ}{K:Í->Fg}{CX:uG->m_}{sp:uG->Sp}{x:fv}
  (hn:l.À=ai n)(s_:n<=u0)(ue:d.ua.ϰ=[])(hr:bA k ZM)
  (hY:∀(w:uG)(h:g6),YP w h->(K w.ua).In h)
  (F:∀(w:uG)(mg:fv->fy eT)(fa:f')(h:g6),(K w.ua).In h->h.Ns Yd mg->mg d.name=ai (.dI fa) ->
   ∃fd:Zo,(∀(s:oi)(u:eT),_C s fd ⟨[u],[]⟩ [(x,u)]) /\
    ∀kT:g6,(K w.ua).In kT->kT.Ns Yd mg->eN l.jf w (K w.ua) mg kT (CX w) k fa fd [x] (sp w))
  (tj:∀(w:uG)(H:Hp)(a:f')(ns:aj dr),ns.aO<=n->wD H->bI (K w.ua) H a (ns.a7 V.a6)->sp w [.dI a] H (λv _=>v=.bl true) λ_ _ _=>uH)
  (xl:∀(w:uG)(H:Hp)(s:oi)(e:eT)(s':oi),CX w [] H s (λ_ _ _=>uH) e s'->uH)(AN:∀w:uG,gX (K w.ua)=true):
  lU.W.Ð q _O XP YP l.oL.ψ d [] (λf vs=>lU.yG f vs):=by
 refine zZ.zcY hn ue λw ax aH mg mb fa o pm cd Yn a vs ns G Y ho hd eK hmg nN ς wR hg=>?_
 have KX:=hY w _ Y;let⟨fd,hb,hF⟩:=F w mg fa _ KX G.T.g hmg;exact y9j KX G.T.g G.T.b G.T.Ϭ G.T.á hg nN ς (w0q wR s_) hr hF hb (λH hO hS=>tj w H a ns wR hO hS) (λH e s'=>xl w H aH e s') (AN w)
end L2
/- THE zfj ze3 (shape; LID, My.* are zff):
   My.aI: a structure of C3 addresses zfy zfR zfc p6 (classes, zfQ); My.ZZ K t: a structure (Prop) of C3 equations over K;
   My.zeK : {K} {implicit addresses ..} (e1 : _y K Yd "law" = ai (ai (.dI f))) (e2 : K.hW f = ai ⟨oc, od, .Zf (_M "law" "law" ua t6 gs dV kV Yn pm an eD ct), sl⟩) (e3 : _s K eD "law" = true) .. : ∃ t, My.ZZ K t
set_option maxRecDepth 100000 in
set_option maxHeartbeats 0 in
def lU.ù.zfF : lU.ù.zeP.Holds := by
 w_on; o_law; k_head; (case hw => w_witness2)
 k_fill
 refine L2.z4e (l := lU.ù.zeP) (n := 63) (k := 40) (x := "script") (CX := λw => ..) (sp := λ_ => My.ze6) rfl (by decide) rfl ⟨rfl, by decide, by decide⟩ (λw h Y => lU.W.kIn_of Y) ?F ?S ?C
 case F =>
  intro w mg fa h KX G hmg
  have T : ∃ t, My.ZZ (L2.Mq KX) t := by
   dsimp only [L2.Mq]                          -- K zfr zfe as «<heap const> w.params» for k_is;refine' My.zeK ?e1 ?e2 ?e3 ..
   (case e1 => lU.W.k_is)                    -- in C3 order: a name -> av address -> av object -> av parts
   (case e2 => lU.W.k_is)
   ..
  let⟨t, T⟩:= T;have e0 := hmg.symm.lb (lU.W.mg_of KX G T.law);cases e0                                       -- fa is C3 zfb ke address;exact ⟨_, λs u => .Á rfl, λkT kb nb => My.zex T kb nb⟩     -- if «.of_eq rfl» comes too early: refine' ⟨_, ?b, λkT kb nb => My.zex T kb nb⟩; exact λs u => .Á rfl
 case S => exact λw H a ns hl hO hS => ..
 case C => exact ..
(C3 tactic k_is YO no namespace: Zc k_is) -/
namespace L2
open PySem PySem.Spec PyProof.Rows
variable{f:f'}{A:FZ}{X:Cx}{e yO:oP}{fd:Zo}{B h h1:g6}{H H':Hp}{EE:L2.St->XK}{es yK:aj oP}{js:aj aT}{p ia:vd}{K:Fg}{s:oi}{σ:St}{rN x:fv}{te:TE}{wi:TI}{tc:TT}{a0 l_:eT}{w:uG}
def er(s:Dn):Z_:=match s with
 |.û _ a _ _ _ _ _ _ _ _=>a
 |_=>{posonlyargs:=[],args:=[],vararg:=none,kwonlyargs:=[],kw_defaults:=[],kwarg:=none,ϰ:=[]}
def cK(s:Dn):aj Dn:=match s with
 |.û _ _ b _ _ _ _ _ _ _=>b
 |_=>[]
def ba(s:Dn):zb:=match s with
 |.û _ _ _ _ _ _ sc _ _ _=>sc
 |_=>{yD:=.Zw,p6:=[],ß:=false,Þ:=false}
abbrev Ud:m_:=λ_ _ _ _ _ _=>uH
abbrev E0:XK:=λ_ _ _=>uH
structure Ag(K:Fg)(x rN:fv)(st:Dn)(f:f')(fd:Zo):Prop where
 ex:∃(oc:eT)(od:fy f')(kV Yn pm:eT)(an:fy f')(eD ct:eT)(vO:yw (fy eT)),
  fd=lU.W._M x rN (er st) (cK st) (ba st) .none kV Yn pm an eD ct/\K.hW f=ai ⟨oc,od,.Zf fd,vO⟩/\lU.W._s K eD rN=true
 kp:_x K (.dI f)=true
section
variable{P:wW}{mg:fv->fy eT}{kT:g6}
def Ag.ζ{st:Dn}{ps:aj fv}(F:Ag K x rN st f fd)
  (h:∀(kV Yn pm:eT)(an:fy f')(eD ct:eT)(us:aj eT),us.aO=ps.aO->γ (lU.W._M x rN (er st) (cK st) (ba st) .none kV Yn pm an eD ct) ⟨us,[]⟩=uV (ps.wt us)):ZC K fd ps []:=by
 let⟨oc,od,kV,Yn,pm,an,eD,ct,vO,rfl,lk,eK⟩:=F.ex;exact .rM (h kV Yn pm an eD ct)
theorem SG{st:Dn}{oc:eT}{od an:fy f'}{vO:yw (fy eT)}{kV Yn pm eD ct:eT}(l:K.hW f=ai ⟨oc,od,.Zf (lU.W._M x rN (er st) (cK st) (ba st) .none kV Yn pm an eD ct),vO⟩)
  (c:lU.W._s K eD rN=true)(k:_x K (.dI f)=true):Ag K x rN st f (lU.W._M x rN (er st) (cK st) (ba st) .none kV Yn pm an eD ct):=⟨⟨oc,od,kV,Yn,pm,an,eD,ct,vO,rfl,l,c⟩,k⟩
end
theorem pv(i:aT)(hN:gu (X.N[i]?=ai x) jJ)(hv:gu (kg X.dt.gs x) jN)(hd:gu ((x==("__debug__":fv))=false) jK)
  (eK:gu ((x==("__classdict__":fv))=false) jK):PE X (.mU x ia) (sH i):=z86 hN hv hd eK
def ar(H H':Hp):Prop:=∀b o,H b=ai o->H' b=ai o
theorem ar.tT(H:Hp):ar H H:=λ_ _ h=>h
theorem ar.lb{H1 H2:Hp}(a:ar H H1)(b:ar H1 H2):ar H H2:=λc o h=>b c o (a c o h)
def ar.rk(e:ar H H'){l:f'}(h:H' l=fy.none):H l=fy.none:=by
 cases q:H l with
 |none=>rfl
 |ai o=>
  rw[e l o q]at h;cases h
def ar.ot{a:f'}{xs:aj V}(e:ar H H')(h:bI K H a xs):bI K H' a xs:=by
 rcases h with(h|⟨o,h⟩)|h
 .exact .j9 (.j9 (e _ _ h))
 .exact .j9 (.mW ⟨o,e _ _ h⟩)
 .exact .mW h
set_option maxHeartbeats 4000000
structure u_(qp:aj MO)(H H':Hp)(h h':g6)(e:f')(l_:eT)(B:g6):Prop where
 fl:∃a0,g6.Ο B qp e l_ a0 h'
 yF:∀b o,h.iT b=ai o->H b=none->b∉fu qp->B.iT b=ai o
 oo:∀b u o,H' b=ai u->h'.iT b=ai o->B.iT b=ai o
 rM:∀b o,h.iT b=ai o->b∈fu qp\/∃o',B.iT b=ai o'
 xM:h.iT e=none
def ee(P:wW)(w:uG):m_:=λqp H s E ev s'=>∃(e:f')(l_:eT)(H':Hp)(B:g6),
 ev=.dI e/\s'.os=s.os/\ZV s'.YD/\Un (fu qp) [] H H' s.bj s'.bj/\dg P w H' s'.bj/\u_ qp H H' s.bj s'.bj e l_ B/\E l_ none H'
def dP(CX:m_)(X:Cx)(EE:L2.St->XK):Prop:=∀(d0:aj (f'×qH))(σ:St)(H:Hp)(s:oi)(e:eT)(s':oi),j3 X d0 σ H s->CX X.N3 H s (EE σ) e s'->X.xe e s'
def qC(X:Cx)(EE:L2.St->XK):Prop:=∀(d0:aj (f'×qH))(σ:St)(H:Hp)(s:oi)(e:f')(l_:eT)(vs:aj eT)(h':g6),j3 X d0 σ H s->g6.MadeExcOf s.bj h' e l_ vs->EE σ l_ none H->X.xe (.dI e) {s with bj:=h'}
def Rt{d0:aj (f'×qH)}{s':oi}{e:f'}{p_:g6}
  (I:j3 (hV CX P w K mg kT N rN gs f cd A qp ax aE E) d0 σ H s)(J:j3 (hV CX P w K mg kT N rN gs f cd A qp ax aE E) d0 σ H' s')
  (yF:∀b o,s.bj.iT b=ai o->H b=none->b∉fu (Ze rN gs ax.bj.g0.d3 f cd::qp)->B.iT b=ai o)
  (oo:∀b u o,H' b=ai u->s'.bj.iT b=ai o->B.iT b=ai o)
  (rM:∀b o,s.bj.iT b=ai o->b∈fu (Ze rN gs ax.bj.g0.d3 f cd::qp)\/∃o',B.iT b=ai o')
  (xM:s.bj.iT e=none)
  (fl:g6.Ο B qp e l_ a0 p_)(up:s'.bj.Î p_)(hE:E l_ none H'):
  ee P w qp aE ax E (.dI e) {s' with bj:=p_}:=by
 have xQ:∀b o,ax.bj.iT b=ai o->b∉fu qp->b∉fu (Ze rN gs ax.bj.g0.d3 f cd::qp):=λb o q nb hb=>by
  rcases w0h.mp (show b∈ax.bj.g0.d3::fu qp from hb)with z|z
  .exact uv (g6.yu q) (by rw[z];exact w1z _)
  .exact nb z
 have wZ:∀b:f',b∉([]:aj f'):=λb z=>nomatch z
 have xP:∀b o,ax.bj.iT b=ai o->b∈fu qp->∃sl,p_.iT b=ai {o with Yb:=sl}:=λb o q hb=>by
  let⟨sl,e1⟩:=J.kT.xP b o q (J.ok.oG b hb) hb (wZ b);let⟨_,o2,e2,nd⟩:=J.eX.Xt hb
  rw[e1]at e2;cases e2;let⟨tL,e3⟩:=up b _ e1 nd;exact⟨tL,e3⟩
 refine⟨e,l_,H',B,rfl,J.os,J.M_,⟨λb o q n hb hx=>?_,λb o q n hb hx=>xP b o q hb,λb o q n hx=>J.kT.rk b o q n hx,λb o q hx=>?_,J.kT.gq,J.kT.aY,J.kT.fj⟩,λa o q=>?_,⟨⟨a0,fl⟩,λb o q n hb=>?_,λb u o q z=>?_,λb o q=>?_,?_⟩,hE⟩
 .exact fl.1 b o (yF b o (I.kT.xJ b o q n hb hx) (I.kT.rk b o q n hx) (xQ b o q hb))
 .by_cases hb:b∈fu qp
  .let⟨sl,z⟩:=xP b o q hb;exact⟨_,z⟩
  .let⟨o1,e1⟩:=I.kT.YZ b o q hx;rcases rM b o1 e1 with z|⟨o',z⟩
   .exact uv z (xQ b o q hb)
   .exact⟨o',fl.1 b o' z⟩
 .refine(J.aJ a o q).fi (λb u hb z=>?_) (λ_ z=>z) λ_ _ _ z=>z
  rcases hb with rfl|hb
  .exact fl.1 _ _ (oo b o u q z)
  .exact fl.1 _ _ (oo b _ u hb z)
 .exact yF b o (I.kT.xJ b o q n hb (wZ b)) (I.kT.rk b o q n (wZ b)) (xQ b o q hb)
 .let⟨o1,e1⟩:=(J.aJ b u q).A';have e2:=oo b u o1 q e1;have e3:=fl.1 b o1 e2;rw[e3]at z;cases z;exact e2
 .let⟨o1,e1⟩:=I.kT.YZ b o q (wZ b);rcases rM b o1 e1 with z|z
  .by_cases hb:b∈fu qp
   .exact .j9 hb
   .exact uv z (xQ b o q hb)
  .exact .mW z
 .cases q:ax.bj.iT e with
  |none=>rfl
  |ai o=>
   let⟨o1,e1⟩:=I.kT.YZ e o q (wZ e);rw[xM]at e1;cases e1
def BE:dP (ee P w) (hV (ee P w) P w K mg kT N rN gs f cd A qp ax aE E) (λ_=>E):=by
 intro d0 σ H s ev s' I hx;let⟨e,l_,H',B,rfl,qg,hg,un,aJ,gF,hE⟩:=hx;have J:=I.oA (ch:=[]) qg un aJ hg (λb hb=>nomatch hb)
 let⟨a0,fl⟩:=gF.fl;refine wpAny_leaves_onW (kT:=B) I.ok.Yc rfl fl λp_ Wj up=>?_
 exact Rt I J gF.yF gF.oo gF.rM gF.xM Wj up hE
def OH:qC (hV (ee P w) P w K mg kT N rN gs f cd A qp ax aE E) (λ_=>E):=by
 intro d0 σ H s e l_ vs h' I hx hE;have J:j3 (hV (ee P w) P w K mg kT N rN gs f cd A qp ax aE E) d0 σ H {s with bj:=h'}:=I.XE (t':=s.rJ) hx.YE;have kF:∀dt∈(Ze rN gs ax.bj.g0.d3 f cd::qp),∀b,dt.π=ai b->b∈fu (Ze rN gs ax.bj.g0.d3 f cd::qp):=λdt he b hb=>w2r.uY ⟨dt,he,hb⟩
 refine wpAny_leaves_madeW (kT:=lU.W.hideAll s.bj (fu (Ze rN gs ax.bj.g0.d3 f cd::qp))) (h:=s.bj) I.ok.Yc rfl (λb o q=>lU.W.of_hideAll _ q) (lU.W.funFrames_hide I.N3 kF) hx λp_ t fl _ _ up=>?_
 refine Rt I J (λb o q _ nb=>Ĉ _ q nb) (λb u o q z=>?_) (λb o q=>?_) hx.xM fl up hE
 .let⟨o1,e1⟩:=(I.aJ b u q).A';have e2:=hx.YE b o1 e1;have z':h'.iT b=ai o:=z;rw[e2]at z';cases z';refine Ĉ _ e1 λhb=>?_
  rw[I.lR b hb]at q;cases q
 .by_cases hb:b∈fu (Ze rN gs ax.bj.g0.d3 f cd::qp)
  .exact .j9 hb
  .exact .mW ⟨o,Ĉ _ q hb⟩
theorem BF:dP (ee P w) X (λ_=>E0):=λ_ _ _ _ _ _ _ h=>by
 let⟨_,_,_,_,_,_,_,_,_,_,z⟩:=h;exact uH.nU z
def sD(sp:Sp)(t7:aj V)(EE:L2.St->XK)(t:TA):TE:=λσ H Q=>t σ H λvs H1=>sp (vs++t7) H1 Q (EE σ)
section
variable{CX:m_}{k:aT}{C:f'}{ps:aj fv}{sp:Sp}{t7:aj V}{ds:aj eT}{m:fv}{o:oP}{ta:TE}{t:TA}
def z4f(F:eN X.jf X.w X.K X.mg X.kT CX k f fd ps sp)(hr:bA k X.A)(hb:ZC X.K fd ps ds)(hd:t9 t7 ds)(hx:dP CX X EE)
  (I:j3 X d0 σ H s)(r:t9 vs us)(h:sp (vs++t7) H Q (EE σ)):oh (p5 X.jf X.w) X.A (yG (.dI f) us) (EP X d0 σ Q) X.xe s:=by
 have r2:t9 (vs++t7) (us++ds):=r.Xy hd;have hl:(us++ds).aO=ps.aO:=by rw[<- r2.aO];exact F.uz _ _ _ _ h
 refine Ϣ (Γ (F.ll X.A X.N3 s H ⟨us,[]⟩ (us++ds) (vs++t7) Q (EE σ) hr I.qP (hb s us I.kJ hl) r2 h) λr s' hq=>?_)
 cases r with
 |_t e=>exact hx d0 σ H s e s' I hq
 |ok fl=>
  cases fl with
  |zW u=>exact I.ϗ hq
  |next=>exact uH.nU hq
  |ZL=>exact uH.nU hq
  |ZN=>exact uH.nU hq
def y9k(F:eN X.jf X.w X.K X.mg X.kT CX k f fd ps sp)(hr:bA k X.A)(hg:Gl X x)(hm:X.mg x=ai (.dI f))(hk:_x X.K (.dI f)=true)(hb:ZC X.K fd ps ds)(hd:t9 t7 ds)(hx:dP CX X EE)
  (ha:PA X (e::es) t)(f_:gu ((x==("__debug__":fv))=false) jK)(he:gu (oj (e::es) X.dt=(false,eval e X.dt)::oj es X.dt) jJ)(dz:gu ((yC ia (oj es X.dt)).tZ (·.1)=false) jJ):
  PE X (.wu (.mU x p) (e::es) [] ia) (sD sp t7 EE t):=by
 intro d0 s σ H Q I h;refine Λ (zO I hg hm ?_ f_);refine lU.W.callWith_K (h₀:=X.kT) I.ok.WI.vG hk (bC (ha ia d0 s σ H _ I h) λus s1 ⟨vs,H1,I1,r,q⟩=>⟨I1.kJ,?_⟩) he dz
 exact z4f F hr hb hd hx I1 r q
end
def kN(K:Fg)(a:f'):ie:=match K.hW a with
 |ai ⟨_,_,.x8 es _,_⟩=>es.vr.rM λe=>match e.YL with|.str _ _=>true|_=>false
 |_=>false
def iu(K:Fg)(a:f'):ie:=kN K a&&lU.W._y K a "__init__"==ai none
abbrev kP:aj eT:=[.je "ValueError", .je "Exception", .je "BaseException", .je "object"]
def wU:_D->fy ź
 |.l_ c=>ai c
 |_=>none
def Ru{d:_D}{c:ź}(h:wU d=ai c):d=.l_ c:=by
 cases d with
 |l_ x=>exact Zd _D.l_ (fy.ai.yB h)
 |_=>exact nomatch (show none=ai c from h)
def ϲ(K:Fg)(C A:f'):ie:=(K.hW C).tZ λo=>(K.hW A).tZ λoa=>(wU o.n9).tZ λcd=>(wU oa.n9).tZ λca=>
 o.l_==.je "type"&&o.Yb.vr==[o.Yb.jd 0 none,o.Yb.jd 1 none,o.Yb.jd 2 none,o.Yb.jd 3 none,ai (.wO "ValueError.__new__"),o.Yb.jd 5 none]&&cd.mro==(.dI C::.dI A::kP)&&!cd.hasDel&&iu K cd.ns&&iu K ca.ns
def P1{a:f'}(X:K.In h)(q:iu K a=true):∃m,h.Ns a m/\m "__init__"=none:=by
 unfold iu at q;rw[w0l]at q;let⟨q1,q2⟩:=q;unfold kN at q1;split at q1
 .rename_i c d es n sl hl
  have hs:StrKeys es:=λe he=>by
   have:=w1d.mp q1 e (by simpa using he);split at this
   .rename_i k t hk;exact⟨_,_,hk⟩
   .cases this
  refine⟨nsFind es,⟨_,es,n,X _ _ hl,rfl,hs,λ_=>rfl⟩,?_⟩
  have q2:=ZD.mp q2;unfold lU.W._y at q2;rw[hl]at q2;dsimp only at q2;unfold nsFind ŏ;rw[<- yw.find?_toList];split at q2
  .cases q2
  .rename_i he;rw[he];rfl
 .cases q1
inductive u9(h:g6)(C A:f'):Prop
 |mk (nm qn N bs hdct sn pA ab ι dd k0 k1 k2 k3 k5 mN) (e:h.iT C=ai (excClassObj nm qn C N bs (.dI A::kP) hdct sn pA ab ι dd k0 k1 k2 k3 k5 "ValueError.__new__")) (n:h.Ns N mN) (i:mN "__init__"=none) (T:OwnTail h kP (.dI A::kP)):u9 h C A
def Ck{A:f'}(X:K.In h)(q:ϲ K C A=true):u9 h C A:=by
 unfold ϲ at q;simp only[fy.any_eq_true,w0l,ZD,w3q]at q;obtain⟨⟨c,dd,d,sl⟩,hC,⟨c',d1,d',tL⟩,hA,cd,h1,ca,h2,⟨⟨⟨⟨hc,xu⟩,hm⟩,Gy⟩,hn⟩,W2⟩:=q;cases Ru h1;cases Ru h2;cases hc;have xu:=Zd aj.lS xu;rw[w4b]at xu;obtain⟨k0,k1,k2,k3,k5,xu⟩:∃k0 k1 k2 k3 k5,sl=#[k0,k1,k2,k3,ai (.wO "ValueError.__new__"),k5]:=⟨_,_,_,_,_,xu⟩;subst xu;let⟨nm,bs,mro,ns,qn,hd,sn,pA,ab,ι,del⟩:=cd;cases hm;cases Gy;let⟨mN,hN,hi⟩:=P1 X hn;let⟨mA,Wu,WR⟩:=P1 X W2;exact⟨nm,qn,ns,bs,hd,sn,pA,ab,ι,dd,k0,k1,k2,k3,k5,mN,X _ _ hC,hN,hi,.ke (X _ _ hA) Wu WR .kT⟩
def zeG(C:f')(EE:L2.St->XK)(t:TA):TS:=λ_ σ H=>t σ H λvs H1=>vs.aO<=u0/\EE σ (.dI C) none H1
section
variable{C Ac:f'}{np aX:vd}{t:TA}
def y9l(hx:qC X EE)(hc:X.NI=true)(hg:Gl X x)(hm:X.mg x=ai (.dI C))(hC:ϲ X.K C Ac=true)(ha:PA X (e::es) t)
  (f_:gu ((x==("__debug__":fv))=false) jK)(he:gu (oj (e::es) X.dt=(false,eval e X.dt)::oj es X.dt) jJ)(dz:gu ((yC aX (oj es X.dt)).tZ (·.1)=false) jJ):
  PS X (.Raise (ai (.wu (.mU x np) (e::es) [] aX)) none ia) (zeG C EE t):=by
 intro d0 s σ H D I h;let⟨nm,qn,N,bs,hdct,sn,pA,ab,ι,dd,k0,k1,k2,k3,k5,mN,MR,hN,hi,T⟩:=Ck I.kJ hC
 have He:(yC aX (oj (e::es) X.dt)).tZ (·.1)=false:=by
  rw[he];show(false||(yC aX (oj es X.dt)).tZ (·.1))=false;rw[dz];rfl
 refine wpAny_Raise_call_subT (C:=C) (nm:=nm) (q:=qn) (N:=N) (bs:=bs) (bm:=.dI Ac::kP) (hdct:=hdct) (sn:=sn) (pA:=pA) (ab:=ab) (ι:=ι) (dd:=dd) (k0:=k0) (k1:=k1) (k2:=k2) (k3:=k3) (k5:=k5)
  lU.F.excBase_ValueError (mN:=mN) (by rfl) (I.ok.hd hc) He hi (zO I hg hm ⟨rfl,?_⟩ f_)
 have YL:=ha aX d0 s σ H _ I h;rw[he]at YL |-
 refine YR.zcs (YQ YL (λus s1 ⟨vs,H1,I1,r,hz,q⟩=>?_) λ_ _ y=>y)
 let⟨nm',qn',ze',F8,ze7,sn',zfq,ab',zfm,vn,k0',k1',k2',k3',k5',XA,AL,hN',qf,T'⟩:=Ck I1.kJ hC;have kk:∀b o,X.kT.iT b=ai o->s1.bj.iT b=ai o:=I1.bk
 have hCb:X.kT.iT C=s1.bj.iT C:=by
  let⟨_,_,_,_,_,_,_,_,_,_,_,_,_,_,_,_,z,_⟩:=Ck I.ok.WI.vG hC;rw[z];exact(kk _ _ z).symm
 have Wq:s.bj.iT C=s1.bj.iT C:=by
  let⟨_,_,_,_,_,_,_,_,_,_,_,_,_,_,_,_,z,_⟩:=Ck I.ok.WI.vG hC;rw[I.bk _ _ z];exact(kk _ _ z).symm
 have MS:s1.bj.iT C=ai (excClassObj nm qn C N bs (.dI Ac::kP) hdct sn pA ab ι dd k0 k1 k2 k3 k5 "ValueError.__new__"):=Wq ▸ MR;rw[MS]at AL;cases AL;have em:XA "__init__"=none:=qf
 have Wt:s1.bj.Ns N mN:=by
  let⟨o1,Wc,Wb,a1,a2,a3,a4⟩:=hN;let⟨_,_,zfa,_,_,_,_,_,_,_,_,_,_,_,_,m3,z3,n3,_,_⟩:=Ck I.ok.WI.vG hC;have z4:=I.bk _ _ z3;rw[MR]at z4;cases (z4);let⟨o5,ML,MJ,b1,b2,b3,b4⟩:=n3;have c1:=I.bk _ _ b1;rw[a1]at c1;cases c1;exact⟨_,Wc,Wb,I1.bk _ _ b1,a2,a3,a4⟩
 exact⟨rfl,by rw[<- r.aO];exact hz,MS,Wt,T',λh' ea WY=>hx d0 σ H1 s1 ea (.dI C) us h' I1 WY q⟩
end
def nE(e:f')(l_:eT):HO:=.ext λh=>∃o vs,h.iT e=ai o/\o.l_=l_/\o.n9=.NJ vs
def z4g{P:wW}{e:f'}(x:∃o vs,h.iT e=ai o/\o.l_=l_/\o.n9=.NJ vs):aS P w H h e (nE e l_):=by
 let⟨o,vs,h1,h2,h3⟩:=x;refine⟨⟨o,vs,h1,h2,h3⟩,⟨o,h1⟩,λg1 g2 ⟨o',KO,q1,q2,q3⟩ k=>⟨o',KO,k o' q1,q2,q3⟩⟩
abbrev Cx.tr(X:Cx)(pn:aj (f'×qH))(xe:eT->oi->Prop):Cx:={X with pn:=pn,xe:=xe}
abbrev Cx.hn(X:Cx)(e:f'):Cx:={X with A:=X.A.mark (ai (.dI e)),NI:=false,xe:=λ_ _=>uH}
section
variable{d0 pins':aj (f'×qH)}{xe:eT->oi->Prop}{e:f'}
theorem Cx.Ok.tr(ok:X.Ok)(pn:aj (f'×qH))(xe:eT->oi->Prop):(X.tr pn xe).Ok:=
 ⟨ok.WI,ok.yD,ok.Zx,ok.η,ok.Z1,ok.yB,ok.YO,ok.vi,ok.hd,ok.Yc,ok.CJ,ok.w_,ok.bs,ok.m4,ok.pM,ok.nF,ok.eX,ok.oG,ok.ZA⟩
theorem Cx.Ok.oq{pn:aj (f'×qH)}(ok:(X.tr pn xe).Ok):X.Ok:=
 ⟨ok.WI,ok.yD,ok.Zx,ok.η,ok.Z1,ok.yB,ok.YO,ok.vi,ok.hd,ok.Yc,ok.CJ,ok.w_,ok.bs,ok.m4,ok.pM,ok.nF,ok.eX,ok.oG,ok.ZA⟩
theorem Cx.Ok.hn(ok:X.Ok)(e:f'):(X.hn e).Ok:=
 ⟨ok.WI,ok.yD,ok.Zx,ok.η,ok.Z1,ok.yB,ok.YO,ok.vi,(λz=>nomatch z),ok.Yc,ok.CJ,ok.w_,ok.bs,ok.m4,ok.pM,ok.nF,ok.eX,ok.oG,ok.ZA⟩
theorem j3.tr(I:j3 X d0 σ H s)(xe:eT->oi->Prop):j3 (X.tr (X.pn++d0) xe) [] σ H s:=
 ⟨I.ok.tr _ xe,I.os,I.M_,I.kT,I.YF,I.ur,I.rk,I.dy,λp hp=>I.Ys p (by simpa using hp),I.aJ,I.uz⟩
theorem j3.oq(I:j3 (X.tr (X.pn++d0) xe) pins' σ H s):j3 X d0 σ H s:=
 ⟨I.ok.oq,I.os,I.M_,I.kT,I.YF,I.ur,I.rk,I.dy,λp hp=>I.Ys p (w1y _ hp),I.aJ,I.uz⟩
theorem j3.hn(I:j3 X d0 σ H s)(e:f'):j3 (X.hn e) d0 σ H s:=
 ⟨I.ok.hn e,I.os,I.M_,I.kT,I.YF,I.ur,I.rk,I.dy,I.Ys,I.aJ,I.uz⟩
theorem j3.u3(ok:X.Ok)(I:j3 (X.hn e) d0 σ H s):j3 X d0 σ H s:=
 ⟨ok,I.os,I.M_,I.kT,I.YF,I.ur,I.rk,I.dy,I.Ys,I.aJ,I.uz⟩
def u_.un{l:aj MO}{h2 h3:g6}(un:Un (fu l) [] H H' h1 h2)(gF:u_ l H H' h1 h2 e l_ B)(fl:g6.Ο B l e l_ a0 h3)(up:h2.Î h3):Un (fu l) [] H H' h1 h3:=by
 let⟨a1,Wi⟩:=gF.fl;have wZ:∀b:f',b∉([]:aj f'):=λb z=>nomatch z
 have xP:∀b o,h1.iT b=ai o->H b=none->b∈fu l->∃sl,h3.iT b=ai {o with Yb:=sl}:=λb o q n hb=>by
  let⟨sl,e1⟩:=un.xP b o q n hb (wZ b);let⟨_,o2,e2,nd⟩:=Wi.2.2.1.Xt hb;rw[e1]at e2;cases e2;let⟨tL,e3⟩:=up b _ e1 nd;exact⟨tL,e3⟩
 refine⟨λb o q n hb hx=>fl.1 b o (gF.yF b o q n hb),λb o q n hb hx=>xP b o q n hb,un.rk,λb o q hx=>?_,un.gq,un.aY,un.fj⟩
 rcases gF.rM b o q with hb|⟨o',z⟩
 .let⟨_,o2,e2,nd⟩:=fl.2.2.1.Xt hb;exact⟨o2,e2⟩
 .exact⟨o',fl.1 b o' z⟩
theorem u_.aJ{P:wW}{l:aj MO}{h2 h3:g6}(aJ:dg P w H' h2)(gF:u_ l H H' h1 h2 e l_ B)(fl:g6.Ο B l e l_ a0 h3):dg P w H' h3:=λa o q=>by
 refine(aJ a o q).fi (λb u hb z=>?_) (λ_ z=>z) λ_ _ _ z=>z
 rcases hb with rfl|hb
 .exact fl.1 _ _ (gF.oo b o u q z)
 .exact fl.1 _ _ (gF.oo b _ u hb z)
def u_.rk{P:wW}{l:aj MO}{h2:g6}(aJ:dg P w H' h2)(gF:u_ l H H' h1 h2 e l_ B):H' e=none:=by
 let⟨a0,fl⟩:=gF.fl;cases q:H' e with
 |none=>rfl
 |ai u=>
  let⟨o,z⟩:=(aJ e u q).A';have:=gF.oo e u o q z;rw[fl.2.1]at this;cases this
def Un.Ĥ{fs:aj f'}{h3:g6}{o:HO}(un:Un fs [] H H' h1 h3)(xM:h1.iT e=none)(fr:H' e=none):Un fs [] H (ny H' e o) h1 h3:=by
 refine⟨un.xJ,un.xP,λb ob q n hx=>?_,un.YZ,λb xs q=>?_,λb ob u q=>?_,λb ps q=>?_⟩
 .have:b≠e:=λz=>by grind
  rw[aR this];exact un.rk b ob q n hx
 .have z:=un.gq b xs q;rw[aR (gh z fr)];exact z
 .have z:=un.aY b ob u q;rw[aR (gh z fr)];exact z
 .let⟨ZR,z⟩:=un.fj b ps q;exact⟨ZR,by rw[aR (gh z fr)];exact z⟩
theorem dg.Ĥ{P:wW}{o:HO}(aJ:dg P w H' h)(fr:H' e=none)(xM:aS P w (ny H' e o) h e o):dg P w (ny H' e o) h:=λb u q=>by
 by_cases hb:b=e
 .grind [bQ]
 .rw[aR hb]at q;exact(aJ b u q).fi (λ_ _ _ z=>z) (λc z=>by rw[aR (gh z fr)];exact z) λc xs _ z=>by rw[aR (gh z fr)];exact z
end
structure Aq(k:aT)(A:FZ):Prop where
 dp:A.w8+3*k+5<š
 un:A.yH+16*k+200<yN
 gd:A.guards=ai []
structure Af(P:wW)(w:uG)(K:Fg)(mg:fv->fy eT)(kT:g6)(k:aT)(f:f')(fd:Zo)(ps:aj fv)(sp:Sp):Prop where
 uz:∀vs H Q E,sp vs H Q E->vs.aO=ps.aO
 ll:∀(A:FZ)(qp:aj MO)(s:oi)(H:Hp)(args:Args)(us:aj eT)(vs:aj V)(Q:VK),Aq k A->i3 P w K mg kT A qp s H->_C s fd args (ps.wt us)->t9 vs us->sp vs H Q E0 ->
  Za (p5 P w) A (.yG (.dI f) args) (CR Ud qp P w H s Q E0) s
abbrev Cx.cp(X:Cx)(Nc:aj fv)(gs:zb)(cl:aj (fv×f'))(C:f')(ax:oi)(aE:Hp)(ex:aj f'):Cx:=
 {X with N:=Nc,ax:=ax,aE:=aE,dt:=ă gs cl C X.dt,qp:=X.N3,ex:=ex,fn:=λy=>gs.p6.hW y==ai .ur,pn:=[],xe:=λ_ _=>uH}
theorem Jc:∀(p6:aj (fv×Xn))(tW:aj (fv×f')),(∀x∈p6,x.2=.rk->∃c,dt.XB.hW x.1=ai c) ->
  ∃cl,(ϝ p6 tW fun(x:fv×Xn) (r:aj (fv×f'))=>(if(x.2==Xn.rk)=true then(ņ dt x.1 >>= λa=>uV (_V.ϥ ((x.1,a)::r)))else uV (_V.ϥ r):_F (_V (aj (fv×f')))))=uV cl /\
   (∀x c,cl.hW x=ai c->tW.hW x=ai c\/dt.XB.hW x=ai c)/\(∀x,((x,Xn.rk)∈p6\/(tW.hW x).zi=true)->(cl.hW x).zi=true)
 |[],tW,_=>⟨tW,rfl,λx c h=>.j9 h,λx h=>h.nU (λz=>nomatch z) id⟩
 |(n,k)::r,tW,h=>by
  by_cases hk:k=.rk
  .subst hk;let⟨c,hc⟩:=h (n,.rk) w1e rfl;let⟨cl,e1,e2,e3⟩:=Jc r ((n,c)::tW) λx hx=>h x (w0o _ hx)
   refine⟨cl,?_,λx d hd=>?_,λx hx=>?_⟩
   .rw[w3f];have:ņ dt n=uV c:=by unfold ņ;rw[hc]
    grind
   all_goals grind
  .let⟨cl,e1,e2,e3⟩:=Jc r tW λx hx=>h x (w0o _ hx)
   grind
def BU(h:∀x∈gs.p6,x.2=.rk->∃c,dt.XB.hW x.1=ai c):
  ∃cl,ā gs dt=uV cl/\(∀x c,cl.hW x=ai c->dt.XB.hW x=ai c)/\∀x,(x,Xn.rk)∈gs.p6->∃c,cl.hW x=ai c:=by
 let⟨cl,e1,e2,e3⟩:=Jc gs.p6 [] h
 grind [fy.isSome_iff_exists,ā]
theorem Jd{dt : MO} : ∀ {p6 : aj (fv × Xn)} {x : fv}, (∀ y ∈ p6, y.2 = .ur -> y.1 ≠ x) ->
    ((p6.a7 λ(n, k) => if (k == Xn.rk && dt.gs.yD == .Zw && dt.yL n == ai .ur) then (n, Xn.ur) else (n, k)).hW x = ai .ur \/
     (p6.a7 λ(n, k) => if (k == Xn.rk && dt.gs.yD == .Zw && dt.yL n == ai .ur) then (n, Xn.ur) else (n, k)).hW x = ai .rk) -> (x, Xn.rk) ∈ p6
  | [], x, _, h => by grind
  | (n, k) :: r, x, hc, h => by
    have ih := @Jd dt r x λy hy => hc y (w0o _ hy)
    grind
def P2{jf:wW}{R:Result->oi->Prop}{W6 xA:oP}{gs:zb}{it tW:eT}{dt:MO}(I:aT->oi->Prop)
  (YM:∀n s,I n s->oh (p5 jf w) A (Η it) (λr s1=>match r with
   |none=>R (.ok .next) s1
   |ai v=>oh (p5 jf w) A (č W6 it v) (λ_ s2=>oh (p5 jf w) A (Z2 W6 dt v) (λ_ s3=>
     oh (p5 jf w) A (ϝ yK true λc r=>if r=true then do let ok <- ϸ c dt (eval c dt);uV (_V.ϥ ok)else uV (_V.ϥ r)) (λok s4=>
      if ok=true then oh (p5 jf w) A (eval yO dt) (λx s5=>oh (p5 jf w) A (yG (.wO "list.append") [tW,x]) (λ_ s6=>∃m,m<n/\I m s6) (λ_ _=>uH) s5) (λ_ _=>uH) s4
      else ∃m,m<n/\I m s4) (λ_ _=>uH) s3) (λ_ _=>uH) s2) (λ_ _=>uH) s1) (λ_ _=>uH) s)
  (n:aT)(h:I n s):Za (p5 jf w) A (.Ŋ (.YN yO [⟨W6,xA,yK,0⟩] gs ia) 0 it tW dt) R s:=by
 refine codeAny_loop rfl I (λn s hI=>?_) n h
 show oh _ A ((compTurn (.YN yO [⟨W6,xA,yK,0⟩] gs ia) 0 it tW dt).onRaise (λx=>do noteFrame x dt;theTreesLotGoes x)) _ _ s
 refine wpAny_noted ?_;rw[compTurn_list];refine lT (ı (lT (YQ (YM n s hI) (λr s1 h1=>?_) λ_ _ z=>z.nU)))
 cases r with
 |none=>exact t8 h1
 |ai v=>
  refine lT (YQ h1 (λ_ s2 h2=>?_) λ_ _ z=>z.nU)
  refine lT (YQ h2 (λ_ s3 h3=>?_) λ_ _ z=>z.nU)
  refine lT (YQ h3 (λok s4 h4=>?_) λ_ _ z=>z.nU)
  cases ok with
  |false=>exact t8 ⟨rfl,h4⟩
  |true=>exact lT (lT (YQ h4 (λx s5 h5=>lT (YQ h5 (λ_ s6 h6=>t8 (t8 ⟨rfl,h6⟩)) λ_ _ z=>z.nU)) λ_ _ z=>z.nU))
def pj(js:aj aT)(σ:St):St:=js.a7 λj=>(σ[j]?).jd none
def z9s{i:aT}(h:(pj js σ)[i]?=ai (ai v)):∃j,js[i]?=ai j/\σ[j]?=ai (ai v):=by
 grind [pj]
def sQ(X:Cx)(yK:aj oP)(t:TT):Prop:=
 ∀(d0:aj (f'×qH))(s:oi)(σ:St)(H:Hp)(Q:ie->Hp->Prop),j3 X d0 σ H s->t σ H Q ->
  oh (p5 X.jf X.w) X.A (ϝ yK true λc r=>if r=true then do let ok <- ϸ c X.dt (eval c X.dt);uV (_V.ϥ ok)else uV (_V.ϥ r)) (TP X d0 σ Q) X.xe s
def KH:TT:=λ_ H Q=>Q true H
theorem z4h:sQ X [] KH:=λd0 s σ H Q I h=>wpAny_tests_nil ⟨H,I,h⟩
theorem z4i(h:PT X c t):sQ X [c] t:=λd0 s σ H Q I hq=>wpAny_tests_one (h d0 s σ H Q I hq)
def Kp(σ aM:St):Prop:=∀(i:aT) v,σ[i]?=ai (ai v)->aM[i]?=ai (ai v)
theorem Kp.YH{v:V}:Kp (aj.w4 1 none++σ) (ai v::σ):=λi u h=>by
 cases i with
 |TL=>cases h
 |OK i=>exact h
theorem Kp.two{v u:V}:Kp (aj.w4 2 none++σ) (ai v::ai u::σ):=λi w h=>by
 match i,h with
 |0,h=>cases h
 |1,h=>cases h
 |i+2,h=>exact h
def i0(wi:TI)(nl:aT)(js:aj aT)(g:TG)(tc:TT)(te:TE):TE:=λσ H Q=>wi σ H λJ H1=>∀D,H1 D=none->∃W:aT->aT->Hp->Prop,(∃m,W 0 m (ny H1 D (.dS [])))/\∀i m H2,W i m H2 ->
 (J.stop i H2/\Q (.dI D) H2)\/(J.go i H2/\∀x H3,J.kQ i H2 x H3->g x (aj.w4 nl none++pj js σ) H3 λou H4=>Kp (aj.w4 nl none++pj js σ) ou/\tc ou H4 λb H5=>
  if b=true then te ou H5 λy H6=>∃ys,H6 D=ai (.dS ys)/\ys.aO<u0/\∃m',m'<m/\W (i+1) m' (ny H6 D (.dS (ys++[y])))else ∃m',m'<m/\W (i+1) m' H5)
section
variable{W6 xA:oP}{gs:zb}{g:TG}
def P4{x0:fv}
  (I:j3 X d0 σ H s)(qe:∀b∈fp,eO X d0 H b)(zh:∀b∈fp,∃o,s.bj.iT b=ai o/\∀v,o.n9≠.ur v)
  (hk:gs.yD=.Zw)(Gq:∀x,((_S gs X.dt).p6.hW x=ai .ur\/(_S gs X.dt).p6.hW x=ai .rk)->∃c,cl.hW x=ai c)(eL:∀x c,cl.hW x=ai c->X.dt.XB.hW x=ai c\/(x=x0/\c=s.bj.g0.d3+2/\∃v,h1._W c v))(m7:∀y∈Nf,∃c,cl.hW y=ai c/\X.dt.XB.hW y=ai c)
  (Gs:∀x c,gs.p6.hW x=ai .ur->cl.hW x=ai c->s.bj.g0.d3+1<=c)
  (hj:∀(i j:aT) y,Nf[i]?=ai y->js[i]?=ai j->X.N[j]?=ai y)(wR:js.aO=Nf.aO)
  (nH:∀y∈Nf,(y,Xn.rk)∈gs.p6/\kg X.dt.gs y/\X.dt.yL y≠ai .local)
  (jb:∀y∈Nf,(_S gs X.dt).p6.hW y=ai .ur\/(_S gs X.dt).p6.hW y=ai .rk)
  (hn:h1.Ns (s.bj.g0.d3+1) mC)(KJ:∀b u,(s.bj.tB {l_:=.je "list", x8:=none,n9:=.ot ([]:aj eT).lS}).iT b=ai u->h1.iT b=ai u):
  j3 (X.cp (Nl++Nf) gs cl (s.bj.g0.d3+1) {s with bj:=s.bj.tB {l_:=.je "list", x8:=none,n9:=.ot ([]:aj eT).lS}} (ny H s.bj.g0.d3 (.dS [])) fp) [] (aj.w4 Nl.aO none++pj js σ) (ny H s.bj.g0.d3 (.dS [])) {s with bj:=h1,rJ:=tk}:=by
 have fD:H s.bj.g0.d3=none:=I.aJ.yI (w0f _);have Ι:∀b u,s.bj.iT b=ai u->(s.bj.tB {l_:=.je "list", x8:=none,n9:=.ot ([]:aj eT).lS}).iT b=ai u:=λb u q=>g6.w6 _ q
 have wq:(s.bj.tB {l_:=.je "list", x8:=none,n9:=.ot ([]:aj eT).lS}).g0.d3=s.bj.g0.d3+1:=g6.ZH ..;have up:∀b u,s.bj.iT b=ai u->h1.iT b=ai u:=λb u q=>KJ b u (Ι b u q)
 have zfx:∀b o,s.bj.iT b=ai o->b≠s.bj.g0.d3:=λb o q=>w0p (g6.yu q)
 have yV:∀b o,s.bj.iT b=ai o->H b=none->ny H s.bj.g0.d3 (.dS []) b=none:=λb o q n=>by grind [aR]
 have Ha:dg X.jf X.w (ny H s.bj.g0.d3 (.dS [])) (s.bj.tB {l_:=.je "list", x8:=none,n9:=.ot ([]:aj eT).lS}):=
  I.aJ.Mk Ι (w0f _) ⟨w1c _,[],_,.ro,g6.Bt _ rfl⟩
 have qI:∀c v,s.bj._W c v->h1._W c v:=λc v ⟨o,q,r⟩=>⟨o,up _ _ q,r⟩
 have MD:∀x c,X.dt.XB.hW x=ai c->c<s.bj.g0.d3:=λx c e=>by
  let⟨v,o,q,_⟩:=I.ur x c e;exact g6.yu q
 have GN:∀x y c,cl.hW x=ai c->cl.hW y=ai c->x=y:=λx y c e1 e2=>by
  rcases eL x c e1 with z1|⟨a1,b1,_⟩<;>rcases eL y c e2 with z2|⟨a2,b2,_⟩
  .exact I.ok.yB x y c z1 z2
  .exact uv (b2 ▸ MD x c z1) (w3r.uY (w4x _ 2))
  .exact uv (b1 ▸ MD y c z2) (w3r.uY (w4x _ 2))
  .rw[a1,a2]
 refine⟨⟨I.ok.WI,hk,I.ok.Zx,I.ok.η,(by show(s.bj.tB _).g0.d3<=_;rw[wq];exact w0f _),GN,λx hx=>Gq x hx,(λx c z q=>by show(s.bj.tB _).g0.d3<=_;rw[wq];exact Gs x c (by simpa using z) q),I.ok.hd,I.ok.Yc,.j9 rfl,λb hb=>⟨?_,λx c e=>?_⟩,λb o q=>?_,?_,λb o q hb=>?_,λb hb AR=>?_,?_,λb hb=>?_,(I.ok.ZA.un I.kT).Mk fD⟩,
  rfl,I.M_,Un.XE KJ,⟨mC,hn,λi y v e1 e2 e3=>?_⟩,λx c e=>?_,?_,λx c e=>?_,λp hp=>(by cases hp),Ha.XE KJ,?_⟩
 .let⟨o,q,_⟩:=zh b hb;exact w0p (w1w (g6.yu q))
 .rcases eL x c e with z|⟨_,rfl,_⟩
  .exact(qe b hb).2.2.2.2.1 x c z
  .let⟨o,q,_⟩:=zh b hb;exact(w0p (w1w (w1w (g6.yu q)))).symm
 .let⟨q1,q2⟩:=I.bs b o q
  grind
 .show X.kT.g0.d3<=(s.bj.tB _).g0.d3;rw[wq];exact aT.le_succ_of_le (w0q I.ok.m4 I.sz)
 .rcases(qe b hb).2.2.2.1 with z|z
  .exact I.ok.pM b o q z
  .let⟨q1,_⟩:=I.ok.bs b o q;exact uv (g6.yu q1) (w3r.uY z)
 .rcases w0h.mp (I.j8 b AR)with z|z
  .exact(qe b hb).2.1 z
  .exact(qe b hb).2.2.1 z
 .exact I.N3.of_keeps λb o q _=>⟨o,Ι _ _ q,rfl⟩
 .let⟨_,o,q,_⟩:=I.N3.Xt hb;exact yV b o q (I.lR b hb)
 ·-- C3 p6
  have Gd:(aj.w4 Nl.aO none++pj js σ)[i]?=ai (ai v):=e2;have AF:(Nl++Nf)[i]?=ai y:=e1
  by_cases hi:i<Nl.aO
  .grind
  .have qf:Nl.aO<=i:=w3r.mp hi;rw[w1u (by simpa using qf)]at Gd;rw[w1u qf]at AF;rw[w2f]at Gd;let⟨j,ej,We⟩:=z9s Gd;have Gp:=hj _ _ _ AF ej;let⟨lh,hv,A8⟩:=nH y (w0y AF);let⟨m,hm,hl⟩:=I.YF;let⟨u,r,l⟩:=hl j y v Gp We hv;refine⟨u,r,?_⟩;rcases l with⟨k,_⟩|⟨k,c,ec,z⟩
   .exact uv k A8
   .let⟨c',t_,this⟩:=m7 y (w0y AF);rw[ec]at this;cases this;exact .mW ⟨jb y (w0y AF),c,t_,qI _ _ z⟩
 .rcases eL x c e with z|⟨_,_,z⟩
  .let⟨v,z⟩:=I.ur x c z;exact⟨v,qI _ _ z⟩
  .exact z
 .show ny H s.bj.g0.d3 (.dS []) (s.bj.g0.d3+1)=none;rw[aR (w3x _)];exact I.aJ.yI (w4s _)
 .rcases eL x c e with z|⟨_,rfl,_⟩
  .let⟨v,o,q,_⟩:=I.ur x c z;exact yV c o q (I.dy x c z)
  .show ny H s.bj.g0.d3 (.dS []) (s.bj.g0.d3+2)=none;rw[aR (w2s (aT.lt_add_of_pos_right (by decide)))];exact I.aJ.yI (w4x _ 2)
 .grind [pj]
def QJ
  (I:j3 X d0 σ H s)(qe:∀b∈fp,eO X d0 H b)(zh:∀b∈fp,∃o,s.bj.iT b=ai o/\∀v,o.n9≠.ur v)
  (hk:gs.yD=.Zw)(dY:∀y∈gs.p6,y.2≠.ur)(eL:∀x c,cl.hW x=ai c->X.dt.XB.hW x=ai c)(m7:∀x,(x,Xn.rk)∈gs.p6->∃c,cl.hW x=ai c)
  (hj:∀(i j:aT) y,Nf[i]?=ai y->js[i]?=ai j->X.N[j]?=ai y)(wR:js.aO=Nf.aO)
  (nH:∀y∈Nf,(y,Xn.rk)∈gs.p6/\kg X.dt.gs y/\X.dt.yL y≠ai .local)
  (jb:∀y∈Nf,(_S gs X.dt).p6.hW y=ai .ur\/(_S gs X.dt).p6.hW y=ai .rk)
  (hn:h1.Ns (s.bj.g0.d3+1) mC)(hs:g6.ZY (s.bj.g0.d3+1) ((s.bj.tB {l_:=.je "list", x8:=none,n9:=.ot ([]:aj eT).lS}).tB {l_:=.je "dict", n9:=.x8 #[]}) h1):
  j3 (X.cp (Nl++Nf) gs cl (s.bj.g0.d3+1) {s with bj:=s.bj.tB {l_:=.je "list", x8:=none,n9:=.ot ([]:aj eT).lS}} (ny H s.bj.g0.d3 (.dS [])) fp) [] (aj.w4 Nl.aO none++pj js σ) (ny H s.bj.g0.d3 (.dS [])) {s with bj:=h1,rJ:=tk}:=by
 refine P4 (x0:="") I qe zh hk (λx hx=>m7 x (Jd (λy hy z=>uv z (dY y hy)) hx)) (λx c e=>.j9 (eL x c e)) (λy hy=>?_) (λx c e=>uv rfl (dY _ (lU.ZQ e))) hj wR nH jb hn λb u q=>?_
 .let⟨c,e⟩:=m7 y (nH y hy).1;exact⟨c,e,eL y c e⟩
 .have b8:=g6.yu q;rw[g6.ZH]at b8;exact(hs.2 b (w0p b8)).lb (g6.w6 _ q)
def SH{aM:St}
  (I:j3 X d0 σ H s)(qe:∀b∈fp,eO X d0 H b)
  (J:j3 (X.cp Nc gs cl (s.bj.g0.d3+1) {s with bj:=s.bj.tB {l_:=.je "list", x8:=none,n9:=.ot ([]:aj eT).lS}} (ny H s.bj.g0.d3 (.dS [])) fp) [] aM H' s')
  (hs:g6.ZY (s.bj.g0.d3+1) s'.bj h'):j3 X d0 σ H' {s' with bj:=h'}:=by
 have fD:H s.bj.g0.d3=none:=I.aJ.yI (w0f _);have Ι:∀b u,s.bj.iT b=ai u->(s.bj.tB {l_:=.je "list", x8:=none,n9:=.ot ([]:aj eT).lS}).iT b=ai u:=λb u q=>g6.w6 _ q
 have vN:∀b o,s.bj.iT b=ai o->b≠s.bj.g0.d3+1:=λb o q=>w0p (w1w (g6.yu q))
 have yV:∀b o,s.bj.iT b=ai o->H b=none->ny H s.bj.g0.d3 (.dS []) b=none:=λb o q n=>by rw[aR (w0p (g6.yu q))];exact n
 have yF:∀b u,H b=ai u->ny H s.bj.g0.d3 (.dS []) b=ai u:=λb u q=>by rw[aR (gh q fD)];exact q
 have B:Un (fu X.N3) fp (ny H s.bj.g0.d3 (.dS [])) H' (s.bj.tB {l_:=.je "list", x8:=none,n9:=.ot ([]:aj eT).lS}) s'.bj:=J.kT;have hC:H' (s.bj.g0.d3+1)=none:=J.rk;refine I.oA (s':={s' with bj:=h'}) (ch:=fp) (J.os.lb rfl) ⟨λb o q n hb hx=>?_,λb o q n hb hx=>?_,λb o q n hx=>B.rk b o (Ι _ _ q) (yV b o q n) hx,λb o q hx=>?_,λb xs q=>B.gq b xs (yF _ _ q),λb o u q=>B.aY b o u (yF _ _ q),λb ps q=>B.fj b ps (yF _ _ q)⟩ (λa o q=>?_) J.M_ λb hb=>?_
 .exact(hs.2 b (vN b o q)).lb (B.xJ b o (Ι _ _ q) (yV b o q n) hb hx)
 .let⟨sl,z⟩:=B.xP b o (Ι _ _ q) (yV b o q n) hb hx;exact⟨sl,(hs.2 b (vN b o q)).lb z⟩
 .let⟨o',z⟩:=B.YZ b o (Ι _ _ q) hx;exact⟨o',(hs.2 b (vN b o q)).lb z⟩
 .refine(J.aJ a o q).fi (λc v hc z=>(hs.2 c ?_).lb z) (λ_ z=>z) λ_ _ _ z=>z
  grind
 .let⟨_,f1,f2,f3,f4,f5⟩:=qe b hb
  grind
structure ji(x:fv)(sc:zb):Prop where
 χ:sc.p6.hW x=ai .ur
 YH:∀n cl,Ô n sc.p6 cl=(x,n)::cl
 BC:∀h:g6,pushCells h sc.p6=h.tB {l_:=.je "cell", n9:=.ur none}
 only:∀y∈sc.p6,y.2=.ur->y.1=x
 XD:(x,Xn.rk)∉sc.p6
def zdx{E:eT->oi->Prop}{M:Model}{θ:eT}{Q:MO->oi->Prop}{x0:fv}{dt:MO}{Ü Ϭ:f'}{ň:aj (fv×f')}{Zf:fy f'}(S:ji x0 gs)
  (hQ:∀h',h'.Ns s.bj.g0.d3 (λ_=>none)->h'._W (s.bj.g0.d3+1) none->(∀b o,s.bj.iT b=ai o->h'.iT b=ai o) ->
   Q (newEnv gs s.bj.g0.d3 Ü ((x0,s.bj.g0.d3+1)::ň) rN Zf θ (ai dt) Ϭ) {s with bj:=h'}):
  oh M A (zdc gs Ü ň [] rN Zf θ (ai dt) Ϭ) Q E s:=by
 simp only[zdc,fy.isSome_some,_N];refine lT (wpAny_alloc ?_);refine lT (wpAny_layCells _ (λname yD XB=>by grind) _ _ _ _ ?_)
 rw[show({s with bj:=s.bj.tB {l_:=.je "dict", n9:=.x8 #[]}}:oi).bj.g0.d3=s.bj.g0.d3+1 from g6.ZH ..,S.YH,S.BC]
 have ic:((s.bj.tB {l_:=.je "dict", n9:=.x8 #[]}).tB {l_:=.je "cell", n9:=.ur none})._W (s.bj.g0.d3+1) none:=by
  have e:=g6.Bt (s.bj.tB {l_:=.je "dict", n9:=.x8 #[]}) (o:={l_:=.je "cell", n9:=.ur none}) rfl;rw[g6.ZH]at e;exact⟨_,e,rfl⟩
 have kp:∀b o,(s.bj.tB {l_:=.je "dict", n9:=.x8 #[]}).iT b=ai o->((s.bj.tB {l_:=.je "dict", n9:=.x8 #[]}).tB {l_:=.je "cell", n9:=.ur none}).iT b=ai o:=λb o e=>g6.w6 _ e
 refine lT ?_;rw[w4n];exact t8 (t8 (hQ _ ((g6.Ns.xM s.bj (.je "dict")).YE kp) ic λb o e=>kp b o (g6.w6 _ e)))
def z4j{Nl Nf : aj fv}(hc : X.NI = true)(hi : PI X W6 xA wi)
    (hk : gs.yD = .Zw)(dY : (∀ y ∈ gs.p6, y.2 ≠ .ur) \/ ∃ x0, ji x0 gs)(nM : ∀ x ∈ gs.p6, x.2 = .local -> gs.p6.hW x.1 = ai .local)
    (bX : ∀ x ∈ gs.p6, x.2 = .rk -> X.dt.yL x.1 = ai .ur \/ X.dt.yL x.1 = ai .rk)
    (hj : ∀ (i j : aT) y, Nf[i]? = ai y -> js[i]? = ai j -> X.N[j]? = ai y)(wR : js.aO = Nf.aO)
    (nH : ∀ y ∈ Nf, (y, Xn.rk) ∈ gs.p6 /\ kg X.dt.gs y /\ X.dt.yL y ≠ ai .local)
    (jb : ∀ y ∈ Nf, (_S gs X.dt).p6.hW y = ai .ur \/ (_S gs X.dt).p6.hW y = ai .rk)
    (hg : ∀ cl C ax aE ex, PG (X.cp (Nl ++ Nf) gs cl C ax aE ex) W6 g)(ht : ∀ cl C ax aE ex, sQ (X.cp (Nl ++ Nf) gs cl C ax aE ex) yK tc)(he : ∀ cl C ax aE ex, PE (X.cp (Nl ++ Nf) gs cl C ax aE ex) yO te)
    (hs : ∀ x, Zv xA X.dt x = uV x := by intro _; rfl) :
    PE X (.YN yO [⟨W6, xA, yK, 0⟩] gs ia) (i0 wi Nl.aO js g tc te) := by
  intro d0 s σ H Q I h;let⟨cl, eY, eL, m7⟩:= BU (gs := gs) (dt := X.dt) λx hx hf => I.ok.YO x.1 (bX x hx hf)
  rw [eval_ListComp];refine zek (use := none) rfl hs eY hk nM (bC (hi d0 s σ H _ I h) λv s1 h1 => bC h1 λDU s2 h2 => ?_)
  let⟨it, fp, tn, J, H2, e, I2, T, iS, f2, rd⟩:= h2;subst e;have wq : (s2.bj.tB { l_ := .je "list", x8 := none, n9 := .ot ([] : aj eT).lS }).g0.d3 = s2.bj.g0.d3 + 1 := g6.ZH ..;have fD : H2 s2.bj.g0.d3 = none := I2.aJ.yI (w0f _);let⟨W, ⟨m0, w0⟩, YM⟩:= rd s2.bj.g0.d3 fD;have pN := T.Up 0 s2.bj iS
  have wV : ∀ (cl : aj (fv × f')) (dG : g6) (tk : aT), j3 (X.cp (Nl ++ Nf) gs cl (s2.bj.g0.d3 + 1) { s2 with bj := s2.bj.tB { l_ := .je "list", x8 := none, n9 := .ot ([] : aj eT).lS } } (ny H2 s2.bj.g0.d3 (.dS [])) fp) [] (aj.w4 Nl.aO none ++ pj js σ) (ny H2 s2.bj.g0.d3 (.dS [])) { s2 with bj := dG, rJ := tk } ->
      (∀ b u, s2.bj.iT b = ai u -> dG.iT b = ai u) -> Za (p5 X.jf X.w) X.A (.compStart (.YN yO [⟨W6, xA, yK, 0⟩] gs ia) 0 (.dI it) (.dI s2.bj.g0.d3) (ă gs cl (s2.bj.g0.d3 + 1) X.dt))
        (ŋ (p5 X.jf X.w) X.A X.xe none (EP X d0 σ Q) (.dI s2.bj.g0.d3) (s2.bj.g0.d3 + 1)) { s2 with bj := dG, rJ := tk } := by
   intro cl dG tk IS KL;have CH : tn 0 dG := T.xJ 0 s2.bj dG iS λb hb o q => KL b o q
   have HN : ∀ b ∈ fp, ny H2 s2.bj.g0.d3 (.dS []) b = none := λb hb => by
     let⟨o, q, _⟩:= pN b hb;rw [aR (w0p (g6.yu q))];exact (f2 b hb).1
   have j7 : ∀ {H' : Hp}, (∀ b ∈ fp, H' b = none) -> ∀ b ∈ fp, eO (X.cp (Nl ++ Nf) gs cl (s2.bj.g0.d3 + 1) { s2 with bj := s2.bj.tB { l_ := .je "list", x8 := none, n9 := .ot ([] : aj eT).lS } } (ny H2 s2.bj.g0.d3 (.dS [])) fp) [] H' b := λhn b hb => by
     refine ⟨hn b hb, (IS.ok.w_ b hb).1, IS.ok.nF b hb, .j9 hb, (IS.ok.w_ b hb).2, λp hp => (by cases hp)⟩
   have ϻ : ∀ s4 : oi, s4 = { s2 with bj := dG, rJ := tk } ->
       Za (p5 X.jf X.w) X.A (.Ŋ (.YN yO [⟨W6, xA, yK, 0⟩] gs ia) 0 (.dI it) (.dI s2.bj.g0.d3) (ă gs cl (s2.bj.g0.d3 + 1) X.dt))
         (ŋ (p5 X.jf X.w) X.A X.xe none (EP X d0 σ Q) (.dI s2.bj.g0.d3) (s2.bj.g0.d3 + 1)) s4 := by
     rintro s4 rfl;refine P2 (λn s' => ∃ i H', j3 (X.cp (Nl ++ Nf) gs cl (s2.bj.g0.d3 + 1) { s2 with bj := s2.bj.tB { l_ := .je "list", x8 := none, n9 := .ot ([] : aj eT).lS } } (ny H2 s2.bj.g0.d3 (.dS [])) fp) [] (aj.w4 Nl.aO none ++ pj js σ) H' s' /\ tn i s'.bj /\ (∀ b ∈ fp, H' b = none) /\ W i n H') ?_ m0 ⟨0, _, IS, CH, HN, w0⟩
     rintro n s3 ⟨i, H3, I3, wo, vt, w3⟩;rcases YM i n H3 w3 with ⟨stop, qn⟩ | ⟨go, YY⟩
     . refine bC (T.done (X.cp (Nl ++ Nf) gs cl (s2.bj.g0.d3 + 1) { s2 with bj := s2.bj.tB { l_ := .je "list", x8 := none, n9 := .ot ([] : aj eT).lS } } (ny H2 s2.bj.g0.d3 (.dS [])) fp) rfl rfl rfl hc i [] s3 _ H3 _ I3 (j7 vt) wo stop) λr s5 ⟨hr, I5⟩ => ?_
       subst hr;let⟨m5, GZ, _⟩:= I5.YF;refine ⟨m5, GZ, λh' i_ => ⟨.dI s2.bj.g0.d3, H3, SH I2 f2 I5 i_, rfl, qn⟩⟩
     . refine bC (T.ZF (X.cp (Nl ++ Nf) gs cl (s2.bj.g0.d3 + 1) { s2 with bj := s2.bj.tB { l_ := .je "list", x8 := none, n9 := .ot ([] : aj eT).lS } } (ny H2 s2.bj.g0.d3 (.dS [])) fp) rfl rfl rfl hc i [] s3 _ H3 _ I3 (j7 vt) wo go) λr s5 ⟨u, hr, h5⟩ => ?_
       subst hr;refine bC h5 λ_ s6 ⟨x, H6, I6, r6, y6, yz, Gi⟩ => ?_
       have FU := I6.ã (j7 Gi) (T.Up _ _ yz);refine bC (hg _ _ _ _ _ _ s6 _ H6 x u _ FU r6 (YY x H6 y6)) λ_ s7 ⟨lW, H7, I7, kp, q7⟩ => ?_
       refine bC (ht _ _ _ _ _ _ s7 lW H7 _ I7 q7) λok s8 ⟨H8, I8, q8⟩ => ?_
       have _J : ∀ {ow : St} {H9 : Hp} {s9 : oi}, j3 (X.cp (Nl ++ Nf) gs cl (s2.bj.g0.d3 + 1) { s2 with bj := s2.bj.tB { l_ := .je "list", x8 := none, n9 := .ot ([] : aj eT).lS } } (ny H2 s2.bj.g0.d3 (.dS [])) fp) ([] ++ iQ fp s6.bj) ow H9 s9 ->
           Kp (aj.w4 Nl.aO none ++ pj js σ) ow -> (∃ m', m' < n /\ W (i + 1) m' H9) -> ∃ m, m < n /\ ∃ i H', j3 (X.cp (Nl ++ Nf) gs cl (s2.bj.g0.d3 + 1) { s2 with bj := s2.bj.tB { l_ := .je "list", x8 := none, n9 := .ot ([] : aj eT).lS } } (ny H2 s2.bj.g0.d3 (.dS [])) fp) [] (aj.w4 Nl.aO none ++ pj js σ) H' s9 /\ tn i s9.bj /\ (∀ b ∈ fp, H' b = none) /\ W i m H' := λ{ow H9 s9} I9 hw ⟨m', hm, w9⟩ => by
         refine ⟨m', hm, i + 1, H9, I9.e7.weak (by rw [I9.uz, <- IS.uz]) hw, T.xJ _ _ _ yz λb hb o q => (I9.Ys (b, o) (w0k _ (w0k _ (ya hb q)))).1, λb hb => ?_, w9⟩
         let⟨o, q, d⟩:= T.Up _ _ yz b hb;exact (I9.Ys (b, o) (w0k _ (w0k _ (ya hb q)))).2.1
       cases ok with
       | false => exact _J I8 kp (by simpa using q8)
       | true =>
         have JP := by simpa only [_N] using q8
         refine bC (he _ _ _ _ _ _ s8 lW H8 _ I8 JP) λy s9 ⟨yv, H9, I9, r9, ys, hD, hz, q9⟩ => ?_
         refine bC (JS _ s9 lW H9 (.dI s2.bj.g0.d3) [yv] (.dI s2.bj.g0.d3) [y] (λv H' => v = .aC /\ H' = ny H9 s2.bj.g0.d3 (.dS (ys ++ [yv]))) I9 rfl (.p9 r9 .ro) ⟨_, ys, yv, rfl, rfl, hD, hz, rfl, rfl⟩) λ_ X1 ⟨_, Ul, FT, _, _, Gb⟩ => ?_
         subst Gb;exact _J FT kp q9
   exact zcf (ϻ _ rfl) (T.self X.A 0 _ _ _ CH (ϻ _ rfl))
  refine _T ?_;rcases dY with dY | ⟨x0, S⟩
  . refine Ŷ dY (by intro y hy; simp at hy) (λdG d4 fe => ?_) hk
    dsimp only at d4 fe |-
    rw [wq] at d4 fe |-
    exact wV cl dG _ (QJ I2 f2 pN hk dY eL m7 hj wR nH jb d4 fe) λb u q => (fe.2 b (w0p (w1w (g6.yu q)))).lb (g6.w6 _ (g6.w6 _ q))
  . refine zdx S λdG d4 ic up => ?_
    dsimp only at d4 ic up |-
    rw [wq] at d4 ic |-
    have lk : ∀ y, y ≠ x0 -> ((x0, s2.bj.g0.d3 + 1 + 1) :: cl).hW y = cl.hW y := λy hy => by grind
    have l0 : ((x0, s2.bj.g0.d3 + 1 + 1) :: cl).hW x0 = ai (s2.bj.g0.d3 + 1 + 1) := by simp [aj.hW]
    refine wV _ dG _ (P4 (x0 := x0) I2 f2 pN hk (λy hy => ?_) (λy c e => ?_) (λy hy => ?_) (λy c e1 e2 => ?_) hj wR nH jb d4 up) λb u q => up b u (g6.w6 _ q)
    . by_cases z : y = x0
      . exact ⟨_, by rw [z]; exact l0⟩
      . let⟨c, q⟩:= m7 y (Jd (λk hk hc => by rw [S.only k hk hc]; exact Ne.symm z) hy)
        exact ⟨c, (lk y z).lb q⟩
    . by_cases z : y = x0
      . subst z
        have : c = s2.bj.g0.d3 + 1 + 1 := fy.ai.yB (e.symm.lb l0);exact .mW ⟨rfl, this, _, this ▸ ic⟩
      . exact .j9 (eL y c ((lk y z).symm.lb e))
    . have z : y ≠ x0 := λe => S.XD (e ▸ (nH y hy).1)
      let⟨c, q⟩:= m7 y (nH y hy).1;exact ⟨c, (lk y z).lb q, eL y c q⟩
    . have z : y = x0 := S.only _ (lU.ZQ e1) rfl
      subst z;have : c = s2.bj.g0.d3 + 1 + 1 := fy.ai.yB (e2.symm.lb l0);exact this ▸ w4s _
end
theorem Je{dt:MO}:∀{p6:aj (fv×Xn)}{x:fv},p6.hW x=ai .rk ->
  (p6.a7 fun(n,k)=>if(k==Xn.rk&&dt.gs.yD==.Zw&&dt.yL n==ai .ur)then(n,Xn.ur)else(n,k)).hW x=ai .ur \/
  (p6.a7 fun(n,k)=>if(k==Xn.rk&&dt.gs.yD==.Zw&&dt.yL n==ai .ur)then(n,Xn.ur)else(n,k)).hW x=ai .rk
 |[],x,h=>by cases h
 |(n,k)::r,x,h=>by
  have ih:=@Je dt r x
  grind
def b9(sc gs:zb)(N Nf:aj fv)(js:aj aT):ie:=
 gs.yD==.Zw&&gs.p6.rM (λy=>y.2 != .ur)&&gs.p6.rM (λy=>y.2 != .local||gs.p6.hW y.1==ai .local) &&
 gs.p6.rM (λy=>y.2 != .rk||sc.p6.hW y.1==ai .ur||sc.p6.hW y.1==ai .rk)&&js.aO==Nf.aO &&
 (aj.u5 js.aO).rM (λi=>match js[i]?,Nf[i]? with|ai j,ai y=>N[j]?==ai y|_,_=>true) &&
 Nf.rM (λy=>gs.p6.hW y==ai .rk&&(sc.p6.hW y==ai .ur||sc.p6.hW y==ai .rk))
def f7(sc gs:zb)(N Nf:aj fv)(js:aj aT):ie:=
 gs.yD==.Zw&&gs.p6.rM (λy=>y.2 != .local||gs.p6.hW y.1==ai .local) &&
 gs.p6.rM (λy=>y.2 != .rk||sc.p6.hW y.1==ai .ur||sc.p6.hW y.1==ai .rk)&&js.aO==Nf.aO &&
 (aj.u5 js.aO).rM (λi=>match js[i]?,Nf[i]? with|ai j,ai y=>N[j]?==ai y|_,_=>true) &&
 Nf.rM (λy=>gs.p6.hW y==ai .rk&&(sc.p6.hW y==ai .ur||sc.p6.hW y==ai .rk))
def P5{W6 xA:oP}{gs sc:zb}{g:TG}{Nl Nf N:aj fv}(hc:X.NI=true)(hi:PI X W6 xA wi)
  (dY:(∀y∈gs.p6,y.2≠.ur)\/∃x0,ji x0 gs)(ok:f7 sc gs N Nf js=true)
  (hg:∀cl C ax aE ex,PG (X.cp (Nl++Nf) gs cl C ax aE ex) W6 g)(ht:∀cl C ax aE ex,sQ (X.cp (Nl++Nf) gs cl C ax aE ex) yK tc)(he:∀cl C ax aE ex,PE (X.cp (Nl++Nf) gs cl C ax aE ex) yO te)
  (hsc:gu (X.dt.gs=sc) jJ)(hN:gu (X.N=N) jJ)(hs:∀x,Zv xA X.dt x=uV x:=by intro _;rfl):
  PE X (.YN yO [⟨W6,xA,yK,0⟩] gs ia) (i0 wi Nl.aO js g tc te):=by
 unfold f7 at ok;simp only[w0l,w1d,ZD,ϙ,w3j,w0u]at ok;obtain⟨⟨⟨⟨⟨k1,k3⟩,k4⟩,k5⟩,k6⟩,k7⟩:=ok;have yD:∀x,X.dt.yL x=sc.p6.hW x:=λx=>by rw[<- hsc];rfl
 refine z4j hc hi k1 dY (λx hx hl=>(k3 x hx).æ λz=>z hl) (λx hx hf=>?_) (λi j y e1 e2=>?_) k5 (λy hy=>?_) (λy hy=>?_) hg ht he hs
 .grind
 .grind
 .let⟨z1,z2⟩:=k7 y hy;refine⟨lU.ZQ z1,?_,?_⟩
  .rw[hsc];rcases z2 with z|z
   .exact .mW (.j9 z)
   .exact .mW (.mW z)
  grind
 .exact Je (k7 y hy).1
def EU{W6 xA:oP}{gs sc:zb}{g:TG}{Nl Nf N:aj fv}(hc:X.NI=true)(hi:PI X W6 xA wi)
  (ok:b9 sc gs N Nf js=true)
  (hg:∀cl C ax aE ex,PG (X.cp (Nl++Nf) gs cl C ax aE ex) W6 g)(ht:∀cl C ax aE ex,sQ (X.cp (Nl++Nf) gs cl C ax aE ex) yK tc)(he:∀cl C ax aE ex,PE (X.cp (Nl++Nf) gs cl C ax aE ex) yO te)
  (hsc:gu (X.dt.gs=sc) jJ)(hN:gu (X.N=N) jJ)(hs:∀x,Zv xA X.dt x=uV x:=by intro _;rfl):
  PE X (.YN yO [⟨W6,xA,yK,0⟩] gs ia) (i0 wi Nl.aO js g tc te):=by
 unfold b9 at ok;simp only[w0l]at ok;obtain⟨⟨⟨⟨⟨⟨k1,k2⟩,k3⟩,k4⟩,k5⟩,k6⟩,k7⟩:=ok;exact P5 hc hi (.j9 (by simpa using k2)) (by unfold f7;simp only[w0l];exact⟨⟨⟨⟨⟨k1,k3⟩,k4⟩,k5⟩,k6⟩,k7⟩) hg ht he hsc hN hs
abbrev TF:=fv->St->Hp->(fv->Hp->Prop)->Prop
def PF(X:Cx)(es:aj oP)(t:TF):Prop:=∀(tW:fv)(d0:aj (f'×qH))(s:oi)(σ:St)(H:Hp)(Q:fv->Hp->Prop),j3 X d0 σ H s->t tW σ H Q ->
 Joins (p5 X.jf X.w) X.A X.xe (evalEach es X.dt) tW (λuZ s'=>uZ.aO<=u0/\∃H',j3 X d0 σ H' s'/\Q uZ H') s
def y9m(hc:X.NI=true):c6 X (.wO "all") (λxs H Q=>∃p ys,xs=[.dI p]/\bI X.K H p ys/\(∀y∈ys,∃b,y=.bl b)/\Q (.bl (ys.rM λy=>decide (y=.bl true))) H):=by
 intro d0 s σ H xs us Q I r h;let⟨p,ys,rfl,hq,hb,q⟩:=h;let⟨u,rfl,rx⟩:=_k r;cases rx;let⟨av,r',pl,hz⟩:=I.xT hq;have hl:=pl.zf;have b8:p<s.bj.g0.d3:=by let⟨_,e,_⟩:=hl;exact g6.yu e
 have hh:X.A.Dh.YV=none:=I.ok.hd hc;refine call_all_walk (Ν hl ⟨s.bj.g0.d3,[s.bj.g0.d3,p],[s.bj.g0.d3],_,_,_,λi=>decide (ys[i]?=ai (.bl true)),rfl,ϕ.xT hh s.bj.g0.d3 p (w0p b8) av.lS,⟨⟨_,g6.Bt _ rfl,rfl,rfl⟩,hl.tB _⟩,?_,λh' tk kp=>?_⟩)
 .intro i v s1 Q1 E1 hv hQ;have rl:av[i]?=ai v:=by simpa using hv
  have hi:i<ys.aO:=by rw[r'.aO];exact(w0c.mp rl).1
  let⟨u,hu,ru⟩:=r'.A' (w0b hi);rw[rl]at hu;cases hu;let⟨b,eb⟩:=hb ys[i] (w1o hi);rw[eb]at ru;cases ru;refine _U ?_
  have e:decide (ys[i]?=ai (V.bl true))=b:=by
   rw[w0b hi,eb];cases b<;>simp
  rw[<- e];exact hQ
 .have e:(aj.u5 av.lS.d3).rM (λi=>decide (ys[i]?=ai (V.bl true)))=ys.rM λy=>decide (y=.bl true):=by
   rw[w1r,w1d,w1d];constructor
   .intro hA y hy;let⟨i,hi,rfl⟩:=w3d hy;have z:=hA i (by rw[w0u,w0e,<- r'.aO];exact hi);rw[w0b hi]at z
    simpa using z
   .intro hA i hi;rw[w0u,w0e,<- r'.aO]at hi;have z:=hA ys[i] (w1o hi);rw[w0b hi]
    simpa using z
  refine⟨.bl _,H,I.XE (t':=tk) λb o qU=>kp b o (λz=>?_) (g6.w6 _ qU),rfl,e ▸ q⟩
  rw[w1h]at z;exact uv (g6.yu qU) (by rw[z];exact w1z _)
namespace tU
def Bz:Ĩ (.je "list_reverseiterator") "__len__"=uV none:=by rw[ĩ,Ā];kernel_rfl
def hint:Ĩ (.je "list_reverseiterator") "__length_hint__"=uV (ai (.wO "list_reverseiterator.__length_hint__")):=by rw[ĩ,Ā];kernel_rfl
section
variable{St:aT->oi->Prop}
def zbA(W:WalksS jf w A.Dh I fp wr G n P St)(hT:∀i s,St i s->s._G (.dI I) "list_reverseiterator")(ko:St 0 s)(qe:∀b∈fp,b<s.bj.g0.d3)(hI:I∈fp)
  (hQ:∀s' tW,Ë wr G s s'->Ê P tW n->Q tW.vr s')(hn:n<=u0):oh (p5 jf w) A (ŉ (.dI I)) Q E s:=by
 have MV:s.bj.g0.d3∉fp:=λhm=>w1z _ (qe _ hm)
 have Wy:s.bj.g0.d3≠I:=λe=>MV (e ▸ hI)
 unfold ŉ;refine lT (wpAny_runValue (Ö F.entry_proto_collect ?_));rw[FZ.ī F.plain_proto_collect _];show oh _ A.Dh (newList [] >>= λl=>_J (.wO "list.__iadd__" ⟨[l,.dI I],[]⟩)) _ _ s
 refine lT (_T ?_);refine t8 ⟨Â F.zdu _,Ö F.entry_list_iadd ?_⟩;rw[FZ.ī F.zdu _];have mr:=W.π 0 s (s.bj.tB {l_:=.je "list", n9:=.ot ([]:aj eT).lS}) s.rJ ko (w0f _) λb _ o e=>g6.w6 _ e
 have Ww:(s.bj.tB {l_:=.je "list", n9:=.ot ([]:aj eT).lS}).iT s.bj.g0.d3=ai {l_:=.je "list", n9:=.ot ([]:aj eT).lS}:=g6.Bt _ rfl;have h1:uu.aj.listSameRef (.dI s.bj.g0.d3) (.dI I)=false:=by simp[uu.aj.listSameRef,Wy]
 show oh _ A.Dh (uu.aj.zcZ (.dI s.bj.g0.d3) (.dI I) (.dI s.bj.g0.d3)) _ _ _;unfold uu.aj.zcZ;refine lT (Ÿ (hT 0 _ mr) ?_);rw[sF (by rw[h1];decide)];refine lT (W.self 0 _ _ _ mr ?_);refine lT (ZJ ?_);unfold uu.aj.listLengthHint;refine lT (İ (hT 0 _ mr) Bz ?_);show oh _ A.Dh (specialOf (eT.dI I) (fv.YG "__length_hint__") >>= _) _ _ _;refine lT (İ (hT 0 _ mr) hint ?_)
 (generalize nL:("list_reverseiterator.__length_hint__":Yk)=NC;(fail_if_success (clear nL NC));wp_delta;rw[show splitId NC=ai ("list_reverseiterator", "__length_hint__")from by subst nL;decide +kernel];subst nL)
 refine lT (ŵ (b:=true) (hT 0 _ mr) (by rw[ŗ];kernel_rfl) ?_);refine t8 ?_;rw[sF (by decide)];refine t8 ⟨Â F.plain_extend_loop _,codeAny_extend_loopS W hn _ MV _ n 0 _ _ _ rfl (w1c _) mr Ww (Ê.ro P) λs' pq c' hm AO nJ=>?_⟩
 show oh _ A (load s.bj.g0.d3 >>= _) _ _ s';refine lT (wpAny_load AO ?_);exact t8 (hQ s' pq (Ë.drop_new (o:={l_:=.je "list", n9:=.ot ([]:aj eT).lS}) (tk:=s.rJ) hm (w0f _)) nJ)
end
open AutoSeq1 (wpAny_loadPart')
def y28(hh:A.YV=none)(gH:l≠I)(Zy:s.bj.ķ I l ((p7.d3:dr)-1))(hl:s.bj._p l p7)(hsz:p7.d3<=u0)
  (hQ:∀s' tW,Ë [I] (λa b=>b=a) s s'->Ê (λi v=>p7[p7.d3-1-i]?=ai v) tW p7.d3->Q tW.vr s'):oh (p5 jf w) A (ŉ (.dI I)) Q E s:=by
 have b8:∀b∈[I,l],b<s.bj.g0.d3:=λb hb=>by
  rcases w0h.mp hb with z|z
  .rw[z];let⟨_,e,_⟩:=Zy;exact g6.yu e
  .rw[w1h.mp z];let⟨_,e,_⟩:=hl;exact g6.yu e
 exact zbA (ϕ.listRev (A:=A.Dh) hh I l gH p7).toS (λ_ _ st=>st.2.1.Zh) ⟨w1c _,by simpa using Zy,hl⟩ b8 w1e hQ hsz
theorem zbM(I l)(p7)(gH:l≠I)(hsz:p7.d3<=u0):
  _q (uu.«tuple.__new__» ⟨[.je "tuple", .dI I],[]⟩)
   (λA R s=>A.YV=none/\s.bj.ķ I l ((p7.d3:dr)-1)/\s.bj._p l p7/\∀(s':oi)(tW:yw eT),Ë [I] (λa b=>b=a) s s'->Ê (λi v=>p7[p7.d3-1-i]?=ai v) tW p7.d3 ->
    R (.ok (.zW (.dI s'.bj.g0.d3))) {s' with bj:=s'.bj.tB {l_:=.je "tuple", n9:=.ot tW}}):=
 ._z λjf w A R s h=>by
  let⟨hh,Zy,hl,h⟩:=h;have rj:=sub_tuple_self;have ze9:=init_tuple_lookup;have hmh:=madeHere_tuple;have hT:s._G (.dI I) "list_reverseiterator":=Zy.Zh;have WO:A.Dh.YV=none:=hh
  wp_walk using Ÿ hT,y28 WO gH Zy hl hsz
  intro s' tW hm nJ;show oh _ _ (uu.Yi.Æ tW.vr.lS >>= λv=>zW v) _ _ _
  unfold uu.Yi.Æ;refine lT (_T ?_ (show tW.vr.lS.d3<=u0 by simp only[w4b];rw[nJ.1];exact hsz));refine t8 ⟨_,rfl,?_⟩
  simp_all
def zdv(hh:A.YV=none)(gH:l≠I)(Zy:s.bj.ķ I l ((p7.d3:dr)-1))(hl:s.bj._p l p7)(hsz:p7.d3<=u0)
  (h:∀(h':g6)(tk:aT)(tW:yw eT),(∀b o,b≠I->s.bj.iT b=ai o->h'.iT b=ai o)->Ê (λi v=>p7[p7.d3-1-i]?=ai v) tW p7.d3->Q (.dI h'.g0.d3) {s with bj:=h'.tB {l_:=.je "tuple", n9:=.ot tW},rJ:=tk}):
  oh (p5 jf w) A (yG (.je "tuple") [.dI I]) Q E s:=by
 refine Ņ F.called_tuple (by decide) (F.typeCall_tuple_1 _) (F.newCall_tuple_1 _) (λUp=>F.zb7 Up _) F.entry_tuple_new
  (zbM I l p7 gH hsz) ⟨hh,Zy,hl,λs' tW hm nJ=>⟨⟨_,g6.Bt _ rfl,rfl⟩,?_⟩⟩
 rw[Ë.eq_with hm];exact h s'.bj s'.rJ tW (λb o hb e=>hm.bj b o (λz=>hb (w1h.mp z)) e) nJ
end tU
def zd5(K:Fg)(te:TE):TE:=λσ H Q=>te σ H λx H1=>∃p ys,x=.dI p/\bI K H1 p ys/\∀l,H1 l=none->Q (.dI l) (ny H1 l (.gw ys.V3))
def y47{p1 p2 uI lI:vd}(hc:X.NI=true)(GW:X.mg "tuple"=none)(sZ:X.mg "reversed"=none)(he:PE X e te)(GH:gu (Gl X "tuple") jJ)(oI:gu (Gl X "reversed") jJ)
  (oK:gu (oj [.wu (.mU "reversed" p2) [e] [] lI] X.dt=(false,eval (.wu (.mU "reversed" p2) [e] [] lI) X.dt)::oj [] X.dt) jJ)(ja:gu (oj [e] X.dt=(false,eval e X.dt)::oj [] X.dt) jJ):
  PE X (.wu (.mU "tuple" p1) [.wu (.mU "reversed" p2) [e] [] lI] [] uI) (zd5 X.K te):=by
 intro d0 s σ H Q I h;refine Λ (rY I GH GW Ku.M4._n.«tuple» ?_ (by decide));refine Ku.M4.Ϛ ?_ oK rfl;rw[oK];show oh _ _ (Å ((false,eval (.wu (.mU "reversed" p2) [e] [] lI) X.dt)::yC uI (oj [] X.dt))) _ _ s;refine YR.ë ?_;refine Λ (rY I oI sZ Ku.M4._n.«reversed» ?_ (by decide));refine Ku.M4.Ϛ ?_ ja rfl;rw[ja];show oh _ _ (Å ((false,eval e X.dt)::yC lI (oj [] X.dt))) _ _ s;refine YR.ë (bC (he d0 s σ H _ I h) λv s1 ⟨x,H1,I1,rx,p,ys,ex,hq,q⟩=>YR.ì ?_)
 subst ex;cases rx;let⟨av,r',pl,hz⟩:=I1.xT hq;have hl:=pl.zf;have b8:p<s1.bj.g0.d3:=by let⟨_,e,_⟩:=hl;exact g6.yu e
 refine call_reversed_list hl ?_;refine YR.ì ?_;have hh:X.A.YV=none:=I1.ok.hd hc;refine tU.zdv (p7:=av.lS) hh (w0p b8) ⟨_,g6.Bt _ rfl,rfl,rfl⟩ (hl.tB _) (by simp only[w0e];rw[<- r'.aO];exact hz) λh' tk tW kp nJ=>?_
 have up:∀b o,s1.bj.iT b=ai o->h'.iT b=ai o:=λb o qU=>kp b o (w0p (g6.yu qU)) (g6.w6 _ qU)
 have I2:j3 X d0 σ H1 {s1 with bj:=h',rJ:=tk}:=I1.XE (t':=tk) up
 have ea:tW=av.V3.lS:=by
  let⟨n1,n2⟩:=nJ;apply yw.ext';apply w2j;intro i
  by_cases hi:i<av.aO
  .have qf:i<tW.d3:=by rw[n1];simpa using hi
   have z:=n2 i tW[i] (by simp[qf]);simp only[w0e,aj.getElem?_toArray]at z;rw[aj.getElem?_reverse hi,z];simp[qf]
  .rw[w3v (by simp at n1 |-;omega),w3v (by simp;omega)]
 subst ea
 have I3:j3 X d0 σ (ny H1 h'.g0.d3 (.gw ys.V3)) {s1 with bj:=h'.tB {l_:=.je "tuple", n9:=.ot av.V3.lS},rJ:=tk}:=
  I2.Mk (t':=tk) (λb o e=>g6.w6 _ e) (w0f _) (show aS X.jf X.w _ _ _ (.gw ys.V3)from⟨by rw[w4d];exact hz,av.V3,r'.V3,ZW.xM _ _,_,g6.Bt _ rfl,rfl⟩)
 exact⟨.dI h'.g0.d3,_,I3,rfl,q _ (I2.aJ.yI (w0f _))⟩
open PySem PySem.Spec PyProof.Rows
structure iF(K:Fg)(D:f'):Prop where
 ga:_u K (.dI D) "__getattribute__"=ai (ai (.wO "BaseException.__getattribute__"))
 gt:_u K (.dI D) "__getattr__"=ai none
 cl:_u K (.dI D) "__class__"=ai (ai (.wO "object.__class__"))
 zcD:Ğ K (.wO "object.__class__") "__get__"=ai (ai (.wO "getset_descriptor.__get__"))
 tk:Ů K (.wO "object.__class__")=ai true
 mo:lU.W.ϟ K D (.je "object")=ai true
 mb:lU.W.ϟ K D (.je "BaseException")=ai true
 cd:(lU.W.Ă K D).zi=true
def h_(K:Fg)(D:f'):ie:=
 _u K (.dI D) "__getattribute__"==ai (ai (.wO "BaseException.__getattribute__"))&&_u K (.dI D) "__getattr__"==ai none &&
 _u K (.dI D) "__class__"==ai (ai (.wO "object.__class__"))&&Ğ K (.wO "object.__class__") "__get__"==ai (ai (.wO "getset_descriptor.__get__")) &&
 Ů K (.wO "object.__class__")==ai true&&lU.W.ϟ K D (.je "object")==ai true&&lU.W.ϟ K D (.je "BaseException")==ai true&&(lU.W.Ă K D).zi
def iF.of{D:f'}(h:h_ K D=true):iF K D:=by
 unfold h_ at h;simp only[w0l,ZD]at h;obtain⟨⟨⟨⟨⟨⟨⟨h1,h2⟩,h3⟩,h4⟩,h5⟩,h6⟩,h7⟩,h8⟩:=h;exact⟨h1,h2,h3,h4,h5,h6,h7,h8⟩
def Ϩ(e D:f')(h:g6):Prop:=∃o vs,h.iT e=ai o/\o.l_=.dI D/\o.n9=.NJ vs
section
variable{e:f'}
open PySem.W Builtin Builtin.ObjectAttr Builtin.Getset_descriptor
def Fu(p:Ϩ e D h):_X M h (Ī (.dI e)) (.dI D):=by
 let⟨o,vs,h1,h2,h3⟩:=p;exact h2 ▸ (_X.ld h1).Ϙ .now
def y9n(X:K.In h)(C:iF K D):_X M h (find (.dI e) (.dI D) "__class__") (.qK (.wO "getset_descriptor.__get__") (.wO "object.__class__")):=by
 have L1:=ř (M:=M) X C.cl;have L2:_X M h (getOf (ai (.wO "object.__class__"))) (ai (.wO "getset_descriptor.__get__")):=looks_specialIn X C.zcD;have L3:=looks_takesIn (M:=M) X C.tk;refine L1.Ϙ (L2.Ϙ ?_);exact(show _X M h (dataDescriptor? (ai (.wO "object.__class__")) (ai (.wO "getset_descriptor.__get__"))) (ai (.wO "getset_descriptor.__get__", .wO "object.__class__"))from L3.Ϙ .now).Ϙ (_X.tag .now)
def z4k(X:K.In s.bj)(p:Ϩ e D s.bj)(hm:ϟ K D (.je "object")=ai true)
  (h:R (.ok (.zW (.dI D))) s):Za (p5 jf w) A (.yG (.wO "getset_descriptor.__get__") ⟨[.wO "object.__class__", .dI e,tp],[]⟩) R s:=by
 let⟨hh,g,zfz,t,os⟩:=s;have L0:=Fu (M:=p5 jf w) p;have L1:=looks_mroIn (M:=p5 jf w) X hm;refine zce KF.slot_gs._Q KF.entry_gs (KF.slot_gs.check _ _ _ _ _ _ _ _ KF.type_class (KF.args_gs _ _ _) ?_);unfold uu.«getset_descriptor.__get__» descrGet;rw[dga_obj];refine lT (t8 ?_);unfold descrGetter descrCheckInstance descrNameAndClass Ŗ;simp only[KF.owner_class]
 repeat lk
 refine⟨Code.quiet_builtin _ (by decide +kernel),Ö KF.entry_class ?_⟩;unfold uu.«object.__class__» shownTypeOf
 repeat lk
 exact h
def y48{M:Model}{vM:eT}{Q:Unit->oi->Prop}{g:yw Ķ}{d:Drawn}{t:aT}{os:OsState}(X:K.In h)(p:Ϩ e D h)(hm:ϟ K D (.je "BaseException")=ai true)(hq:Q () ⟨h,g,d,t,os⟩):
  oh M A (zcd "BaseException.__getattribute__" ⟨[.dI e,vM],[]⟩) Q E ⟨h,g,d,t,os⟩:=by
 have hk:builtinKind "BaseException.__getattribute__"=ai .xP:=by decide +kernel
 have zeC:splitId "BaseException.__getattribute__"=ai ("BaseException", "__getattribute__"):=by decide +kernel
 have L0:=Fu (M:=M) p;have L1:=looks_mroIn (M:=M) X hm;have LI:_X M h (Ŗ (.dI e) (.je "BaseException")) true:=L0.Ϙ L1;have ha:=lU.F.args_bexc_ga (.dI e) vM;simp only[zcd,hk,zeC];refine lT (LI.at ?_);rw[sF (by decide)];unfold Ñ at ha;split
 .rename_i sig hs;rw[hs]at ha;exact ϣ ha hq
 .exact t8 hq
def y49(X:K.In s.bj)(p:Ϩ e D s.bj)(C:iF K D)(h:Q (ai (.dI D)) {s with rJ:=s.rJ+1}):oh (p5 jf w) A (getAttr? (.dI e) "__class__") Q E s:=by
 let⟨hh,g,d,t,os⟩:=s;have L0:=Fu (M:=p5 jf w) p;have L1:=ř (M:=p5 jf w) X C.ga;have L2:=ř (M:=p5 jf w) X C.gt;have L3:=y9n (M:=p5 jf w) (e:=e) X C;unfold getAttr? getAttrBy? getAttrBy;refine lT (wpAny_mkText (lT (ñ (ZJ (lT (L0.at (lT (L1.at ?_))))))));have DM:(eT.wO "BaseException.__getattribute__"==eT.wO "object.__getattribute__")=false:=by decide +kernel
 have Bc:(onTheHeap (eT.dI D)&&eT.wO "BaseException.__getattribute__"==eT.wO "object.__getattribute__")=false:=by rw[DM];rfl
 dsimp only;rw[sF (by rw[Bc];decide)];unfold getAttrByItsOwn hookBefore;rw[mS (by rfl)];refine lT (L2.at ?_);refine lT (ñ (ZJ ?_));unfold callGetattribute;rw[sF (by decide)];unfold boundAndCalled;have f3:=lU.F.zcu.ga.qK (.dI e);refine lT (ϣ f3 ?_);refine Ϣ (zce lU.F.zcu.ga._Q F.entry_bexc_ga (y48 (K:=K) (D:=D) X p C.mb ?_));unfold uu.«object.__getattribute__»;refine lT (ϣ (a:=(eT.dI e,[eT.str (fv.YG "__class__") t])) (by rfl) ?_);dsimp only;refine lT (ϣ (a:=fv.YG "__class__") (by rfl) ?_);refine lT (L0.at (lT (L3.at ?_)));dsimp only;unfold bindTo;refine lT (ZJ (Ϣ (z4k (K:=K) (D:=D) X p C.mo ?_)));dsimp only;refine t8 ?_;dsimp only;refine ϣ (a:=eT.dI D) (by rfl) ?_;exact t8 h
theorem y9o(C:iF K D):KitX K (.dI e) (.dI D) (Ϩ e D) where
 ty:=λ_ _ _ p=>Fu p
 it:=λM h X p=>by
  have xn:=C.cd;unfold Ă at xn;split at xn
  .rename_i c' d' V4 tL ho;intro zeY Q' E' s' k q;unfold isType loadHead;exact lT (wpAny_loadPart (k _ _ (X _ _ ho)) (t8 q))
  .cases xn
 ne:=λh tp dd av n sl X Xa=>by
  refine w2i.uY λq=>?_
  have e1:D=tp:=eT.dI.yB (ZD.mp q);subst e1;have xn:=C.cd;unfold Ă at xn;split at xn
  .rename_i c' d' V4 tL ho;have z:=(X _ _ ho).symm.lb Xa;cases z
  .cases xn
 ca:=λX p k=>y49 X p C k
end
def Ad:V->eT->Prop
 |.ty n,c=>c=.je n
 |.dI a,c=>c=.dI a
 |_,_=>uH
structure sN(P:wW)(w:uG)(K:Fg)(mg:fv->fy eT)(kT:g6)(k:aT)(x:fv)(ps:aj fv)(sp:Sp):Prop where
 ex:∃f fd,eN P w K mg kT (ee P w) k f fd ps sp/\mg x=ai (.dI f)/\_x K (.dI f)=true/\ZC K fd ps []
structure zfg(P:wW)(w:uG)(K:Fg)(mg:fv->fy eT)(kT:g6)(k:aT)(x:fv)(ps:aj fv)(sp:Sp):Prop where
 ex:∃f fd,Af P w K mg kT k f fd ps sp/\mg x=ai (.dI f)/\_x K (.dI f)=true/\ZC K fd ps []
structure At(K:Fg)(mg:fv->fy eT)(x:fv)(st:Dn)(ps:aj fv):Prop where
 ex:∃f fd,Ag K x x st f fd/\mg x=ai (.dI f)/\ZC K fd ps []
section
variable{k:aT}{ps:aj fv}{sp:Sp}{t:TA}
def LX(C:sN X.jf X.w X.K X.mg X.kT k x ps sp)(hr:bA k X.A)(hx:dP (ee X.jf X.w) X EE)(ha:PA X (e::es) t)(hg:gu (Gl X x) jJ)
  (f_:gu ((x==("__debug__":fv))=false) jK)(he:gu (oj (e::es) X.dt=(false,eval e X.dt)::oj es X.dt) jJ)(dz:gu ((yC ia (oj es X.dt)).tZ (·.1)=false) jJ):
  PE X (.wu (.mU x p) (e::es) [] ia) (sD sp [] EE t):=by
 let⟨f,fd,F,m,kp,b⟩:=C.ex;exact y9k F hr hg m kp b .ro hx ha f_ he dz
end
section
variable{t:TA}{YI:vd}
theorem C8(i:aT)(hN:X.N.yr)(he:PE X e te)(hi:gu (X.N[i]?=ai x) jJ)(hx:gu (YT X.dt.gs x) jM)(hs:gu (Zb e (ai (.mU x YI)) ia.X9 X.dt=uV false) jJ)(hf:gu (X.fn x=true\/X.dt.gs.p6.hW x=ai .local) jL):
  PS X (.Zi [.mU x YI] e ia) (sC te (bJ i)):=z9g hN hi hx he hs hf
theorem uR(i:aT)(hN:X.N.yr)(hi:gu (X.N[i]?=ai x) jJ)(hx:gu (YT X.dt.gs x) jM)(hf:gu (X.fn x=true\/X.dt.gs.p6.hW x=ai .local) jL):PG X (.mU x ia) (bJ i):=z37 hN hi hx hf
theorem SV{o:oP}{to:TE}{Ym:vd}(ho:PE X o to)(ha:PA X (e::es) t)(c_:gu (Α o "append" X.dt (eval o X.dt)=eval o X.dt) jJ)
  (cx:gu (((yC ia (oj (e::es) X.dt)).rM (λx=>!x.1)&&(Β ia (Ζ [] X.dt)).rM (λx=>x.1.zi)&&decide ((e::es).aO+([]:aj Y5).aO+(if([]:aj Y5).Dl then 0 else 1)<30))=true) jJ)
  (de:gu ((Ym.Δ==ia.X9)=true) jJ)(hs:gu (oj (e::es) X.dt=(false,eval e X.dt)::oj es X.dt) jJ)(bY:gu ((yC ia (oj es X.dt)).tZ (·.1)=false) jJ):
  PE X (.wu (._a o "append" Ym) (e::es) [] ia) (OM X.K "list" oZ to t):=Md lU.F.Ē lU.F.zdK lU.F.type_list_append JS ho ha c_ cx de hs bY
end
theorem vT{p:f'}(h:H p=none)(o):ar H (ny H p o):=λb u q=>by rw[aR (gh q h)];exact q
def ar.gw(e:ar H H')(h:cH K H a xs):cH K H' a xs:=by
 rcases h with(h|⟨o,h⟩)|h
 .exact .j9 (.j9 (e _ _ h))
 .exact .j9 (.mW ⟨o,e _ _ h⟩)
 .exact .mW h
abbrev sj(o:qH):HO:=.cB o (.ke 0)
abbrev mi(o:qH)(q:fv)(c:f'):HO:=.cB o (.om #[.xv false,.str q 0,.dI c])
abbrev kX(o:qH):HO:=.cB o (.ext λ_=>ku)
abbrev Cs:=aj (f'×qH)
def dq(H:Hp)(cs:Cs):Hp:=λb=>match cs.hW b with
 |ai _=>none
 |none=>H b
def bT(H:Hp)(cs:Cs):Hp:=λb=>match cs.hW b with
 |ai o=>ai (kX o)
 |none=>H b
def yf(h:cs.hW b=ai o):dq H cs b=none:=by unfold dq;rw[h]
def mK(h:cs.hW b=none):dq H cs b=H b:=by unfold dq;rw[h]
def pO(h:cs.hW b=ai o):bT H cs b=ai (kX o):=by unfold bT;rw[h]
def iy(h:cs.hW b=none):bT H cs b=H b:=by unfold bT;rw[h]
def B4(h:H b=none):dq H cs b=none:=by unfold dq;split<;>first|rfl|exact h
def bF(H:Hp)(cs:Cs):Prop:=∀b o,cs.hW b=ai o->H b=ai (kX o)
def bF.uZ(c:bF H cs)(h:H b=none):cs.hW b=none:=by
 cases q:cs.hW b with
 |none=>rfl
 |ai o=>rw[c b o q]at h;cases h
def bF.xU(c:bF H cs)(h:H b=ai u)(n:∀o,u≠kX o):cs.hW b=none:=by
 cases q:cs.hW b with
 |none=>rfl
 |ai o=>rw[c b o q]at h;grind
def bF.c5(c:bF H cs)(h:H b=ai u)(n:∀o,u≠kX o):dq H cs b=ai u:=by rw[mK (c.xU h n)];exact h
def Me(h:dq H cs b=ai u):H b=ai u/\cs.hW b=none:=by
 unfold dq at h;split at h
 .cases h
 .rename_i q;exact⟨h,q⟩
theorem OZ(t:eg u):∀o,u≠kX o:=λo z=>by subst z;exact t
theorem dg.rm(x:dg P w H h)(c:bF H cs):dg P w (dq H cs) h:=λa u e=>by
 let⟨e1,_⟩:=Me e;exact(x a u e1).fi (λb v _ q=>q) (λb q=>c.c5 q λo z=>nomatch z) λb v t q=>c.c5 q (OZ t)
theorem dg.add(x:dg P w H h)(hc:∀b o,cs.hW b=ai o->H b=none/\h.iT b=ai o):dg P w (bT H cs) h:=λa u e=>by
 cases q:cs.hW a with
 |ai o=>
  rw[pO q]at e;cases e;exact⟨(hc a o q).2,trivial,⟨o,(hc a o q).2⟩,λ_ _ _ _=>trivial⟩
 |none=>
  rw[iy q]at e
  have uZ:∀b v,H b=ai v->bT H cs b=ai v:=λb v z=>by
   cases q2:cs.hW b with
   |ai o=>rw[(hc b o q2).1]at z;cases z
   |none=>rw[iy q2];exact z
  exact(x a u e).fi (λb v _ q=>q) (λb q=>uZ b _ q) λb v t q=>uZ b v q
def z4l(x:dg P w H h)(e:H f=ai (mi o q c)):h.iT f=ai o/\h.Ĵ (.dI c) q:=by
 let⟨h1,h2⟩:=(show h.iT f=ai o/\aS P w H h f (.om #[.xv false,.str q 0,.dI c])from x f _ e);refine⟨h1,?_⟩;rcases h2 with⟨_,_,p0,_⟩|⟨q',c',oc,ob,vs,t,_,p1,p2,h3,h4,h5,_⟩
 .cases p0
 .cases p1;cases p2;exact⟨c,oc,vs,t,rfl,(show h.iT c=ai oc/\_ from x c _ h3).1,h4,h5⟩
theorem Un.XB(u:Un fs ex (dq H cs) H' h h')(c:bF H cs):Un fs ex H (bT H' cs) h h' where
 xJ:=λb o q n hb hx=>u.xJ b o q (B4 n) hb hx
 xP:=λb o q n hb hx=>u.xP b o q (B4 n) hb hx
 rk:=λb o q n hx=>by rw[iy (c.uZ n)];exact u.rk b o q (B4 n) hx
 YZ:=u.YZ
 gq:=λb xs q=>by
  have z:=c.xU q λo z=>nomatch z
  rw[iy z];exact u.gq b xs (by rw[mK z];exact q)
 aY:=λb o v q=>by
  cases z:cs.hW b with
  |ai o'=>
   rw[pO z];rw[c b o' z]at q;exact q
  |none=>rw[iy z];exact u.aY b o v (by rw[mK z];exact q)
 fj:=λb ps q=>by
  have z:=c.xU q λo z=>nomatch z
  rw[iy z];exact u.fj b ps (by rw[mK z];exact q)
def Un.gc(u:Un fs ex (bT H cs) H' h h')(aJ:dg P w H' h')(hc:∀b o,cs.hW b=ai o->H b=none/\h.iT b=ai o):Un fs ex H (dq H' cs) h h':=by
 have ND:∀b o,cs.hW b=ai o->H' b=ai (kX o)/\h'.iT b=ai o:=λb o z=>by
  have q:=u.aY b o _ (pO z);exact⟨q,(show h'.iT b=ai o/\_ from aJ b _ q).1⟩
 refine⟨λb o q n hb hx=>?_,λb o q n hb hx=>?_,λb o q n hx=>?_,u.YZ,λb xs q=>?_,λb o v q=>?_,λb ps q=>?_⟩
 .cases z:cs.hW b with
  |ai o'=>
   have:=(hc b o' z).2;rw[q]at this;cases this;exact(ND b _ z).2
  |none=>exact u.xJ b o q (by rw[iy z];exact n) hb hx
 .cases z:cs.hW b with
  |ai o'=>
   have:=(hc b o' z).2;rw[q]at this;cases this;exact⟨o.Yb,(ND b _ z).2⟩
  |none=>exact u.xP b o q (by rw[iy z];exact n) hb hx
 .cases z:cs.hW b with
  |ai o'=>exact yf z
  |none=>rw[mK z];exact u.rk b o q (by rw[iy z];exact n) hx
 .have z:cs.hW b=none:=by
   cases z:cs.hW b with
   |ai o'=>rw[(hc b o' z).1]at q;cases q
   |none=>rfl
  rw[mK z];exact u.gq b xs (by rw[iy z];exact q)
 .have z:cs.hW b=none:=by
   cases z:cs.hW b with
   |ai o'=>rw[(hc b o' z).1]at q;cases q
   |none=>rfl
  rw[mK z];exact u.aY b o v (by rw[iy z];exact q)
 .have z:cs.hW b=none:=by
   cases z:cs.hW b with
   |ai o'=>rw[(hc b o' z).1]at q;cases q
   |none=>rfl
  rw[mK z];exact u.fj b ps (by rw[iy z];exact q)
abbrev eF(rN:fv)(gs:zb)(f:f')(cd:eT)(cl:aj (fv×f'))(s:oi):MO:=lU.W.envX rN gs s.bj.g0.d3 f cd cl
def kA(P:wW)(w:uG)(K:Fg)(mg:fv->fy eT)(kT:g6)(N:aj fv)(rN:fv)(gs:zb)(f:f')(cd:eT)(cl:aj (fv×f'))(A:FZ)(qp:aj MO)(s:oi)(H:Hp):Cx where
 jf:=P
 w:=w
 K:=K
 mg:=mg
 kT:=kT
 A:=A.Zu (eF rN gs f cd cl s)
 N:=N
 ax:=s
 aE:=H
 dt:=eF rN gs f cd cl s
 qp:=qp
 N3:=eF rN gs f cd cl s::qp
 ex:=[]
 NI:=true
 fn:=λ_=>false
 pn:=[]
 xe:=λ_ _=>uH
structure g9(ps Nf:aj fv)(sc:zb):Prop where
 yD:sc.yD=.Zw
 co:sc.Þ=false
 gen:sc.ß=false
 nd:ps.yr
 rO:∀y∈sc.p6,y.2≠.ur
 χ:∀x∈ps,sc.p6.hW x=ai .local
 fr:∀y∈Nf,sc.p6.hW y=ai .rk
structure jt(cl:aj (fv×f'))(Nf:aj fv)(sc:zb)(zs:aj V)(h:g6)(cs:Cs):Prop where
 yB:∀x y c,cl.hW x=ai c->cl.hW y=ai c->x=y
 YO:∀x,(x,Xn.rk)∈sc.p6->∃c,cl.hW x=ai c
 rM:∀x c,cl.hW x=ai c->∃o,cs.hW c=ai o
 oB:∀c o,cs.hW c=ai o->h.iT c=ai o/\∃v,o.n9=.ur v
 vI:∀(i:aT) y z,Nf[i]?=ai y->zs[i]?=ai z->∃c o u,cl.hW y=ai c/\cs.hW c=ai o/\o.n9=.ur (ai u)/\uc z u
section
variable{P:wW}{ps:aj fv}{cl:aj (fv×f')}{us:aj eT}
def y9p{v:eT}:∀{ps:aj fv}{us:aj eT}{i:aT},ps.yr->ps[i]?=ai x->us[i]?=ai v->(ps.wt us).V3.hW x=ai v:=by
 intro ps us i nd h1 h2;have hm:(x,v)∈(ps.wt us).V3:=aj.mem_reverse.uY (w0y (i:=i) (by rw[w4o];exact⟨h1,h2⟩))
 have hn:((ps.wt us).V3.a7 (·.1)).yr:=by
  rw[aj.map_reverse];show aj.Y7 (·≠·) _;rw[aj.pairwise_reverse];refine aj.Y7.uX (λh=>Ne.symm h) (show((ps.wt us).a7 (·.1)).yr from ?_)
  exact nd.sublist (by
   clear hm h1 h2
   induction ps generalizing us with
   |ro=>simp
   |p9 p ps ih=>cases us with
    |ro=>simp
    |p9 u us=>simpa using ih (us:=us) (w1m.mp nd).2)
 generalize (ps.wt us).V3=l at hm hn
 induction l with
 |ro=>cases hm
 |p9 p l ih=>
  let⟨y,z⟩:=p;rw[w3y];rcases w0h.mp hm with e|sZ
  .cases e;simp
  .have gH:(x==y)=false:=by
    rw[ÿ];rintro rfl;exact(w1m.mp hn).1 (w0r.uY ⟨(x,v),sZ,rfl⟩)
   rw[gH];exact ih sZ (w1m.mp hn).2
def z4m{dG:g6}{tk:aT}(S:g9 ps Nf gs)(C:jt cl Nf gs zs s.bj cs)(hd:A.YV=none)(e0:i3 P w K mg kT A qp s H)(hn:∀c o,cs.hW c=ai o->H c=none)
  (hl:vs.aO=ps.aO)(hz:zs.aO=Nf.aO)(r:t9 vs us)
  (ns:dG.Ns s.bj.g0.d3 (λx=>(ps.wt us).V3.hW x))(hs:g6.ZY s.bj.g0.d3 (s.bj.tB {l_:=.je "frame", n9:=.x8 #[]}) dG):
  j3 (kA P w K mg kT (ps++Nf) rN gs f cd cl A qp s H) [] (vs.a7 ai++zs.a7 ai) H {s with bj:=dG,rJ:=tk}:=by
 have hk:∀b o,s.bj.iT b=ai o->dG.iT b=ai o:=λb o e=>hs.yt b o (w0p (g6.yu e)) (g6.w6 _ e)
 have uC:∀b:f',b∉([]:aj f'):=λb z=>nomatch z
 have lG:∀x c,cl.hW x=ai c->H c=none/\∃o,s.bj.iT c=ai o/\∃v,o.n9=.ur v:=λx c e=>by
  let⟨o,q⟩:=C.rM x c e;exact⟨hn c o q,o,C.oB c o q⟩
 refine⟨⟨e0.WI,S.yD,rfl,rfl,w0f _,C.yB,λy hy=>?_,(λx c z=>nomatch z),λ_=>hd,FZ.zcy e0.Yc,.mW ⟨rfl,rfl⟩,λb z=>uv z (uC b),e0.bs,e0.m4,λb _ _=>uC b,λb z=>uv z (uC b),e0.eX,e0.oG,e0.ZA⟩,
  rfl,e0.M_,Un.XE hk,⟨_,ns,λi y v h1 h2 h3=>?_⟩,λy c h=>?_,e0.aJ.yI (w0f _),λy c h=>(lG y c h).1,λp hp=>uv (show p∈([]:aj (f'×qH))from hp) (by simp),e0.aJ.XE hk,?_⟩
 .have hy:gs.p6.hW y=ai .ur\/gs.p6.hW y=ai .rk:=hy;rcases hy with hy|hy
  .exact uv rfl (S.rO _ (lU.ZQ hy))
  .exact C.YO y (lU.ZQ hy)
 .have h1:(ps++Nf)[i]?=ai y:=h1
  by_cases hi:i<ps.aO
  .rw[w2h (by simpa [hl]using hi),w0t]at h2;rw[w2h hi]at h1
   have ha:vs[i]?=ai v:=by
    cases e:vs[i]? with
    |none=>rw[e]at h2;cases h2
    |ai a=>rw[e]at h2;cases (h2);rfl
   let⟨u,hu,rv⟩:=r.A' ha;exact⟨u,rv,.j9 ⟨S.χ y (w0y h1),y9p S.nd h1 hu⟩⟩
  .have qf:ps.aO<=i:=w3r.mp hi;rw[w1u (by simpa [hl]using qf),w0t,w0a,hl]at h2;rw[w1u qf]at h1
   have ha:zs[i-ps.aO]?=ai v:=by
    cases e:zs[i-ps.aO]? with
    |none=>rw[e]at h2;cases h2
    |ai a=>rw[e]at h2;cases (h2);rfl
   let⟨c,o,u,e1,e2,e3,e4⟩:=C.vI _ _ _ h1 ha;exact⟨u,e4,.mW ⟨.mW (S.fr y (w0y h1)),c,e1,o,hk _ _ (C.oB c o e2).1,e3⟩⟩
 .let⟨_,o,q,v,d⟩:=lG y c h;exact⟨v,o,hk _ _ q,d⟩
 .show _=(ps++Nf).aO;simp[hl,hz]
def z4n
  (hr:bA (k+1) A)(e0:i3 P w K mg kT A qp s H)(hf:H f=ai (mi (Zz name rN ua t6 gs cl pm c' eJ) rN c'))
  (S:g9 ps Nf gs)(CI:bF H cs)(C:jt cl Nf gs zs s.bj cs)(mn:γ (à name rN ua t6 gs cl pm (.dI c') eJ) ⟨us,[]⟩=uV (ps.wt us))
  (hl:vs.aO=ps.aO)(hz:zs.aO=Nf.aO)(r:t9 vs us)
  (hb:PE (kA P w K mg kT (ps++Nf) rN gs f (.dI c') cl A qp s (dq H cs)) t6 t)(hq:t (vs.a7 ai++zs.a7 ai) (dq H cs) λv H'=>(∀b o,cs.hW b=ai o->H' b=none)->Q v (bT H' cs)):
  Za (p5 P w) A (.yG (.dI f) ⟨us,[]⟩) (CR CX qp P w H s Q E) s:=by
 have lim:s.bj.Ì:=e0.WI.á.YE λb o e=>(e0.bs b o e).1
 let⟨DC,eK⟩:=z4l e0.aJ hf
 have e1:i3 P w K mg kT A qp s (dq H cs):=⟨e0.Yc,e0.WI,λb o q=>⟨(e0.bs b o q).1,B4 (e0.bs b o q).2⟩,e0.m4,e0.eX,λb hb=>B4 (e0.oG b hb),e0.aJ.rm CI,e0.M_,λa q P m=>by
  let⟨ps,e,p⟩:=e0.ZA a q P m;exact⟨ps,CI.c5 e (λo z=>nomatch z),p⟩⟩
 refine lU.W.kla_callFunE hr.w8 DC rfl S.co S.gen rfl eK ?_;rw[mn];refine t8 (Ŷ S.rO (λy hy=>S.χ y.1 (w3h hy).1) (λdG m8 Np=>⟨lim.yI _ Np,?_⟩) S.yD)
 show Za _ _ (.expr t6 (eF rN gs f (.dI c') cl s)) _ _;have I:=z4m (tk:=s.rJ+(ps.wt us).aO) (rN:=rN) (f:=f) (cd:=.dI c') S C hr.hd e1 (λc o q=>yf q) hl hz r m8 Np
 refine lU.W.kla_codeExpr (YQ (hb [] _ _ _ _ I hq) (λu s' i_=>?_) λe s' z=>uH.nU z)
 let⟨v,H',J,rv,q⟩:=i_;have un:Un (fu qp) [] (dq H cs) H' s.bj s'.bj:=J.kT;refine⟨v,bT H' cs,J.os,J.M_,un.XB CI,J.aJ.add λb o z=>?_,rv,q λb o z=>un.rk b o (C.oB b o z).1 (yf z) (by simp)⟩
 have nf:b∉fu qp:=λhb=>by
  have:=e0.oG b hb;rw[CI b o z]at this;cases this
 have g:=(C.oB b o z).1;exact⟨un.rk b o g (yf z) (by simp),un.xJ b o g (yf z) nf (by simp)⟩
end
def sP(P:wW)(w:uG)(K:Fg)(mg:fv->fy eT)(kT:g6)(CX:m_)(k:aT)(sp:V->aj V->Hp->VK->XK->Prop):Prop:=∀(x:V)(vs:aj V)(H:Hp)(Q:VK)(E:XK),sp x vs H Q E ->
 ∃f oc od fd sl u,x=.dI f/\H f=ai (.cB ⟨oc,od,.Zf fd,sl⟩ u)/\∀(A:FZ)(qp:aj MO)(s:oi)(us:aj eT),bA k A->i3 P w K mg kT A qp s H->t9 vs us ->
  Za (p5 P w) A (.yG (.dI f) ⟨us,[]⟩) (CR CX qp P w H s Q E) s
def FV(H:Hp)(x:V):Prop:=∃f oc od fd sl u,x=.dI f/\H f=ai (.cB ⟨oc,od,.Zf fd,sl⟩ u)
def zeE(sp:V->aj V->Hp->VK->XK->Prop)(EE:L2.St->XK)(tv:TE)(t:TA):TE:=λσ H Q=>tv σ H λx H1=>FV H1 x/\t σ H1 λvs H2=>sp x vs H2 Q (EE σ)
section
variable{CX:m_}{k:aT}{sp:V->aj V->Hp->VK->XK->Prop}{tv:TE}{t:TA}
def y9q(F:sP X.jf X.w X.K X.mg X.kT CX k sp)(hr:bA k X.A)(hv:PE X (.mU x p) tv)(hx:dP CX X EE)(ha:PA X (e::es) t)
  (he:gu (oj (e::es) X.dt=(false,eval e X.dt)::oj es X.dt) jJ)(dz:gu ((yC ia (oj es X.dt)).tZ (·.1)=false) jJ):
  PE X (.wu (.mU x p) (e::es) [] ia) (zeE sp EE tv t):=by
 intro d0 s σ H Q I h;refine Λ (bC (hv d0 s σ H _ I h) λu s1 ⟨y,H1,I1,ry,⟨f,oc,od,fd,sl,zfH,ey,ef⟩,q⟩=>?_)
 subst ey;obtain rfl:u=eT.dI f:=ry;refine lU.W.callWith_F ⟨oc,od,fd,sl,(show s1.bj.iT f=ai _/\_ from I1.aJ f _ ef).1⟩ (bC (ha ia d0 s1 σ H1 _ I1 q) λus s2 ⟨vs,H2,I2,r,q2⟩=>?_) he dz
 let⟨zcv,XF,XG,Wg,tL,u',MN,V9,ll⟩:=F _ _ _ _ _ q2;cases MN;refine⟨⟨XF,XG,Wg,tL,(show s2.bj.iT f=ai _/\_ from I2.aJ f _ V9).1⟩,Ϣ (Γ (ll X.A X.N3 s2 us hr I2.qP r) λr s' hq=>?_)⟩
 cases r with
 |_t e=>exact hx d0 σ H2 s2 e s' I2 hq
 |ok fl=>
  cases fl with
  |zW u=>exact I2.ϗ hq
  |next=>exact uH.nU hq
  |ZL=>exact uH.nU hq
  |ZN=>exact uH.nU hq
end
def y3a{YI:vd}{a b:dr}{c cv:eT}(l:aj eT)(h:ļ l)(z:Ϯ YI (l++[_i a,_i b,c])=ai cv):Ϯ YI l=ai cv\/cv=c:=by
 fun_induction ļ l with
 |case1=>
  simp only[w3k,Ϯ,_i]at z;split at z
  .cases z;exact .mW rfl
  .cases z
 |case2 x t y u v wV ih=>
  simp only[aj.cons_append,Ϯ]at z |-
  split at z
  .rename_i hc;rw[mS hc];exact .j9 z
  .rename_i hc;rw[sF hc];exact ih h z
 |case3=>exact h.nU
def _l(h:g6)(mg:fv->fy eT):Prop:=∃bm ob,mg "__builtins__"=ai (.dI bm)/\bm≠ϭ/\h.iT bm=ai ob/\ob.l_=.je "module" /\ ob.x8=ai ϭ/\ob.n9=._Q
def ox(X:Cx)(ua:Z_)(t6:oP)(gs:zb)(a9:aj (fv×f'))(f:f')(H H':Hp):Prop:=ā gs X.dt=uV a9/\∃(H1:Hp)(pm eJ:eT)(c':f'),(H1=H\/∃c oc,H c=none/\H1=ny H c (sj oc))/\H1 f=none /\
 H'=ny H1 f (mi (Zz "<lambda>" (X.dt.rN++"<lambda>") ua t6 gs a9 pm c' eJ) (X.dt.rN++"<lambda>") c')
def CS(X:Cx)(ua:Z_)(t6:oP)(gs:zb):TE:=λ_ H Q=>∀f a9 H',ox X ua t6 gs a9 f H H'->Q (.dI f) H'
structure ϐ(X:Cx):Prop where
 ex:∃c P a,X.dt.θ=.dI c/\Ø X.K c P=true/\(a,ip P (X.dt.rN++"<lambda>"))∈X.K
 bm:_l X.kT X.mg
def SW(M:ϐ X)(k_:Ù ua X.dt=([],[]))(bX:∀x∈gs.p6,x.2=.rk->X.dt.yL x.1=ai .ur\/X.dt.yL x.1=ai .rk):
  PE X (.Y6 ua t6 gs d6) (CS X ua t6 gs):=by
 intro d0 s σ H Q I h;let⟨a9,eY,_,_⟩:=BU (gs:=gs) (dt:=X.dt) λx hx hf=>I.ok.YO x.1 (bX x hx hf)
 let⟨c,P,a,vw,qb,A7⟩:=M.ex;have M9:=lU.W.codeHd_of_K I.WI.vG qb;let⟨ps,hP,p0,p1⟩:=I.ok.ZA a _ P A7;let⟨ZR,eP⟩:=I.kT.fj P ps hP
 have q0:(ps++ZR)[0]?=ai (.xv true):=by
  rw[w1t (by let⟨z,_⟩:=w2c.mp p0;exact z)];exact p0
 have q1:(ps++ZR)[1]?=ai (.str (X.dt.rN++"<lambda>") 0):=by
  rw[w1t (by let⟨z,_⟩:=w2c.mp p1;exact z)];exact p1
 have zdg:aS X.jf X.w H s.bj P (.om (ps++ZR)):=I.aJ P _ eP;rcases zdg with⟨q,qs,r0,r1,g1,tr,cd⟩|⟨_,_,_,_,_,_,r0,_⟩
 case mW=>rw[q0]at r0;cases r0
 rw[q1]at r1;cases r1;have nP:∀b,H b=none->b≠P:=λb n z=>by rw[z,eP]at n;cases n
 have WN:Yd≠P:=by
  let⟨o,es,ep,e,_⟩:=I.WI.Zx;exact nP _ (I.bs _ o e).2
 have hB:s.bj.BuiltinsAt X.mg P:=by
  let⟨bm,ob,b1,b2,b3,b4,b5,b6⟩:=M.bm;refine⟨bm,ob,b1,b2,λz=>?_,nP _ (I.bs bm ob b3).2,(I.bs bm ob b3).1,b4,b5,b6⟩
  let⟨o,es,ep,e,d,_⟩:=I.WI.Zx;rw[z,e]at b3;cases b3;rw[d]at b6;cases b6
 have m8:=I.WI.Zx.YE I.bk;refine lU.W.kla_eval k_ ?_;cases hc:Ϯ d6 qs.vr with
 |ai cv=>
  let⟨c',oc,vs,t,rfl,k1,k2,k3⟩:=cd d6 cv hc;refine lU.W.kla_makeFunctionHit (mg:=X.mg) eY I.ok.Zx m8 vw (M9.YE I.bk) g1 tr hc hB λeJ h' tk hk hsz=>?_
  have fr:H h'.g0.d3=none:=I.aJ.yI hsz;refine⟨.dI h'.g0.d3,_,I.Mk (t':=tk) (λb u e=>g6.w6 _ (hk b u e)) hsz ?_,rfl,h _ a9 _ ⟨eY,H,(X.mg "__name__").jd .none,eJ,c',.j9 rfl,fr,rfl⟩⟩
  exact⟨g6.Bt _ rfl,.mW ⟨_,c',oc,_,vs,t,rfl,rfl,rfl,by rw[aR (gh k1 fr)];exact k1,k2,k3,g6.Bt _ rfl⟩⟩
 |none=>
  refine lU.W.kla_makeFunction (mg:=X.mg) eY I.ok.Zx m8 vw (M9.YE I.bk) g1 tr hc WN hB λc' eJ h' tk hx M7 b8 Hh Nq=>?_
  let⟨c2,oc,vs,t,ec,uj,hd,hv⟩:=Hh;cases ec;have fc:H c'=none:=I.aJ.yI M7;have gH:∀b u,H b=ai u->b≠c':=λb u z=>gh z fc
  have kp:∀b o,H b=none->s.bj.iT b=ai o->h'.iT b=ai o:=λb o n e=>hx b o (nP b n) e
  have G_:dg X.jf X.w (ny H c' (sj oc)) h':=λa u e=>by
   by_cases ha:a=c'
   .subst ha;rw[bQ]at e;cases e;exact⟨uj,oc,uj⟩
   .rw[aR ha]at e
    by_cases MW:a=P
    .subst MW;rw[eP]at e;cases e;refine .j9 ⟨_,_,q0,q1,Nq,?_,λia cv z=>?_⟩
     .rw[w5o];exact TriplesOk_snoc _ _ _ _ tr
     .rw[w5o]at z;rcases y3a _ tr z with z|z
      .let⟨d,od,zea,td,k0,k1,k2,k3⟩:=cd ia cv z;exact⟨d,od,zea,td,k0,by rw[aR (gH d _ k1)];exact k1,k2,k3⟩
      .exact⟨c',oc,vs,t,z,bQ,hd,hv⟩
    .refine(I.aJ a u e).fi (λb v hb q=>hx b v ?_ q) (λb q=>by rw[aR (gH b _ q)];exact q) λb v _ q=>by rw[aR (gH b _ q)];exact q
     rcases hb with rfl|hb
     .exact MW
     .rintro rfl;rw[eP]at hb;cases hb
  have un:Un X.fs [] H (ny H c' (sj oc)) s.bj h':=by
   refine⟨λb o q n _ _=>kp b o n q,λb o q n _ _=>⟨o.Yb,kp b o n q⟩,λb o q n _=>?_,λb o q _=>?_,λb xs q=>by rw[aR (gH b _ q)];exact q,λb o u q=>by rw[aR (gH b _ q)];exact q,λb qs q=>⟨#[],by rw[aR (gH b _ q),q];simp⟩⟩
   .rw[aR (w0p (w1f (g6.yu q) M7))];exact n
   .by_cases hb:b=P
    .subst hb;exact⟨_,Nq⟩
    .exact⟨o,hx b o hb q⟩
  have I1:j3 X d0 σ (ny H c' (sj oc)) {s with bj:=h',rJ:=tk}:=I.un un G_;have f1:ny H c' (sj oc) h'.g0.d3=none:=I1.aJ.yI (w0f _);refine⟨.dI h'.g0.d3,_,I1.Mk (t':=tk) (λb u e=>g6.w6 _ e) (w0f _) ?_,rfl,h _ a9 _ ⟨eY,_,(X.mg "__name__").jd .none,eJ,c',.mW ⟨c',oc,fc,rfl⟩,f1,rfl⟩⟩
  exact⟨g6.Bt _ rfl,.mW ⟨_,c',oc,_,vs,t,rfl,rfl,rfl,by rw[aR (gh bQ f1)];exact bQ,hd,hv,g6.Bt _ rfl⟩⟩
theorem O0{α:Type}{k:f'}{v:α}:∀{l:aj (f'×α)},(k,v)∈l->∃v',l.hW k=ai v'
 |[],h=>nomatch h
 |(a,b)::l,h=>by
  rw[w3y]
  by_cases e:(k==a)=true
  .rw[e];exact⟨b,rfl⟩
  .rw[w2i.uY e];rcases w0h.mp h with z|z
   .cases z;simp at e
   .exact O0 z
def dQ(a9:aj (fv×f'))(h:g6):Cs:=(a9.a7 (·.1)).Ϝ λx=>(a9.hW x).qK λc=>(h.iT c).a7 λo=>(c,o)
def Jt(e:(dQ a9 h).hW c=ai o):∃x,a9.hW x=ai c/\h.iT c=ai o:=by
 let⟨x,_,hx⟩:=w2r.mp (lU.W.mem_of_lookupK e)
 grind [fy.bind_eq_some_iff,fy.map_eq_some_iff]
def EC(e:a9.hW x=ai c)(g:h.iT c=ai o):(dQ a9 h).hW c=ai o:=by
 have hm:(c,o)∈dQ a9 h:=w2r.uY ⟨x,w0r.uY ⟨(x,c),lU.ZQ e,rfl⟩,by grind⟩;let⟨o',e'⟩:=O0 hm
 grind [Jt]
structure kR(a9:aj (fv×f'))(Nf:aj fv)(gs:zb)(js:aj aT)(σ:St)(H:Hp)(cs:Cs):Prop where
 yB:∀x y c,a9.hW x=ai c->a9.hW y=ai c->x=y
 YO:∀x,(x,Xn.rk)∈gs.p6->∃c,a9.hW x=ai c
 rM:∀x c,a9.hW x=ai c->∃o,cs.hW c=ai o
 oB:∀c o,cs.hW c=ai o->H c=none/\∃v,o.n9=.ur v
 vI:∀(i:aT) y j z,Nf[i]?=ai y->js[i]?=ai j->σ[j]?=ai (ai z)->∃c o u,a9.hW y=ai c/\cs.hW c=ai o/\o.n9=.ur (ai u)/\uc z u
def x9y{e:eT}(hc:∀b o,cs.hW b=ai o->H b=none/\s.bj.iT b=ai o)
  (x:ee P w qp (bT H cs) s (λc o H'=>E c o (dq H' cs)) e s'):ee P w qp H s E e s':=by
 let⟨e,l_,H',B,rfl,qg,hg,un,aJ,gF,hE⟩:=x;have CI:bF H' cs:=λb o z=>un.aY b o _ (pO z)
 refine⟨e,l_,dq H' cs,B,rfl,qg,hg,un.gc aJ hc,aJ.rm CI,⟨gF.fl,λb o q n nb=>?_,λb u o q z=>gF.oo b u o (Me q).1 z,gF.rM,gF.xM⟩,hE⟩
 cases z:cs.hW b with
 |ai o'=>
  have:=(hc b o' z).2;rw[q]at this;cases this;exact gF.oo b _ o (CI b o z) ((show s'.bj.iT b=ai o/\_ from aJ b _ (CI b o z)).1)
 |none=>exact gF.yF b o q (by rw[iy z];exact n) nb
def jZ(h:(uV a:_F α)=uV b):a=b:=by
 first
  |exact lU._F.jZ h
  |(injection h)
  |(cases h;rfl)
section
variable{k:aT}{ps:aj fv}{sp:Sp}
def z4o(F:eN X.jf X.w X.K X.mg X.kT (ee X.jf X.w) k f fd ps sp)(hr:bA k X.A)(hb:ZC X.K fd ps [])(hx:dP (ee X.jf X.w) X EE)
  (I:j3 X d0 σ H s)(hc:∀b o,cs.hW b=ai o->H b=none/\s.bj.iT b=ai o)(hv:∀b o,cs.hW b=ai o->b∉fu X.N3)(hn:∀b o,cs.hW b=ai o->X.kT.iT b=none)(r:t9 vs us)
  (h:sp vs (bT H cs) (λv H'=>Q v (dq H' cs)) λc o H'=>EE σ c o (dq H' cs)):oh (p5 X.jf X.w) X.A (yG (.dI f) us) (EP X d0 σ Q) X.xe s:=by
 have hl:us.aO=ps.aO:=by rw[<- r.aO];exact F.uz _ _ _ _ h
 have e0:=I.qP
 have uZ:∀b,H b=none->(∀o,cs.hW b≠ai o)->bT H cs b=none:=λb n z=>by
  cases q:cs.hW b with
  |ai o=>exact uv q (z o)
  |none=>rw[iy q];exact n
 have e1:i3 X.jf X.w X.K X.mg X.kT X.A X.N3 s (bT H cs):=by
  refine⟨e0.Yc,e0.WI,λb o q=>⟨(e0.bs b o q).1,uZ b (e0.bs b o q).2 λo' z=>?_⟩,e0.m4,e0.eX,λb hb=>uZ b (e0.oG b hb) λo z=>?_,e0.aJ.add hc,e0.M_,λa q P m=>?_⟩
  .grind
  .exact hv b o z hb
  .let⟨ps,e,p⟩:=e0.ZA a q P m;refine⟨ps,?_,p⟩;cases z:cs.hW P with
   |ai o=>grind
   |none=>rw[iy z];exact e
 have yY:=hb s us I.kJ (by grind);rw[w1q]at yY;refine Ϣ (Γ (F.ll X.A X.N3 s (bT H cs) ⟨us,[]⟩ us vs _ _ hr e1 yY r h) λr s' hq=>?_)
 cases r with
 |_t e=>exact hx d0 σ H s e s' I (x9y hc hq)
 |ok fl=>
  cases fl with
  |zW u=>
   let⟨v,H',os,M_,un,aJ,rv,q⟩:=hq;have CI:bF H' cs:=λb o z=>un.aY b o _ (pO z)
   exact I.ϗ ⟨v,dq H' cs,os,M_,un.gc aJ hc,aJ.rm CI,rv,q⟩
  |next=>exact uH.nU hq
  |ZL=>exact uH.nU hq
  |ZN=>exact uH.nU hq
def Ai(sp:Sp)(X:Cx)(gs:zb)(Nf:aj fv)(js:aj aT)(E:XK)(σ:St)(Q:VK)(vs:aj V)(H2:Hp):Prop:=∃a9,ā gs X.dt=uV a9/\∀cs,kR a9 Nf gs js σ H2 cs ->
 sp vs (bT H2 cs) (λv H'=>Q v (dq H' cs)) λc o H'=>E c o (dq H' cs)
def zdC(sp:Sp)(X:Cx)(ua:Z_)(t6:oP)(gs:zb)(Nf:aj fv)(js:aj aT)(EE:L2.St->XK)(te:TE):TE:=λσ H Q=>te σ H λv1 H1=>∀f a9 H2,ox X ua t6 gs a9 f H1 H2->Ai sp X gs Nf js (EE σ) σ Q [v1,.dI f] H2
def y3b{ua:Z_}{t6:oP}{gs:zb}{d6:vd}{Nf:aj fv}(F:eN X.jf X.w X.K X.mg X.kT (ee X.jf X.w) k f fd ps sp)(hr:bA k X.A)(hg:Gl X x)(hm:X.mg x=ai (.dI f))(hk:_x X.K (.dI f)=true)
  (hb:ZC X.K fd ps [])(hx:dP (ee X.jf X.w) X EE)(M:ϐ X)(qW:∀y,X.fn y=true)(he:PE X e te)(k_:Ù ua X.dt=([],[]))
  (bX:∀x∈gs.p6,x.2=.rk->X.dt.yL x.1=ai .ur\/X.dt.yL x.1=ai .rk)
  (nH:∀(i j:aT) y,Nf[i]?=ai y->js[i]?=ai j->X.N[j]?=ai y/\(y,Xn.rk)∈gs.p6/\kg X.dt.gs y/\X.dt.yL y≠ai .local)
  (f_:gu ((x==("__debug__":fv))=false) jK)(ko:gu (oj [e,.Y6 ua t6 gs d6] X.dt=(false,eval e X.dt)::oj [.Y6 ua t6 gs d6] X.dt) jJ)
  (xw:gu (oj [.Y6 ua t6 gs d6] X.dt=(false,eval (.Y6 ua t6 gs d6) X.dt)::oj [] X.dt) jJ)(dz:gu ((yC ia (oj [.Y6 ua t6 gs d6] X.dt)).tZ (·.1)=false) jJ):
  PE X (.wu (.mU x p) [e,.Y6 ua t6 gs d6] [] ia) (zdC sp X ua t6 gs Nf js EE te):=by
 intro d0 s σ H Q I h;have ha:PA X [e,.Y6 ua t6 gs d6] (sE te (sE (CS X ua t6 gs) CV)):=tH he (tH (SW M k_ bX) ye xw) ko;refine Λ (zO I hg hm ?_ f_);refine lU.W.callWith_K (h₀:=X.kT) I.ok.WI.vG hk (bC (ha ia d0 s σ H (Ai sp X gs Nf js (EE σ) σ Q) I h) λus s1 ⟨vs,H2,I2,r,a9,eY,q⟩=>⟨I2.kJ,?_⟩) ko dz
 let⟨eR,nK,eL,m7⟩:=BU (gs:=gs) (dt:=X.dt) λx hx hf=>I.ok.YO x.1 (bX x hx hf)
 obtain rfl:eR=a9:=jZ (nK.symm.lb eY)
 have Ya:∀b o,(dQ eR s1.bj).hW b=ai o->∃x,X.dt.XB.hW x=ai b/\s1.bj.iT b=ai o:=λb o z=>by
  let⟨x,h1,h2⟩:=Jt z;exact⟨x,eL x b h1,h2⟩
 have kG:∀b o,(dQ eR s1.bj).hW b=ai o->H2 b=none/\s1.bj.iT b=ai o:=λb o z=>by
  let⟨x,h1,h2⟩:=Ya b o z;exact⟨I2.dy x b h1,h2⟩
 have sU:∀b o,(dQ eR s1.bj).hW b=ai o->X.ax.bj.g0.d3<=b:=λb o z=>by
  let⟨x,h1,h2⟩:=Ya b o z;exact I2.ok.vi x b (qW x) h1
 refine z4o (cs:=dQ eR s1.bj) F hr hb hx I2 kG (λb o z hb=>?_) (λb o z=>g6.œ (w0q I2.ok.m4 (sU b o z))) r (q _ ⟨λx y c e1 e2=>I2.ok.yB x y c (eL x c e1) (eL y c e2),m7,λx c e=>?_,λc o e=>⟨(kG c o e).1,?_⟩,λi y j z e1 e2 e3=>?_⟩)
 .rcases w0h.mp (I2.j8 b hb)with e|AR
  .let⟨x,h1,_⟩:=Ya b o z;exact I2.t5 x b h1 e
  .let⟨_,o',q',_⟩:=I2.ok.eX.Xt AR
   exact uv (g6.yu q') (w3r.uY (sU b o z))
 .let⟨v,o,g,_⟩:=I2.ur x c (eL x c e);exact⟨o,EC e g⟩
 .let⟨x,h1,h2⟩:=Ya c o e;let⟨v,o',g,d⟩:=I2.ur x c h1;rw[h2]at g;cases g;exact⟨v,d⟩
 .let⟨n1,n2,n3,n4⟩:=nH i j y e1 e2;let⟨m,hm,hl⟩:=I2.YF;let⟨u,ru,l⟩:=hl j y z n1 e3 n3;rcases l with⟨k1,_⟩|⟨k1,c,ec,o,g,d⟩
  .exact uv k1 n4
  .let⟨c',t_⟩:=m7 y n2;have e4:=eL y c' t_;rw[ec]at e4;cases e4;exact⟨c,o,u,t_,EC t_ g,d,ru⟩
end
set_option maxHeartbeats 1000000
def Sh.HA:Sh->ie
 |.YW .a6=>true
 |_=>false
def Sh.tw:Sh->ie
 |.a6=>true
 |.str=>true
 |_=>false
end L2
namespace D
open PySem L2
variable{a:f'}{G H:Hp}{EE:L2.St->XK}{es:aj oP}{vs:aj V}{i:aT}{ia YI:vd}{K:Fg}{σ:St}{x:fv}
abbrev Sv:=dr ⊕ ie
inductive Dd where
 |k (kvs:aj (Xx×Sv))
structure Lm where
 rN:fv
 ua:Z_
 t6:oP
 gs:zb
 nf:aj fv
set_option genInjectivity true in
inductive W where
 |aC|bl (b:ie)|a6 (i:dr)|str (x:fv)|gw (xs:aj W)|dS (xs:aj W)|Yq (c:eT)|aZ (kvs:Dd)|dw (fz:ie) (sh:Sh) (ks:aj Kx) (ws:aj W)|fn (i:aT) (l:Lm) (ws:aj W)
variable{ws:aj W}{w:W}
inductive SK where
 |fz (w:W)
inductive S where
 |no|fr (w:W)|ke (io:fy aT) (ws:aj W)|aZ (kvs:Dd)|gP (us ws vs:aj W)|dw (sh:Sh) (ks:aj Kx) (ws:aj W)|x (k:SK)
def SK._Q:SK->fy W
 |_=>none
def SK.Ya:SK->fy W
 |_=>none
def sV:Sv->V
 |.j9 i=>.a6 i
 |.mW b=>.bl b
def xG{κ:Type}(kvs:aj (κ×Sv)):aj (κ×V):=kvs.a7 λp=>(p.1,sV p.2)
def dO:Dd->HO
 |.k kvs=>.dK (xG kvs)
def Bf:HO->ie
 |.dK _=>true
 |_=>false
theorem pQ(h:Bf u=false):dO d≠u:=λz=>by
 subst z;cases d<;>cases h
def c7(G:Hp):aj Kx->aj f'->Prop
 |[],[]=>ku
 |k::ks,b::bs=>cF G k (.dI b)/\c7 G ks bs
 |[],_::_=>uH
 |_::_,[]=>uH
theorem c7.mV(e:ar G G'):∀{ks:aj Kx}{bs:aj f'},c7 G ks bs->c7 G' ks bs
 |[],[],_=>trivial
 |k::ks,b::bs,h=>⟨cF.YE (λ_ _ _ z=>e _ _ z) k h.1,c7.mV e h.2⟩
 |[],_::_,h=>h.nU
 |_::_,[],h=>h.nU
def NH:Kx->Xx
 |.a6 i=>.j9 i
 |.str x=>.mW x
 |_=>.j9 0
def HE:Sh->Kx->Prop
 |.a6,k=>∃i,k=.a6 i
 |.str,k=>∃x,k=.str x
 |_,_=>uH
def oD(sh:Sh)(kvs:aj (Kx×V))(bD:aj f'):HO:=if sh.tw=true then .dK (kvs.a7 λp=>(NH p.1,p.2))else .dT sh kvs bD
def Hz:HO->ie
 |.dK _=>true
 |.dT _ _ _=>true
 |_=>false
theorem tJ(h:Hz u=false):oD sh kvs bD≠u:=λz=>by
 subst z;unfold oD at h;split at h<;>cases h
theorem zX(h:sh.tw=false):oD sh kvs bD=.dT sh kvs bD:=sF (by grind)
def cA(sh:Sh)(G:Hp)(ks:aj Kx)(bD:aj f'):Prop:=if sh.tw=true then ∀k∈ks,HE sh k else c7 G ks bD
def cA.mV(e:ar G G')(h:cA sh G ks bs):cA sh G' ks bs:=by
 unfold cA at h |-
 split at h
 .grind
 .rename_i hi;rw[sF hi];exact h.mV e
def cA.g(h:cA sh G ks bs)(hi:sh.tw=false):c7 G ks bs:=by
 simp_all [cA]
def cA.of(h:c7 G ks bs)(hi:sh.tw=false):cA sh G ks bs:=by
 simp_all [cA]
def tQ(fz:ie)(G:Hp)(a:f')(sh:Sh)(kvs:aj (Kx×V))(bD:aj f'):Prop:=if fz=true then ∃o,G a=ai (.cB o (oD sh kvs bD))else G a=ai (oD sh kvs bD)
def tQ.ex(h:tQ fz G a sh kvs bD):∃o,G a=ai o:=by
 grind [tQ]
def tQ.mV(e:ar G G')(h:tQ fz G a sh kvs bD):tQ fz G' a sh kvs bD:=by
 cases fz with
 |true=>let⟨o,h⟩:=h;exact⟨o,e _ _ h⟩
 |false=>exact e _ _ h
structure fW(G:Hp)(cl:aj (fv×f'))(l:Lm)(zs:aj V)(cs:Cs):Prop where
 yB:∀x y c,cl.hW x=ai c->cl.hW y=ai c->x=y
 YO:∀x,(x,Xn.rk)∈l.gs.p6->∃c,cl.hW x=ai c
 rM:∀x c,cl.hW x=ai c->∃o,cs.hW c=ai o
 oB:∀c o,cs.hW c=ai o->G c=ai (kX o)/\∃v,o.n9=.ur v
 vI:∀(i:aT) y z,l.nf[i]?=ai y->zs[i]?=ai z->∃c o u,cl.hW y=ai c/\cs.hW c=ai o/\o.n9=.ur (ai u)/\uc z u
 uz:zs.aO=l.nf.aO
theorem fW.mV(e:ar G G')(h:fW G cl l zs cs):fW G' cl l zs cs:=⟨h.yB,h.YO,h.rM,λc o q=>⟨e _ _ (h.oB c o q).1,(h.oB c o q).2⟩,h.vI,h.uz⟩
def Ae(G:Hp)(l:Lm)(cl:aj (fv×f'))(f:f'):Prop:=∃pm c' eJ,G f=ai (mi (Zz "<lambda>" l.rN l.ua l.t6 l.gs cl pm c' eJ) l.rN c')
inductive jv(v:V)(P Q:f'->aj V->Prop):Prop where
 |mk (a:f') (xs:aj V) (h:v=.dI a) (p:P a xs) (q:Q a xs):jv v P Q
inductive qw(xs:aj V)(P:V->Prop)(Q:aj V->Prop):Prop where
 |mk (x:V) (r:aj V) (h:xs=x::r) (p:P x) (q:Q r):qw xs P Q
mutual
noncomputable def Rep(K:Fg)(G:Hp):W->V->Prop
 |.aC,v=>v=.aC
 |.bl b,v=>v=.bl b
 |.int i,v=>v=.int i
 |.str x,v=>v=.str x
 |.tup ws,v=>jv v (cH K G) λ_ xs=>aq K G ws xs
 |.lst ws,v=>jv v (bI K G) λ_ xs=>aq K G ws xs
 |.exc c,v=>∃e,v=.ref e/\G e=some (nE e c)
 |.aZ kvs,v=>∃e,v=.ref e/\G e=some (dO kvs)
 |.dw fz sh ks ws,v=>∃a kvs bD,v=.ref a/\tQ fz G a sh kvs bD/\kvs.map (·.1)=ks/\cA sh G ks bD/\aq K G ws (kvs.map (·.2))
 |.fn _ l ws,v=>∃f cl zs cs,v=.ref f/\Ae G l cl f/\fW G cl l zs cs/\aq K G ws zs
noncomputable def aq(K:Fg)(G:Hp):List W->List V->Prop
 |[],xs=>xs=[]
 |w::ws,xs=>qw xs (Rep K G w) (aq K G ws)
end
mutual
theorem Rep.mono{K:Fg}{G G':Hp}(e:ar G G'):∀(w:W){v:V},Rep K G w v->Rep K G' w v
 |.aC,v,h=>h
 |.bl b,v,h=>h
 |.int i,v,h=>h
 |.str x,v,h=>h
 |.tup ws,v,h=>by
  let⟨a,xs,rfl,q,r⟩:=h;exact⟨a,xs,rfl,e.tup q,aq.mono e ws r⟩
 |.lst ws,v,h=>by
  let⟨a,xs,rfl,q,r⟩:=h;exact⟨a,xs,rfl,e.seq q,aq.mono e ws r⟩
 |.exc c,v,h=>by
  let⟨a,rfl,q⟩:=h;exact⟨a,rfl,e _ _ q⟩
 |.aZ kvs,v,h=>by
  let⟨a,rfl,q⟩:=h;exact⟨a,rfl,e _ _ q⟩
 |.dw fz sh ks ws,v,h=>by
  let⟨a,kvs,bD,rfl,h1,h2,h3,h4⟩:=h;exact⟨a,kvs,bD,rfl,h1.mono e,h2,h3.mono e,aq.mono e ws h4⟩
 |.fn i l ws,v,h=>by
  let⟨f,cl,zs,cs,rfl,⟨pm,c',eJ,h1⟩,h2,h3⟩:=h;exact⟨f,cl,zs,cs,rfl,⟨pm,c',eJ,e _ _ h1⟩,h2.mono e,aq.mono e ws h3⟩
theorem aq.mono{K:Fg}{G G':Hp}(e:ar G G'):∀(ws:List W){xs:List V},aq K G ws xs->aq K G' ws xs
 |[],xs,h=>h
 |w::ws,xs,h=>by
  let⟨x,r,rfl,h1,h2⟩:=h;exact⟨x,r,rfl,Rep.mono e w h1,aq.mono e ws h2⟩
end
theorem aq.aO:∀{ws:aj W}{xs:aj V},aq K G ws xs->xs.aO=ws.aO
 |[],xs,h=>by cases h;rfl
 |w::ws,xs,h=>by
  let⟨x,r,rfl,_,h2⟩:=h;simp[aq.aO h2]
theorem aq.A':∀{ws:aj W}{xs:aj V}{i:aT}{w:W},aq K G ws xs->ws[i]?=ai w->∃x,xs[i]?=ai x/\pW K G w x
 |[],xs,i,w,h,e=>by simp at e
 |w'::ws,xs,0,w,h,e=>by
  let⟨x,r,rfl,h1,h2⟩:=h;simp at e;subst e;exact⟨x,rfl,h1⟩
 |w'::ws,xs,i+1,w,h,e=>by
  let⟨x,r,rfl,h1,h2⟩:=h;let⟨y,e1,e2⟩:=aq.A' (i:=i) h2 (by simpa using e);exact⟨y,by simpa using e1,e2⟩
theorem aq.iM:∀{ws:aj W}{xs:aj V}{i:aT}{x:V},aq K G ws xs->xs[i]?=ai x->∃w,ws[i]?=ai w/\pW K G w x:=λ{ws xs i x} h e=>by
 have hl:=h.aO;have hi:i<xs.aO:=(w0c.mp e).1;have e2:ws[i]?=ai ws[i]:=w0b (by omega);let⟨y,e3,r⟩:=h.A' e2;rw[e]at e3;cases e3;exact⟨_,e2,r⟩
theorem aq.Xy:∀{ws ws':aj W}{xs xs':aj V},aq K G ws xs->aq K G ws' xs'->aq K G (ws++ws') (xs++xs')
 |[],ws',xs,xs',h,h'=>by cases h;exact h'
 |w::ws,ws',xs,xs',h,h'=>by
  let⟨x,r,rfl,h1,h2⟩:=h;exact⟨x,r++xs',rfl,h1,aq.Xy h2 h'⟩
theorem aq.YH{x:V}(h:pW K G w x):aq K G [w] [x]:=⟨x,[],rfl,h,rfl⟩
theorem aq.yE:∀(n:aT){ws:aj W}{xs:aj V},aq K G ws xs->aq K G (ws.yE n) (xs.yE n)
 |0,_,_,_=>rfl
 |n+1,[],_,h=>by cases h;rfl
 |n+1,w::ws,_,h=>by
  let⟨x,r,rfl,h1,h2⟩:=h;exact⟨x,r.yE n,rfl,h1,aq.yE n h2⟩
theorem aq.zd:∀(n:aT){ws:aj W}{xs:aj V},aq K G ws xs->aq K G (ws.zd n) (xs.zd n)
 |0,_,_,h=>h
 |n+1,[],_,h=>by cases h;rfl
 |n+1,w::ws,_,h=>by
  let⟨x,r,rfl,h1,h2⟩:=h;exact aq.zd n h2
theorem aq.V3:∀{ws:aj W}{xs:aj V},aq K G ws xs->aq K G ws.V3 xs.V3
 |[],_,h=>by cases h;rfl
 |w::ws,_,h=>by
  let⟨x,r,rfl,h1,h2⟩:=h;rw[w2x,w2x];exact(aq.V3 h2).Xy (.YH h1)
theorem aq.ri:∀(i:aT){ws:aj W}{xs:aj V}{w:W}{x:V},aq K G ws xs->pW K G w x->aq K G (ws.ri i w) (xs.ri i x)
 |_,[],_,_,_,h,_=>by cases h;rfl
 |0,w'::ws,_,w,x,h,q=>by
  let⟨y,r,rfl,h1,h2⟩:=h;exact⟨x,r,rfl,q,h2⟩
 |i+1,w'::ws,_,w,x,h,q=>by
  let⟨y,r,rfl,h1,h2⟩:=h;exact⟨y,r.ri i x,rfl,h1,aq.ri i h2 q⟩
structure Zt where
 H:Hp
 G:Hp
 io:aj f'
variable{Z:Zt}
def e9(Z:Zt)(G H:Hp)(l:f')(o:qH)(ys:aj V):Prop:=H l=ai (.cB o (.dS ys))/\G l=none/\Z.H l=none
def fo(K:Fg)(Z:Zt)(G:Hp)(sh:Sh)(ws:aj W)(vs:aj V):Prop:=aq K G ws vs
theorem fo.pT(h:fo K Z G sh ws vs):aq K G ws vs:=h
theorem fo.of(hs:sh.HA=false)(h:aq K G ws vs):fo K Z G sh ws vs:=h
theorem fo.ro:fo K Z G sh [] []:=rfl
theorem fo.Xu{Z':Zt}{G':Hp}{sh:Sh}(h:fo K Z G sh ws vs)(sg:ar G G')(hz:∀a o,G a=ai o->Z.H a=none->Z'.H a=none):fo K Z' G' sh ws vs:=aq.mV sg ws h
inductive iE(K:Fg)(Z:Zt)(G H:Hp)(sh:Sh)(ks:aj Kx)(ws:aj W)(v:fy V):Prop where
 |mk (a:f') (kvs:aj (Kx×V)) (bD:aj f') (h1:v=ai (.dI a)) (h2:H a=ai (oD sh kvs bD)) (h3:G a=none) (h4:Z.H a=none) (h5:kvs.a7 (·.1)=ks) (h6:cA sh G ks bD) (h7:fo K Z G sh ws (kvs.a7 (·.2))):iE K Z G H sh ks ws v
def iE.Xu{Z':Zt}{G' H':Hp}{sh:Sh}{ks:aj Kx}{v:fy V}(q:iE K Z G H sh ks ws v)(sg:ar G G')(hf:∀a kvs bD,H a=ai (oD sh kvs bD)->G a=none->Z.H a=none->H' a=ai (oD sh kvs bD)/\G' a=none/\Z'.H a=none)(hz:∀a o,G a=ai o->Z.H a=none->Z'.H a=none:=by intro _ _ _ z;exact z):iE K Z' G' H' sh ks ws v:=by
 let⟨a,kvs,bD,h1,h2,h3,h4,h5,h6,h7⟩:=q;let⟨k1,k2,k3⟩:=hf a kvs bD h2 h3 h4;exact⟨a,kvs,bD,h1,k1,k2,k3,h5,h6.mV sg,h7.Xu sg hz⟩
inductive u6(xs:aj V)(as:aj f')(P:V->aj f'->Prop)(Q:aj V->aj f'->Prop):Prop where
 |mk (x:V) (r:aj V) (b c:aj f') (h:xs=x::r) (h':as=b++c) (p:P x b) (q:Q r c):u6 xs as P Q
inductive Ak(as:aj f')(a:f')(Q:aj f'->Prop):Prop where
 |mk (bs:aj f') (h:as=a::bs) (q:Q bs):Ak as a Q
mutual
noncomputable def eB(K:Fg)(Z:Zt)(G H:Hp):W->V->List Addr->Prop
 |.aC,v,as=>v=.aC/\as=[]
 |.bl b,v,as=>v=.bl b/\as=[]
 |.int i,v,as=>v=.int i/\as=[]
 |.str x,v,as=>v=.str x/\as=[]
 |.tup ws,v,as=>jv v (cH K G) λ_ xs=>aU K Z G H ws xs as
 |.lst ws,v,as=>jv v (λa xs=>∃o,e9 Z G H a o xs) λa xs=>Ak as a (aU K Z G H ws xs)
 |.exc _,_,_=>False
 |.aZ _,_,_=>False
 |.dw _ _ _ _,_,_=>False
 |.fn _ _ _,_,_=>False
noncomputable def aU(K:Fg)(Z:Zt)(G H:Hp):List W->List V->List Addr->Prop
 |[],xs,as=>xs=[]/\as=[]
 |w::ws,xs,as=>u6 xs as (eB K Z G H w) (aU K Z G H ws)
end
mutual
theorem eB.move{K:Fg}{Z Z':Zt}{G G' H H':Hp}(sg:ar G G'):∀(w:W){v:V}{as:List Addr},(∀l o ys,l∈as->e9 Z G H l o ys->e9 Z' G' H' l o ys)->eB K Z G H w v as->eB K Z' G' H' w v as
 |.aC,_,_,_,h=>h
 |.bl _,_,_,_,h=>h
 |.int _,_,_,_,h=>h
 |.str _,_,_,_,h=>h
 |.tup ws,_,_,hf,⟨a,xs,e,q,r⟩=>⟨a,xs,e,sg.tup q,aU.move sg ws hf r⟩
 |.lst ws,_,_,hf,⟨a,xs,e,⟨o,q⟩,⟨bs,e2,r⟩⟩=>by
  subst e2;exact⟨a,xs,e,⟨o,hf _ _ _ (w1e ..) q⟩,bs,rfl,aU.move sg ws (λl o ys z=>hf l o ys (w0o _ z)) r⟩
 |.exc _,_,_,_,h=>h.elim
 |.aZ _,_,_,_,h=>h.elim
 |.dw _ _ _ _,_,_,_,h=>h.elim
 |.fn _ _ _,_,_,_,h=>h.elim
theorem aU.move{K:Fg}{Z Z':Zt}{G G' H H':Hp}(sg:ar G G'):∀(ws:List W){vs:List V}{as:List Addr},(∀l o ys,l∈as->e9 Z G H l o ys->e9 Z' G' H' l o ys)->aU K Z G H ws vs as->aU K Z' G' H' ws vs as
 |[],_,_,_,h=>h
 |w::ws,_,_,hf,⟨x,r,b,c,e,e2,p,q⟩=>by
  subst e2;exact⟨x,r,b,c,e,rfl,eB.move sg w (λl o ys z=>hf l o ys (w1y _ z)) p,aU.move sg ws (λl o ys z=>hf l o ys (w0k _ z)) q⟩
end
mutual
theorem eB.rep{K:Fg}{Z:Zt}{G G' H:Hp}(sg:ar G G')(hf:∀l o ys,e9 Z G H l o ys->G' l=some (.cB o (.lst ys))):∀(w:W){v:V}{as:List Addr},eB K Z G H w v as->Rep K G' w v
 |.aC,_,_,h=>h.1
 |.bl _,_,_,h=>h.1
 |.int _,_,_,h=>h.1
 |.str _,_,_,h=>h.1
 |.tup ws,_,_,⟨a,xs,e,q,r⟩=>⟨a,xs,e,sg.tup q,aU.pT sg hf ws r⟩
 |.lst ws,_,_,⟨a,xs,e,⟨o,q⟩,⟨bs,_,r⟩⟩=>⟨a,xs,e,.inl (.inr ⟨o,hf _ _ _ q⟩),aU.pT sg hf ws r⟩
 |.exc _,_,_,h=>h.elim
 |.aZ _,_,_,h=>h.elim
 |.dw _ _ _ _,_,_,h=>h.elim
 |.fn _ _ _,_,_,h=>h.elim
theorem aU.pT{K:Fg}{Z:Zt}{G G' H:Hp}(sg:ar G G')(hf:∀l o ys,e9 Z G H l o ys->G' l=some (.cB o (.lst ys))):∀(ws:List W){vs:List V}{as:List Addr},aU K Z G H ws vs as->aq K G' ws vs
 |[],_,_,h=>h.1
 |w::ws,_,_,⟨x,r,b,c,e,_,p,q⟩=>⟨x,r,e,eB.rep sg hf w p,aU.pT sg hf ws q⟩
end
mutual
theorem eB.xj{K:Fg}{Z:Zt}{G H:Hp}:∀(w:W){v:V}{as:List Addr},eB K Z G H w v as->∀{l:Addr},l∈as->∃o ys,e9 Z G H l o ys
 |.aC,_,_,h,_,m=>by rw[h.2]at m;cases m
 |.bl _,_,_,h,_,m=>by rw[h.2]at m;cases m
 |.int _,_,_,h,_,m=>by rw[h.2]at m;cases m
 |.str _,_,_,h,_,m=>by rw[h.2]at m;cases m
 |.tup ws,_,_,⟨a,xs,e,q,r⟩,_,m=>aU.xj ws r m
 |.lst ws,_,_,⟨a,xs,e,⟨o,q⟩,⟨bs,e2,r⟩⟩,l,m=>by
  subst e2;rcases w0h.mp m with rfl|m
  .exact⟨o,xs,q⟩
  .exact aU.xj ws r m
 |.exc _,_,_,h,_,_=>h.elim
 |.aZ _,_,_,h,_,_=>h.elim
 |.dw _ _ _ _,_,_,h,_,_=>h.elim
 |.fn _ _ _,_,_,h,_,_=>h.elim
theorem aU.xj{K:Fg}{Z:Zt}{G H:Hp}:∀(ws:List W){vs:List V}{as:List Addr},aU K Z G H ws vs as->∀{l:Addr},l∈as->∃o ys,e9 Z G H l o ys
 |[],_,_,h,_,m=>by rw[h.2]at m;cases m
 |w::ws,_,_,⟨x,r,b,c,e,e2,p,q⟩,l,m=>by
  subst e2;rcases w3g.mp m with m|m
  .exact eB.xj w p m
  .exact aU.xj ws q m
end
inductive Ah(K:Fg)(Z:Zt)(G H:Hp)(w:W)(v:fy V):Prop where
 |mk (u:V) (as:aj f') (h1:v=ai u) (h2:as.yr) (h3:eB K Z G H w u as):Ah K Z G H w v
def pk(K:Fg)(Z:Zt)(G H:Hp):SK->fy V->Prop
 |.fz w,v=>Ah K Z G H w v
def pk.Xu(q:pk K Z G H k v)(sg:ar G G')(hf:∀l o ys,H l=ai (.cB o (.dS ys))->G l=none->Z.H l=none->H' l=ai (.cB o (.dS ys))/\G' l=none/\Z.H l=none):pk K Z G' H' k v:=by
 cases k with
 |fz w=>let⟨u,as,h1,h2,h3⟩:=q;exact⟨u,as,h1,h2,eB.Xu sg w (λl o ys _ ⟨k1,k2,k3⟩=>hf l o ys k1 k2 k3) h3⟩
def tR(Z:Zt):fy aT->f'->Prop
 |none,a=>Z.H a=none
 |ai j,a=>Z.io[j]?=ai a
def tR.io(h:tR Z b a):a∈Z.io\/Z.H a=none:=by
 cases b with
 |none=>exact .mW h
 |ai j=>exact .j9 (w0y h)
inductive vb(K:Fg)(Z:Zt)(G H:Hp)(b:fy aT)(ws:aj W)(v:fy V):Prop where
 |mk (a:f') (xs:aj V) (h1:v=ai (.dI a)) (h2:H a=ai (.dS xs)) (h3:G a=none) (h4:tR Z b a) (h5:aq K G ws xs):vb K Z G H b ws v
inductive u7(Z:Zt)(G H:Hp)(kvs:Dd)(v:fy V):Prop where
 |mk (a:f') (h1:v=ai (.dI a)) (h2:H a=ai (dO kvs)) (h3:G a=none) (h4:Z.H a=none):u7 Z G H kvs v
inductive qD(K:Fg)(Z:Zt)(G H:Hp)(us ws vs:aj W)(v:fy V):Prop where
 |mk (t l:f') (o:qH) (xs ys zs:aj V) (h1:v=ai (.dI t)) (h2:G t=ai (.gw (xs++.dI l::zs))) (h3:H l=ai (.cB o (.dS ys))) (h4:G l=none) (h5:Z.H l=none) (h6:aq K G us xs/\aq K G ws ys/\aq K G vs zs):qD K Z G H us ws vs v
def eC(K:Fg)(Z:Zt)(G H:Hp):S->fy V->Prop
 |.no,_=>ku
 |.fr w,v=>∃u,v=ai u/\pW K G w u
 |.ke b ws,v=>vb K Z G H b ws v
 |.aZ kvs,v=>u7 Z G H kvs v
 |.gP us ws vs,v=>qD K Z G H us ws vs v
 |.dw sh ks ws,v=>iE K Z G H sh ks ws v
 |.x k,v=>pk K Z G H k v
structure ph(K:Fg)(Z:Zt)(G:Hp)(σ:St)(H:Hp)(e:aj S):Prop where
 pA:ar G H
 xP:∀(i:aT)(s:S),e[i]?=ai s->eC K Z G H s (σ[i]?.jd none)
 uz:e.aO=σ.aO
 lZ:∀(i j:aT)(b b':fy aT)(ws ws':aj W)(a:f'),e[i]?=ai (.ke b ws)->e[j]?=ai (.ke b' ws')->σ[i]?=ai (ai (.dI a))->σ[j]?=ai (ai (.dI a))->i=j
 YC:∀a o,Z.H a=ai o->a∉Z.io->H a=ai o
 kH:∀a∈Z.io,H a≠none
 gen:∀a,Z.H a≠none->G a=Z.G a
inductive tO(K:Fg)(Z:Zt)(σ:St)(H:Hp)(P:Hp->aj S->Prop):Prop where
 |mk (G:Hp) (e:aj S) (r:ph K Z G σ H e) (h:P G e):tO K Z σ H P
structure aN(G H G' H':Hp):Prop where
 hh:ar H H'
 gg:ar G G'
 pA:ar G' H'
 xM:∀a,H a≠none->G' a=G a
theorem aN.tT(s:ar G H):aN G H G H:=⟨.tT _,.tT _,s,λ_ _=>rfl⟩
theorem aN.lb(x:aN G H G1 H1)(y:aN G1 H1 G2 H2):aN G H G2 H2:=
 ⟨x.hh.lb y.hh,x.gg.lb y.gg,y.pA,λa h=>by
  rw[y.xM a,x.xM a h];cases q:H a with
  |none=>exact uv q h
  |ai o=>rw[x.hh a o q];simp⟩
def y5c(e:ar H H')(h:H a≠none):H' a≠none:=by
 cases q:H a with
 |none=>exact uv q h
 |ai o=>rw[e a o q];simp
theorem aN.Mk(s:ar G H){D:f'}(h:H D=none)(o:HO):aN G H (ny G D o) (ny H D o) where
 hh:=vT h o
 gg:=vT (s.rk h) o
 pA:=λb u e=>by
  by_cases hb:b=D
  .subst hb;rw[bQ]at e |-;exact e
  .rw[aR hb]at e |-;exact s b u e
 xM:=λa ha=>by rw[aR (λz=>ha (by rw[z];exact h))]
theorem aN.nL(s:ar G H)(h:H D=none)(o):aN G H G (ny H D o) where
 hh:=vT h o
 gg:=.tT _
 pA:=λb u e=>by
  have:=s b u e;rw[aR (gh this h)];exact this
 xM:=λa ha=>rfl
theorem ph.yJ(r:ph K Z G σ H e)(g:aN G H G' H'):ph K Z G' σ H' e where
 pA:=g.pA
 xP:=λi s h=>by
  have q:=r.xP i s h;cases s with
  |no=>trivial
  |fr w=>
   let⟨u,h1,h2⟩:=q;exact⟨u,h1,pW.mV g.gg w h2⟩
  |ke b ws=>
   let⟨a,xs,h1,h2,h3,h4,h5⟩:=q;exact⟨a,xs,h1,g.hh _ _ h2,by rw[g.xM a (by rw[h2];simp)];exact h3,h4,aq.mV g.gg ws h5⟩
  |aZ kvs=>
   let⟨a,h1,h2,h3,h4⟩:=q;exact⟨a,h1,g.hh _ _ h2,by rw[g.xM a (by rw[h2];simp)];exact h3,h4⟩
  |gP us ws vs=>
   let⟨t,l,o,xs,ys,zs,h1,h2,h3,h4,h5,h6,h7,h8⟩:=q;exact⟨t,l,o,xs,ys,zs,h1,g.gg _ _ h2,g.hh _ _ h3,by rw[g.xM l (by rw[h3];simp)];exact h4,h5,aq.mV g.gg us h6,aq.mV g.gg ws h7,aq.mV g.gg vs h8⟩
  |x k=>exact pk.Xu q g.gg λl o ys h1 h2 h3=>⟨g.hh _ _ h1,by rw[g.xM l (by rw[h1];simp)];exact h2,h3⟩
  |dw sh ks ws=>exact iE.Xu q g.gg λl o ys h1 h2 h3=>⟨g.hh _ _ h1,by rw[g.xM l (by rw[h1];simp)];exact h2,h3⟩
 uz:=r.uz
 lZ:=r.lZ
 YC:=λa o h n=>g.hh _ _ (r.YC a o h n)
 kH:=λa h=>y5c g.hh (r.kH a h)
 gen:=λa h=>by
  have:H a≠none:=by
   cases q:Z.H a with
   |none=>exact uv q h
   |ai o=>
    by_cases hi:a∈Z.io
    .exact r.kH a hi
    .rw[r.YC a o q hi];simp
  rw[g.xM a this];exact r.gen a h
def ph.ke(r:ph K Z G σ H e){b:fy aT}(h:e[i]?=ai (.ke b ws)):∃a xs,σ[i]?=ai (ai (.dI a))/\H a=ai (.dS xs)/\G a=none/\(tR Z b a)/\aq K G ws xs:=by
 let⟨a,xs,h1,h2,h3,h4,h5⟩:=r.xP i _ h;refine⟨a,xs,?_,h2,h3,h4,h5⟩;cases q:σ[i]? with
 |none=>rw[q]at h1;cases h1
 |ai z=>rw[q]at h1;rw[show z=ai (V.dI a)from h1]
def ph.fr(r:ph K Z G σ H e)(h:e[i]?=ai (.fr w)):∃v,σ[i]?=ai (ai v)/\pW K G w v:=by
 let⟨v,h1,h2⟩:=r.xP i _ h;refine⟨v,?_,h2⟩;cases q:σ[i]? with
 |none=>rw[q]at h1;cases h1
 |ai z=>rw[q]at h1;rw[show z=ai v from h1]
def ph.at(r:ph K Z G σ H e){s:S}{v:V}(h:e[i]?=ai s)(hs:eC K Z G H s (σ[i]?.jd none)->σ[i]?.jd none=ai v):σ[i]?=ai (ai v):=by
 have h1:=hs (r.xP i _ h);cases q:σ[i]? with
 |none=>rw[q]at h1;cases h1
 |ai z=>rw[q]at h1;rw[show z=ai v from h1]
def ph._Q(r:ph K Z G σ H e){k:SK}(h:e[i]?=ai (.x k))(hk:k._Q=ai w):∃v,σ[i]?=ai (ai v)/\pW K G w v:=by
 have q:=r.xP i _ h;cases k with
 |_=>cases hk
def ph.mut(r:ph K Z G σ H e){b:fy aT}{ws':aj W}{xs':aj V}(h:e[i]?=ai (.ke b ws))(ha:σ[i]?=ai (ai (.dI a)))(q:aq K G ws' xs'):ph K Z G σ (ny H a (.dS xs')) (e.ri i (.ke b ws')):=by
 let⟨a',xs,h1,h2,h3,h4,h5⟩:=r.ke h;rw[ha]at h1;cases h1;have hi:i<e.aO:=(w0c.mp h).1;refine⟨λc o z=>?_,λj s z=>?_,by simpa using r.uz,λj k b1 b2 w1 w2 c z1 z2 z3 z4=>?_,λc o z n=>?_,λc z=>?_,r.gen⟩
 .rw[aR (gh z h3)];exact r.pA c o z
 .by_cases hj:j=i
  .subst hj;rw[w0m hi]at z;cases z;exact⟨a,xs',by rw[ha];rfl,bQ,h3,h4,q⟩
  .rw[w0j (λz=>hj z.symm)]at z
   have y:=r.xP j s z;cases s with
   |no=>trivial
   |fr w=>exact y
   |ke b2 w2=>
    let⟨c,ys,y1,y2,y3,y4,y5⟩:=y;refine⟨c,ys,y1,?_,y3,y4,y5⟩;rw[aR];exact y2;rintro rfl;let⟨c',_,z1,_⟩:=r.ke z;rw[z1]at y1;cases y1;exact hj (r.lZ j i _ _ _ _ _ z h z1 ha)
   |aZ kvs=>
    let⟨c,y1,y2,y3,y4⟩:=y;refine⟨c,y1,?_,y3,y4⟩;rw[aR (fG y2 h2 (pQ rfl))];exact y2
   |gP us w2 vs=>
    let⟨t,l,o,pX,ys,zs,y1,y2,y3,y4,y5,y6⟩:=y;refine⟨t,l,o,pX,ys,zs,y1,y2,?_,y4,y5,y6⟩;rw[aR (fG y3 h2 (λz=>nomatch z))];exact y3
   |x k=>exact pk.Xu y (.tT _) λl o ys k1 k2 k3=>⟨by rw[aR (fG k1 h2 (λz=>nomatch z))];exact k1,k2,k3⟩
   |dw sh ks ws=>exact iE.Xu y (.tT _) λl o ys k1 k2 k3=>⟨by rw[aR (fG k1 h2 (tJ rfl))];exact k1,k2,k3⟩
 .have yF:∀(k:aT)(bb:fy aT)(ww:aj W),(e.ri i (S.ke b ws'))[k]?=ai (.ke bb ww)->∃b' w',e[k]?=ai (.ke b' w'):=λk bb ww z=>by
   by_cases hk:k=i
   .subst hk;exact⟨_,_,h⟩
   .rw[w0j (λz=>hk z.symm)]at z;exact⟨_,_,z⟩
  let⟨_,_,q1⟩:=yF _ _ _ z1;let⟨_,_,q2⟩:=yF _ _ _ z2;exact r.lZ _ _ _ _ _ _ _ q1 q2 z3 z4
 .by_cases hc:c=a
  .subst hc;exfalso;rcases h4.io with h4|h4
   .exact n h4
   .rw[h4]at z;cases z
  .rw[aR hc];exact r.YC c o z n
 .by_cases hc:c=a
  .subst hc;rw[bQ];simp
  .rw[aR hc];exact r.kH c z
def ph.Œ(r:ph K Z G σ H e)(h:e[i]?=ai (.ke none ws)):∃v G',σ[i]?=ai (ai v)/\ar G G'/\pW K G' (.dS ws) v/\ph K Z G' σ H (e.ri i (.fr (.dS ws))):=by
 let⟨a,xs,h1,h2,h3,h4,h5⟩:=r.ke h;have h4:Z.H a=none:=h4;have sg:ar G (ny G a (.dS xs)):=vT h3 _;have hi:i<e.aO:=(w0c.mp h).1;have rp:pW K (ny G a (.dS xs)) (.dS ws) (.dI a):=⟨a,xs,rfl,bI.of bQ,aq.mV sg ws h5⟩;refine⟨.dI a,ny G a (.dS xs),h1,sg,rp,⟨λc o z=>?_,λj s z=>?_,by simpa using r.uz,λj k b1 b2 w1 w2 c z1 z2 z3 z4=>?_,r.YC,r.kH,λc z=>?_⟩⟩
 .by_cases hc:c=a
  .grind [bQ]
  .rw[aR hc]at z;exact r.pA c o z
 .by_cases hj:j=i
  .subst hj;rw[w0m hi]at z;cases z;exact⟨.dI a,by rw[h1];rfl,rp⟩
  .rw[w0j (λz=>hj z.symm)]at z
   have y:=r.xP j s z;cases s with
   |no=>trivial
   |fr w=>
    let⟨u,y1,y2⟩:=y;exact⟨u,y1,pW.mV sg w y2⟩
   |ke b2 w2=>
    let⟨c,ys,y1,y2,y3,y4,y5⟩:=y;refine⟨c,ys,y1,y2,?_,y4,aq.mV sg w2 y5⟩;rw[aR];exact y3;rintro rfl;let⟨c',_,z1,_⟩:=r.ke z;rw[z1]at y1;cases y1;exact hj (r.lZ j i _ _ _ _ _ z h z1 h1)
   |aZ kvs=>
    let⟨c,y1,y2,y3,y4⟩:=y;refine⟨c,y1,y2,?_,y4⟩;rw[aR (fG y2 h2 (pQ rfl))];exact y3
   |gP us w2 vs=>
    let⟨t,l,o,pX,ys,zs,y1,y2,y3,y4,y5,y6,y7,y8⟩:=y;refine⟨t,l,o,pX,ys,zs,y1,sg _ _ y2,y3,?_,y5,aq.mV sg us y6,aq.mV sg w2 y7,aq.mV sg vs y8⟩;rw[aR (fG y3 h2 (λz=>nomatch z))];exact y4
   |x k=>exact pk.Xu y sg λl o ys k1 k2 k3=>⟨k1,by rw[aR (fG k1 h2 (λz=>nomatch z))];exact k2,k3⟩
   |dw sh ks ws=>exact iE.Xu y sg λl o ys k1 k2 k3=>⟨k1,by rw[aR (fG k1 h2 (tJ rfl))];exact k2,k3⟩
 .have yF:∀(k:aT)(bb:fy aT)(ww:aj W),(e.ri i (S.fr (W.dS ws)))[k]?=ai (.ke bb ww)->e[k]?=ai (.ke bb ww):=λk bb ww z=>by
   grind
  exact r.lZ _ _ _ _ _ _ _ (yF _ _ _ z1) (yF _ _ _ z2) z3 z4
 .by_cases hc:c=a
  .grind
  .rw[aR hc];exact r.gen c z
def iH(σ:St)(e:aj S)(a:f'):Prop:=∀(j:aT)(b:fy aT)(ws:aj W),e[j]?=ai (.ke b ws)->σ[j]?≠ai (ai (.dI a))
def ph.ri(r:ph K Z G σ H e){v:V}(q:pW K G w v):ph K Z G (σ.ri i (ai v)) H (e.ri i (.fr w)):=by
 refine⟨r.pA,λj s z=>?_,by simpa using r.uz,λj k b1 b2 w1 w2 c z1 z2 z3 z4=>?_,r.YC,r.kH,r.gen⟩
 .by_cases hj:j=i
  .subst hj
   have hi:j<e.aO:=by
    have:=(w0c.mp z).1;simpa using this
   rw[w0m hi]at z;cases z;rw[w0m (by rw[<- r.uz];exact hi)];exact⟨v,rfl,q⟩
  .rw[w0j (λz=>hj z.symm)]at z |-
   exact r.xP j s z
 .have yF:∀(k:aT)(bb:fy aT)(ww:aj W),(e.ri i (S.fr w))[k]?=ai (.ke bb ww)->k≠i/\e[k]?=ai (.ke bb ww):=λk bb ww z=>by
   by_cases hk:k=i
   .subst hk
    have hi:k<e.aO:=by
     have:=(w0c.mp z).1;simpa using this
    rw[w0m hi]at z;cases z
   .rw[w0j (λz=>hk z.symm)]at z;exact⟨hk,z⟩
  let⟨n1,q1⟩:=yF _ _ _ z1;let⟨n2,q2⟩:=yF _ _ _ z2;rw[w0j (λz=>n1 z.symm)]at z3
  rw[w0j (λz=>n2 z.symm)]at z4
  exact r.lZ _ _ _ _ _ _ _ q1 q2 z3 z4
def ph.zeS(r:ph K Z G σ H e){xs:aj V}(h2:H a=ai (.dS xs))(h3:G a=none)(h4:Z.H a=none)(hf:iH σ e a)(q:aq K G ws xs):ph K Z G (σ.ri i (ai (.dI a))) H (e.ri i (.ke none ws)):=by
 refine⟨r.pA,λj s z=>?_,by simpa using r.uz,λj k b1 b2 w1 w2 c z1 z2 z3 z4=>?_,r.YC,r.kH,r.gen⟩
 .by_cases hj:j=i
  .subst hj
   have hi:j<e.aO:=by
    have:=(w0c.mp z).1;simpa using this
   rw[w0m hi]at z;cases z;rw[w0m (by rw[<- r.uz];exact hi)];exact⟨a,xs,rfl,h2,h3,h4,q⟩
  .rw[w0j (λz=>hj z.symm)]at z |-
   exact r.xP j s z
 .have both:∀(k:aT)(bb:fy aT)(ww:aj W),(e.ri i (S.ke none ws))[k]?=ai (.ke bb ww)->(σ.ri i (ai (.dI a)))[k]?=ai (ai (.dI c))->(k=i/\c=a)\/(k≠i/\e[k]?=ai (.ke bb ww)/\σ[k]?=ai (ai (.dI c))/\c≠a):=λk bb ww z y=>by
   by_cases hk:k=i
   .subst hk
    have hi:k<e.aO:=by
     have:=(w0c.mp z).1;simpa using this
    rw[w0m (by rw[<- r.uz];exact hi)]at y;cases y;exact .j9 ⟨rfl,rfl⟩
   .rw[w0j (λz=>hk z.symm)]at z y
    exact .mW ⟨hk,z,y,λe=>hf k bb ww z (by rw[y,e])⟩
  rcases both _ _ _ z1 z3 with⟨e1,c1⟩|⟨n1,q1,p1,c1⟩<;>rcases both _ _ _ z2 z4 with⟨e2,c2⟩|⟨n2,q2,p2,c2⟩
  .rw[e1,e2]
  .exact uv c1 c2
  .exact uv c2 c1
  .exact r.lZ _ _ _ _ _ _ _ q1 q2 p1 p2
def ph.forget(r:ph K Z G σ H e)(hl:e'.aO=e.aO)(h:∀(i:aT)(s:S),e'[i]?=ai s->s=.no\/e[i]?=ai s):ph K Z G σ H e':=by
 refine⟨r.pA,λj s z=>?_,by rw[hl];exact r.uz,λj k b1 b2 w1 w2 c z1 z2 z3 z4=>?_,r.YC,r.kH,r.gen⟩
 .rcases h j s z with rfl|q
  .trivial
  .exact r.xP j s q
 .rcases h _ _ z1 with q1|q1
  .cases q1
  .rcases h _ _ z2 with q2|q2
   .cases q2
   .exact r.lZ _ _ _ _ _ _ _ q1 q2 z3 z4
set_option genInjectivity true in
inductive R(α:Type) where
 |ok (a:α) (e:aj S)|ex (c:eT) (e:aj S)|no
abbrev j'(α:Type):=aj S->R α
variable{dA:j' (aj W)}
def R.qK{α β:Type}:R α->(α->aj S->R β)->R β
 |.ok a e,k=>k a e
 |.ex c e,_=>.ex c e
 |.no,_=>.no
def R.Uj(r:R α)(P:α->aj S->Prop)(E:eT->aj S->Prop):Prop:=match r with
 |.ok a e=>P a e
 |.ex c e=>E c e
 |.no=>uH
def R.au{r:R α}{P:β->aj S->Prop}:(r.qK k).Uj P E↔r.Uj (λa e=>(k a e).Uj P E) E:=by
 cases r<;>rfl
def R.Uj.uX{r:R α}(h:r.Uj P E)(p:∀a e,P a e->P' a e)(x:∀c e,E c e->E' c e):r.Uj P' E':=by
 cases r with
 |ok a e=>exact p a e h
 |ex c e=>exact x c e h
 |no=>exact h
def bx(o:fy α)(e:aj S):R α:=match o with
 |ai a=>.ok a e
 |none=>.no
def a8{P:α->aj S->Prop}:(bx o e).Uj P E↔∃a,o=ai a/\P a e:=by
 cases o with
 |none=>exact⟨λh=>h.nU,fun⟨_,h,_⟩=>nomatch h⟩
 |ai a=>exact⟨λh=>⟨a,rfl,h⟩,fun⟨_,h,q⟩=>by cases h;exact q⟩
set_option genInjectivity true in
inductive SR where
 |nx (e:aj S)|rt (s:S) (e:aj S)|bk (e:aj S)|ct (e:aj S)|ex (c:eT) (e:aj S)|no
section
variable(K:Fg)(Z:Zt)(EE:L2.St->XK)
abbrev XH(σ:St)(G:Hp):eT->aj S->Prop:=λc e'=>∀G' H',ph K Z G' σ H' e'->ar G G'->EE σ c none H'
def gK(d:j' W):TE:=λσ H Q=>tO K Z σ H λG e=>(d e).Uj (λw e'=>∀G' v H',ph K Z G' σ H' e'->ar G G'->pW K G' w v->Q v H') (XH K Z EE σ G)
def rF(d:j' (aj W)):TA:=λσ H Q=>tO K Z σ H λG e=>(d e).Uj (λws e'=>∀G' vs H',ph K Z G' σ H' e'->ar G G'->aq K G' ws vs->Q vs H') (XH K Z EE σ G)
def ZP(d:j' ie):TT:=λσ H Q=>tO K Z σ H λG e=>(d e).Uj (λb e'=>∀G' H',ph K Z G' σ H' e'->ar G G'->Q b H') (XH K Z EE σ G)
def oR(d:j' (aj W)):TE:=λσ H Q=>tO K Z σ H λG e=>(d e).Uj (λws e'=>∀G' a xs H',ph K Z G' σ H' e'->ar G G'->H' a=ai (.dS xs)->G' a=none->Z.H a=none->iH σ e' a->aq K G' ws xs->Q (.dI a) H') (XH K Z EE σ G)
def bG(D:_E)(G:Hp):SR->Prop
 |.nx e'=>∀G' aM H',ph K Z G' aM H' e'->ar G G'->D.nx aM H'
 |.bk e'=>∀G' aM H',ph K Z G' aM H' e'->ar G G'->D.bk aM H'
 |.ct e'=>∀G' aM H',ph K Z G' aM H' e'->ar G G'->D.ct aM H'
 |.rt s e'=>∀G' aM v H',ph K Z G' aM H' e'->ar G G'->eC K Z G' H' s (ai v)->D.rt v H'
 |.ex c e'=>∀G' aM H',ph K Z G' aM H' e'->ar G G'->EE aM c none H'
 |.no=>uH
def eu(d:aj S->SR):TS:=λD σ H=>tO K Z σ H λG e=>bG K Z EE D G (d e)
end
section
variable(Z:Zt)(X:Cx)(EE:L2.St->XK)
def DE(e:oP)(d:j' W):Prop:=PE X e (gK X.K Z EE d)
def DF(e:oP)(d:j' (aj W)):Prop:=PE X e (oR X.K Z EE d)
def DT(e:oP)(d:j' ie):Prop:=PT X e (ZP X.K Z EE d)
def DW(e:oP)(d:j' ie):Prop:=PW X e (ZP X.K Z EE d)
def DA(es:aj oP)(d:j' (aj W)):Prop:=PA X es (rF X.K Z EE d)
def DS(st:Dn)(d:aj S->SR):Prop:=PS X st (eu X.K Z EE d)
def mY(gM:aj Dn)(d:aj S->SR):Prop:=lX X gM (eu X.K Z EE d)
end
theorem PE.mV(h:PE X e t)(i:∀σ H Q,t' σ H Q->t σ H Q):PE X e t':=λd0 s σ H Q I q=>h d0 s σ H Q I (i σ H Q q)
theorem PT.mV(h:PT X e t)(i:∀σ H Q,t' σ H Q->t σ H Q):PT X e t':=λd0 s σ H Q I q=>h d0 s σ H Q I (i σ H Q q)
theorem PW.mV(h:PW X e t)(i:∀σ H Q,t' σ H Q->t σ H Q):PW X e t':=λwh d0 s σ H Q I q=>h wh d0 s σ H Q I (i σ H Q q)
theorem PA.mV(h:PA X es t)(i:∀σ H Q,t' σ H Q->t σ H Q):PA X es t':=λp d0 s σ H Q I q=>h p d0 s σ H Q I (i σ H Q q)
theorem PS.mV(h:PS X st t)(i:∀D σ H,t' D σ H->t D σ H):PS X st t':=λd0 s σ H D I q=>h d0 s σ H D I (i D σ H q)
theorem lX.mV(h:lX X st t)(i:∀D σ H,t' D σ H->t D σ H):lX X st t':=λd0 s σ H D I q=>h d0 s σ H D I (i D σ H q)
section
variable(K:Fg)
def iC(r:R2)(f:W->W->fy W):Prop:=∀(G H:Hp)(x y:V)(wx wy w:W)(Q:VK),ar G H->pW K G wx x->pW K G wy y->f wx wy=ai w->(∀G' v H',aN G H G' H'->pW K G' w v->Q v H')->r x y H Q
def Di(r:V->Hp->VK->Prop)(f:W->fy W):Prop:=∀(G H:Hp)(x:V)(wx w:W)(Q:VK),ar G H->pW K G wx x->f wx=ai w->(∀G' v H',aN G H G' H'->pW K G' w v->Q v H')->r x H Q
def qB(r:aj V->Hp->VK->Prop)(f:aj W->fy W):Prop:=∀(G H:Hp)(xs:aj V)(ws:aj W)(w:W)(Q:VK),ar G H->aq K G ws xs->f ws=ai w->(∀G' v H',aN G H G' H'->pW K G' w v->Q v H')->r xs H Q
end
def dC(w:W):j' W:=λe=>.ok w e
def af(i:aT):j' W:=λe=>match e[i]? with
 |ai (.fr w)=>.ok w e
 |ai (.ke none ws)=>.ok (.dS ws) (e.ri i (.fr (.dS ws)))
 |ai (.x k)=>match k._Q with
  |ai w=>.ok w e
  |none=>.no
 |_=>.no
def ao(f:W->W->fy W)(da db:j' W):j' W:=λe=>(da e).qK λx e1=>(db e1).qK λy e2=>bx (f x y) e2
def nB(f:W->fy W)(da:j' W):j' W:=λe=>(da e).qK λx e1=>bx (f x) e1
def aw(da:j' W):j' ie:=λe=>(da e).qK λx e1=>match x with
 |.bl k=>.ok k e1
 |_=>.no
def jg:W->fy ie
 |.aC=>ai false
 |.bl b=>ai b
 |.a6 i=>ai (i != 0)
 |.str x=>if x.aO<=16777216 then ai ((x.aO:dr) != 0)else none
 |.gw xs=>ai (!xs.Dl)
 |.dS xs=>ai (!xs.Dl)
 |.Yq _=>none
 |.aZ _=>none
 |.dw _ _ _ _=>none
 |.fn _ _ _=>none
def cP(da:j' W):j' ie:=λe=>(da e).qK λx e1=>bx (jg x) e1
def hX(a b:j' ie):j' ie:=λe=>(a e).qK λx e1=>if x=true then b e1 else .ok false e1
def kZ(a b:j' ie):j' ie:=λe=>(a e).qK λx e1=>if x=true then .ok true e1 else b e1
def eE(a:j' ie):j' ie:=λe=>(a e).qK λx e1=>.ok (!x) e1
def fq(a b:j' W):j' W:=λe=>(a e).qK λx e1=>match x with
 |.bl true=>b e1
 |.bl false=>.ok (.bl false) e1
 |_=>.no
def nv(a b:j' W):j' W:=λe=>(a e).qK λx e1=>match x with
 |.bl true=>.ok (.bl true) e1
 |.bl false=>b e1
 |_=>.no
def gB(a:j' W):j' W:=λe=>(a e).qK λx e1=>match x with
 |.bl k=>.ok (.bl (!k)) e1
 |_=>.no
def vk(c:j' ie)(a b:j' W):j' W:=λe=>(c e).qK λx e1=>if x=true then a e1 else b e1
def ag:j' (aj W):=λe=>.ok [] e
def aa(a:j' W)(r:j' (aj W)):j' (aj W):=λe=>(a e).qK λx e1=>(r e1).qK λxs e2=>.ok (x::xs) e2
def bo(a:j' (aj W)):j' W:=λe=>(a e).qK λxs e1=>if xs.aO<=16777216 then .ok (.gw xs) e1 else .no
def cj(a:j' (aj W)):j' (aj W):=λe=>(a e).qK λxs e1=>if xs.aO<=16777216 then .ok xs e1 else .no
def cY(a:j' (aj W)):j' W:=λe=>(a e).qK λxs e1=>.ok (.dS xs) e1
def bL(f:aj W->fy W)(a:j' (aj W)):j' W:=λe=>(a e).qK λxs e1=>bx (f xs) e1
section
variable{X:Cx}{a b c e:oP}{da db:j' W}{ta:j' ie}
theorem XH.lb{G1:Hp}(s:ar G G1){c:eT}{e:aj S}(h:XH K Z EE σ G c e):XH K Z EE σ G1 c e:=λG' H' r q=>h G' H' r (s.lb q)
theorem z9t{i:dr}{j ia}:DE Z X EE (.YS (.a6 i) j ia) (dC (.a6 i)):=PE.mV Ft λσ H Q ⟨G,e,r,h⟩=>h G (.a6 i) H r (.tT _) rfl
theorem Q4s{i:ie}{j ia}:DE Z X EE (.YS (.xv i) j ia) (dC (.bl i)):=PE.mV Vy λσ H Q ⟨G,e,r,h⟩=>h G (.bl i) H r (.tT _) rfl
theorem z9u{j ia}:DE Z X EE (.YS .none j ia) (dC .aC):=PE.mV SJ λσ H Q ⟨G,e,r,h⟩=>h G .aC H r (.tT _) rfl
theorem z9v{i:fv}{j ia}:DE Z X EE (.YS (.str i) j ia) (dC (.str i)):=PE.mV z87 λσ H Q ⟨G,e,r,h⟩=>h G (.str i) H r (.tT _) rfl
def y9r:∀σ H Q,gK K Z EE (af i) σ H Q->sH i σ H Q:=by
 rintro σ H Q ⟨G,e,r,h⟩;unfold af at h;split at h
 .rename_i w hw;let⟨v,h1,h2⟩:=r.fr hw;exact⟨v,h1,h G v H r (.tT _) h2⟩
 .rename_i ws hw;let⟨v,G',h1,h2,h3,h4⟩:=r.Œ hw;exact⟨v,h1,h G' v H h4 h2 h3⟩
 .rename_i k hw;cases q:k._Q with
  |ai w=>
   rw[q]at h;let⟨v,h1,h2⟩:=r._Q hw q;exact⟨v,h1,h G v H r (.tT _) h2⟩
  |none=>rw[q]at h;exact h.nU
 .exact h.nU
theorem dv(i:aT)(hN:gu (X.N[i]?=ai x) jJ)(hv:gu (kg X.dt.gs x) jN)(hd:gu ((x==("__debug__":fv))=false) jK)
  (eK:gu ((x==("__classdict__":fv))=false) jK):DE Z X EE (.mU x ia) (af i):=PE.mV (pv i hN hv hd eK) y9r
def vY(hf:iC K r f):∀σ H Q,gK K Z EE (ao f da db) σ H Q->CY r (gK K Z EE da) (gK K Z EE db) σ H Q:=by
 rintro σ H Q ⟨G,e,mT,h⟩;simp only[ao,R.au,a8]at h;refine⟨G,e,mT,h.uX (λx e1 h G1 v1 H1 r1 s1 p1=>?_) λ_ _ h=>h⟩
 refine⟨G1,e1,r1,h.uX (λy e2 h G2 v2 H2 r2 s2 p2=>?_) λ_ _ h=>XH.lb s1 h⟩
 let⟨w,hw,h⟩:=h;exact hf G2 H2 v1 v2 x y w Q r2.pA (pW.mV s2 x p1) p2 hw λG' v H' g p=>h G' v H' (r2.yJ g) ((s1.lb s2).lb g.gg) p
theorem v9(ho:fF X (Zr op) r)(hf:iC X.K r f)(ha:DE Z X EE a da)(hb:DE Z X EE b db):DE Z X EE (._m a op b ia) (ao f da db):=PE.mV (TR ho ha hb) (vY hf)
theorem yg(ho:fF X (Zs op) r)(hf:iC X.K r f)(ha:DE Z X EE a da)(hb:DE Z X EE b db)(hm:Z3 op b=false):DE Z X EE (.Yw a [op] [b] ia) (ao f da db):=PE.mV (z4a ho ha hb hm) (vY hf)
def JU(h:ZP K Z EE (aw da) σ H Q):gK K Z EE da σ H (λx H'=>∃k,x=.bl k/\Q k H'):=by
 let⟨G,e,mT,h⟩:=h;simp only[aw,R.au]at h;refine⟨G,e,mT,h.uX (λx e1 h G1 v1 H1 r1 s1 p1=>?_) λ_ _ h=>h⟩
 cases x with
 |bl k=>
  cases(show v1=V.bl k from p1);exact⟨k,rfl,h G1 H1 r1 s1⟩
 |_=>exact h.nU
theorem tK(ho:fF X (Zs op) r)(hf:iC X.K r f)(ha:DE Z X EE a da)(hb:DE Z X EE b db)(hm:Z3 op b=false):DT Z X EE (.Yw a [op] [b] ia) (aw (ao f da db)):=
 PT.mV (z4b ho ha hb hm) λσ H Q h=>vY hf σ H _ (JU h)
def Rv(hf:Di K r f):∀σ H Q,gK K Z EE (nB f da) σ H Q->OP r (gK K Z EE da) σ H Q:=by
 rintro σ H Q ⟨G,e,mT,h⟩;simp only[nB,R.au,a8]at h;refine⟨G,e,mT,h.uX (λx e1 h G1 v1 H1 r1 s1 p1=>?_) λ_ _ h=>h⟩
 let⟨w,hw,h⟩:=h;exact hf G1 H1 v1 x w Q r1.pA p1 hw λG' v H' g p=>h G' v H' (r1.yJ g) (s1.lb g.gg) p
theorem VF(ho:As X (ų op) r)(hf:Di X.K r f)(ha:DE Z X EE a da):DE Z X EE (._H op a ia) (nB f da):=PE.mV (VC ho ha) (Rv hf)
def SX(s:ar G H)(h:pW K G w v)(e:jg w=ai k):tV K v H k:=by
 cases w with
 |aC=>cases(show v=.aC from h);cases e;rfl
 |bl b=>cases(show v=.bl b from h);cases e;rfl
 |a6 i=>cases(show v=.a6 i from h);cases e;rfl
 |str x=>
  cases(show v=.str x from h);simp only[jg]at e;split at e
  .cases e;exact⟨by grind [FY],rfl⟩
  .cases e
 |gw ws=>
  let⟨p,xs,rfl,q,r⟩:=h;cases e;refine .mW (.j9 ⟨xs,s.gw q,?_⟩);have:=r.aO
  grind
 |dS ws=>
  let⟨p,xs,rfl,q,r⟩:=h;cases e;refine .j9 ⟨xs,s.ot q,?_⟩;have:=r.aO
  grind
 |Yq _=>cases e
 |aZ _=>cases e
 |dw _ _ _ _=>cases e
 |fn _ _ _=>cases e
def z9w(ha:DE Z X EE a da)(he:∀Κ,ϸ a X.dt Κ=(do let v <- Κ;í a.ia;_w [v] (ű v)):=by intro _;rfl):DT Z X EE a (cP da):=by
 refine PT.mV (y9f ha he) ?_;rintro σ H Q ⟨G,e,mT,h⟩;simp only[cP,R.au,a8]at h;refine⟨G,e,mT,h.uX (λx e1 h G1 v1 H1 r1 s1 p1=>?_) λ_ _ h=>h⟩
 let⟨k,hk,h⟩:=h;exact⟨k,SX r1.pA p1 hk,h G1 H1 r1 s1⟩
def y9s:∀σ H Q,ZP K Z EE (hX ta tb) σ H Q->CL (ZP K Z EE ta) (ZP K Z EE tb) σ H Q:=by
 rintro σ H Q ⟨G,e,mT,h⟩;simp only[hX,R.au]at h;refine⟨G,e,mT,h.uX (λx e1 h G1 H1 r1 s1=>?_) λ_ _ h=>h⟩
 cases x with
 |true=>exact⟨G1,e1,r1,R.Uj.uX (show(tb e1).Uj _ _ from h) (λy e2 h G2 H2 r2 s2=>h G2 H2 r2 (s1.lb s2)) λ_ _ h=>XH.lb s1 h⟩
 |false=>exact(show ∀G' H',_->_->Q false H' from h) G1 H1 r1 s1
def z4p:∀σ H Q,ZP K Z EE (kZ ta tb) σ H Q->ON (ZP K Z EE ta) (ZP K Z EE tb) σ H Q:=by
 rintro σ H Q ⟨G,e,mT,h⟩;simp only[kZ,R.au]at h;refine⟨G,e,mT,h.uX (λx e1 h G1 H1 r1 s1=>?_) λ_ _ h=>h⟩
 cases x with
 |false=>exact⟨G1,e1,r1,R.Uj.uX (show(tb e1).Uj _ _ from h) (λy e2 h G2 H2 r2 s2=>h G2 H2 r2 (s1.lb s2)) λ_ _ h=>XH.lb s1 h⟩
 |true=>exact(show ∀G' H',_->_->Q true H' from h) G1 H1 r1 s1
theorem z4q(ha:DT Z X EE a ta):DW Z X EE (.YJ ._B [a] ia) ta:=z34 ha
theorem z9x(ha:DT Z X EE a ta):DW Z X EE (.YJ .Or [a] ia) ta:=z88 ha
theorem z9y{wV:aj oP}(ha:DT Z X EE a ta)(hb:DW Z X EE (.YJ ._B (b::wV) ia) tb):DW Z X EE (.YJ ._B (a::b::wV) ia) (hX ta tb):=PW.mV (z89 ha hb) y9s
theorem Q4u{wV:aj oP}(ha:DT Z X EE a ta)(hb:DW Z X EE (.YJ .Or (b::wV) ia) tb):DW Z X EE (.YJ .Or (a::b::wV) ia) (kZ ta tb):=PW.mV (Vz ha hb) z4p
theorem V7(h:DW Z X EE a ta):DT Z X EE a ta:=PW.pt h
def z9z(ha:DT Z X EE a ta):DT Z X EE (._H .Not a ia) (eE ta):=by
 refine PT.mV (z9a ha) ?_;rintro σ H Q ⟨G,e,mT,h⟩;simp only[eE,R.au]at h;exact⟨G,e,mT,h.uX (λx e1 h G1 H1 r1 s1=>h G1 H1 r1 s1) λ_ _ h=>h⟩
theorem z90{op}(h:DE Z X EE a da):DE Z X EE (.YJ op [a] ia) da:=z9b h
def z91{wV:aj oP}(ha:DE Z X EE a da)(hb:DE Z X EE (.YJ ._B (b::wV) ia) db):DE Z X EE (.YJ ._B (a::b::wV) ia) (fq da db):=by
 refine PE.mV (z9c ha hb) ?_;rintro σ H Q ⟨G,e,mT,h⟩;simp only[fq,R.au]at h;refine⟨G,e,mT,h.uX (λx e1 h G1 v1 H1 r1 s1 p1=>?_) λ_ _ h=>h⟩
 cases x with
 |bl k=>
  cases(show v1=V.bl k from p1);cases k with
  |true=>exact⟨true,rfl,⟨G1,e1,r1,R.Uj.uX (show(db e1).Uj _ _ from h) (λy e2 h G2 v2 H2 r2 s2 p2=>h G2 v2 H2 r2 (s1.lb s2) p2) λ_ _ h=>XH.lb s1 h⟩⟩
  |false=>exact⟨false,rfl,(show ∀G' v H',_->_->v=V.bl false->Q v H' from h) G1 _ H1 r1 s1 rfl⟩
 |_=>exact h.nU
def Q4v{wV:aj oP}(ha:DE Z X EE a da)(hb:DE Z X EE (.YJ .Or (b::wV) ia) db):DE Z X EE (.YJ .Or (a::b::wV) ia) (nv da db):=by
 refine PE.mV (VA ha hb) ?_;rintro σ H Q ⟨G,e,mT,h⟩;simp only[nv,R.au]at h;refine⟨G,e,mT,h.uX (λx e1 h G1 v1 H1 r1 s1 p1=>?_) λ_ _ h=>h⟩
 cases x with
 |bl k=>
  cases(show v1=V.bl k from p1);cases k with
  |false=>exact⟨false,rfl,⟨G1,e1,r1,R.Uj.uX (show(db e1).Uj _ _ from h) (λy e2 h G2 v2 H2 r2 s2 p2=>h G2 v2 H2 r2 (s1.lb s2) p2) λ_ _ h=>XH.lb s1 h⟩⟩
  |true=>exact⟨true,rfl,(show ∀G' v H',_->_->v=V.bl true->Q v H' from h) G1 _ H1 r1 s1 rfl⟩
 |_=>exact h.nU
def z92(ha:DE Z X EE a da):DE Z X EE (._H .Not a ia) (gB da):=by
 refine PE.mV (z9d ha) ?_;rintro σ H Q ⟨G,e,mT,h⟩;simp only[gB,R.au]at h;refine⟨G,e,mT,h.uX (λx e1 h G1 v1 H1 r1 s1 p1=>?_) λ_ _ h=>h⟩
 cases x with
 |bl k=>
  cases(show v1=V.bl k from p1);exact⟨k,rfl,(show ∀G' v H',_->_->v=V.bl (!k)->Q v H' from h) G1 _ H1 r1 s1 rfl⟩
 |_=>exact h.nU
def Q4w(hc:DT Z X EE c dc)(ha:DE Z X EE a da)(hb:DE Z X EE b db):DE Z X EE (.IfExp c a b ia) (vk dc da db):=by
 refine PE.mV (y9a hc ha hb) ?_;rintro σ H Q ⟨G,e,mT,h⟩;simp only[vk,R.au]at h;refine⟨G,e,mT,h.uX (λx e1 h G1 H1 r1 s1=>?_) λ_ _ h=>h⟩
 cases x with
 |true=>exact⟨G1,e1,r1,R.Uj.uX (show(da e1).Uj _ _ from h) (λy e2 h G2 v2 H2 r2 s2 p2=>h G2 v2 H2 r2 (s1.lb s2) p2) λ_ _ h=>XH.lb s1 h⟩
 |false=>exact⟨G1,e1,r1,R.Uj.uX (show(db e1).Uj _ _ from h) (λy e2 h G2 v2 H2 r2 s2 p2=>h G2 v2 H2 r2 (s1.lb s2) p2) λ_ _ h=>XH.lb s1 h⟩
theorem z93:DA Z X EE [] ag:=PA.mV ye λσ H Q ⟨G,e,r,h⟩=>h G [] H r (.tT _) rfl
def z4r(ha:DE Z X EE e da)(hr:DA Z X EE es dA)(hs:gu (oj (e::es) X.dt=(false,eval e X.dt)::oj es X.dt) jJ):DA Z X EE (e::es) (aa da dA):=by
 refine PA.mV (tH ha hr hs) ?_;rintro σ H Q ⟨G,e,mT,h⟩;simp only[aa,R.au]at h;refine⟨G,e,mT,h.uX (λx e1 h G1 v1 H1 r1 s1 p1=>?_) λ_ _ h=>h⟩
 refine⟨G1,e1,r1,h.uX (λxs e2 h G2 vs H2 r2 s2 p2=>?_) λ_ _ h=>XH.lb s1 h⟩
 exact h G2 (v1::vs) H2 r2 (s1.lb s2) ⟨v1,vs,rfl,pW.mV s2 x p1,p2⟩
def z94{x1}(h:DA Z X EE es dA):DE Z X EE (.Yi es x1 ia) (bo dA):=by
 refine PE.mV (SD h) ?_;rintro σ H Q ⟨G,e,mT,h⟩;simp only[bo,R.au]at h;refine⟨G,e,mT,h.uX (λws e1 h G1 vs H1 r1 s1 p1=>?_) λ_ _ h=>h⟩
 split at h
 .rename_i hl;refine⟨by rw[p1.aO,FY];exact hl,λp hp=>?_⟩
  have g:=aN.Mk r1.pA hp (.gw vs);exact(show ∀G' v H',_->_->pW X.K G' (.gw ws) v->Q v H' from h) _ (.dI p) _ (r1.yJ g) (s1.lb g.gg) ⟨p,vs,rfl,cH.of bQ,aq.mV g.gg ws p1⟩
 .exact h.nU
theorem zH{e:aj S}(r:ph K Z G σ H e){p:f'}(hp:H p=none):iH σ e p:=λj b ws h q=>by
 let⟨a,xs,h1,h2,_⟩:=r.ke h;rw[q]at h1;cases h1;rw[hp]at h2;cases h2
def qo{e:aj S}(r:ph K Z G σ H e){p:f'}(hp:H p=none):Z.H p=none:=by
 cases q:Z.H p with
 |none=>rfl
 |ai o=>
  by_cases hi:p∈Z.io
  .exact uv hp (r.kH p hi)
  .rw[r.YC p o q hi]at hp;cases hp
theorem EV{e:aj S}{Q:VK}{G0:Hp}(r:ph K Z G σ H e)(s:ar G0 G)(p1:aq K G ws vs)
  (h:∀G' a xs H',ph K Z G' σ H' e->ar G0 G'->H' a=ai (.dS xs)->G' a=none->Z.H a=none->iH σ e a->aq K G' ws xs->Q (.dI a) H'):∀p,H p=none->Q (.dI p) (ny H p (.dS vs)):=λp hp=>by
 have g:=aN.nL r.pA hp (.dS vs);exact h G p vs _ (r.yJ g) s bQ (r.pA.rk hp) (qo r hp) (zH r hp) p1
def z95(h:DA Z X EE es dA):DF Z X EE (.aj es ia) (cj dA):=by
 refine PE.mV (z9m h) ?_;rintro σ H Q ⟨G,e,mT,h⟩;simp only[cj,R.au]at h;refine⟨G,e,mT,h.uX (λws e1 h G1 vs H1 r1 s1 p1=>?_) λ_ _ h=>h⟩
 split at h
 .rename_i hl;exact⟨by rw[p1.aO,FY];exact hl,EV r1 s1 p1 h⟩
 .exact h.nU
def ph.é{e:aj S}(r:ph K Z G σ H e){a:f'}{xs:aj V}(h:H a=ai (.dS xs))(hg:G a=none)(hz:Z.H a=none)(hf:iH σ e a):ar G (ny G a (.dS xs))/\ph K Z (ny G a (.dS xs)) σ H e:=by
 have sg:ar G (ny G a (.dS xs)):=vT hg _;refine⟨sg,⟨λc o z=>?_,λj s z=>?_,r.uz,r.lZ,r.YC,r.kH,λc z=>?_⟩⟩
 .by_cases hc:c=a
  .subst hc;rw[bQ]at z;cases z;exact h
  .rw[aR hc]at z;exact r.pA c o z
 .have y:=r.xP j s z;cases s with
  |no=>trivial
  |fr w=>
   let⟨u,y1,y2⟩:=y;exact⟨u,y1,pW.mV sg w y2⟩
  |ke b2 w2=>
   let⟨c,ys,y1,y2,y3,y4,y5⟩:=y;refine⟨c,ys,y1,y2,?_,y4,aq.mV sg w2 y5⟩;rw[aR];exact y3;rintro rfl;let⟨c',_,z1,_⟩:=r.ke z;rw[z1]at y1;cases y1;exact hf j b2 w2 z z1
  |aZ kvs=>
   let⟨c,y1,y2,y3,y4⟩:=y;refine⟨c,y1,y2,?_,y4⟩;rw[aR (fG y2 h (pQ rfl))];exact y3
  |gP us w2 vs=>
   let⟨t,l,o,pX,ys,zs,y1,y2,y3,y4,y5,y6,y7,y8⟩:=y;refine⟨t,l,o,pX,ys,zs,y1,sg _ _ y2,y3,?_,y5,aq.mV sg us y6,aq.mV sg w2 y7,aq.mV sg vs y8⟩;rw[aR (fG y3 h (λz=>nomatch z))];exact y4
  |x k=>exact pk.Xu y sg λl o ys k1 k2 k3=>⟨k1,by rw[aR (fG k1 h (λz=>nomatch z))];exact k2,k3⟩
  |dw sh ks ws=>exact iE.Xu y sg λl o ys k1 k2 k3=>⟨k1,by rw[aR (fG k1 h (tJ rfl))];exact k2,k3⟩
 .by_cases hc:c=a
  .subst hc;exact uv hz z
  .rw[aR hc];exact r.gen c z
def Q4x(h:DF Z X EE e dA):DE Z X EE e (cY dA):=by
 refine PE.mV h ?_;rintro σ H Q ⟨G,e,mT,h⟩;simp only[cY,R.au]at h;refine⟨G,e,mT,h.uX (λws e1 h G1 a xs H1 r1 s1 q1 q2 q3 q4 p1=>?_) λ_ _ h=>h⟩
 let⟨sg,rg⟩:=r1.é q1 q2 q3 q4;exact(show ∀G' v H',_->_->pW X.K G' (.dS ws) v->Q v H' from h) _ (.dI a) _ rg (s1.lb sg) ⟨a,xs,rfl,bI.of bQ,aq.mV sg ws p1⟩
def RG(hf:qB K r f):∀σ H Q,gK K Z EE (bL f dA) σ H Q->Kw r (rF K Z EE dA) σ H Q:=by
 rintro σ H Q ⟨G,e,mT,h⟩;simp only[bL,R.au,a8]at h;refine⟨G,e,mT,h.uX (λws e1 h G1 vs H1 r1 s1 p1=>?_) λ_ _ h=>h⟩
 let⟨w,hw,h⟩:=h;exact hf G1 H1 vs ws w Q r1.pA p1 hw λG' v H' g p=>h G' v H' (r1.yJ g) (s1.lb g.gg) p
theorem Cm{id:Yk}{p:vd}{r:aj V->Hp->VK->Prop}{f:aj W->fy W}(hc:c6 X (.wO id) r)(hf:qB X.K r f)(hv:_r x=ai (.wO id))(hm:X.mg x=none)(ha:DA Z X EE (e::es) dA)(hg:gu (Gl X x) jJ)(hn:gu (x≠"__name__") jK)(f_:gu ((x==("__debug__":fv))=false) jK)
  (he:gu (oj (e::es) X.dt=(false,eval e X.dt)::oj es X.dt) jJ)(dz:gu ((yC ia (oj es X.dt)).tZ (·.1)=false) jJ):DE Z X EE (.wu (.mU x p) (e::es) [] ia) (bL f dA):=
 PE.mV (KR hc hg hm hv ha hn f_ he dz) (RG hf)
theorem SY{T:Yk}{p:vd}{r:aj V->Hp->VK->Prop}{f:aj W->fy W}(hc:c6 X (.je T) r)(hf:qB X.K r f)(hv:_r x=ai (.je T))(hm:X.mg x=none)(ha:DA Z X EE (e::es) dA)(hg:gu (Gl X x) jJ)(hn:gu (x≠"__name__") jK)(f_:gu ((x==("__debug__":fv))=false) jK)
  (he:gu (oj (e::es) X.dt=(false,eval e X.dt)::oj es X.dt) jJ)(dz:gu ((yC ia (oj es X.dt)).tZ (·.1)=false) jJ):DE Z X EE (.wu (.mU x p) (e::es) [] ia) (bL f dA):=
 PE.mV (PY hc hg hm hv ha hn f_ he dz) (RG hf)
end
def b7:aj S->SR:=λe=>.nx e
def ah(a b:aj S->SR):aj S->SR:=λe=>match a e with
 |.nx e'=>b e'
 |r=>r
def R.cR(r:R α)(k:α->aj S->SR):SR:=match r with
 |.ok a e=>k a e
 |.ex c e=>.ex c e
 |.no=>.no
def hZ(d:j' W):aj S->SR:=λe=>(d e).cR λ_ e'=>.nx e'
def aG(d:j' W):aj S->SR:=λe=>(d e).cR λw e'=>.rt (.fr w) e'
def dW(d:j' (aj W)):aj S->SR:=λe=>(d e).cR λws e'=>.rt (.ke none ws) e'
def gD(i:aT):aj S->SR:=λe=>match e[i]? with
 |ai (.ke none ws)=>.rt (.ke none ws) e
 |ai (.fr w)=>.rt (.fr w) e
 |_=>.no
def aL(c:j' ie)(a b:aj S->SR):aj S->SR:=λe=>(c e).cR λx e1=>if x=true then a e1 else b e1
def ay(i:aT)(d:j' W):aj S->SR:=λe=>(d e).cR λw e'=>.nx (e'.ri i (.fr w))
def cV(i:aT)(d:j' (aj W)):aj S->SR:=λe=>(d e).cR λws e'=>.nx (e'.ri i (.ke none ws))
def cL(i:aT)(b:aj S->SR):aj W->aj S->SR
 |[],e=>.nx e
 |w::ws,e=>match b (e.ri i (.fr w))with
  |.nx e'=>cL i b ws e'
  |.ct e'=>cL i b ws e'
  |.bk e'=>.nx e'
  |.rt s e'=>.rt s e'
  |.ex c e'=>.ex c e'
  |.no=>.no
def bw(c:j' ie)(b:aj S->SR):aT->aj S->SR
 |0,_=>.no
 |n+1,e=>(c e).cR λx e1=>if x=true then(match b e1 with
  |.nx e'=>bw c b n e'
  |.ct e'=>bw c b n e'
  |.bk e'=>.nx e'
  |.rt s e'=>.rt s e'
  |.ex c e'=>.ex c e'
  |.no=>.no)else .nx e1
def eG:W->fy (aj W)
 |.gw ws=>ai ws
 |.dS ws=>ai ws
 |_=>none
def i6(i:aT)(d:j' W)(b:aj S->SR):aj S->SR:=λe=>(d e).cR λw e1=>match eG w with
 |ai ws=>cL i b ws e1
 |none=>.no
def bN(lo hi:dr):aj W:=(aj.u5 (hi-lo).sG).a7 λk=>.a6 (lo+(k:aT))
def qi(j:dr):ie:=aT.ble j.υ 4611686018427387903
def yh(h:qi j=true):-(2^62)<=j/\j<2^62:=by
 have z:j.υ<=4611686018427387903:=w3w h
 grind
theorem pP{j:dr}(h1:-1000000000<=j)(h2:j<=1000000000):qi j=true:=aT.ble_eq_true_of_le (by omega)
def cO:aj W->fy (aj W)
 |[.a6 j]=>if qi j=true then ai (bN 0 j)else none
 |_=>none
def XX:aj W->fy (aj W)
 |[.a6 i,.a6 j]=>if qi i=true/\qi j=true then ai (bN i j)else none
 |_=>none
def cJ(i:aT)(g:aj W->fy (aj W))(d:j' (aj W))(b:aj S->SR):aj S->SR:=λe=>(d e).cR λw e1=>match g w with
 |ai ws=>cL i b ws e1
 |none=>.no
section
variable{X:Cx}{a c e:oP}{st:Dn}{wV t6:aj Dn}{d:j' W}{s1 s2:aj S->SR}
theorem bG.lb(s:ar G G1):∀{r:SR},bG K Z EE D G r->bG K Z EE D G1 r
 |.nx e',h=>λG' aM H' r q=>h G' aM H' r (s.lb q)
 |.bk e',h=>λG' aM H' r q=>h G' aM H' r (s.lb q)
 |.ct e',h=>λG' aM H' r q=>h G' aM H' r (s.lb q)
 |.rt w e',h=>λG' aM v H' r q=>h G' aM v H' r (s.lb q)
 |.ex c e',h=>λG' aM H' r q=>h G' aM H' r (s.lb q)
 |.no,h=>h
def ki{r:R α}(h:bG K Z EE D G (r.cR k)):r.Uj (λa e'=>bG K Z EE D G (k a e')) (XH K Z EE σ G):=by
 cases r with
 |ok a e=>exact h
 |ex c e=>exact λG' H' r q=>h G' σ H' r q
 |no=>exact h
theorem z4s:mY Z X EE [] b7:=lX.mV z35 λD σ H ⟨G,e,r,h⟩=>h G σ H r (.tT _)
def y9t:∀D σ H,eu K Z EE (ah s1 s2) D σ H->C0 (eu K Z EE s1) (eu K Z EE s2) D σ H:=by
 rintro D σ H ⟨G,e,mT,h⟩;refine⟨G,e,mT,?_⟩;unfold ah at h;cases q:s1 e with
 |nx e'=>rw[q]at h;exact λG' aM H' r s=>⟨G',e',r,bG.lb s h⟩
 |bk e'=>rw[q]at h;exact h
 |ct e'=>rw[q]at h;exact h
 |rt w e'=>rw[q]at h;exact h
 |ex c e'=>rw[q]at h;exact h
 |no=>rw[q]at h;exact h
theorem y9u(h1:DS Z X EE st s1)(h2:mY Z X EE wV s2):mY Z X EE (st::wV) (ah s1 s2):=lX.mV (y9b h1 h2) y9t
theorem z4t(h1:DS Z X EE st s1):mY Z X EE [st] s1:=z36 h1
def z4u(he:DE Z X EE e d)(hs:gu (Zb e none ia.X9 X.dt=uV false) jJ):DS Z X EE (.oP e ia) (hZ d):=by
 refine PS.mV (E5 he hs) ?_;rintro D σ H ⟨G,e,mT,h⟩;exact⟨G,e,mT,(ki h).uX (λw e1 h G1 v1 H1 r1 s1 p1=>h G1 σ H1 r1 s1) λ_ _ h=>h⟩
def z96(he:DE Z X EE e d):DS Z X EE (.ϓ (ai e) ia) (aG d):=by
 refine PS.mV (Cj he) ?_;rintro D σ H ⟨G,e,mT,h⟩;exact⟨G,e,mT,(ki h).uX (λw e1 h G1 v1 H1 r1 s1 p1=>h G1 σ v1 H1 r1 s1 ⟨v1,rfl,p1⟩) λ_ _ h=>h⟩
def z4v(he:DF Z X EE e dA):DS Z X EE (.ϓ (ai e) ia) (dW dA):=by
 refine PS.mV (Cj he) ?_;rintro D σ H ⟨G,e,mT,h⟩;exact⟨G,e,mT,(ki h).uX (λw e1 h G1 a xs H1 r1 s1 q1 q2 q3 q4 p1=>h G1 σ (.dI a) H1 r1 s1 ⟨a,xs,rfl,q1,q2,q3,p1⟩) λ_ _ h=>h⟩
def z4w(i:aT){p:vd}(hN:gu (X.N[i]?=ai x) jJ)(hv:gu (kg X.dt.gs x) jN)(hd:gu ((x==("__debug__":fv))=false) jK)
  (eK:gu ((x==("__classdict__":fv))=false) jK):DS Z X EE (.ϓ (ai (.mU x p)) ia) (gD i):=by
 refine PS.mV (Cj (pv i hN hv hd eK)) ?_;rintro D σ H ⟨G,e,mT,h⟩;unfold gD at h;split at h
 .rename_i ws hw;let⟨a,xs,h1,h2,h3,h4,h5⟩:=mT.ke hw;exact⟨.dI a,h1,h G σ _ H mT (.tT _) ⟨a,xs,rfl,h2,h3,h4,h5⟩⟩
 .rename_i w hw;let⟨v,h1,h2⟩:=mT.fr hw;exact⟨v,h1,h G σ _ H mT (.tT _) ⟨v,rfl,h2⟩⟩
 .exact h.nU
def y9v:∀D σ H,eu K Z EE (aL dc s1 s2) D σ H->CQ (ZP K Z EE dc) (eu K Z EE s1) (eu K Z EE s2) D σ H:=by
 rintro D σ H ⟨G,e,mT,h⟩;refine⟨G,e,mT,(ki h).uX (λx e1 h G1 H1 r1 q1=>?_) λ_ _ h=>h⟩
 cases x with
 |true=>exact⟨G1,e1,r1,bG.lb q1 h⟩
 |false=>exact⟨G1,e1,r1,bG.lb q1 h⟩
theorem Q4y(hc:DT Z X EE c dc)(ha:mY Z X EE p s1)(hb:mY Z X EE q s2):DS Z X EE (.If c p q ia) (aL dc s1 s2):=PS.mV (VB hc ha hb) y9v
def z97(i:aT)(hN:X.N.yr)(he:DE Z X EE e d)(hi:gu (X.N[i]?=ai x) jJ)(hx:gu (YT X.dt.gs x) jM)(hs:gu (Zb e (ai (.mU x YI)) ia.X9 X.dt=uV false) jJ)(hf:gu (X.fn x=true\/X.dt.gs.p6.hW x=ai .local) jL):
  DS Z X EE (.Zi [.mU x YI] e ia) (ay i d):=by
 refine PS.mV (C8 i hN he hi hx hs hf) ?_;rintro D σ H ⟨G,e,mT,h⟩;exact⟨G,e,mT,(ki h).uX (λw e1 h G1 v1 H1 r1 q1 p1=>h G1 _ H1 (r1.ri p1) q1) λ_ _ h=>h⟩
def z98(i:aT)(hN:X.N.yr)(he:DF Z X EE e dA)(hi:gu (X.N[i]?=ai x) jJ)(hx:gu (YT X.dt.gs x) jM)(hs:gu (Zb e (ai (.mU x YI)) ia.X9 X.dt=uV false) jJ)(hf:gu (X.fn x=true\/X.dt.gs.p6.hW x=ai .local) jL):
  DS Z X EE (.Zi [.mU x YI] e ia) (cV i dA):=by
 refine PS.mV (C8 i hN he hi hx hs hf) ?_;rintro D σ H ⟨G,e,mT,h⟩;exact⟨G,e,mT,(ki h).uX (λw e1 h G1 a xs H1 r1 s1 q1 q2 q3 q4 p1=>h G1 _ H1 (r1.zeS q1 q2 q3 q4 p1) s1) λ_ _ h=>h⟩
def y9w(n)(hp:ϩ (p5 X.jf X.w) X.A X.dt X.xe)(hc:DT Z X EE c dc)(hb:mY Z X EE t6 s1):DS Z X EE (.While c t6 [] ia) (bw dc s1 n):=by
 refine PS.mV (y9c hp hc hb) ?_;rintro D σ H ⟨G,e,mT,h⟩;refine⟨λm aM H'=>∃G' e',ph X.K Z G' aM H' e'/\ar G G'/\bG X.K Z EE D G (bw dc s1 m e'),⟨n,G,e,mT,.tT _,h⟩,?_⟩
 rintro m tN H1 ⟨G1,e1,r1,q1,h⟩;cases m with
 |TL=>exact h.nU
 |OK m=>
  refine⟨G1,e1,r1,(ki (σ:=tN) h).uX (λx e2 h G2 H2 r2 q2=>?_) λ_ _ h=>XH.lb q1 h⟩
  cases x with
  |false=>exact h G2 tN H2 r2 (q1.lb q2)
  |true=>
   refine⟨λaM H'=>∃G' e',ph X.K Z G' aM H' e'/\ar G G'/\bG X.K Z EE D G (bw dc s1 m e'),λaM H' q=>⟨m,aT.zc5 _,q⟩,⟨G2,e2,r2,?_⟩⟩
   have sg:=q1.lb q2;have h:bG X.K Z EE D G (match s1 e2 with|.nx e'=>bw dc s1 m e'|.ct e'=>bw dc s1 m e'|.bk e'=>.nx e'|.rt s e'=>.rt s e'|.ex c e'=>.ex c e'|.no=>.no):=h;cases q:s1 e2 with
   |nx e'=>rw[q]at h;exact λG' aM H' r s=>⟨G',e',r,sg.lb s,h⟩
   |ct e'=>rw[q]at h;exact λG' aM H' r s=>⟨G',e',r,sg.lb s,h⟩
   |bk e'=>rw[q]at h;exact λG' aM H' r s=>h G' aM H' r (sg.lb s)
   |rt w e'=>rw[q]at h;exact λG' aM v H' r s=>h G' aM v H' r (sg.lb s)
   |ex c e'=>rw[q]at h;exact λG' aM H' r s=>h G' aM H' r (sg.lb s)
   |no=>rw[q]at h;exact h
def y9x{x:V}(r1:ph K Z G1 σ H e1)(q1:ar G G1)(p:pW K G1 w x)(h:bG K Z EE D G (cL i s1 (w::ws) e1))
  (hN:∀G' aM H' e',ph K Z G' aM H' e'->ar G G'->bG K Z EE D G (cL i s1 ws e')->N aM H'):bJ i x σ H λjq H2=>eu K Z EE s1 {D with nx:=N,ct:=N,bk:=D.nx} jq H2:=by
 refine⟨G1,e1.ri i (.fr w),r1.ri p,?_⟩;unfold cL at h;cases q:s1 (e1.ri i (.fr w))with
 |nx e'=>rw[q]at h;exact λG' aM H' r s=>hN G' aM H' e' r (q1.lb s) h
 |ct e'=>rw[q]at h;exact λG' aM H' r s=>hN G' aM H' e' r (q1.lb s) h
 |bk e'=>rw[q]at h;exact λG' aM H' r s=>h G' aM H' r (q1.lb s)
 |rt w e'=>rw[q]at h;exact λG' aM v H' r s=>h G' aM v H' r (q1.lb s)
 |ex c e'=>rw[q]at h;exact λG' aM H' r s=>h G' aM H' r (q1.lb s)
 |no=>rw[q]at h;exact h
def Be(K:Fg)(tl:TE):TI:=λσ H R=>tl σ H λx H1=>∃a,x=.dI a/\(((∃xs,bI K H1 a xs)/\R (yS K a) H1)\/((∃xs,cH K H1 a xs)/\R (yT K a) H1))
def Cn(hl:PE X l tl):PI X tg l (Be X.K tl):=by
 intro d0 s σ H R I h;refine bC (hl d0 s σ H _ I h) λv s1 ⟨x,H1,I1,r1,q1⟩=>?_
 let⟨a,e,q⟩:=q1;subst e;cases r1;rcases q with⟨⟨xs,hq⟩,q⟩|⟨⟨xs,hq⟩,q⟩
 .let⟨av,rv,p,hz⟩:=I1.xT hq;refine Ν p.zf ?_;refine⟨s1.bj.g0.d3,[s1.bj.g0.d3],_,_,H1,rfl,I1.XE (t':=s1.rJ) λb o e=>g6.w6 _ e,y4u a _,⟨_,g6.Bt _ rfl,rfl,rfl⟩,λb hb=>?_,q⟩
  have e:b=s1.bj.g0.d3:=by simpa using hb
  subst e;exact I1.jI (w0f _) (I1.aJ.yI (w0f _))
 .let⟨av,rv,p,hz⟩:=I1.Uo hq;refine ω (show s1.bj.Yy a av.lS from p) ?_;refine⟨s1.bj.g0.d3,[s1.bj.g0.d3],_,_,H1,rfl,I1.XE (t':=s1.rJ) λb o e=>g6.w6 _ e,y21 a _,⟨_,g6.Bt _ rfl,rfl,rfl⟩,λb hb=>?_,q⟩
  have e:b=s1.bj.g0.d3:=by simpa using hb
  subst e;exact I1.jI (w0f _) (I1.aJ.yI (w0f _))
def JV{α:Type}{ws:aj α}{k:aT}{w:α}(h:ws[k]?=ai w):ws.zd k=w::ws.zd (k+1):=by
 let⟨hk,rfl⟩:=w0c.mp h;exact w3a hk
def RH(r1:ph K Z G1 σ H1 e1)(rp:aq K G1 ws xs)(h:bG K Z EE D G1 (cL i s1 ws e1))(SQ:Hp->Prop)(pF:∀G' H',ar G1 G'->ar G' H'->SQ H'):
  ∃Pv:aT->St->Hp->Prop,Pv 0 σ H1/\(∀j σ H,j<=xs.aO->Pv j σ H->SQ H)/\(∀(j:aT) x σ H,xs[j]?=ai x->Pv j σ H->bJ i x σ H λjq H2=>eu K Z EE s1 {D with nx:=Pv (j+1),ct:=Pv (j+1),bk:=D.nx} jq H2)/\∀σ H,Pv xs.aO σ H->D.nx σ H:=by
 refine⟨λj aM H'=>∃G' e',ph K Z G' aM H' e'/\ar G1 G'/\bG K Z EE D G1 (cL i s1 (ws.zd j) e'),⟨G1,e1,r1,.tT _,h⟩,?_,?_,?_⟩
 .rintro j aM H' _ ⟨G',e',r',s',_⟩;exact pF G' H' s' r'.pA
 .rintro j x aM H' hx ⟨G',e',r',s',h⟩;let⟨w,hw,pw⟩:=rp.iM hx;rw[JV hw]at h;exact y9x r' s' (pW.mV s' w pw) h λfk fV l6 e'' nX iR p_=>⟨fk,e'',nX,iR,p_⟩
 .rintro aM H' ⟨G',e',r',s',h⟩;rw[rp.aO,w2p]at h;exact h G' aM H' r' s'
def z99(i:aT)(hN:X.N.yr)(hp:ϩ (p5 X.jf X.w) X.A X.dt X.xe)(hc:X.NI=true)(hl:DE Z X EE e d)(hb:mY Z X EE t6 s1)
  (hi:gu (X.N[i]?=ai x) jJ)(hx:gu (YT X.dt.gs x) jM)(hf:gu (X.fn x=true\/X.dt.gs.p6.hW x=ai .local) jL)(hs:∀x,Zv e X.dt x=uV x:=by intro _;rfl):
  DS Z X EE (.For (.mU x YI) e t6 [] ia) (i6 i d s1):=by
 refine PS.mV (LW hp hc (Cn hl) (uR i hN hi hx hf) hb hs) ?_;rintro D σ H ⟨G,e,mT,h⟩;refine⟨G,e,mT,(ki h).uX (λw e1 h G1 v1 H1 r1 q1 p1=>?_) λ_ _ h=>h⟩
 have YL:=λws xs (rp:aq X.K G1 ws xs) (h:bG X.K Z EE D G (cL i s1 ws e1))=>RH (i:=i) (D:=D) r1 rp (bG.lb q1 h)
 cases w with
 |gw ws=>
  let⟨a,xs,rfl,hq,rp⟩:=p1;refine⟨a,rfl,.mW ⟨⟨xs,r1.pA.gw hq⟩,?_⟩⟩;let⟨Pv,h0,h1,h2,h3⟩:=YL ws xs rp h (λH'=>cH X.K H' a xs) (λG' H' s s'=>ar.gw s' (ar.gw s hq))
  exact z38 Pv h0 h1 h2 h3
 |dS ws=>
  let⟨a,xs,rfl,hq,rp⟩:=p1;refine⟨a,rfl,.j9 ⟨⟨xs,r1.pA.ot hq⟩,?_⟩⟩;let⟨Pv,h0,h1,h2,h3⟩:=YL ws xs rp h (λH'=>bI X.K H' a xs) (λG' H' s s'=>ar.ot s' (ar.ot s hq))
  exact y9e Pv h0 h1 h2 h3
 |_=>exact h.nU
def O_:aq K G (bN lo hi) ((aj.u5 (hi-lo).sG).a7 λk=>V.a6 (lo+(k:aT))):=by
 unfold bN;generalize aj.u5 (hi-lo).sG=l
 induction l with
 |ro=>rfl
 |p9 k l ih=>exact⟨_,_,rfl,rfl,ih⟩
def z4x(r1:ph K Z G1 σ H1 e1)(h:bG K Z EE D G1 (cL i s1 (bN lo hi) e1)):
  ∃W:aT->aT->St->Hp->Prop,(∃m,W 0 m σ H1)/\∀j m σ H,W j m σ H ->
   ((qx lo (hi-lo).sG).stop j H/\D.nx σ H)\/((qx lo (hi-lo).sG).go j H/\∃N:St->Hp->Prop,(∀aM H',N aM H'->∃m',m'<m/\W (j+1) m' aM H')/\∀x H',(qx lo (hi-lo).sG).kQ j H x H'->bJ i x σ H' λjq H2=>eu K Z EE s1 {D with nx:=N,ct:=N,bk:=D.nx} jq H2):=by
 let⟨Pv,h0,h1,h2,h3⟩:=RH (i:=i) (D:=D) r1 (O_ (lo:=lo) (hi:=hi)) h (λ_=>ku) (λ_ _ _ _=>trivial)
 refine y4w Pv h0 (λj aM H' hj p=>h2 j _ aM H' ?_ p) (λaM H' p=>h3 aM H' (by simpa using p))
 simp[hj]
def z4y(i:aT){p p1 p2:vd}(hN:X.N.yr)(hp:ϩ (p5 X.jf X.w) X.A X.dt X.xe)(hc:X.NI=true)(hm:X.mg "range"=none)(ha:DA Z X EE [a] dA)(hb:mY Z X EE t6 s1)
  (hi:gu (X.N[i]?=ai x) jJ)(hx:gu (YT X.dt.gs x) jM)(hf:gu (X.fn x=true\/X.dt.gs.p6.hW x=ai .local) jL)(hg:gu (Gl X "range") jJ)(oK:gu (oj [a] X.dt=[(false,eval a X.dt)]) jJ)(hs:∀x,Zv (.wu (.mU "range" p1) [a] [] p2) X.dt x=uV x:=by intro _;rfl):
  DS Z X EE (.For (.mU x p) (.wu (.mU "range" p1) [a] [] p2) t6 [] ia) (cJ i cO dA s1):=by
 refine PS.mV (LW hp hc (EH hg hm ha oK) (uR i hN hi hx hf) hb hs) ?_;rintro D σ H ⟨G,e,mT,h⟩;refine⟨G,e,mT,(ki h).uX (λws e1 h G1 vs H1 r1 q1 p1=>?_) λ_ _ h=>h⟩
 unfold cO at h;split at h
 .rename_i hh;split at hh
  .rename_i j;split at hh
   .rename_i hj;cases hh;let⟨y,r,rfl,e1,e2⟩:=p1;cases(show y=V.a6 j from e1);cases(show r=[]from e2);refine⟨j,rfl,(yh hj).1,(yh hj).2,?_⟩;have z:=z4x (i:=i) (D:=D) r1 (bG.lb q1 h)
    rwa [dr.sub_zero]at z
   .cases hh
  .cases hh
 .exact h.nU
end
open PyProof.Rows (envOfC)
inductive FR where
 |ok (s:S)|ex (c:eT)|no
def n0(K:Fg)(F:aj W->FR):Sp:=λvs H Q E=>∃G ws,ar G H/\aq K G ws vs/\match F ws with
 |.ok s=>∀G' H' v,aN G H G' H'->eC K ⟨H,G,[]⟩ G' H' s (ai v)->Q v H'
 |.ex c=>∀H',ar H H'->E c none H'
 |.no=>uH
def SR.fn:SR->FR
 |.nx _=>.ok (.fr .aC)
 |.rt s _=>.ok s
 |.ex c _=>.ex c
 |_=>.no
def ZO(n:aT)(ws:aj W):aj S:=ws.a7 .fr++aj.w4 (n-ws.aO) .no
def QK{N:aj fv}(s:ar G H)(r:aq K G ws vs):ph K ⟨H,G,[]⟩ G (L2.Z9 N vs) H (ZO N.aO ws):=by
 have hl:=r.aO
 have lh:∀(i:aT)(s:S),(ZO N.aO ws)[i]?=ai s->(s=.no)\/∃w,s=.fr w/\ws[i]?=ai w:=λi s h=>by
  unfold ZO at h;rw[aj.getElem?_append]at h;split at h
  .rw[w0t]at h;let⟨w,h1,rfl⟩:=w0i.mp h;exact .mW ⟨w,rfl,h1⟩
  .rw[w3i]at h;split at h
   .cases h;exact .j9 rfl
   .cases h
 refine⟨s,λi t h=>?_,?_,λi j b b' w1 w2 a h1 h2 _ _=>?_,λa o h _=>h,(λa h=>nomatch h),λa _=>rfl⟩
 .rcases lh i t h with rfl|⟨w,rfl,h1⟩
  .trivial
  .let⟨v,h2,h3⟩:=r.A' h1;refine⟨v,?_,h3⟩;have hi:i<vs.aO:=(w0c.mp h2).1;unfold L2.Z9;rw[w2h (by simpa using hi),w0t,h2];rfl
 .unfold ZO L2.Z9;simp[hl]
 .rcases lh i _ h1 with z|⟨w,z,_⟩<;>cases z
theorem ph.fU(r:ph K ⟨H,G,[]⟩ G' σ H' e)(s:ar G G'):aN G H G' H':=
 ⟨λa o h=>r.YC a o h (by simp),s,r.pA,λa h=>r.gen a h⟩
def S0{F:aj W->FR}{Q:VK}{E:XK}(h:n0 K F vs H Q E):∃G ws,F ws≠.no/\aq K G ws vs:=by
 let⟨G,ws,_,r,h⟩:=h;refine⟨G,ws,λz=>?_,r⟩
 rw[z]at h;exact h
def z4z{F:aj W->FR}(he:r.fn=F ws)(h:match F ws with
  |.ok s=>∀G' H' v,aN G H G' H'->eC K ⟨H,G,[]⟩ G' H' s (ai v)->Q v H'
  |.ex c=>∀H',ar H H'->E c none H'
  |.no=>uH):bG K ⟨H,G,[]⟩ (λ_=>E) {nx:=λ_ H'=>Q .aC H',rt:=Q} G r:=by
 rw[<- he]at h;cases r with
 |nx e=>exact λG' aM H' r s=>h G' H' .aC (r.fU s) ⟨.aC,rfl,rfl⟩
 |rt s e=>exact λG' aM v H' r q p=>h G' H' v (r.fU q) p
 |ex c e=>exact λG' aM H' r s=>h H' (r.fU s).hh
 |bk e=>exact h.nU
 |ct e=>exact h.nU
 |no=>exact h.nU
def ak(F:aj W->FR)(dA:j' (aj W)):j' W:=λe=>(dA e).qK λws e1=>match F ws with
 |.ok (.fr w)=>.ok w e1
 |.ok (.ke none ws')=>.ok (.dS ws') e1
 |.ok (.aZ kvs)=>.ok (.aZ kvs) e1
 |.ok (.gP us ws vs)=>.ok (.gw (us++.dS ws::vs)) e1
 |.ex c=>.ex c e1
 |_=>.no
section
variable{X:Cx}{e:oP}{p:vd}{k:aT}{ps:aj fv}{F:aj W->FR}
def QL(r1:ph K Z G1 σ H1 e1)(g:aN G1 H1 G' H')(q:eC K ⟨H1,G1,[]⟩ G' H' s (ai v))(hs:s=.fr w\/∃ws,s=.ke none ws/\w=.dS ws):
  ∃fk,ph K Z fk σ H' e1/\ar G1 fk/\pW K fk w v:=by
 rcases hs with rfl|⟨ws,rfl,rfl⟩
 .let⟨u,h1,h2⟩:=q;cases h1;exact⟨G',r1.yJ g,g.gg,h2⟩
 .let⟨a,xs,h1,h2,h3,h4,h5⟩:=q;cases h1;have hn:H1 a=none:=h4;let⟨sg,rg⟩:=(r1.yJ g).é h2 h3 (qo r1 hn) (zH r1 hn);exact⟨_,rg,g.gg.lb sg,⟨a,xs,rfl,bI.of bQ,aq.mV sg ws h5⟩⟩
def y5g(r1:ph K Z G1 σ H1 e1)(g:aN G1 H1 G' H')(q:eC K ⟨H1,G1,[]⟩ G' H' (.aZ kvs) (ai v)):
  ∃fk,ph K Z fk σ H' e1/\ar G1 fk/\pW K fk (.aZ kvs) v:=by
 let⟨a,h1,h2,h3,h4⟩:=q;cases h1;have hn:H1 a=none:=h4;have r:=r1.yJ g;have sg:ar G' (ny G' a (dO kvs)):=vT h3 _;refine⟨ny G' a (dO kvs),⟨λc o z=>?_,λj s z=>?_,r.uz,r.lZ,r.YC,r.kH,λc z=>?_⟩,g.gg.lb sg,⟨a,rfl,bQ⟩⟩
 .by_cases hc:c=a
  .grind [bQ]
  .rw[aR hc]at z;exact r.pA c o z
 .have y:=r.xP j s z;have y1:=r1.xP j s z;cases s with
  |no=>trivial
  |fr w=>
   let⟨u,y1,y2⟩:=y;exact⟨u,y1,pW.mV sg w y2⟩
  |ke b2 w2=>
   let⟨c,ys,x1,x2,x3,x4,x5⟩:=y;refine⟨c,ys,x1,x2,?_,x4,aq.mV sg w2 x5⟩;rw[aR (fG x2 h2 (λz=>pQ rfl z.symm))];exact x3
  |aZ kv=>
   let⟨c,x1,x2,x3,x4⟩:=y;let⟨c',w1,w2,_⟩:=y1;rw[x1]at w1;cases w1;refine⟨c,x1,x2,?_,x4⟩;rw[aR (gh w2 hn)];exact x3
  |gP us w2 vs=>
   let⟨t,l,o,pX,ys,zs,x1,x2,x3,x4,x5,x6,x7,zeu⟩:=y;refine⟨t,l,o,pX,ys,zs,x1,sg _ _ x2,x3,?_,x5,aq.mV sg us x6,aq.mV sg w2 x7,aq.mV sg vs zeu⟩;rw[aR (fG x3 h2 (λz=>pQ rfl z.symm))];exact x4
  |x k=>exact pk.Xu y sg λl o ys k1 k2 k3=>⟨k1,by rw[aR (fG k1 h2 (λz=>pQ rfl z.symm))];exact k2,k3⟩
  |dw sh ks ws=>
   let⟨c,kv,ka,x1,x2,x3,x4,x5,x6,x7⟩:=y;let⟨c',kv',ka',w1,w2,_⟩:=y1;rw[x1]at w1;cases w1;refine⟨c,kv,ka,x1,x2,?_,x4,x5,x6.mV sg,x7.Xu sg λ_ _ _ z=>z⟩
   rw[aR (gh w2 hn)];exact x3
 .by_cases hc:c=a
  .grind [qo]
  .rw[aR hc];exact r.gen c z
def y5h{vs:aj W}(r1:ph K Z G1 σ H1 e1)(g:aN G1 H1 G' H')(q:eC K ⟨H1,G1,[]⟩ G' H' (.gP us ws vs) (ai v)):
  ∃fk,ph K Z fk σ H' e1/\ar G1 fk/\pW K fk (.gw (us++.dS ws::vs)) v:=by
 let⟨t,l,o,xs,ys,zs,h1,h2,h3,h4,h5,h6,h7,h8⟩:=q;cases h1;have hn:H1 l=none:=h5;have r:=r1.yJ g;have sg:ar G' (ny G' l (.cB o (.dS ys))):=vT h4 _;refine⟨ny G' l (.cB o (.dS ys)),⟨λc u z=>?_,λj s z=>?_,r.uz,r.lZ,r.YC,r.kH,λc z=>?_⟩,g.gg.lb sg,⟨t,_,rfl,cH.of (sg _ _ h2),(aq.mV sg us h6).Xy ⟨.dI l,zs,rfl,⟨l,ys,rfl,.j9 (.mW ⟨o,bQ⟩),aq.mV sg ws h7⟩,aq.mV sg vs h8⟩⟩⟩
 .by_cases hc:c=l
  .grind [bQ]
  .rw[aR hc]at z;exact r.pA c u z
 .have y:=r.xP j s z;have y1:=r1.xP j s z;cases s with
  |no=>trivial
  |fr w=>
   let⟨u,y1,y2⟩:=y;exact⟨u,y1,pW.mV sg w y2⟩
  |ke b2 w2=>
   let⟨c,ys,x1,x2,x3,x4,x5⟩:=y;refine⟨c,ys,x1,x2,?_,x4,aq.mV sg w2 x5⟩;rw[aR (fG x2 h3 (λz=>nomatch z))];exact x3
  |aZ kv=>
   let⟨c,x1,x2,x3,x4⟩:=y;refine⟨c,x1,x2,?_,x4⟩;rw[aR (fG x2 h3 (pQ rfl))];exact x3
  |gP us w2 vs=>
   let⟨t1,l1,o1,xs1,ys1,zs1,w1,zaM,w3,zeb,zec,zed,w7,zee⟩:=y1;have E8:=g.gg.lb sg;refine⟨t1,l1,o1,xs1,ys1,zs1,w1,E8 _ _ zaM,g.hh _ _ w3,?_,zec,aq.mV E8 us zed,aq.mV E8 w2 w7,aq.mV E8 vs zee⟩;rw[aR (gh w3 hn),g.xM l1 (by rw[w3];simp)];exact zeb
  |x k=>exact pk.Xu y1 (g.gg.lb sg) λl1 o ys k1 k2 k3=>⟨g.hh _ _ k1,by rw[aR (gh k1 hn),g.xM l1 (by rw[k1];simp)];exact k2,k3⟩
  |dw sh ks ws=>exact iE.Xu y1 (g.gg.lb sg) λl1 o ys k1 k2 k3=>⟨g.hh _ _ k1,by rw[aR (gh k1 hn),g.xM l1 (by rw[k1];simp)];exact k2,k3⟩
 .by_cases hc:c=l
  .grind [qo]
  .rw[aR hc];exact r.gen c z
theorem TY(r1:ph K Z G1 σ H1 e1)(s1:ar G G1)(h:XH K Z EE σ G c e1):∀H',ar H1 H'->EE σ c none H':=λH' sh=>
 h G1 H' (r1.yJ ⟨sh,.tT _,r1.pA.lb sh,λ_ _=>rfl⟩) s1
def Q0a(C:sN X.jf X.w X.K X.mg X.kT k x ps (n0 X.K F))(hr:bA k X.A)(hx:dP (ee X.jf X.w) X EE)(ha:DA Z X EE (e::es) dA)(hg:gu (Gl X x) jJ)
  (f_:gu ((x==("__debug__":fv))=false) jK)(he:gu (oj (e::es) X.dt=(false,eval e X.dt)::oj es X.dt) jJ)(dz:gu ((yC ia (oj es X.dt)).tZ (·.1)=false) jJ):
  DE Z X EE (.wu (.mU x p) (e::es) [] ia) (ak F dA):=by
 refine PE.mV (LX C hr hx ha hg f_ he dz) ?_;rintro σ H Q ⟨G,e,mT,h⟩;simp only[ak,R.au]at h;refine⟨G,e,mT,h.uX (λws e1 h G1 vs H1 r1 s1 p1=>?_) λ_ _ h=>h⟩
 refine⟨G1,ws,r1.pA,by rw[w1q];exact p1,?_⟩;cases q:F ws with
 |ok s=>
  rw[q]at h;intro G' H' v g sl;cases s with
  |no=>exact h.nU
  |fr w=>
   let⟨fk,r2,s2,p2⟩:=QL r1 g sl (.j9 rfl);exact(show ∀G' v H',_->_->pW X.K G' w v->Q v H' from h) fk v H' r2 (s1.lb s2) p2
  |ke b ws'=>
   cases b with
   |ai _=>exact h.nU
   |none=>
    let⟨fk,r2,s2,p2⟩:=QL r1 g sl (.mW ⟨ws',rfl,rfl⟩);exact(show ∀G' v H',_->_->pW X.K G' (.dS ws') v->Q v H' from h) fk v H' r2 (s1.lb s2) p2
  |aZ kvs=>
   let⟨fk,r2,s2,p2⟩:=y5g r1 g sl;exact(show ∀G' v H',_->_->pW X.K G' (.aZ kvs) v->Q v H' from h) fk v H' r2 (s1.lb s2) p2
  |gP us ws' KO=>
   let⟨fk,r2,s2,p2⟩:=y5h r1 g sl;exact(show ∀G' v H',_->_->pW X.K G' (.gw (us++.dS ws'::KO)) v->Q v H' from h) fk v H' r2 (s1.lb s2) p2
  |x k=>
   cases k with
   |_=>exact h.nU
  |dw _ _ _=>exact h.nU
 |ex c=>
  rw[q]at h;exact TY r1 s1 h
 |no=>rw[q]at h;exact h.nU
def jE(C:f')(d:j' (aj W)):aj S->SR:=λe=>(d e).cR λws e1=>if ws.aO<=16777216 then .ex (.dI C) e1 else .no
def y9y{C Ac:f'}{np aX:vd}(hx:qC X EE)(hC:ϲ X.K C Ac=true)(hm:X.mg x=ai (.dI C))(hc:X.NI=true)(ha:DA Z X EE (e::es) dA)(hg:gu (Gl X x) jJ)
  (f_:gu ((x==("__debug__":fv))=false) jK)(he:gu (oj (e::es) X.dt=(false,eval e X.dt)::oj es X.dt) jJ)(dz:gu ((yC aX (oj es X.dt)).tZ (·.1)=false) jJ):
  DS Z X EE (.Raise (ai (.wu (.mU x np) (e::es) [] aX)) none ia) (jE C dA):=by
 refine PS.mV (y9l hx hc hg hm hC ha f_ he dz) ?_;rintro D σ H ⟨G,e,mT,h⟩;refine⟨G,e,mT,(ki h).uX (λws e1 h G1 vs H1 r1 s1 p1=>?_) λ_ _ h=>h⟩
 split at h
 .rename_i hl;exact⟨by rw[p1.aO,FY];exact hl,h G1 σ H1 r1 s1⟩
 .exact h.nU
end
end D
namespace L2
open PySem PySem.Spec PyProof.Rows
section
variable{X:Cx}{yO W6 xA:oP}{yK:aj oP}{gs:zb}{ia:vd}{wi:TI}{g:TG}{tc:TT}{te:TE}
def y9z{Nl Nf:aj fv}{js:aj aT}{y:fv}{py gY:vd}{gy:TG}(hc:X.NI=true)(hi:PI X W6 xA wi)
  (hk:gs.yD=.Zw)(dY:∀y∈gs.p6,y.2≠.ur)(nM:∀x∈gs.p6,x.2=.local->gs.p6.hW x.1=ai .local)
  (bX:∀x∈gs.p6,x.2=.rk->X.dt.yL x.1=ai .ur\/X.dt.yL x.1=ai .rk)
  (hj:∀(i j:aT) y,Nf[i]?=ai y->js[i]?=ai j->X.N[j]?=ai y)(wR:js.aO=Nf.aO)
  (nH:∀y∈Nf,(y,Xn.rk)∈gs.p6/\kg X.dt.gs y/\X.dt.yL y≠ai .local)
  (jb:∀y∈Nf,(_S gs X.dt).p6.hW y=ai .ur\/(_S gs X.dt).p6.hW y=ai .rk)
  (hg:∀cl C ax aE ex,PG (X.cp (Nl++Nf) gs cl C ax aE ex) W6 g)(ht:∀cl C ax aE ex,sQ (X.cp (Nl++Nf) gs cl C ax aE ex) yK tc)(he:∀cl C ax aE ex,PE (X.cp (Nl++Nf) gs cl C ax aE ex) yO te)
  (GK:PG X (.mU y py) gy)(pJ:Zb (.YN yO [⟨W6,xA,yK,0⟩] gs ia) (ai (.mU y py)) gY.X9 X.dt=uV true)
  (hs:∀x,Zv xA X.dt x=uV x:=by intro _;rfl):
  PS X (.Zi [.mU y py] (.YN yO [⟨W6,xA,yK,0⟩] gs ia) gY) (sC (i0 wi Nl.aO js g tc te) gy):=by
 intro d0 s σ H D I h;let⟨cl,eY,eL,m7⟩:=BU (gs:=gs) (dt:=X.dt) λx hx hf=>I.ok.YO x.1 (bX x hx hf)
 rw[exec_Assign_Name_used _ _ _ _ pJ];refine lT (ı (lT ?_));show oh _ _ (do let _ <- comprehension _ _ _ _ _ _ _ _) _ _ _;refine lT (zek (Q:=λ_ iR=>oh (p5 X.jf X.w) X.A (uV ()) (λ_ s3=>oh (p5 X.jf X.w) X.A (uV Flow.next) (SP X d0 D) X.xe s3) X.xe iR) (use:=ai (Z2 (.mU y py) X.dt)) rfl hs eY hk nM (bC (hi d0 s σ H _ I h) λv s1 h1=>bC h1 λDU s2 h2=>?_))
 let⟨it,fp,tn,J,H2,e,I2,T,iS,f2,rd⟩:=h2;subst e;refine _T (Ŷ dY (by intro y hy;simp at hy) (λdG d4 fe=>?_) hk)
 dsimp only at d4 fe |-
 have wq:(s2.bj.tB {l_:=.je "list", x8:=none,n9:=.ot ([]:aj eT).lS}).g0.d3=s2.bj.g0.d3+1:=g6.ZH ..;rw[wq]at d4 fe |-
 have fD:H2 s2.bj.g0.d3=none:=I2.aJ.yI (w0f _);let⟨W,⟨m0,w0⟩,YM⟩:=rd s2.bj.g0.d3 fD;have pN:=T.Up 0 s2.bj iS;have IS:=QJ (Nl:=Nl) (Nf:=Nf) (js:=js) (cl:=cl) (tk:=s2.rJ+([]:aj (fv×eT)).aO) I2 f2 pN hk dY eL m7 hj wR nH jb d4 fe
 have KL:∀b u,s2.bj.iT b=ai u->dG.iT b=ai u:=λb u q=>by
  have b8:=g6.yu q;exact(fe.2 b (w0p (w1w b8))).lb (g6.w6 _ (g6.w6 _ q))
 have CH:tn 0 dG:=T.xJ 0 s2.bj dG iS λb hb o q=>KL b o q
 have HN:∀b∈fp,ny H2 s2.bj.g0.d3 (.dS []) b=none:=λb hb=>by
  let⟨o,q,_⟩:=pN b hb;rw[aR (w0p (g6.yu q))];exact(f2 b hb).1
 have j7:∀{H':Hp},(∀b∈fp,H' b=none)->∀b∈fp,eO (X.cp (Nl++Nf) gs cl (s2.bj.g0.d3+1) {s2 with bj:=s2.bj.tB {l_:=.je "list", x8:=none,n9:=.ot ([]:aj eT).lS}} (ny H2 s2.bj.g0.d3 (.dS [])) fp) [] H' b:=λhn b hb=>by
  refine⟨hn b hb,(IS.ok.w_ b hb).1,IS.ok.nF b hb,.j9 hb,(IS.ok.w_ b hb).2,λp hp=>(by cases hp)⟩
 have ϻ:∀s4:oi,s4={s2 with bj:=dG,rJ:=s2.rJ+([]:aj (fv×eT)).aO} ->
   Za (p5 X.jf X.w) X.A (.Ŋ (.YN yO [⟨W6,xA,yK,0⟩] gs ia) 0 (.dI it) (.dI s2.bj.g0.d3) (ă gs cl (s2.bj.g0.d3+1) X.dt))
    (ŋ (p5 X.jf X.w) X.A X.xe (ai (Z2 (.mU y py) X.dt)) (λ_ iR=>oh (p5 X.jf X.w) X.A (uV ()) (λ_ s3=>oh (p5 X.jf X.w) X.A (uV Flow.next) (SP X d0 D) X.xe s3) X.xe iR) (.dI s2.bj.g0.d3) (s2.bj.g0.d3+1)) s4:=by
  rintro s4 rfl;refine P2 (λn s'=>∃i H',j3 (X.cp (Nl++Nf) gs cl (s2.bj.g0.d3+1) {s2 with bj:=s2.bj.tB {l_:=.je "list", x8:=none,n9:=.ot ([]:aj eT).lS}} (ny H2 s2.bj.g0.d3 (.dS [])) fp) [] (aj.w4 Nl.aO none++pj js σ) H' s'/\tn i s'.bj/\(∀b∈fp,H' b=none)/\W i n H') ?_ m0 ⟨0,_,IS,CH,HN,w0⟩
  rintro n s3 ⟨i,H3,I3,wo,vt,w3⟩;rcases YM i n H3 w3 with⟨stop,qn⟩|⟨go,YY⟩
  .refine bC (T.done (X.cp (Nl++Nf) gs cl (s2.bj.g0.d3+1) {s2 with bj:=s2.bj.tB {l_:=.je "list", x8:=none,n9:=.ot ([]:aj eT).lS}} (ny H2 s2.bj.g0.d3 (.dS [])) fp) rfl rfl rfl hc i [] s3 _ H3 _ I3 (j7 vt) wo stop) λr s5 ⟨hr,I5⟩=>?_
   subst hr;let⟨m5,GZ,_⟩:=I5.YF;let⟨o5,ML,MJ,Nj,xo,WU,DB⟩:=id GZ;have J5:j3 X d0 σ H3 s5:=SH I2 f2 I5 (h':=s5.bj) ⟨rfl,λ_ _=>rfl⟩
   have fC:eO X d0 H3 (s2.bj.g0.d3+1):=I2.jI (w4s _) I5.rk;have f1:∀b∈[s2.bj.g0.d3+1],eO X d0 H3 b:=λb hb=>by rw[w1h.mp hb];exact fC
   have J6:=J5.ã f1 (λb hb=>by rw[w1h.mp hb];exact⟨o5,Nj,λv z=>by rw[xo]at z;cases z⟩)
   refine bC (GK _ s5 σ H3 (.dI s2.bj.g0.d3) _ _ J6 rfl qn) λ_ s6 ⟨Mp,H6,I6,q6⟩=>?_
   have pC:=I6.Ys (s2.bj.g0.d3+1,o5) (w0k _ (w0k _ (ya (w1h.uY rfl) Nj)));refine⟨m5,⟨o5,ML,MJ,pC.1,xo,WU,DB⟩,λh' i_=>t8 (t8 ⟨Mp,H6,?_,q6⟩)⟩
   let⟨zfA,g1,g2,g3,g4,g5⟩:=fC;exact I6.e7.ZU (t':=s6.rJ) (λb o hb e=>(i_.2 b hb).lb e) pC.2.1 g1 g3 g4 g5
  .refine bC (T.ZF (X.cp (Nl++Nf) gs cl (s2.bj.g0.d3+1) {s2 with bj:=s2.bj.tB {l_:=.je "list", x8:=none,n9:=.ot ([]:aj eT).lS}} (ny H2 s2.bj.g0.d3 (.dS [])) fp) rfl rfl rfl hc i [] s3 _ H3 _ I3 (j7 vt) wo go) λr s5 ⟨u,hr,h5⟩=>?_
   subst hr;refine bC h5 λ_ s6 ⟨x,H6,I6,r6,y6,yz,Gi⟩=>?_
   have FU:=I6.ã (j7 Gi) (T.Up _ _ yz);refine bC (hg _ _ _ _ _ _ s6 _ H6 x u _ FU r6 (YY x H6 y6)) λ_ s7 ⟨lW,H7,I7,kp,q7⟩=>?_
   refine bC (ht _ _ _ _ _ _ s7 lW H7 _ I7 q7) λok s8 ⟨H8,I8,q8⟩=>?_
   have _J:∀{ow:St}{H9:Hp}{s9:oi},j3 (X.cp (Nl++Nf) gs cl (s2.bj.g0.d3+1) {s2 with bj:=s2.bj.tB {l_:=.je "list", x8:=none,n9:=.ot ([]:aj eT).lS}} (ny H2 s2.bj.g0.d3 (.dS [])) fp) ([]++iQ fp s6.bj) ow H9 s9 ->
     Kp (aj.w4 Nl.aO none++pj js σ) ow->(∃m',m'<n/\W (i+1) m' H9)->∃m,m<n/\∃i H',j3 (X.cp (Nl++Nf) gs cl (s2.bj.g0.d3+1) {s2 with bj:=s2.bj.tB {l_:=.je "list", x8:=none,n9:=.ot ([]:aj eT).lS}} (ny H2 s2.bj.g0.d3 (.dS [])) fp) [] (aj.w4 Nl.aO none++pj js σ) H' s9/\tn i s9.bj/\(∀b∈fp,H' b=none)/\W i m H':=λ{ow H9 s9} I9 hw ⟨m',hm,w9⟩=>by
    refine⟨m',hm,i+1,H9,I9.e7.weak (by rw[I9.uz,<- IS.uz]) hw,T.xJ _ _ _ yz λb hb o q=>(I9.Ys (b,o) (w0k _ (w0k _ (ya hb q)))).1,λb hb=>?_,w9⟩
    let⟨o,q,d⟩:=T.Up _ _ yz b hb;exact(I9.Ys (b,o) (w0k _ (w0k _ (ya hb q)))).2.1
   cases ok with
   |false=>exact _J I8 kp (by simpa using q8)
   |true=>
    have JP:=by simpa only[_N]using q8
    refine bC (he _ _ _ _ _ _ s8 lW H8 _ I8 JP) λy s9 ⟨yv,H9,I9,r9,ys,hD,hz,q9⟩=>?_
    refine bC (JS _ s9 lW H9 (.dI s2.bj.g0.d3) [yv] (.dI s2.bj.g0.d3) [y] (λv H'=>v=.aC/\H'=ny H9 s2.bj.g0.d3 (.dS (ys++[yv]))) I9 rfl (.p9 r9 .ro) ⟨_,ys,yv,rfl,rfl,hD,hz,rfl,rfl⟩) λ_ X1 ⟨_,Ul,FT,_,_,Gb⟩=>?_
    subst Gb;exact _J FT kp q9
 exact zcf (ϻ _ rfl) (T.self X.A 0 _ _ _ CH (ϻ _ rfl))
end
def P6{X:Cx}{y:fv}{py gY:vd}{gy:TG}{yO W6 xA:oP}{yK:aj oP}{gs sc:zb}{ia:vd}{wi:TI}{g:TG}{tc:TT}{te:TE}{Nl Nf N:aj fv}{js:aj aT}(hc:X.NI=true)(hi:PI X W6 xA wi)
  (ok:b9 sc gs N Nf js=true)
  (hg:∀cl C ax aE ex,PG (X.cp (Nl++Nf) gs cl C ax aE ex) W6 g)(ht:∀cl C ax aE ex,sQ (X.cp (Nl++Nf) gs cl C ax aE ex) yK tc)(he:∀cl C ax aE ex,PE (X.cp (Nl++Nf) gs cl C ax aE ex) yO te)
  (GK:PG X (.mU y py) gy)(pJ:Zb (.YN yO [⟨W6,xA,yK,0⟩] gs ia) (ai (.mU y py)) gY.X9 X.dt=uV true)
  (hsc:gu (X.dt.gs=sc) jJ)(hN:gu (X.N=N) jJ)(hs:∀x,Zv xA X.dt x=uV x:=by intro _;rfl):
  PS X (.Zi [.mU y py] (.YN yO [⟨W6,xA,yK,0⟩] gs ia) gY) (sC (i0 wi Nl.aO js g tc te) gy):=by
 unfold b9 at ok;simp only[w0l,w1d,ZD,ϙ,w3j,w0u]at ok;obtain⟨⟨⟨⟨⟨⟨k1,k2⟩,k3⟩,k4⟩,k5⟩,k6⟩,k7⟩:=ok;have yD:∀x,X.dt.yL x=sc.p6.hW x:=λx=>by rw[<- hsc];rfl
 refine y9z hc hi k1 k2 (λx hx hl=>(k3 x hx).æ λz=>z hl) (λx hx hf=>?_) (λi j y e1 e2=>?_) k5 (λy hy=>?_) (λy hy=>?_) hg ht he GK pJ hs
 .rw[yD];rcases k4 x hx with(z|z)|z
  .exact uv hf z
  .exact .j9 z
  .exact .mW z
 .have b8:i<js.aO:=(w0c.mp e2).1;have z:=k6 i b8;rw[e1,e2]at z;rw[hN]
  simpa using z
 .let⟨z1,z2⟩:=k7 y hy;refine⟨lU.ZQ z1,?_,?_⟩
  .rw[hsc];rcases z2 with z|z
   .exact .mW (.j9 z)
   .exact .mW (.mW z)
  .rw[yD];rcases z2 with z|z<;>(rw[z];decide)
 .exact Je (k7 y hy).1
def sf(K:Fg):R2:=λx y H Q=>∃l b xs zs,x=.dI l/\y=.dI b/\bI K H l xs/\bI K H b zs/\xs.aO+zs.aO<=u0/\∀p,H p=none->Q (.dI p) (ny H p (.dS (xs++zs)))
def z40:fF X (Zr .Add) (sf X.K):=by
 intro d0 s σ H x y v u Q I rx ry h;let⟨l,b,xs,zs,rfl,rfl,h1,h2,hz,q⟩:=h;cases rx;cases ry;let⟨av,r1,p1,_⟩:=I.xT h1;let⟨fg,r2,p2,_⟩:=I.xT h2;let⟨⟨l_,dd,n9,sl⟩,ho,hc,n,hd⟩:=id p1.zf;let⟨⟨Az,vo,data2,zT⟩,tf,cQ,n2,YK⟩:=id p2.zf;simp only at hc hd cQ YK;subst hc hd cQ YK;have l1:=r1.aO;have l2:=r2.aO;refine Ą ⟨_,ho,rfl⟩ ⟨_,tf,rfl⟩ noFill_list_add seq_list_add lU.F.slot_list_add lU.F.entry_list_add (lU.F.args_list_add_2 _ _) (list_addW l b av.lS fg.lS n n2 dd vo sl zT (by grind)) ⟨ho,tf,?_⟩;have ea:av.lS++fg.lS=(av++fg).lS:=by simp
 rw[ea];exact⟨.dI _,_,I.Bn (t':=s.rJ) (r1.Xy r2) (by grind),rfl,q _ I.yI⟩
end L2
namespace D
open PySem L2
variable{A:FZ}{X:Cx}{dA:j' (aj W)}{c:j' ie}{d da db:j' W}{G H:Hp}{EE:L2.St->XK}{d0:aj (f'×qH)}{Z5 es:aj oP}{js:aj aT}{e pe:aj S}{q:aj S->SR}{ws:aj W}{i kt:aT}{Ym aX p1 p2 pn ia:vd}{K:Fg}{s:oi}{σ:St}{α:Type}{cv:eT}{w:W}{Z:Zt}
def ϖ:W->W->fy W
 |.a6 i,.a6 j=>ai (.a6 (i+j))
 |.str x,.str y=>if x.aO+y.aO<=16777216 then ai (.str (x++y))else none
 |.gw xs,.gw ys=>if xs≠[]/\xs.aO+ys.aO<=16777216 then ai (.gw (xs++ys))else none
 |.dS xs,.dS ys=>if xs.aO+ys.aO<=16777216 then ai (.dS (xs++ys))else none
 |_,_=>none
def n_:W->W->fy W
 |.a6 i,.a6 j=>ai (.a6 (i-j))
 |_,_=>none
def iq:W->W->fy W
 |.a6 i,.a6 j=>if(-(2^64)<i/\i<2^64)\/(-(2^64)<j/\j<2^64)then ai (.a6 (i*j))else none
 |_,_=>none
def cq:W->W->fy W
 |.a6 i,.a6 j=>if 0<j/\j<1073741824 then ai (.a6 (i / j))else none
 |_,_=>none
def b_:W->W->fy W
 |.a6 i,.a6 j=>if 0<j then ai (.a6 (i%j))else none
 |_,_=>none
def rS:W->W->fy W
 |.a6 i,.a6 j=>if 0<=j/\j<=1000000/\i.υ<2^64 then ai (.a6 (i^j.sG))else none
 |_,_=>none
def nR:W->W->fy W
 |.a6 i,.a6 j=>ai (.bl (decide (i<j)))
 |_,_=>none
def xK:W->W->fy W
 |.a6 i,.a6 j=>ai (.bl (decide (i<=j)))
 |_,_=>none
def kh:W->W->fy W
 |.a6 i,.a6 j=>ai (.bl (decide (j<i)))
 |_,_=>none
def yX:W->W->fy W
 |.a6 i,.a6 j=>ai (.bl (decide (j<=i)))
 |_,_=>none
def nT:W->fy W
 |.a6 i=>ai (.a6 (-i))
 |_=>none
def S1:iC K (λx y H Q=>nY (λi j=>.a6 (i+j)) x y H Q\/((∃i j,x=.str i/\y=.str j/\i.aO+j.aO<=u0/\Q (.str (i++j)) H)\/(si K x y H Q\/sf K x y H Q))) ϖ:=by
 intro G H x y wx wy w Q s px py hf h;unfold ϖ at hf;split at hf
 .cases hf;cases px;cases py;exact .j9 ⟨_,_,rfl,rfl,h G _ H (.tT s) rfl⟩
 .split at hf
  .rename_i hl;cases hf;cases px;cases py;exact .mW (.j9 ⟨_,_,rfl,rfl,by rw[FY];exact hl,h G _ H (.tT s) rfl⟩)
  .cases hf
 .rename_i us ws;split at hf
  .rename_i hl;cases hf;let⟨a,xs,rfl,ha,ra⟩:=px;let⟨b,ys,rfl,hb,rb⟩:=py;have l1:=ra.aO;have l2:=rb.aO;refine .mW (.mW (.j9 ⟨a,b,xs,ys,rfl,rfl,s.gw ha,s.gw hb,λz=>hl.1 ?_,by rw[l1,l2,FY];exact hl.2,λz=>?_,λz p hp=>?_⟩))
   .subst z;cases us with
    |ro=>rfl
    |p9 _ _=>simp at l1
   .subst z
    have:ws=[]:=by cases ws with
     |ro=>rfl
     |p9 _ _=>simp at l2
    subst this;exact h G _ H (.tT s) ⟨a,xs,rfl,ha,by simpa using ra⟩
   .have g:=aN.Mk s hp (.gw (xs++ys));exact h _ _ _ g ⟨p,_,rfl,cH.of bQ,aq.Xy (aq.mV g.gg _ ra) (aq.mV g.gg _ rb)⟩
  .cases hf
 .split at hf
  .rename_i hl;cases hf;let⟨a,xs,rfl,ha,ra⟩:=px;let⟨b,ys,rfl,hb,rb⟩:=py;have l1:=ra.aO;have l2:=rb.aO;refine .mW (.mW (.mW ⟨a,b,xs,ys,rfl,rfl,s.ot ha,s.ot hb,by rw[l1,l2,FY];exact hl,λp hp=>?_⟩))
   have g:=aN.Mk s hp (.dS (xs++ys));exact h _ _ _ g ⟨p,_,rfl,bI.of bQ,aq.Xy (aq.mV g.gg _ ra) (aq.mV g.gg _ rb)⟩
  .cases hf
 .cases hf
def Uq:iC K (nY λi j=>.a6 (i-j)) n_:=by
 intro G H x y wx wy w Q s px py hf h;unfold n_ at hf;split at hf
 .cases hf;cases px;cases py;exact⟨_,_,rfl,rfl,h G _ H (.tT s) rfl⟩
 .cases hf
def Ur:iC K (rI tP λi j=>.a6 (i*j)) iq:=by
 intro G H x y wx wy w Q s px py hf h;unfold iq at hf;split at hf
 .split at hf
  .rename_i hc;cases hf;cases px;cases py;exact⟨_,_,rfl,rfl,hc,h G _ H (.tT s) rfl⟩
  .cases hf
 .cases hf
def z41:iC K (rI Aa λi j=>.a6 (i / j)) cq:=by
 intro G H x y wx wy w Q s px py hf h;unfold cq at hf;split at hf
 .split at hf
  .rename_i hc;cases hf;cases px;cases py;exact⟨_,_,rfl,rfl,hc,h G _ H (.tT s) rfl⟩
  .cases hf
 .cases hf
def Us:iC K (rI (λ_ j=>0<j) λi j=>.a6 (i%j)) b_:=by
 intro G H x y wx wy w Q s px py hf h;unfold b_ at hf;split at hf
 .split at hf
  .rename_i hc;cases hf;cases px;cases py;exact⟨_,_,rfl,rfl,hc,h G _ H (.tT s) rfl⟩
  .cases hf
 .cases hf
def Ut:iC K (rI Ab λi j=>.a6 (i^j.sG)) rS:=by
 intro G H x y wx wy w Q s px py hf h;unfold rS at hf;split at hf
 .split at hf
  .rename_i hc;cases hf;cases px;cases py;exact⟨_,_,rfl,rfl,hc,h G _ H (.tT s) rfl⟩
  .cases hf
 .cases hf
def TZ:iC K (nY λi j=>.bl (decide (i<j))) nR:=by
 intro G H x y wx wy w Q s px py hf h;unfold nR at hf;split at hf
 .cases hf;cases px;cases py;exact⟨_,_,rfl,rfl,h G _ H (.tT s) rfl⟩
 .cases hf
def T1:iC K (nY λi j=>.bl (decide (i<=j))) xK:=by
 intro G H x y wx wy w Q s px py hf h;unfold xK at hf;split at hf
 .cases hf;cases px;cases py;exact⟨_,_,rfl,rfl,h G _ H (.tT s) rfl⟩
 .cases hf
def T2:iC K (nY λi j=>.bl (decide (j<i))) kh:=by
 intro G H x y wx wy w Q s px py hf h;unfold kh at hf;split at hf
 .cases hf;cases px;cases py;exact⟨_,_,rfl,rfl,h G _ H (.tT s) rfl⟩
 .cases hf
def VG:iC K (nY λi j=>.bl (decide (j<=i))) yX:=by
 intro G H x y wx wy w Q s px py hf h;unfold yX at hf;split at hf
 .cases hf;cases px;cases py;exact⟨_,_,rfl,rfl,h G _ H (.tT s) rfl⟩
 .cases hf
def Uu:Di K (rU λi=>.a6 (-i)) nT:=by
 intro G H x wx w Q s px hf h;unfold nT at hf;split at hf
 .cases hf;cases px;exact⟨_,rfl,h G _ H (.tT s) rfl⟩
 .cases hf
mutual
noncomputable def ft:W->W->Option Bool
 |.aC,.aC=>some true
 |.aC,.bl _=>some false|.aC,.int _=>some false|.aC,.str _=>some false|.aC,.tup _=>some false|.aC,.lst _=>some false
 |.bl a,.bl b=>some (a==b)
 |.bl a,.int b=>some ((if a then 1 else 0)==b)
 |.bl _,.aC=>some false|.bl _,.str _=>some false|.bl _,.tup _=>some false|.bl _,.lst _=>some false
 |.int a,.int b=>some (a==b)
 |.int a,.bl b=>some (a==(if b then 1 else 0))
 |.int _,.aC=>some false|.int _,.str _=>some false|.int _,.tup _=>some false|.int _,.lst _=>some false
 |.str a,.str b=>some (a==b)
 |.str _,.aC=>some false|.str _,.bl _=>some false|.str _,.int _=>some false|.str _,.tup _=>some false|.str _,.lst _=>some false
 |.tup _,.aC=>some false|.tup _,.bl _=>some false|.tup _,.int _=>some false|.tup _,.str _=>some false|.tup _,.lst _=>some false
 |.lst _,.aC=>some false|.lst _,.bl _=>some false|.lst _,.int _=>some false|.lst _,.str _=>some false|.lst _,.tup _=>some false
 |.tup xs,.tup ys=>d_ xs ys
 |.lst xs,.lst ys=>d_ xs ys
 |.exc _,_=>none
 |_,.exc _=>none
 |.aZ _,_=>none
 |_,.aZ _=>none
 |.dw _ _ _ _,_=>none
 |.fn _ _ _,_=>none
 |_,.dw _ _ _ _=>none
 |_,.fn _ _ _=>none
noncomputable def d_:List W->List W->Option Bool
 |[],[]=>some true
 |[],_::_=>some false
 |_::_,[]=>some false
 |x::xs,y::ys=>match ft x y,d_ xs ys with
  |some a,some b=>some (a&&b)
  |_,_=>none
end
def aQ:W->W->fy W
 |.gw ws,.a6 i=>d8 ws i
 |.dS ws,.a6 i=>d8 ws i
 |.str z,.a6 i=>if z.aO<=16777216 then(d8 z.Yj.vr i).a7 λc=>.str ⟨#[c]⟩else none
 |_,_=>none
def aq.d8{i:dr}(r:aq K G ws xs)(h:L2.d8 ws i=ai w):∃x,L2.d8 xs i=ai x/\pW K G w x:=by
 unfold L2.d8 at h |-
 rw[r.aO];cases q:oO ws.aO i with
 |none=>rw[q]at h;cases h
 |ai j=>
  rw[q]at h;exact r.A' h
def T3:iC K (OG K) aQ:=by
 intro G H x y wx wy w Q s px py hf h;unfold aQ at hf;split at hf
 .let⟨a,xs,rfl,ha,ra⟩:=px;cases py;let⟨v,hv,rv⟩:=ra.d8 hf;exact .mW (.j9 ⟨a,xs,_,v,rfl,rfl,s.gw ha,hv,h G v H (.tT s) rv⟩)
 .let⟨a,xs,rfl,ha,ra⟩:=px;cases py;let⟨v,hv,rv⟩:=ra.d8 hf;exact .j9 ⟨a,xs,_,v,rfl,rfl,s.ot ha,hv,h G v H (.tT s) rv⟩
 .cases px;cases py;split at hf
  .rename_i hl;let⟨c,hc,rfl⟩:=w0i.mp hf;exact .mW (.mW ⟨_,_,c,rfl,rfl,by rw[FY];exact hl,hc,h G _ H (.tT s) rfl⟩)
  .cases hf
 .cases hf
def S.Ya:S->fy W
 |.fr w=>ai w
 |.ke _ ws=>ai (.dS ws)
 |.no=>none
 |.aZ _=>none
 |.gP _ _ _=>none
 |.x k=>k.Ya
 |.dw _ _ _=>none
def jD(i:aT)(d:j' W):j' W:=λe=>match e[i]?.qK S.Ya with
 |none=>.no
 |ai _=>(d e).qK λk e1=>match e1[i]?.qK S.Ya with
  |none=>.no
  |ai w=>bx (aQ w k) e1
def Bl:W->fy W
 |.str z=>if z.aO<=16777216 then ai (.a6 z.aO)else none
 |.gw ws=>ai (.a6 ws.aO)
 |.dS ws=>ai (.a6 ws.aO)
 |_=>none
def bg:aj W->fy W
 |[w]=>Bl w
 |_=>none
def S2:qB K (λxs H Q=>∃x n,xs=[x]/\Aj K x H n/\Q (.a6 n) H) bg:=by
 intro G H xs ws w Q s pr hf h;unfold bg at hf;split at hf
 .let⟨x,r,rfl,px,pr⟩:=pr;cases(show r=[]from pr);unfold Bl at hf;split at hf
  .split at hf
   .rename_i hl;cases hf;cases px;exact⟨_,_,rfl,⟨by grind [FY],rfl⟩,h G _ H (.tT s) rfl⟩
   .cases hf
  .cases hf;let⟨a,xs,rfl,ha,ra⟩:=px;exact⟨_,_,rfl,.mW ⟨xs,s.gw ha,rfl⟩,h G _ H (.tT s) (by rw[ra.aO];rfl)⟩
  .cases hf;let⟨a,xs,rfl,ha,ra⟩:=px;exact⟨_,_,rfl,.j9 ⟨xs,s.ot ha,rfl⟩,h G _ H (.tT s) (by rw[ra.aO];rfl)⟩
  .cases hf
 .cases hf
def aV:W->ie
 |.aC=>true|.bl _=>true|.a6 _=>true|.str _=>true|_=>false
def y90(h:aV w=true)(p:pW K G w v):pW K G' w v:=by
 cases w with
 |aC=>exact p
 |bl b=>exact p
 |a6 i=>exact p
 |str x=>exact p
 |_=>cases h
def i5(i:aT)(f:aj W->fy W):j' W:=λe=>match e[i]?.qK S.Ya with
 |none=>.no
 |ai w=>match f [w]with
  |none=>.no
  |ai v=>match e[i]? with
   |ai (.fr _)=>.ok v e
   |_=>if aV v=true then .ok v e else .no
section
variable{a b e:oP}{p:vd}{x:fv}
theorem Q40(ha:DE Z X EE a d)(hb:DE Z X EE b db)(hs:fY b:=by intro _ _;rfl):DE Z X EE (.Yl a b ia) (ao aQ d db):=PE.mV (C7 SE ha hb hs) (vY T3)
def ph.Ya{e:aj S}(r:ph K Z G σ H e)(h:e[i]?.qK S.Ya=ai w):∃v,σ[i]?=ai (ai v) /\
  (pW K G w v\/∃ws a xs u,(∀z,e[i]?≠ai (.fr z))/\w=.dS ws/\v=.dI a/\H a=ai u/\(u=.dS xs\/∃o,u=.cB o (.dS xs))/\G a=none/\aq K G ws xs):=by
 let⟨s,h1,h2⟩:=w1p.mp h;cases s with
 |no=>cases h2
 |aZ _=>cases h2
 |gP _ _ _=>cases h2
 |dw _ _ _=>cases h2
 |fr w'=>
  cases h2;let⟨v,h3,h4⟩:=r.fr h1;exact⟨v,h3,.j9 h4⟩
 |x k=>
  have q:=r.xP i _ h1;cases k with
  |_=>cases h2
 |ke b ws=>
  cases h2;let⟨a,xs,h3,h4,h5,h6,h7⟩:=r.ke h1;exact⟨.dI a,h3,.mW ⟨ws,a,xs,_,(λz y=>by rw[h1]at y;cases y),rfl,rfl,h4,.j9 rfl,h5,h7⟩⟩
theorem y5k{K:Fg}{a:f'}{u:HO}(s:ar G H)(h:H a=ai u)(hg:G a=none):ar G (ny G a u)/\ar (ny G a u) H:=
 ⟨vT hg _,λc o z=>by
  by_cases hc:c=a
  .subst hc;rw[bQ]at z;cases z;exact h
  .rw[aR hc]at z;exact s c o z⟩
def Q0g(i:aT)(hb:DE Z X EE b d)(hN:gu (X.N[i]?=ai x) jJ)(hv:gu (kg X.dt.gs x) jN)(hd:gu ((x==("__debug__":fv))=false) jK)
  (eK:gu ((x==("__classdict__":fv))=false) jK)(hs:fY b:=by intro _ _;rfl):DE Z X EE (.Yl (.mU x p) b ia) (jD i d):=by
 refine PE.mV (C7 SE (pv i hN hv hd eK) hb hs) ?_;rintro σ H Q ⟨G,e,mT,h⟩;unfold jD at h;split at h
 .exact h.nU
 .rename_i w0 Hs;let⟨v,hv,_⟩:=mT.Ya Hs;refine⟨v,hv,G,e,mT,(R.au.mp h).uX (λk e1 h G1 u H1 r1 s1 p1=>?_) λ_ _ h=>h⟩
  split at h
  .exact h.nU
  .rename_i w hw;let⟨w',hf,h2⟩:=a8.mp h;let⟨v',rl,q⟩:=r1.Ya hw;rw[hv]at rl;cases rl;rcases q with q|⟨ws,a,xs,u,he,rfl,rfl,q1,qu,q2,q3⟩
   .exact T3 G1 H1 v u w k w' Q r1.pA q p1 hf λG' v H' g p=>h2 G' v H' (r1.yJ g) (s1.lb g.gg) p
   ·-- an ZF of zfd ke xT
    unfold aQ at hf;split at hf
    .rename_i heq;cases heq
    .rename_i heq;cases heq;cases p1;let⟨y,hy,ry⟩:=q3.d8 hf;refine .j9 ⟨a,xs,_,y,rfl,rfl,?_,hy,h2 G1 y H1 r1 s1 ry⟩;rcases qu with rfl|⟨o,rfl⟩
     .exact bI.of q1
     .exact .j9 (.mW ⟨o,q1⟩)
    all_goals grind
def Uv{r:aj V->Hp->VK->Prop}{f:aj W->fy W}(i:aT){id:Yk}{fn:fv}(hc:c6 X (.wO id) r)(hf:qB X.K r f)(hv:_r fn=ai (.wO id))(hm:X.mg fn=none)
  (hN:gu (X.N[i]?=ai x) jJ)(jb:gu (kg X.dt.gs x) jN)(hd:gu ((x==("__debug__":fv))=false) jK)(eK:gu ((x==("__classdict__":fv))=false) jK)
  (hg:gu (Gl X fn) jJ)(hn:gu (fn≠"__name__") jK)(f_:gu ((fn==("__debug__":fv))=false) jK)(hs:gu (oj [.mU x p] X.dt=(false,eval (.mU x p) X.dt)::oj [] X.dt) jJ)(dz:gu ((yC ia (oj [] X.dt)).tZ (·.1)=false) jJ):
  DE Z X EE (.wu (.mU fn pn) [.mU x p] [] ia) (i5 i f):=by
 refine PE.mV (KR hc hg hm hv (tH (pv i hN jb hd eK) ye hs) hn f_ hs dz) ?_;rintro σ H Q ⟨G,e,mT,h⟩;unfold i5 at h;split at h
 .exact h.nU
 .rename_i w hw;split at h
  .exact h.nU
  .rename_i y hy;let⟨v,hv,q⟩:=mT.Ya hw;refine⟨v,hv,?_⟩;rcases q with q|⟨ws,a,xs,u,he,rfl,rfl,q1,qu,q2,q3⟩
   .refine hf G H [v] [w] y Q mT.pA (.YH q) hy λG' v H' g p=>?_
    split at h
    .exact h G' v H' (mT.yJ g) g.gg p
    .split at h
     .exact h G' v H' (mT.yJ g) g.gg p
     .exact h.nU
   .split at h
    .rename_i hz;exact uv hz (he _)
    split at h
    .rename_i hsc;let⟨s1,s2⟩:=y5k (K:=X.K) mT.pA q1 q2
     have Hj:bI X.K (ny G a u) a xs:=by
      rcases qu with rfl|⟨o,rfl⟩
      .exact bI.of bQ
      .exact .j9 (.mW ⟨o,bQ⟩)
     refine hf (ny G a u) H [.dI a] [.dS ws] y Q s2 (.YH ⟨a,xs,rfl,Hj,aq.mV s1 ws q3⟩) hy λG' v H' g p=>?_
     have g':aN G H G H':=⟨g.hh,.tT _,mT.pA.lb g.hh,λ_ _=>rfl⟩
     exact(show ∀G' v H',_->_->pW X.K G' y v->Q v H' from h) G v H' (mT.yJ g') (.tT _) (y90 hsc p)
    .exact h.nU
def eS(i:aT)(d:j' (aj W)):aj S->SR:=λe=>match e[i]? with
 |ai (.ke _ _)=>(d e).cR λws e1=>match ws,e1[i]? with
  |[w],ai (.ke b xs)=>if xs.aO<16777216 then .nx (e1.ri i (.ke b (xs++[w])))else .no
  |_,_=>.no
 |_=>.no
def Q0i(i:aT)(ha:DA Z X EE (e::es) dA)(hN:gu (X.N[i]?=ai x) jJ)(hv:gu (kg X.dt.gs x) jN)(hd:gu ((x==("__debug__":fv))=false) jK)(eK:gu ((x==("__classdict__":fv))=false) jK)
  (c_:gu (Α (.mU x p) "append" X.dt (eval (.mU x p) X.dt)=eval (.mU x p) X.dt) jJ)
  (cx:gu (((yC aX (oj (e::es) X.dt)).rM (λx=>!x.1)&&(Β aX (Ζ [] X.dt)).rM (λx=>x.1.zi)&&decide ((e::es).aO+([]:aj Y5).aO+(if([]:aj Y5).Dl then 0 else 1)<30))=true) jJ)
  (de:gu ((Ym.Δ==aX.X9)=true) jJ)(hs:gu (oj (e::es) X.dt=(false,eval e X.dt)::oj es X.dt) jJ)(bY:gu ((yC aX (oj es X.dt)).tZ (·.1)=false) jJ)
  (pJ:gu (Zb (.wu (._a (.mU x p) "append" Ym) (e::es) [] aX) none ia.X9 X.dt=uV false) jJ):
  DS Z X EE (.oP (.wu (._a (.mU x p) "append" Ym) (e::es) [] aX) ia) (eS i dA):=by
 refine PS.mV (E5 (SV (pv i hN hv hd eK) ha c_ cx de hs bY) pJ) ?_;rintro D σ H ⟨G,e,mT,h⟩;unfold eS at h;split at h
 .rename_i b0 KP uf;let⟨a,xs,h1,h2,h3,h4,h5⟩:=mT.ke uf;refine⟨.dI a,h1,.j9 ⟨rfl,xs,bI.of h2⟩,G,e,mT,(ki h).uX (λws e1 h G1 vs H1 r1 s1 p1=>?_) λ_ _ h=>h⟩
  split at h
  .rename_i w b ys xq;let⟨a',zs,g1,g2,g3,g4,g5⟩:=r1.ke xq;rw[h1]at g1;cases g1;let⟨y,r,rfl,py,pr⟩:=p1;cases(show r=[]from pr);split at h
   .rename_i hl;refine⟨a,zs,y,rfl,rfl,g2,by rw[g5.aO,FY];exact hl,?_⟩;exact h G1 σ _ (r1.mut xq h1 (g5.Xy (.YH py))) s1
   .exact h.nU
  .exact h.nU
 .exact h.nU
end
def cS(c:j' ie)(d:j' W)(pe:aj S):aj W->fy (aj W)
 |[]=>ai []
 |w::ws=>match c (.fr w::pe)with
  |.ok true e1=>match d e1 with
   |.ok y _=>(cS c d pe ws).a7 (y::·)
   |_=>none
  |.ok false _=>cS c d pe ws
  |_=>none
def cM(e:aj S)(j:aT):aj S:=match e[j]? with
 |ai (.ke none ws)=>e.ri j (.fr (.dS ws))
 |_=>e
def aY(js:aj aT)(e:aj S):aj S:=js.yW cM e
def iw(e:aj S)(j:aT):S:=match e[j]? with
 |ai (.fr w)=>.fr w
 |_=>.no
def gf(js:aj aT)(e:aj S):aj S:=js.a7 (iw e)
def iV(js:aj aT)(c:j' ie)(d:j' W)(ws:aj W)(e1:aj S):R (aj W):=
 if ws.aO<=16777216 then(match cS c d (gf js (aY js e1)) ws with
  |ai uZ=>.ok uZ (aY js e1)
  |none=>.no)else .no
def br(js:aj aT)(di:j' W)(c:j' ie)(d:j' W):j' (aj W):=λe=>(di e).qK λw e1=>match eG w with
 |ai ws=>iV js c d ws e1
 |none=>.no
def bU(g:aj W->fy (aj W))(js:aj aT)(di:j' (aj W))(c:j' ie)(d:j' W):j' (aj W):=λe=>(di e).qK λw e1=>match g w with
 |ai ws=>iV js c d ws e1
 |none=>.no
def bB:j' ie:=λe=>.ok true e
def ph.aY(r:ph K Z G σ H e):∀(js:aj aT),∃G',ar G G'/\ph K Z G' σ H (aY js e):=by
 intro js
 induction js generalizing G e with
 |ro=>exact⟨G,.tT _,r⟩
 |p9 j js ih=>
  have YH:∃G',ar G G'/\ph K Z G' σ H (cM e j):=by
   unfold cM;split
   .rename_i ws hw;let⟨v,G',_,s,_,r'⟩:=r.Œ hw;exact⟨G',s,r'⟩
   .exact⟨G,.tT _,r⟩
  let⟨G1,s1,r1⟩:=YH;let⟨G2,s2,r2⟩:=ih r1;exact⟨G2,s1.lb s2,r2⟩
def ph.block(r:ph K Z G σ H e)(js:aj aT){x:V}(p:pW K G w x):ph K ⟨H,G,[]⟩ G (ai x::pj js σ) H (.fr w::gf js e):=by
 have lh:∀(i:aT)(s:S),(S.fr w::gf js e)[i]?=ai s->s=.no\/∃u,s=.fr u/\((i=0/\u=w)\/∃k j,i=k+1/\js[k]?=ai j/\e[j]?=ai (.fr u)):=λi s h=>by
  cases i with
  |TL=>cases h;exact .mW ⟨w,rfl,.j9 ⟨rfl,rfl⟩⟩
  |OK k=>
   rw[w0d]at h;unfold gf at h;rw[w0t]at h;let⟨j,h1,h2⟩:=w0i.mp h;unfold iw at h2;split at h2
   .rename_i u hu;subst h2;exact .mW ⟨u,rfl,.mW ⟨k,j,rfl,h1,hu⟩⟩
   .subst h2;exact .j9 rfl
 refine⟨r.pA,λi s h=>?_,?_,λi j b b' w1 w2 a h1 h2 _ _=>?_,λa o h _=>h,(λa h=>nomatch h),λa _=>rfl⟩
 .rcases lh i s h with rfl|⟨u,rfl,⟨rfl,rfl⟩|⟨k,j,rfl,h1,h2⟩⟩
  .trivial
  .exact⟨x,rfl,p⟩
  .let⟨v,h3,h4⟩:=r.fr h2;refine⟨v,?_,h4⟩;rw[w0d];unfold pj;rw[w0t,h1];simp[h3]
 .simp[gf,pj]
 .rcases lh i _ h1 with z|⟨u,z,_⟩<;>cases z
def ph.ir(r:ph K Z G σ H e)(hg:G a=none)(hz:Z.H a=none)(hi:a∉Z.io)(hf:iH σ e a)(DG:H a=ai (.dS ls)):ph K Z G σ (ny H a o) e:=by
 refine⟨λc u z=>?_,λj s z=>?_,r.uz,r.lZ,λc u z n=>?_,λc z=>?_,r.gen⟩
 .rw[aR (gh z hg)];exact r.pA c u z
 .have y:=r.xP j s z;cases s with
  |no=>trivial
  |fr w=>exact y
  |ke b2 w2=>
   let⟨c,ys,y1,y2,y3,y4,y5⟩:=y;refine⟨c,ys,y1,?_,y3,y4,y5⟩;rw[aR];exact y2;rintro rfl;let⟨c',_,z1,_⟩:=r.ke z;rw[z1]at y1;cases y1;exact hf j b2 w2 z z1
  |aZ kvs=>
   let⟨c,y1,y2,y3,y4⟩:=y;refine⟨c,y1,?_,y3,y4⟩;rw[aR (fG y2 DG (pQ rfl))];exact y2
  |gP us w2 vs=>
   let⟨t,l,o,pX,ys,zs,y1,y2,y3,y4,y5,y6⟩:=y;refine⟨t,l,o,pX,ys,zs,y1,y2,?_,y4,y5,y6⟩;rw[aR (fG y3 DG (λz=>nomatch z))];exact y3
  |x k=>exact pk.Xu y (.tT _) λl o ys k1 k2 k3=>⟨by rw[aR (fG k1 DG (λz=>nomatch z))];exact k1,k2,k3⟩
  |dw sh ks ws=>exact iE.Xu y (.tT _) λl o ys k1 k2 k3=>⟨by rw[aR (fG k1 DG (tJ rfl))];exact k1,k2,k3⟩
 .rw[aR (gh z hz)];exact r.YC c u z n
 .by_cases hc:c=a
  .grind
  .rw[aR hc];exact r.kH c z
structure ϔ(J:It)(xs:aj V)(SQ:Hp->Prop):Prop where
 go:∀i H,SQ H->i<xs.aO->J.go i H
 kQ:∀i H x H',SQ H->J.kQ i H x H'->i<xs.aO->H'=H/\xs[i]?=ai x
 stop:∀i H,SQ H->xs.aO<=i->J.stop i H
theorem LY:ϔ (yS K a) xs (λH=>bI K H a xs):=
 ⟨λi H q h=>⟨xs,xs[i],q,by simp[h]⟩,λi H x H' q ⟨e,y⟩ h=>⟨e,y xs q⟩,λi H q h=>⟨xs,q,h⟩⟩
theorem LZ:ϔ (yT K a) xs (λH=>cH K H a xs):=
 ⟨λi H q h=>⟨xs,xs[i],q,by simp[h]⟩,λi H x H' q ⟨e,y⟩ h=>⟨e,y xs q⟩,λi H q h=>⟨xs,q,h⟩⟩
theorem Uw:ϔ (qx lo n) ((aj.u5 n).a7 λk=>V.a6 (lo+(k:aT))) (λ_=>ku):=
 ⟨λi H q h=>show i<n by simpa using h,λi H x H' q ⟨e,y⟩ h=>⟨e,by simp at h;simp[h,y]⟩,λi H q h=>show n<=i by simpa using h⟩
def Ll{J:It}{xs:aj V}{SQ:Hp->Prop}{uZ:aj W}{Q:VK}{G0:Hp}(W0:ϔ J xs SQ)(r1:ph K Z G1 σ H1 e1)(s1:ar G0 G1)(rp:aq K G1 ws xs)(pF:∀G' H',ar G1 G'->ar G' H'->SQ H')(hl:ws.aO<=16777216)
  (hz:∀p,H1 p=none->p∉Z.io)(hc:cS c d (gf js e1) ws=ai uZ)
  (h:∀G' a xs H',ph K Z G' σ H' e1->ar G0 G'->H' a=ai (.dS xs)->G' a=none->Z.H a=none->iH σ e1 a->aq K G' uZ xs->Q (.dI a) H'):
  ∀D,H1 D=none->∃W:aT->aT->Hp->Prop,(∃m,W 0 m (ny H1 D (.dS [])))/\∀i m H2,W i m H2 ->
   (J.stop i H2/\Q (.dI D) H2)\/(J.go i H2/\∀x H3,J.kQ i H2 x H3->bJ 0 x (aj.w4 1 none++pj js σ) H3 λou H4=>Kp (aj.w4 1 none++pj js σ) ou/\(λσ H Q=>∃Z',ZP K Z' (λ_=>E0) c σ H Q) ou H4 λb H5=>
    if b=true then(λσ H Q=>∃Z',tO K Z' σ H λG e=>(d e).Uj (λw e'=>∀G' v H',ph K Z' G' σ H' e'->ar G G'->pW K G' w v->Q v H') (XH K Z' (λ_=>E0) σ G)) ou H5 λy H6=>∃ys,H6 D=ai (.dS ys)/\ys.aO<u0/\∃m',m'<m/\W (i+1) m' (ny H6 D (.dS (ys++[y])))else ∃m',m'<m/\W (i+1) m' H5):=by
 intro D hD;have wR:=rp.aO
 refine⟨λi m H2=>m=ws.aO-i/\i<=ws.aO/\∃G2 ys done wV,ph K Z G2 σ H2 e1/\ar G1 G2/\H2 D=ai (.dS ys)/\G2 D=none/\aq K G2 done ys/\done.aO<=i/\cS c d (gf js e1) (ws.zd i)=ai wV/\done++wV=uZ,
  ⟨ws.aO,by omega,w1c _,G1,[],[],uZ,r1.yJ (aN.nL r1.pA hD _),.tT _,bQ,r1.pA.rk hD,rfl,w0f _,hc,rfl⟩,?_⟩
 rintro i m H2 ⟨rfl,hi,G2,ys,done,wV,r2,s2,YK,oI,so,M5,cQ,ho⟩;have bX:iH σ e1 D:=zH r1 hD;have vD:Z.H D=none:=qo r1 hD
 by_cases b8:i<ws.aO
 .refine .mW ⟨W0.go i H2 (pF G2 H2 s2 r2.pA) (by omega),λx H3 hy=>?_⟩
  let⟨rfl,hx⟩:=W0.kQ i H2 x H3 (pF G2 H2 s2 r2.pA) hy (by omega);let⟨w,hw,pw⟩:=rp.iM hx;rw[JV hw]at cQ;refine⟨Kp.YH,⟨H3,G2,[]⟩,G2,.fr w::gf js e1,r2.block js (pW.mV s2 w pw),?_⟩;unfold cS at cQ;cases qc:c (.fr w::gf js e1)with
  |no=>rw[qc]at cQ;cases cQ
  |ex _ _=>rw[qc]at cQ;cases cQ
  |ok k e2=>
   rw[qc]at cQ;intro G3 H5 r3 s3;have g3:=r3.fU s3;cases k with
   |false=>
    exact⟨ws.aO-(i+1),by omega,rfl,b8,G3,ys,done,wV,r2.yJ g3,s2.lb s3,g3.hh _ _ YK,by rw[g3.xM D (by rw[YK];simp)];exact oI,aq.mV s3 _ so,by omega,cQ,ho⟩
   |true=>
    refine⟨⟨H3,G2,[]⟩,G3,e2,r3,?_⟩;dsimp only at cQ;cases qd:d e2 with
    |no=>rw[qd]at cQ;cases cQ
    |ex _ _=>rw[qd]at cQ;cases cQ
    |ok y e3=>
     rw[qd]at cQ;intro G4 v H6 r4 s4 p4;have g4:=r4.fU (s3.lb s4);let⟨mL,hr,rfl⟩:=w0i.mp cQ;have sX:H6 D=ai (.dS ys):=g4.hh _ _ YK;have vx:G4 D=none:=by rw[g4.xM D (by rw[YK];simp)];exact oI
     refine⟨ys,sX,?_,ws.aO-(i+1),by omega,rfl,b8,G4,ys++[v],done++[y],mL,(r2.yJ g4).ir vx vD (hz D hD) bX sX,s2.lb (s3.lb s4),bQ,vx,(aq.mV (s3.lb s4) _ so).Xy (.YH p4),by simp;omega,hr,by rw[w2y];exact ho⟩;rw[so.aO,FY];omega
 .have:i=ws.aO:=by omega
  subst this;rw[w2p]at cQ;cases cQ;rw[w1q]at ho;subst ho;exact .j9 ⟨W0.stop _ H2 (pF G2 H2 s2 r2.pA) (by omega),h G2 D ys H2 r2 (s1.lb s2) YK oI vD bX so⟩
section
variable{yO xA a b:oP}{yK:aj oP}{gs sc:zb}{pt:vd}{x:fv}{Nf N:aj fv}{di:j' W}
def sO(Z:Zt)(X:Cx)(EE:L2.St->XK)(yK:aj oP)(c:j' ie):Prop:=sQ X yK (ZP X.K Z EE c)
theorem y1c:sO Z X EE [] bB:=λd0 s σ H Q I ⟨G,e,r,h⟩=>z4h d0 s σ H Q I (h G H r (.tT _))
theorem z42(h:DT Z X EE a c):sO Z X EE [a] c:=z4i h
def cT(K:Fg)(c:j' ie):TT:=λσ H Q=>∃Z',ZP K Z' (λ_=>E0) c σ H Q
def cE(K:Fg)(d:j' W):TE:=λσ H Q=>∃Z',tO K Z' σ H λG e=>(d e).Uj (λw e'=>∀G' v H',ph K Z' G' σ H' e'->ar G G'->pW K G' w v->Q v H') (XH K Z' (λ_=>E0) σ G)
def P7{D:_E}{r:R (aj W)}{k:W->aj S->SR}(h:bG K Z EE D G ((r.qK λws e'=>.ok (.dS ws) e').cR k)):r.Uj (λws e'=>bG K Z EE D G (k (.dS ws) e')) (XH K Z EE σ G):=by
 cases r with
 |ok a e=>exact h
 |ex c e=>exact λG' H' r q=>h G' σ H' r q
 |no=>exact h
theorem yk(ht:∀Z' cl C ax aE ex,sO Z' (X.cp Y gs cl C ax aE ex) (λ_=>E0) yK c):∀cl C ax aE ex,sQ (X.cp Y gs cl C ax aE ex) yK (cT X.K c):=λcl C ax aE ex d0 s σ H Q I ⟨Z',h⟩=>ht Z' cl C ax aE ex d0 s σ H Q I h
theorem zY(he:∀Z' cl C ax aE ex,DE Z' (X.cp Y gs cl C ax aE ex) (λ_=>E0) yO d):∀cl C ax aE ex,PE (X.cp Y gs cl C ax aE ex) yO (cE X.K d):=λcl C ax aE ex d0 s σ H Q I ⟨Z',h⟩=>he Z' cl C ax aE ex d0 s σ H Q I h
theorem lu(r:ph K Z G σ H e):∀p,H p=none->p∉Z.io:=λp hp hi=>r.kH p hi hp
def P8:∀σ H Q,oR K Z EE (br js di c d) σ H Q->i0 (Be K (gK K Z EE di)) 1 js (bJ 0) (cT K c) (cE K d) σ H Q:=by
 rintro σ H Q ⟨G,e,mT,h⟩;simp only[br,R.au]at h;refine⟨G,e,mT,h.uX (λw e1 h G1 v1 H1 r1 s1 p1=>?_) λ_ _ h=>h⟩
 split at h
 .rename_i ws hw;unfold iV at h;split at h
  .rename_i hl;split at h
   .rename_i uZ ho;let⟨G2,s2,r2⟩:=r1.aY js;have p2:=pW.mV s2 w p1;have io:=lu r2;cases w with
    |gw us=>
     cases hw;let⟨a,xs,rfl,hq,rp⟩:=p2;exact⟨a,rfl,.mW ⟨⟨xs,r2.pA.gw hq⟩,Ll LZ r2 (s1.lb s2) rp (λG' H' s s'=>ar.gw s' (ar.gw s hq)) hl io ho h⟩⟩
    |dS us=>
     cases hw;let⟨a,xs,rfl,hq,rp⟩:=p2;exact⟨a,rfl,.j9 ⟨⟨xs,r2.pA.ot hq⟩,Ll LY r2 (s1.lb s2) rp (λG' H' s s'=>ar.ot s' (ar.ot s hq)) hl io ho h⟩⟩
    |_=>cases hw
   .exact h.nU
  .exact h.nU
 .exact h.nU
def z43(hc:X.NI=true)(hi:DE Z X EE xA di)(ok:b9 sc gs N Nf js=true)
  (ht:∀Z' cl C ax aE ex,sO Z' (X.cp ([x]++Nf) gs cl C ax aE ex) (λ_=>E0) yK c)(he:∀Z' cl C ax aE ex,DE Z' (X.cp ([x]++Nf) gs cl C ax aE ex) (λ_=>E0) yO d)
  (hg:∀cl C ax aE ex,PG (X.cp ([x]++Nf) gs cl C ax aE ex) (.mU x pt) (bJ 0))
  (hsc:gu (X.dt.gs=sc) jJ)(hN:gu (X.N=N) jJ)(hs:∀x,Zv xA X.dt x=uV x:=by intro _;rfl):
  DF Z X EE (.YN yO [⟨.mU x pt,xA,yK,0⟩] gs ia) (br js di c d):=by
 exact PE.mV (EU (Nl:=[x]) (tc:=cT X.K c) (te:=cE X.K d) hc (Cn hi) ok hg (yk ht) (zY he) hsc hN hs) P8
def y3c(i:aT){y:fv}{py gY:vd}(Gn:X.N.yr)(hc:X.NI=true)(hi:DE Z X EE xA di)(ok:b9 sc gs N Nf js=true)
  (ht:∀Z' cl C ax aE ex,sO Z' (X.cp ([x]++Nf) gs cl C ax aE ex) (λ_=>E0) yK c)(he:∀Z' cl C ax aE ex,DE Z' (X.cp ([x]++Nf) gs cl C ax aE ex) (λ_=>E0) yO d)
  (hg:∀cl C ax aE ex,PG (X.cp ([x]++Nf) gs cl C ax aE ex) (.mU x pt) (bJ 0))
  (hsc:gu (X.dt.gs=sc) jJ)(hN:gu (X.N=N) jJ)(hs:∀x,Zv xA X.dt x=uV x:=by intro _;rfl)(GQ:gu (X.N[i]?=ai y) jJ)(Ht:gu (YT X.dt.gs y) jM)(GG:gu (X.fn y=true\/X.dt.gs.p6.hW y=ai .local) jL)(pJ:gu (Zb (.YN yO [⟨.mU x pt,xA,yK,0⟩] gs ia) (ai (.mU y py)) gY.X9 X.dt=uV true) jJ):
  DS Z X EE (.Zi [.mU y py] (.YN yO [⟨.mU x pt,xA,yK,0⟩] gs ia) gY) (ay i (cY (br js di c d))):=by
 refine PS.mV (P6 (Nl:=[x]) (tc:=cT X.K c) (te:=cE X.K d) hc (Cn hi) ok hg (yk ht) (zY he) (uR i Gn GQ Ht GG) pJ hsc hN hs) ?_;rintro D σ H ⟨G,e,mT,h⟩;refine P8 σ H _ ⟨G,e,mT,?_⟩;refine(P7 h).uX (λw e1 h G1 a xs H1 r1 s1 q1 q2 q3 q4 p1=>?_) λ_ _ h=>h
 let⟨sg,rg⟩:=r1.é q1 q2 q3 q4;exact h _ _ H1 (rg.ri (v:=.dI a) ⟨a,xs,rfl,bI.of bQ,aq.mV sg w p1⟩) (s1.lb sg)
def JN:∀σ H Q,oR K Z EE (bU cO js dA c d) σ H Q->i0 (vE (rF K Z EE dA)) 1 js (bJ 0) (cT K c) (cE K d) σ H Q:=by
 rintro σ H Q ⟨G,e,mT,h⟩;simp only[bU,R.au]at h;refine⟨G,e,mT,h.uX (λws e1 h G1 vs H1 r1 s1 p1=>?_) λ_ _ h=>h⟩
 unfold cO at h;split at h
 .rename_i us hh;split at hh
  .rename_i j;split at hh
   .rename_i hj;cases hh;let⟨y,r,rfl,e1,e2⟩:=p1;cases(show y=V.a6 j from e1);cases(show r=[]from e2);refine⟨j,rfl,(yh hj).1,(yh hj).2,?_⟩;unfold iV at h;split at h
    .rename_i hl;split at h
     .rename_i uZ ho;let⟨G2,s2,r2⟩:=r1.aY js;have z:=Ll (J:=qx 0 (j-0).sG) Uw r2 (s1.lb s2) (O_ (lo:=0) (hi:=j)) (λ_ _ _ _=>trivial) hl (lu r2) ho h
      rwa [dr.sub_zero]at z
     .exact h.nU
    .exact h.nU
   .cases hh
  .cases hh
 .exact h.nU
def y91(hc:X.NI=true)(hm:X.mg "range"=none)(ha:DA Z X EE [a] dA)(ok:b9 sc gs N Nf js=true)
  (ht:∀Z' cl C ax aE ex,sO Z' (X.cp ([x]++Nf) gs cl C ax aE ex) (λ_=>E0) yK c)(he:∀Z' cl C ax aE ex,DE Z' (X.cp ([x]++Nf) gs cl C ax aE ex) (λ_=>E0) yO d)
  (hg:∀cl C ax aE ex,PG (X.cp ([x]++Nf) gs cl C ax aE ex) (.mU x pt) (bJ 0))
  (AZ:gu (Gl X "range") jJ)(oK:gu (oj [a] X.dt=[(false,eval a X.dt)]) jJ)(hsc:gu (X.dt.gs=sc) jJ)(hN:gu (X.N=N) jJ)(hs:∀x,Zv (.wu (.mU "range" p1) [a] [] p2) X.dt x=uV x:=by intro _;rfl):
  DF Z X EE (.YN yO [⟨.mU x pt,.wu (.mU "range" p1) [a] [] p2,yK,0⟩] gs ia) (bU cO js dA c d):=by
 exact PE.mV (EU (Nl:=[x]) (tc:=cT X.K c) (te:=cE X.K d) hc (EH AZ hm ha oK) ok hg (yk ht) (zY he) hsc hN hs) JN
def x9z(i:aT){y:fv}{py gY:vd}(Gn:X.N.yr)(hc:X.NI=true)(hm:X.mg "range"=none)(ha:DA Z X EE [a] dA)(ok:b9 sc gs N Nf js=true)
  (ht:∀Z' cl C ax aE ex,sO Z' (X.cp ([x]++Nf) gs cl C ax aE ex) (λ_=>E0) yK c)(he:∀Z' cl C ax aE ex,DE Z' (X.cp ([x]++Nf) gs cl C ax aE ex) (λ_=>E0) yO d)
  (hg:∀cl C ax aE ex,PG (X.cp ([x]++Nf) gs cl C ax aE ex) (.mU x pt) (bJ 0))
  (AZ:gu (Gl X "range") jJ)(oK:gu (oj [a] X.dt=[(false,eval a X.dt)]) jJ)(hsc:gu (X.dt.gs=sc) jJ)(hN:gu (X.N=N) jJ)(hs:∀x,Zv (.wu (.mU "range" p1) [a] [] p2) X.dt x=uV x:=by intro _;rfl)(GQ:gu (X.N[i]?=ai y) jJ)(Ht:gu (YT X.dt.gs y) jM)(GG:gu (X.fn y=true\/X.dt.gs.p6.hW y=ai .local) jL)(pJ:gu (Zb (.YN yO [⟨.mU x pt,.wu (.mU "range" p1) [a] [] p2,yK,0⟩] gs ia) (ai (.mU y py)) gY.X9 X.dt=uV true) jJ):
  DS Z X EE (.Zi [.mU y py] (.YN yO [⟨.mU x pt,.wu (.mU "range" p1) [a] [] p2,yK,0⟩] gs ia) gY) (ay i (cY (bU cO js dA c d))):=by
 refine PS.mV (P6 (Nl:=[x]) (tc:=cT X.K c) (te:=cE X.K d) hc (EH AZ hm ha oK) ok hg (yk ht) (zY he) (uR i Gn GQ Ht GG) pJ hsc hN hs) ?_;rintro D σ H ⟨G,e,mT,h⟩;refine JN σ H _ ⟨G,e,mT,?_⟩;refine(P7 h).uX (λw e1 h G1 a xs H1 r1 s1 q1 q2 q3 q4 p1=>?_) λ_ _ h=>h
 let⟨sg,rg⟩:=r1.é q1 q2 q3 q4;exact h _ _ H1 (rg.ri (v:=.dI a) ⟨a,xs,rfl,bI.of bQ,aq.mV sg w p1⟩) (s1.lb sg)
end
mutual
noncomputable def bc:W->Nat
 |.tup ws=>bp ws+1
 |.lst ws=>bp ws+1
 |_=>0
noncomputable def bp:List W->Nat
 |[]=>0
 |w::ws=>max (bc w) (bp ws)
end
mutual
theorem Cd(I:Inv X pins σ H s)(sg:ar G H):∀(w:W){w':W}{v:V}{k:Bool},Rep X.K G w v->Rep X.K G w' v->ft w w'=some k->k=true
 |.aC,w',v,k,h,h',e=>by
  cases(show v=.aC from h);cases w'<;>first|(cases e;done)|(cases h';cases e;rfl)|(exfalso;let⟨_,_,z,_⟩:=h';first|done|cases z)|(exfalso;let⟨_,z,_⟩:=h';first|done|cases z)
 |.bl b,w',v,k,h,h',e=>by
  cases(show v=.bl b from h);cases w'<;>first|(cases e;done)|(cases h';cases e;exact beq_self_eq_true _)|(exfalso;let⟨_,_,z,_⟩:=h';first|done|cases z)|(exfalso;let⟨_,z,_⟩:=h';first|done|cases z)
 |.int b,w',v,k,h,h',e=>by
  cases(show v=.int b from h);cases w'<;>first|(cases e;done)|(cases h';cases e;exact beq_self_eq_true _)|(exfalso;let⟨_,_,z,_⟩:=h';first|done|cases z)|(exfalso;let⟨_,z,_⟩:=h';first|done|cases z)
 |.str b,w',v,k,h,h',e=>by
  cases(show v=.str b from h);cases w'<;>first|(cases e;done)|(cases h';cases e;exact beq_self_eq_true _)|(exfalso;let⟨_,_,z,_⟩:=h';first|done|cases z)|(exfalso;let⟨_,z,_⟩:=h';first|done|cases z)
 |.tup ws,w',v,k,h,h',e=>by
  let⟨a,xs,rfl,q,r⟩:=h;cases w' with
  |tup ws'=>
   let⟨a',xs',z,q',r'⟩:=h';cases z;have:=I.gm (sg.tup q) (sg.tup q');subst this;exact KS I sg ws r r' (e)
  |lst ws'=>
   let⟨a',xs',z,q',r'⟩:=h';cases z;let⟨av,_,p1,_⟩:=I.tuple (sg.tup q);let⟨fg,_,p2,_⟩:=I.list (sg.seq q');exact absurd rfl (SeqAt.ne_of_list_tuple p2.isList (show s.heap.IsTuple a _ from p1))
  |aC=>cases h'
  |bl _=>cases h'
  |int _=>cases h'
  |str _=>cases h'
  |exc _=>cases e
  |aZ _=>cases e
  |dw _ _ _ _=>cases e
  |fn _ _ _=>cases e
 |.lst ws,w',v,k,h,h',e=>by
  let⟨a,xs,rfl,q,r⟩:=h;cases w' with
  |lst ws'=>
   let⟨a',xs',z,q',r'⟩:=h';cases z;have:=I.il (sg.seq q) (sg.seq q');subst this;exact KS I sg ws r r' (e)
  |tup ws'=>
   let⟨a',xs',z,q',r'⟩:=h';cases z;let⟨av,_,p1,_⟩:=I.tuple (sg.tup q');let⟨fg,_,p2,_⟩:=I.list (sg.seq q);exact absurd rfl (SeqAt.ne_of_list_tuple p2.isList (show s.heap.IsTuple a _ from p1))
  |aC=>cases h'
  |bl _=>cases h'
  |int _=>cases h'
  |str _=>cases h'
  |exc _=>cases e
  |aZ _=>cases e
  |dw _ _ _ _=>cases e
  |fn _ _ _=>cases e
 |.exc c,w',v,k,h,h',e=>by cases w'<;>cases e
 |.aZ c,w',v,k,h,h',e=>by cases w'<;>cases e
 |.dw _ _ _ _,w',v,k,h,h',e=>by cases w'<;>cases e
 |.fn _ _ _,w',v,k,h,h',e=>by cases w'<;>cases e
theorem KS(I:Inv X pins σ H s)(sg:ar G H):∀(ws:List W){ws':List W}{vs:List V}{k:Bool},aq X.K G ws vs->aq X.K G ws' vs->d_ ws ws'=some k->k=true
 |[],ws',vs,k,h,h',e=>by
  cases h;cases ws' with
  |nil=>cases e;rfl
  |cons _ _=>let⟨_,_,z,_⟩:=h';cases z
 |w::ws,ws',vs,k,h,h',e=>by
  let⟨x,r,rfl,h1,h2⟩:=h;cases ws' with
  |nil=>cases h'
  |cons w' ws'=>
   let⟨x',r',z,Wm,Dt⟩:=h';cases z;have e:(match ft w w',d_ ws ws' with|some a,some b=>some (a&&b)|_,_=>none)=some k:=e;cases q1:ft w w' with
   |none=>rw[q1]at e;cases e
   |some b1=>
    cases q2:d_ ws ws' with
    |none=>rw[q1,q2]at e;cases e
    |some b2=>
     rw[q1,q2]at e;rw[Cd I sg w h1 Wm q1,KS I sg ws h2 Dt q2]at e;cases e;rfl
end
def zI:∀{xs ys:aj W}{b:ie},d_ xs ys=ai b->(∀(j:aT) x y,xs[j]?=ai x->ys[j]?=ai y->∃k,ft x y=ai k)/\b=((aj.u5 (min xs.aO ys.aO)).rM (λj=>((ft (xs.jd j .aC) (ys.jd j .aC)).jd false))&&xs.aO==ys.aO):=by
 intro xs
 induction xs with
 |ro=>
  intro ys b h;refine⟨λj x y hx=>by simp at hx,?_⟩
  cases ys<;>(cases h;simp)
 |p9 x xs ih=>
  intro ys b h;cases ys with
  |ro=>refine⟨λj x y hx hy=>by simp at hy,?_⟩;cases h;simp
  |p9 y ys=>
   have h:(match ft x y,d_ xs ys with|ai a,ai b=>ai (a&&b)|_,_=>none)=ai b:=h;cases q1:ft x y with
   |none=>rw[q1]at h;cases h
   |ai b1=>
    cases q2:d_ xs ys with
    |none=>rw[q1,q2]at h;cases h
    |ai b2=>
     rw[q1,q2]at h;cases h;let⟨h1,h2⟩:=ih q2;refine⟨λj x' y' hx hy=>?_,?_⟩
     .cases j with
      |TL=>simp at hx hy;subst hx hy;exact⟨_,q1⟩
      |OK j=>exact h1 j x' y' (by simpa using hx) (by simpa using hy)
     .rw[h2];simp only[w0x,aT.succ_min_succ,w3o,w2v,w4i]
      have e0:(ft ((x::xs).jd 0 .aC) ((y::ys).jd 0 .aC)).jd false=b1:=by
       show(ft x y).jd false=b1;rw[q1];rfl
      rw[e0,w5l];congr 1;congr 1;simp
theorem J3:∀{xs:aj W}{j:aT}{x:W},xs[j]?=ai x->bc x<=bp xs
 |[],_,_,h=>by simp at h
 |y::ys,0,x,h=>by simp at h;subst h;simp only[bp];omega
 |y::ys,j+1,x,h=>by
  have:=J3 (xs:=ys) (j:=j) (by simpa using h);simp only[bp];omega
def Fd{xs:aj α}{x d:α}(h:xs[j]?=ai x):xs.jd j d=x:=by
 simp[aj.jd,h]
def L4(I:j3 X d0 σ H s)(sg:ar G H)(hu:A.yH<yN)(n1:∀ws,w=.gw ws->∀ws',w'≠.gw ws')(n2:∀ws,w=.dS ws->∀ws',w'≠.dS ws')(h:pW X.K G w v)(h':pW X.K G w' v')(r:uc v u)(r':uc v' u')(e:ft w w'=ai b):yy.Φ A s u u' b:=by
 have tl:∀{ws:aj W}{v:V}{u:eT},pW X.K G (.dS ws) v->uc v u->∃l p7,u=.dI l/\s.bj._p l p7:=λh r=>by
  let⟨a,xs,rfl,q,_⟩:=h;cases r;let⟨av,_,p,_⟩:=I.xT (sg.ot q);exact⟨a,_,rfl,p.zf⟩
 have tt:∀{ws:aj W}{v:V}{u:eT},pW X.K G (.gw ws) v->uc v u->∃l p7,u=.dI l/\s.bj.Yy l p7:=λh r=>by
  let⟨a,xs,rfl,q,_⟩:=h;cases r;let⟨av,_,p,_⟩:=I.Uo (sg.gw q);exact⟨a,_,rfl,p⟩
 have tn:∀{v:V}{u:eT},pW X.K G .aC v->uc v u->u=.none:=λh r=>by cases h;exact r
 have tb:∀{k:ie}{v:V}{u:eT},pW X.K G (.bl k) v->uc v u->u=.xv k:=λh r=>by cases h;exact r
 have ti:∀{k:dr}{v:V}{u:eT},pW X.K G (.a6 k) v->uc v u->∃t,u=.a6 k t:=λh r=>by cases h;exact r
 have ts:∀{k:fv}{v:V}{u:eT},pW X.K G (.str k) v->uc v u->∃t,u=.str k t:=λh r=>by cases h;exact r
 cases w with
 |aC=>
  obtain rfl:=tn h r;cases w' with
  |aC=>obtain rfl:=tn h' r';cases e;exact .none_none
  |bl k=>obtain rfl:=tb h' r';cases e;exact .â k
  |a6 k=>let⟨t,rfl⟩:=ti h' r';cases e;exact .Ŝ k t
  |str k=>let⟨t,rfl⟩:=ts h' r';cases e;exact .ŝ k t
  |gw k=>let⟨l,it,rfl,p⟩:=tt h' r';cases e;exact .none_tuple p hu
  |dS k=>let⟨l,it,rfl,p⟩:=tl h' r';cases e;exact .none_list p hu
  |Yq k=>cases e
  |aZ k=>cases e
  |dw _ _ _ _=>cases e
  |fn _ _ _=>cases e
 |bl j=>
  obtain rfl:=tb h r;cases w' with
  |aC=>obtain rfl:=tn h' r';cases e;exact .Ó j
  |bl k=>obtain rfl:=tb h' r';cases e;exact .ϫ j k
  |a6 k=>let⟨t,rfl⟩:=ti h' r';cases e;exact .ł j k t
  |str k=>let⟨t,rfl⟩:=ts h' r';cases e;exact .Ń j k t
  |gw k=>let⟨l,it,rfl,p⟩:=tt h' r';cases e;exact .bool_tuple j p hu
  |dS k=>let⟨l,it,rfl,p⟩:=tl h' r';cases e;exact .bool_list j p hu
  |Yq k=>cases e
  |aZ k=>cases e
  |dw _ _ _ _=>cases e
  |fn _ _ _=>cases e
 |a6 j=>
  let⟨t1,rfl⟩:=ti h r;cases w' with
  |aC=>obtain rfl:=tn h' r';cases e;exact .ŕ j t1
  |bl k=>obtain rfl:=tb h' r';cases e;exact .Ŕ j t1 k
  |a6 k=>let⟨t,rfl⟩:=ti h' r';cases e;exact .Ý j t1 k t
  |str k=>let⟨t,rfl⟩:=ts h' r';cases e;exact .Ċ j t1 k t
  |gw k=>let⟨l,it,rfl,p⟩:=tt h' r';cases e;exact .int_tuple j t1 p hu
  |dS k=>let⟨l,it,rfl,p⟩:=tl h' r';cases e;exact .int_list j t1 p hu
  |Yq k=>cases e
  |aZ k=>cases e
  |dw _ _ _ _=>cases e
  |fn _ _ _=>cases e
 |str j=>
  let⟨t1,rfl⟩:=ts h r;cases w' with
  |aC=>obtain rfl:=tn h' r';cases e;exact .Ū j t1
  |bl k=>obtain rfl:=tb h' r';cases e;exact .ũ j t1 k
  |a6 k=>let⟨t,rfl⟩:=ti h' r';cases e;exact .ġ j t1 k t
  |str k=>let⟨t,rfl⟩:=ts h' r';cases e;exact .Ģ j t1 k t
  |gw k=>let⟨l,it,rfl,p⟩:=tt h' r';cases e;exact .str_tuple j t1 p hu
  |dS k=>let⟨l,it,rfl,p⟩:=tl h' r';cases e;exact .str_list j t1 p hu
  |Yq k=>cases e
  |aZ k=>cases e
  |dw _ _ _ _=>cases e
  |fn _ _ _=>cases e
 |gw j=>
  let⟨l1,HB,rfl,p1⟩:=tt h r;cases w' with
  |aC=>obtain rfl:=tn h' r';cases e;exact .tuple_none p1 hu
  |bl k=>obtain rfl:=tb h' r';cases e;exact .tuple_bool k p1 hu
  |a6 k=>let⟨t,rfl⟩:=ti h' r';cases e;exact .tuple_int k t p1 hu
  |str k=>let⟨t,rfl⟩:=ts h' r';cases e;exact .tuple_str k t p1 hu
  |gw k=>grind
  |dS k=>let⟨l,it,rfl,p⟩:=tl h' r';cases e;exact .tuple_list p1 p hu
  |Yq k=>cases e
  |aZ k=>cases e
  |dw _ _ _ _=>cases e
  |fn _ _ _=>cases e
 |dS j=>
  let⟨l1,HB,rfl,p1⟩:=tl h r;cases w' with
  |aC=>obtain rfl:=tn h' r';cases e;exact .list_none p1 hu
  |bl k=>obtain rfl:=tb h' r';cases e;exact .list_bool k p1 hu
  |a6 k=>let⟨t,rfl⟩:=ti h' r';cases e;exact .list_int k t p1 hu
  |str k=>let⟨t,rfl⟩:=ts h' r';cases e;exact .list_str k t p1 hu
  |dS k=>grind
  |gw k=>let⟨l,it,rfl,p⟩:=tt h' r';cases e;exact .list_tuple p1 p hu
  |Yq k=>cases e
  |aZ k=>cases e
  |dw _ _ _ _=>cases e
  |fn _ _ _=>cases e
 |Yq j=>cases w'<;>cases e
 |aZ j=>cases w'<;>cases e
 |dw _ _ _ _=>cases w'<;>cases e
 |fn _ _ _=>cases w'<;>cases e
theorem RI(I:j3 X d0 σ H s)(sg:ar G H)(hd:bc w<=0)(hu:A.yH<yN)(h:pW X.K G w v)(h':pW X.K G w' v')(r:uc v u)(r':uc v' u')(e:ft w w'=ai b):yy.Φ A s u u' b:=
 L4 I sg hu (λws z=>by grind [bc]) (λws z=>by grind [bc]) h h' r r' e
theorem K6(h:pW K G w v):∀x,v≠.vp x:=λx z=>by
 subst z;cases w with
 |gw ws=>let⟨_,_,z,_⟩:=h;cases z
 |dS ws=>let⟨_,_,z,_⟩:=h;cases z
 |Yq c=>let⟨_,z,_⟩:=h;cases z
 |aZ c=>let⟨_,z,_⟩:=h;cases z
 |dw _ _ _ _=>let⟨_,_,_,z,_⟩:=h;cases z
 |fn _ _ _=>let⟨_,_,_,_,z,_⟩:=h;cases z
 |_=>cases h
theorem K7{v:V}{u u':eT}{b:ie}(rv:uc v u)(hf:∀x,v≠.vp x)(h:yy.Φ A s u u' b)(hs:u=u'->b=true):yy.WE A s u u' b:=λjf w E Q hq=>by
 unfold Ú;refine ZJ ?_;refine ô (λsU=>?_) (λ_=>?_)
 .have hb:=hs (ą sU);subst hb;exact lT (ö (t8 hq))
 .have z:=lT (h jf w E (λa s'=>oh (p5 jf w) A (truthOfDropped a) Q E s') (_U hq))
  cases v with
  |vp x=>exact uv rfl (hf x)
  |aC=>cases rv;exact z
  |bl _=>cases rv;exact z
  |a6 _=>let⟨t,rfl⟩:=rv;exact z
  |str _=>let⟨t,rfl⟩:=rv;exact z
  |vh _=>let⟨t,rfl⟩:=rv;exact z
  |dI _=>cases rv;exact z
  |ty _=>cases rv;exact z
def Mf(I:j3 X d0 σ H s)(sg:ar G H):∀(n:aT){w w':W}{v v':V}{u u':eT}{b:ie}{A:FZ},bc w<=n->A.yH+n<yN->pW X.K G w v->pW X.K G w' v'->uc v u->uc v' u'->ft w w'=ai b->yy.Φ A s u u' b:=by
 intro n
 induction n with
 |TL=>
  intro w w' v v' u u' b A hd hu h h' r r' e;exact RI I sg hd (by omega) h h' r r' e
 |OK n ih=>
  intro w w' v v' u u' b A hd hu h h' r r' e
  have p7:∀{ws ws':aj W}{xs xs':aj V}{av its':aj eT}{k:ie},bp ws<=n->aq X.K G ws xs->aq X.K G ws' xs'->t9 xs av->t9 xs' its'->d_ ws ws'=ai k ->
    ∀j (h1:j<av.lS.d3) (h2:j<its'.lS.d3),yy.WE A.Dh s av.lS[j] its'.lS[j] ((ft (ws.jd j .aC) (ws'.jd j .aC)).jd false):=by
   intro ws ws' xs xs' av its' k hd r1 r2 v1 v2 he j h1 h2;have l1:=r1.aO;have l2:=r2.aO;have m1:=v1.aO;have m2:=v2.aO;have i1:j<xs.aO:=by rw[m1];simpa using h1
   have i2:j<xs'.aO:=by rw[m2];simpa using h2
   let⟨u1,e1,wj⟩:=v1.A' (w0b i1);let⟨u2,e2,CD⟩:=v2.A' (w0b i2);let⟨w1,f1,p1⟩:=r1.iM (w0b i1);let⟨w2,f2,p2⟩:=r2.iM (w0b i2);let⟨b',i9⟩:=(zI he).1 j w1 w2 f1 f2;rw[Fd f1,Fd f2,i9]
   have g1:av.lS[j]=u1:=by
    let⟨_,z⟩:=w0c.mp e1
    simpa using z
   have g2:its'.lS[j]=u2:=by
    let⟨_,z⟩:=w0c.mp e2
    simpa using z
   rw[g1,g2];have GA:bc w1<=n:=w0q (J3 f1) hd
   have Hr:A.Dh.yH+n<yN:=by
    have:A.Dh.yH=A.yH+1:=rfl;omega
   refine K7 wj (K6 p1) (ih GA Hr p1 p2 wj CD i9) λz=>?_
   subst z;have:=wj.yB CD;rw[this]at p1;exact Cd I sg w1 p1 p2 i9
  cases w with
  |gw ws=>
   cases w' with
   |gw ws'=>
    let⟨a,xs,rfl,q1,r1⟩:=h;let⟨a',xs',rfl,q2,r2⟩:=h';cases r;cases r';let⟨av,v1,p1,_⟩:=I.Uo (sg.gw q1);let⟨its',v2,p2,_⟩:=I.Uo (sg.gw q2);have e:d_ ws ws'=ai b:=e;have z:=yy.Φ.Ų (show s.bj.Yy a _ from p1) (show s.bj.Yy a' _ from p2) (show A.yH<yN by omega) (p7 (by simp only[bc]at hd;omega) r1 r2 v1 v2 e);have l1:=r1.aO;have l2:=r2.aO;have m1:=v1.aO;have m2:=v2.aO;have eb:=(zI e).2;have n1:av.aO=ws.aO:=by omega
    have n2:its'.aO=ws'.aO:=by omega
    rw[eb];simp only[w0e,n1,n2]at z;exact z
   |_=>exact L4 I sg (by omega) (by intro ws';simp) (by intro ws';simp) h h' r r' e
  |dS ws=>
   cases w' with
   |dS ws'=>
    let⟨a,xs,rfl,q1,r1⟩:=h;let⟨a',xs',rfl,q2,r2⟩:=h';cases r;cases r';let⟨av,v1,p1,_⟩:=I.xT (sg.ot q1);let⟨its',v2,p2,_⟩:=I.xT (sg.ot q2);have e:d_ ws ws'=ai b:=e;have l1:=r1.aO;have l2:=r2.aO;have m1:=v1.aO;have m2:=v2.aO;have eb:=(zI e).2;have n1:av.aO=ws.aO:=by omega
    have n2:its'.aO=ws'.aO:=by omega
    by_cases hl:ws.aO=ws'.aO
    .have z:=yy.Φ.lists p1.zf p2.zf (by simp only[w0e];omega) (show A.yH<yN by omega) (p7 (by simp only[bc]at hd;omega) r1 r2 v1 v2 e);rw[eb,hl];simp only[w0e,n1,hl,aT.min_self,ŀ,w4t]at z |-
     exact z
    .have z:=yy.Φ.zc3 (A:=A) p1.zf p2.zf (by simp only[w0e,ϙ];omega) (show A.yH<yN by omega)
     have:b=false:=by
      rw[eb];have:(ws.aO==ws'.aO)=false:=by simp[hl]
      rw[this,w5m]
     rw[this];exact z
   |_=>exact L4 I sg (by omega) (by intro ws';simp) (by intro ws';simp) h h' r r' e
  |_=>exact RI I sg (by simp[bc]) (by omega) h h' r r' e
def K8(I:j3 X d0 σ H s)(sg:ar G H)(hu:A.yH<yN)(n1:∀ws,w=.gw ws->∀ws',w'≠.gw ws')(n2:∀ws,w=.dS ws->∀ws',w'≠.dS ws')(h:pW X.K G w v)(h':pW X.K G w' v')(r:uc v u)(r':uc v' u')(e:ft w w'=ai b):yy.Ϫ A s u u' (!b):=by
 have tl:∀{ws:aj W}{v:V}{u:eT},pW X.K G (.dS ws) v->uc v u->∃l p7,u=.dI l/\s.bj._p l p7:=λh r=>by
  let⟨a,xs,rfl,q,_⟩:=h;cases r;let⟨av,_,p,_⟩:=I.xT (sg.ot q);exact⟨a,_,rfl,p.zf⟩
 have tt:∀{ws:aj W}{v:V}{u:eT},pW X.K G (.gw ws) v->uc v u->∃l p7,u=.dI l/\s.bj.Yy l p7:=λh r=>by
  let⟨a,xs,rfl,q,_⟩:=h;cases r;let⟨av,_,p,_⟩:=I.Uo (sg.gw q);exact⟨a,_,rfl,p⟩
 have tn:∀{v:V}{u:eT},pW X.K G .aC v->uc v u->u=.none:=λh r=>by cases h;exact r
 have tb:∀{k:ie}{v:V}{u:eT},pW X.K G (.bl k) v->uc v u->u=.xv k:=λh r=>by cases h;exact r
 have ti:∀{k:dr}{v:V}{u:eT},pW X.K G (.a6 k) v->uc v u->∃t,u=.a6 k t:=λh r=>by cases h;exact r
 have ts:∀{k:fv}{v:V}{u:eT},pW X.K G (.str k) v->uc v u->∃t,u=.str k t:=λh r=>by cases h;exact r
 cases w with
 |aC=>
  obtain rfl:=tn h r;cases w' with
  |aC=>obtain rfl:=tn h' r';cases e;exact .none_none
  |bl k=>obtain rfl:=tb h' r';cases e;exact .â k
  |a6 k=>let⟨t,rfl⟩:=ti h' r';cases e;exact .Ŝ k t
  |str k=>let⟨t,rfl⟩:=ts h' r';cases e;exact .ŝ k t
  |gw k=>let⟨l,it,rfl,p⟩:=tt h' r';cases e;exact .none_tuple p hu
  |dS k=>let⟨l,it,rfl,p⟩:=tl h' r';cases e;exact .none_list p hu
  |Yq k=>cases e
  |aZ k=>cases e
  |dw _ _ _ _=>cases e
  |fn _ _ _=>cases e
 |bl j=>
  obtain rfl:=tb h r;cases w' with
  |aC=>obtain rfl:=tn h' r';cases e;exact .Ó j
  |bl k=>obtain rfl:=tb h' r';cases e;exact .ϫ j k
  |a6 k=>let⟨t,rfl⟩:=ti h' r';cases e;exact .ł j k t
  |str k=>let⟨t,rfl⟩:=ts h' r';cases e;exact .Ń j k t
  |gw k=>let⟨l,it,rfl,p⟩:=tt h' r';cases e;exact .bool_tuple j p hu
  |dS k=>let⟨l,it,rfl,p⟩:=tl h' r';cases e;exact .bool_list j p hu
  |Yq k=>cases e
  |aZ k=>cases e
  |dw _ _ _ _=>cases e
  |fn _ _ _=>cases e
 |a6 j=>
  let⟨t1,rfl⟩:=ti h r;cases w' with
  |aC=>obtain rfl:=tn h' r';cases e;exact .ŕ j t1
  |bl k=>obtain rfl:=tb h' r';cases e;exact .Ŕ j t1 k
  |a6 k=>let⟨t,rfl⟩:=ti h' r';cases e;exact .Ý j t1 k t
  |str k=>let⟨t,rfl⟩:=ts h' r';cases e;exact .Ċ j t1 k t
  |gw k=>let⟨l,it,rfl,p⟩:=tt h' r';cases e;exact .int_tuple j t1 p hu
  |dS k=>let⟨l,it,rfl,p⟩:=tl h' r';cases e;exact .int_list j t1 p hu
  |Yq k=>cases e
  |aZ k=>cases e
  |dw _ _ _ _=>cases e
  |fn _ _ _=>cases e
 |str j=>
  let⟨t1,rfl⟩:=ts h r;cases w' with
  |aC=>obtain rfl:=tn h' r';cases e;exact .Ū j t1
  |bl k=>obtain rfl:=tb h' r';cases e;exact .ũ j t1 k
  |a6 k=>let⟨t,rfl⟩:=ti h' r';cases e;exact .ġ j t1 k t
  |str k=>let⟨t,rfl⟩:=ts h' r';cases e;exact .Ģ j t1 k t
  |gw k=>let⟨l,it,rfl,p⟩:=tt h' r';cases e;exact .str_tuple j t1 p hu
  |dS k=>let⟨l,it,rfl,p⟩:=tl h' r';cases e;exact .str_list j t1 p hu
  |Yq k=>cases e
  |aZ k=>cases e
  |dw _ _ _ _=>cases e
  |fn _ _ _=>cases e
 |gw j=>
  let⟨l1,HB,rfl,p1⟩:=tt h r;cases w' with
  |aC=>obtain rfl:=tn h' r';cases e;exact .tuple_none p1 hu
  |bl k=>obtain rfl:=tb h' r';cases e;exact .tuple_bool k p1 hu
  |a6 k=>let⟨t,rfl⟩:=ti h' r';cases e;exact .tuple_int k t p1 hu
  |str k=>let⟨t,rfl⟩:=ts h' r';cases e;exact .tuple_str k t p1 hu
  |gw k=>grind
  |dS k=>let⟨l,it,rfl,p⟩:=tl h' r';cases e;exact .tuple_list p1 p hu
  |Yq k=>cases e
  |aZ k=>cases e
  |dw _ _ _ _=>cases e
  |fn _ _ _=>cases e
 |dS j=>
  let⟨l1,HB,rfl,p1⟩:=tl h r;cases w' with
  |aC=>obtain rfl:=tn h' r';cases e;exact .list_none p1 hu
  |bl k=>obtain rfl:=tb h' r';cases e;exact .list_bool k p1 hu
  |a6 k=>let⟨t,rfl⟩:=ti h' r';cases e;exact .list_int k t p1 hu
  |str k=>let⟨t,rfl⟩:=ts h' r';cases e;exact .list_str k t p1 hu
  |dS k=>grind
  |gw k=>let⟨l,it,rfl,p⟩:=tt h' r';cases e;exact .list_tuple p1 p hu
  |Yq k=>cases e
  |aZ k=>cases e
  |dw _ _ _ _=>cases e
  |fn _ _ _=>cases e
 |Yq j=>cases w'<;>cases e
 |aZ j=>cases w'<;>cases e
 |dw _ _ _ _=>cases w'<;>cases e
 |fn _ _ _=>cases w'<;>cases e
theorem y5l(I:j3 X d0 σ H s)(sg:ar G H)(hd:bc w<=0)(hu:A.yH<yN)(h:pW X.K G w v)(h':pW X.K G w' v')(r:uc v u)(r':uc v' u')(e:ft w w'=ai b):yy.Ϫ A s u u' (!b):=
 K8 I sg hu (λws z=>by grind [bc]) (λws z=>by grind [bc]) h h' r r' e
def Qy(I:j3 X d0 σ H s)(sg:ar G H)(hu:A.yH+(n+1)<yN)(hd:bp ws<=n)(r1:aq X.K G ws xs)(r2:aq X.K G ws' xs')(v1:t9 xs av)(v2:t9 xs' its')(he:d_ ws ws'=ai k):
  ∀j (h1:j<av.lS.d3) (h2:j<its'.lS.d3),yy.WE A.Dh s av.lS[j] its'.lS[j] ((ft (ws.jd j .aC) (ws'.jd j .aC)).jd false):=by
 intro j h1 h2;have l1:=r1.aO;have l2:=r2.aO;have m1:=v1.aO;have m2:=v2.aO;have i1:j<xs.aO:=by rw[m1];simpa using h1
 have i2:j<xs'.aO:=by rw[m2];simpa using h2
 let⟨u1,e1,wj⟩:=v1.A' (w0b i1);let⟨u2,e2,CD⟩:=v2.A' (w0b i2);let⟨w1,f1,p1⟩:=r1.iM (w0b i1);let⟨w2,f2,p2⟩:=r2.iM (w0b i2);let⟨b',i9⟩:=(zI he).1 j w1 w2 f1 f2;rw[Fd f1,Fd f2,i9]
 have g1:av.lS[j]=u1:=by
  grind
 have g2:its'.lS[j]=u2:=by
  grind
 rw[g1,g2];have GA:bc w1<=n:=w0q (J3 f1) hd
 have Hr:A.Dh.yH+n<yN:=by
  grind
 refine K7 wj (K6 p1) (Mf I sg n GA Hr p1 p2 wj CD i9) λz=>?_
 subst z;have:=wj.yB CD
 grind [Cd]
def z44(I:j3 X d0 σ H s)(sg:ar G H)(n:aT){w':W}{v v':V}{u u':eT}{b:ie}(hd:bc w<=n+1)(hu:A.yH+(n+1)<yN)(h:pW X.K G w v)(h':pW X.K G w' v')(r:uc v u)(r':uc v' u')(e:ft w w'=ai b):yy.Ϫ A s u u' (!b):=by
 cases w with
 |gw ws=>
  cases w' with
  |gw ws'=>
   let⟨a,xs,rfl,q1,r1⟩:=h;let⟨a',xs',rfl,q2,r2⟩:=h';cases r;cases r';let⟨av,v1,p1,_⟩:=I.Uo (sg.gw q1);let⟨its',v2,p2,_⟩:=I.Uo (sg.gw q2);have e:d_ ws ws'=ai b:=e;have z:=yy.Ϫ.Ų (show s.bj.Yy a _ from p1) (show s.bj.Yy a' _ from p2) (show A.yH<yN by omega) (Qy I sg hu (by simp only[bc]at hd;omega) r1 r2 v1 v2 e);have l1:=r1.aO;have l2:=r2.aO;have m1:=v1.aO;have m2:=v2.aO;have eb:=(zI e).2;have n1:av.aO=ws.aO:=by omega
   have n2:its'.aO=ws'.aO:=by omega
   rw[eb];simp only[w0e,n1,n2]at z;exact z
  |_=>exact K8 I sg (by omega) (by intro ws';simp) (by intro ws';simp) h h' r r' e
 |dS ws=>
  cases w' with
  |dS ws'=>
   let⟨a,xs,rfl,q1,r1⟩:=h;let⟨a',xs',rfl,q2,r2⟩:=h';cases r;cases r';let⟨av,v1,p1,_⟩:=I.xT (sg.ot q1);let⟨its',v2,p2,_⟩:=I.xT (sg.ot q2);have e:d_ ws ws'=ai b:=e;have l1:=r1.aO;have l2:=r2.aO;have m1:=v1.aO;have m2:=v2.aO;have eb:=(zI e).2;have n1:av.aO=ws.aO:=by omega
   have n2:its'.aO=ws'.aO:=by omega
   by_cases hl:ws.aO=ws'.aO
   .have z:=yy.Ϫ.lists p1.zf p2.zf (by simp only[w0e];omega) (show A.yH<yN by omega) (Qy I sg hu (by simp only[bc]at hd;omega) r1 r2 v1 v2 e);rw[eb,hl];simp only[w0e,n1,hl,aT.min_self,ŀ,w4t]at z |-
    exact z
   .have z:=yy.Ϫ.zc3 (A:=A) p1.zf p2.zf (by simp only[w0e,ϙ];omega) (show A.yH<yN by omega)
    have:b=false:=by
     rw[eb];have:(ws.aO==ws'.aO)=false:=by simp[hl]
     rw[this,w5m]
    rw[this];exact z
  |_=>exact K8 I sg (by omega) (by intro ws';simp) (by intro ws';simp) h h' r r' e
 |_=>exact y5l I sg (by simp[bc]) (by omega) h h' r r' e
def yn(x y:W):fy W:=if bc x<=150 then(ft x y).a7 .bl else none
def Cr(K:Fg):R2:=λx y H Q=>∃G wx wy b,ar G H/\bc wx<=150/\pW K G wx x/\pW K G wy y/\ft wx wy=ai b/\Q (.bl b) H
def S3(hu:X.A.yH+150<yN):fF X (Zs .Eq) (Cr X.K):=by
 intro d0 s σ H x y v u Q I rx ry h;let⟨G,wx,wy,b,sg,hd,hx,hy,e,q⟩:=h;exact Mf I sg 150 hd hu hx hy rx ry e _ _ _ _ ⟨.bl b,H,I,rfl,q⟩
def T4:iC K (Cr K) yn:=by
 intro G H x y wx wy w Q s px py hf h;unfold yn at hf;split at hf
 .rename_i hd;let⟨b,hb,rfl⟩:=w0i.mp hf;exact⟨G,wx,wy,b,s,hd,px,py,hb,h G _ H (.tT s) rfl⟩
 .cases hf
def Uk(x y:W):fy W:=if bc x<=150 then(ft x y).a7 λb=>.bl (!b)else none
def CA(K:Fg):R2:=λx y H Q=>∃G wx wy b,ar G H/\bc wx<=150/\pW K G wx x/\pW K G wy y/\ft wx wy=ai b/\Q (.bl (!b)) H
def S4(hu:X.A.yH+150<yN):fF X (Zs .NotEq) (CA X.K):=by
 intro d0 s σ H x y v u Q I rx ry h;let⟨G,wx,wy,b,sg,hd,hx,hy,e,q⟩:=h;exact z44 I sg 149 hd hu hx hy rx ry e _ _ _ _ ⟨.bl (!b),H,I,rfl,q⟩
def T5:iC K (CA K) Uk:=by
 intro G H x y wx wy w Q s px py hf h;unfold Uk at hf;split at hf
 .rename_i hd;let⟨b,hb,rfl⟩:=w0i.mp hf;exact⟨G,wx,wy,b,s,hd,px,py,hb,h G _ H (.tT s) rfl⟩
 .cases hf
def Yz:W->W->fy W
 |.aC,.aC=>ai (.bl true)
 |_,.aC=>ai (.bl false)
 |.bl a,.bl b=>ai (.bl (a==b))
 |_,.bl _=>ai (.bl false)
 |_,_=>none
def fR:W->W->fy W
 |.aC,.aC=>ai (.bl false)
 |_,.aC=>ai (.bl true)
 |.bl a,.bl b=>ai (.bl (!(a==b)))
 |_,.bl _=>ai (.bl true)
 |_,_=>none
def OF:R2:=λx y H Q=>(y=.aC\/∃b,y=.bl b)/\Q (.bl (decide (x=y))) H
def CB:R2:=λx y H Q=>(y=.aC\/∃b,y=.bl b)/\Q (.bl (!decide (x=y))) H
def Qz{x y:V}{v u:eT}(rx:uc x v)(ry:uc y u)(h:y=.aC\/∃b,y=.bl b):plainIs v u=true/\(v==u)=decide (x=y):=by
 rcases h with rfl|⟨b,rfl⟩
 .cases ry
  cases x<;>first
   |(cases rx;exact⟨rfl,by first|rfl|(rw[w1r];simp)⟩)
   |(let⟨t,rfl⟩:=rx;exact⟨rfl,by rw[w1r];simp⟩)
 .cases ry
  cases x<;>first
   |(cases rx;exact⟨rfl,by first|rfl|(rw[w1r];simp)⟩)
   |(let⟨t,rfl⟩:=rx;exact⟨rfl,by rw[w1r];simp⟩)
def S5:fF X (Zs .Is) OF:=by
 intro d0 s σ H x y v u Q I rx ry h;let⟨hy,q⟩:=h;let⟨h1,h2⟩:=Qz rx ry hy;exact wpAny_is_plain h1 (SO I q h2.symm)
def RJ:fF X (Zs .IsNot) CB:=by
 intro d0 s σ H x y v u Q I rx ry h;let⟨hy,q⟩:=h;let⟨h1,h2⟩:=Qz rx ry hy;exact wpAny_isNot_plain h1 (SO I q (by rw[h2]))
def Vm{x y:V}{wx wy:W}(px:pW K G wx x)(py:pW K G wy y)(h:Yz wx wy=ai w):(y=.aC\/∃b,y=.bl b)/\w=.bl (decide (x=y)):=by
 cases wy with
 |aC=>
  cases(show y=.aC from py);refine⟨.j9 rfl,?_⟩;cases wx with
  |gw ws=>let⟨_,_,rfl,_⟩:=px;cases h;simp
  |dS ws=>let⟨_,_,rfl,_⟩:=px;cases h;simp
  |Yq c=>let⟨_,rfl,_⟩:=px;cases h;simp
  |aZ c=>let⟨_,rfl,_⟩:=px;cases h;simp
  |dw _ _ _ _=>let⟨_,_,_,rfl,_⟩:=px;cases h;simp
  |fn _ _ _=>let⟨_,_,_,_,rfl,_⟩:=px;cases h;simp
  |_=>cases px;cases h;simp
 |bl b=>
  cases(show y=.bl b from py);refine⟨.mW ⟨b,rfl⟩,?_⟩;cases wx with
  |gw ws=>let⟨_,_,rfl,_⟩:=px;cases h;simp
  |dS ws=>let⟨_,_,rfl,_⟩:=px;cases h;simp
  |Yq c=>let⟨_,rfl,_⟩:=px;cases h;simp
  |aZ c=>let⟨_,rfl,_⟩:=px;cases h;simp
  |dw _ _ _ _=>let⟨_,_,_,rfl,_⟩:=px;cases h;simp
  |fn _ _ _=>let⟨_,_,_,_,rfl,_⟩:=px;cases h;simp
  |bl k=>cases px;cases h;cases k<;>cases b<;>rfl
  |_=>cases px;cases h;simp
 |_=>cases wx<;>cases h
def Ux{x y:V}{wx wy:W}(px:pW K G wx x)(py:pW K G wy y)(h:fR wx wy=ai w):(y=.aC\/∃b,y=.bl b)/\w=.bl (!decide (x=y)):=by
 cases wy with
 |aC=>
  cases(show y=.aC from py);refine⟨.j9 rfl,?_⟩;cases wx with
  |gw ws=>let⟨_,_,rfl,_⟩:=px;cases h;simp
  |dS ws=>let⟨_,_,rfl,_⟩:=px;cases h;simp
  |Yq c=>let⟨_,rfl,_⟩:=px;cases h;simp
  |aZ c=>let⟨_,rfl,_⟩:=px;cases h;simp
  |dw _ _ _ _=>let⟨_,_,_,rfl,_⟩:=px;cases h;simp
  |fn _ _ _=>let⟨_,_,_,_,rfl,_⟩:=px;cases h;simp
  |_=>cases px;cases h;simp
 |bl b=>
  cases(show y=.bl b from py);refine⟨.mW ⟨b,rfl⟩,?_⟩;cases wx with
  |gw ws=>let⟨_,_,rfl,_⟩:=px;cases h;simp
  |dS ws=>let⟨_,_,rfl,_⟩:=px;cases h;simp
  |Yq c=>let⟨_,rfl,_⟩:=px;cases h;simp
  |aZ c=>let⟨_,rfl,_⟩:=px;cases h;simp
  |dw _ _ _ _=>let⟨_,_,_,rfl,_⟩:=px;cases h;simp
  |fn _ _ _=>let⟨_,_,_,_,rfl,_⟩:=px;cases h;simp
  |bl k=>cases px;cases h;cases k<;>cases b<;>rfl
  |_=>cases px;cases h;simp
 |_=>cases wx<;>cases h
def T6:iC K OF Yz:=by
 intro G H x y wx wy w Q s px py hf h;let⟨h1,rfl⟩:=Vm px py hf;exact⟨h1,h G _ H (.tT s) rfl⟩
def S6:iC K CB fR:=by
 intro G H x y wx wy w Q s px py hf h;let⟨h1,rfl⟩:=Ux px py hf;exact⟨h1,h G _ H (.tT s) rfl⟩
section
variable{a b c e:oP}{p:vd}{x:fv}
theorem Q0l(ha:DE Z X EE a da)(hb:DE Z X EE b db):DE Z X EE (._m a .Sub b ia) (ao n_ da db):=v9 z9h Uq ha hb
theorem Q0m(ha:DE Z X EE a da)(hb:DE Z X EE b db):DE Z X EE (._m a .Υ b ia) (ao iq da db):=v9 z9i Ur ha hb
theorem z45(ha:DE Z X EE a da)(hb:DE Z X EE b db):DE Z X EE (._m a .FloorDiv b ia) (ao cq da db):=v9 z39 z41 ha hb
theorem Q0n(ha:DE Z X EE a da)(hb:DE Z X EE b db):DE Z X EE (._m a .Τ b ia) (ao b_ da db):=v9 z9j Us ha hb
theorem Q0o(ha:DE Z X EE a da)(hb:DE Z X EE b db):DE Z X EE (._m a .Pow b ia) (ao rS da db):=v9 z9k Ut ha hb
theorem Q0p(ha:DE Z X EE a da):DE Z X EE (._H .USub a ia) (nB nT da):=VF z9l Uu ha
theorem Q42(ha:DE Z X EE a da)(hb:DE Z X EE b db):DE Z X EE (.Yw a [.Lt] [b] ia) (ao nR da db):=yg TU TZ ha hb (cy _)
theorem Q43(ha:DE Z X EE a da)(hb:DE Z X EE b db):DE Z X EE (.Yw a [.LtE] [b] ia) (ao xK da db):=yg TV T1 ha hb (cy _)
theorem Q44(ha:DE Z X EE a da)(hb:DE Z X EE b db):DE Z X EE (.Yw a [.Gt] [b] ia) (ao kh da db):=yg TX T2 ha hb (cy _)
theorem Q45(hu:X.A.yH+150<yN)(ha:DE Z X EE a da)(hb:DE Z X EE b db):DE Z X EE (.Yw a [.Eq] [b] ia) (ao yn da db):=yg (S3 hu) T4 ha hb (cy _)
theorem Q46(hu:X.A.yH+150<yN)(ha:DE Z X EE a da)(hb:DE Z X EE b db):DE Z X EE (.Yw a [.NotEq] [b] ia) (ao Uk da db):=yg (S4 hu) T5 ha hb (cy _)
theorem Q47(ha:DE Z X EE a da)(hb:DE Z X EE b db):DE Z X EE (.Yw a [.Is] [b] ia) (ao Yz da db):=yg S5 T6 ha hb (cy _)
theorem Q0q(ha:DE Z X EE a da)(hb:DE Z X EE b db):DE Z X EE (.Yw a [.IsNot] [b] ia) (ao fR da db):=yg RJ S6 ha hb (cy _)
theorem Q48(ha:DE Z X EE a da)(hb:DE Z X EE b db):DT Z X EE (.Yw a [.Lt] [b] ia) (aw (ao nR da db)):=tK TU TZ ha hb (cy _)
theorem Q49(ha:DE Z X EE a da)(hb:DE Z X EE b db):DT Z X EE (.Yw a [.LtE] [b] ia) (aw (ao xK da db)):=tK TV T1 ha hb (cy _)
theorem Q5a(ha:DE Z X EE a da)(hb:DE Z X EE b db):DT Z X EE (.Yw a [.Gt] [b] ia) (aw (ao kh da db)):=tK TX T2 ha hb (cy _)
theorem Q5b(ha:DE Z X EE a da)(hb:DE Z X EE b db):DT Z X EE (.Yw a [.GtE] [b] ia) (aw (ao yX da db)):=tK VD VG ha hb (cy _)
theorem Q5c(hu:X.A.yH+150<yN)(ha:DE Z X EE a da)(hb:DE Z X EE b db):DT Z X EE (.Yw a [.Eq] [b] ia) (aw (ao yn da db)):=tK (S3 hu) T4 ha hb (cy _)
theorem Q5d(hu:X.A.yH+150<yN)(ha:DE Z X EE a da)(hb:DE Z X EE b db):DT Z X EE (.Yw a [.NotEq] [b] ia) (aw (ao Uk da db)):=tK (S4 hu) T5 ha hb (cy _)
theorem Q5e(ha:DE Z X EE a da)(hb:DE Z X EE b db):DT Z X EE (.Yw a [.Is] [b] ia) (aw (ao Yz da db)):=tK S5 T6 ha hb (cy _)
theorem Q0r(ha:DE Z X EE a da)(hb:DE Z X EE b db):DT Z X EE (.Yw a [.IsNot] [b] ia) (aw (ao fR da db)):=tK RJ S6 ha hb (cy _)
def XN{k:aT}(h:bA k A):A.yH+150<yN:=by have:=h.un;omega
def i4(xs:aj W)(lo hi:fy dr):aj W:=(xs.zd (HT.cC xs.aO 0 lo)).yE (HT.cC xs.aO xs.aO hi-HT.cC xs.aO 0 lo)
def aq.cut{xs:aj V}(r:aq K G ws xs)(lo hi:fy dr):aq K G (i4 ws lo hi) (kn xs lo hi):=by
 unfold i4 kn;rw[r.aO];exact(r.zd _).yE _
def DO(Z:Zt)(X:Cx)(EE:L2.St->XK)(e:fy oP)(d:j' (fy dr)):Prop:=PO X e (λσ H Q=>∃G e,ph X.K Z G σ H e/\(d e).Uj (λo e'=>∀G' H',ph X.K Z G' σ H' e'->ar G G'->Q o H') (XH X.K Z EE σ G))
def bR:j' (fy dr):=λe=>.ok none e
def dU(d:j' W):j' (fy dr):=λe=>(d e).qK λw e1=>match w with
 |.a6 i=>.ok (ai i) e1
 |_=>.no
theorem PO.mV{e:fy oP}{t t':TO}(h:PO X e t)(i:∀σ H Q,t' σ H Q->t σ H Q):PO X e t':=λd0 s σ H Q I q=>h d0 s σ H Q I (i σ H Q q)
theorem z46:DO Z X EE none bR:=PO.mV z4c λσ H Q ⟨G,e,r,h⟩=>h G H r (.tT _)
def z47(h:DE Z X EE e da):DO Z X EE (ai e) (dU da):=by
 refine PO.mV (z4d h) ?_;rintro σ H Q ⟨G,e,mT,h⟩;simp only[dU,R.au]at h;refine⟨G,e,mT,h.uX (λx e1 h G1 v1 H1 r1 s1 p1=>?_) λ_ _ h=>h⟩
 cases x with
 |a6 i=>cases(show v1=V.a6 i from p1);exact⟨i,rfl,h G1 H1 r1 s1⟩
 |_=>exact h.nU
def zU:W->fy dr->fy dr->fy W
 |.dS ws,lo,hi=>ai (.dS (i4 ws lo hi))
 |.gw ws,lo,hi=>if ¬(HT.cC ws.aO 0 lo=0/\HT.cC ws.aO ws.aO hi=ws.aO)then ai (.gw (i4 ws lo hi))else none
 |_,_,_=>none
def nA(d:j' W)(dl dh:j' (fy dr)):j' W:=λe=>(d e).qK λw e1=>(dl e1).qK λlo e2=>(dh e2).qK λhi e3=>bx (zU w lo hi) e3
def y92{lo hi:fy oP}{dl dh:j' (fy dr)}(he:DE Z X EE e da)(hl:DO Z X EE lo dl)(hh:DO Z X EE hi dh):DE Z X EE (.Yl e (.ZK lo hi none p2) ia) (nA da dl dh):=by
 refine PE.mV (y9h (zd2.or z9o) he hl hh) ?_;rintro σ H Q ⟨G,e,mT,h⟩;simp only[nA,R.au,a8]at h;refine⟨G,e,mT,h.uX (λw e1 h G1 v1 H1 r1 s1 p1=>?_) λ_ _ h=>h⟩
 refine⟨G1,e1,r1,h.uX (λlo e2 h G2 H2 r2 s2=>?_) λ_ _ h=>XH.lb s1 h⟩
 refine⟨G2,e2,r2,h.uX (λhi e3 h G3 H3 r3 s3=>?_) λ_ _ h=>XH.lb (s1.lb s2) h⟩
 let⟨y,hf,h⟩:=h;have p3:=pW.mV (s2.lb s3) w p1;have OI:=(s1.lb s2).lb s3;cases w with
 |dS ws=>
  cases hf;let⟨a,xs,rfl,q,r⟩:=p3;refine .j9 ⟨a,xs,rfl,r3.pA.ot q,λp hp=>?_⟩
  have g:=aN.Mk r3.pA hp (.dS (kn xs lo hi));exact h _ _ _ (r3.yJ g) (OI.lb g.gg) ⟨p,_,rfl,bI.of bQ,aq.mV g.gg _ (r.cut lo hi)⟩
 |gw ws=>
  simp only[zU]at hf;split at hf
  .rename_i hw;cases hf;let⟨a,xs,rfl,q,r⟩:=p3;refine .mW ⟨a,xs,rfl,r3.pA.gw q,by rw[r.aO];exact hw,λp hp=>?_⟩
   have g:=aN.Mk r3.pA hp (.gw (kn xs lo hi));exact h _ _ _ (r3.yJ g) (OI.lb g.gg) ⟨p,_,rfl,cH.of bQ,aq.mV g.gg _ (r.cut lo hi)⟩
  .cases hf
 |_=>cases hf
def zaH:W->eT
 |.aC=>.je "NoneType"
 |.bl _=>.je "bool"
 |.a6 _=>.je "int"
 |.str _=>.je "str"
 |.gw _=>.je "tuple"
 |.dS _=>.je "list"
 |.Yq c=>c
 |.aZ _=>.je "dict"
 |.dw _ _ _ _=>.je "dict"
 |.fn _ _ _=>.je "dict"
def fB(K:Fg)(cv:eT):W->fy W
 |.Yq (.dI D)=>if h_ K D=true then(NN K (.dI D) cv).a7 .bl else none
 |.Yq _=>none
 |.aZ _=>none
 |.dw _ _ _ _=>none
 |.fn _ _ _=>none
 |w=>(NN K (zaH w) cv).a7 .bl
def z48{v:V}{u:eT}{b:ie}{Q:VK}(I:j3 X d0 σ H s)(sg:ar G H)(p:pW X.K G w v)(r:uc v u)(h:fB X.K cv w=ai (.bl b))(q:Q (.bl b) H):
  oh (p5 X.jf X.w) X.A (yG (.wO "isinstance") [u,cv]) (EP X d0 σ Q) X.xe s:=by
 have xg:∀tk,EP X d0 σ Q (.xv b) {s with rJ:=tk}:=λtk=>⟨.bl b,H,I.Yg _,rfl,q⟩
 have xF:∀{t:eT},(NN X.K t cv).a7 W.bl=ai (.bl b)->NN X.K t cv=ai b:=λz=>by
  let⟨y,h1,h2⟩:=w0i.mp z;cases h2;exact h1
 cases w with
 |aC=>cases p;cases r;exact Ϟ lU.W.kitx_none I.kJ ku.intro (xF h) (λz=>nomatch z) xg
 |bl y=>cases p;cases r;exact Ϟ lU.W.kitx_bool I.kJ ku.intro (xF h) (λz=>nomatch z) xg
 |a6 y=>cases p;let⟨t,rfl⟩:=r;exact Ϟ lU.W.kitx_int I.kJ ku.intro (xF h) (λz=>nomatch z) xg
 |str y=>cases p;let⟨t,rfl⟩:=r;exact Ϟ lU.W.kitx_str I.kJ ku.intro (xF h) (λz=>nomatch z) xg
 |gw ws=>
  let⟨a,xs,rfl,hq,_⟩:=p;cases r;let⟨av,_,⟨o,h1,h2,_⟩,_⟩:=I.Uo (sg.gw hq);exact Ϟ lU.W.kitx_tuple I.kJ ⟨o,h1,h2⟩ (xF h) (λz=>nomatch z) xg
 |dS ws=>
  let⟨a,xs,rfl,hq,_⟩:=p;cases r;let⟨av,_,⟨o,n,h1,h2,_⟩,_⟩:=I.xT (sg.ot hq);exact Ϟ lU.W.kitx_list I.kJ ⟨o,h1,h2⟩ (xF h) (λz=>nomatch z) xg
 |aZ c=>simp[fB]at h
 |dw _ _ _ _=>simp[fB]at h
 |fn _ _ _=>simp[fB]at h
 |Yq c=>
  let⟨e,rfl,he⟩:=p;cases r;unfold fB at h;split at h
  .rename_i D heq;cases heq;split at h
   .rename_i hC;let⟨⟨o,vs,h1,h2,h3⟩,_⟩:=(show aS X.jf X.w H s.bj e (nE e (.dI D))from I.aJ e _ (sg _ _ he));exact Ϟ (y9o (iF.of hC)) I.kJ ⟨o,vs,h1,h2,h3⟩ (xF h) (λz=>nomatch z) xg
   .cases h
  all_goals first|(cases h;done)|(rename_i h1 h2 h3 h4 h5;exact uv rfl (h2 c))|(rename_i h1 h2 h3 h4;exact uv rfl (h2 c))|(rename_i h1 h2 h3;exact uv rfl (h2 c))|(rename_i h1 h2;exact uv rfl (h2 c))
def fK(K:Fg)(cv:eT)(d:j' W):j' W:=λe=>(d e).qK λw e1=>match fB K cv w with
 |ai (.bl b)=>.ok (.bl b) e1
 |_=>.no
def y5q{c:V}(hc:Ad c cv):c6 X (.wO "isinstance") (λxs H Q=>∃x G w b,xs=[x,c]/\ar G H/\pW X.K G w x/\fB X.K cv w=ai (.bl b)/\Q (.bl b) H):=by
 intro d0 s σ H xs us Q I r h;let⟨x,G,w,b,rfl,sg,p,hi,q⟩:=h;let⟨u,u2,rfl,rx,rc⟩:=vals2 r
 have ec:u2=cv:=by
  cases c with
  |ty n=>exact(show u2=eT.je n from rc).lb (show cv=eT.je n from hc).symm
  |dI a=>exact(show u2=eT.dI a from rc).lb (show cv=eT.dI a from hc).symm
  |_=>exact hc.nU
 subst ec;exact z48 I sg p rx hi q
def Fv{c0:V}(hc:Ad c0 cv)(eL:PE X c (tC c0))(hm:X.mg "isinstance"=none)(he:DE Z X EE e da)(hg:gu (Gl X "isinstance") jJ)(hs:gu (oj [e,c] X.dt=(false,eval e X.dt)::oj [c] X.dt) jJ)(ja:gu (oj [c] X.dt=(false,eval c X.dt)::oj [] X.dt) jJ)(dz:gu ((yC ia (oj [c] X.dt)).tZ (·.1)=false) jJ):
  DE Z X EE (.wu (.mU "isinstance" p) [e,c] [] ia) (fK X.K cv da):=by
 refine PE.mV (KR (y5q hc) hg hm Ku.M4._n.«isinstance» (tH he (tH eL ye ja) hs) (by decide) (by decide) hs dz) ?_;rintro σ H Q ⟨G,e,mT,h⟩;simp only[fK,R.au]at h;refine⟨G,e,mT,h.uX (λw e1 h G1 v1 H1 r1 s1 p1=>?_) λ_ _ h=>h⟩
 split at h
 .rename_i b hb;exact⟨v1,G1,w,b,rfl,r1.pA,p1,hb,h G1 _ H1 r1 s1 rfl⟩
 .exact h.nU
theorem Fe{n:fv}{T:Yk}(hv:_r n=ai (.je T))(hm:X.mg n=none)(hg:gu (Gl X n) jJ)(hn:gu (n≠"__name__") jK)(hd:gu ((n==("__debug__":fv))=false) jK):PE X (.mU n ia) (tC (.ty T)):=z33 (v:=.ty T) hg hm hv rfl hn hd
def j_:aj W->fy W
 |[.dS ws]=>ai (.gw ws)
 |[.gw ws]=>ai (.gw ws)
 |_=>none
def Uy:qB K (λxs H Q=>∃p ys,xs=[.dI p]/\((bI K H p ys/\∀l,H l=none->Q (.dI l) (ny H l (.gw ys)))\/(cH K H p ys/\Q (.dI p) H))) j_:=by
 intro G H xs ws w Q s pr hf h;unfold j_ at hf;split at hf
 .cases hf;let⟨x,r,rfl,px,pr⟩:=pr;cases(show r=[]from pr);let⟨a,ys,rfl,ha,ra⟩:=px;refine⟨a,ys,rfl,.j9 ⟨s.ot ha,λl hl=>?_⟩⟩
  have g:=aN.Mk s hl (.gw ys);exact h _ _ _ g ⟨l,ys,rfl,cH.of bQ,aq.mV g.gg _ ra⟩
 .cases hf;let⟨x,r,rfl,px,pr⟩:=pr;cases(show r=[]from pr);let⟨a,ys,rfl,ha,ra⟩:=px;exact⟨a,ys,rfl,.mW ⟨s.gw ha,h G _ H (.tT s) ⟨a,ys,rfl,ha,ra⟩⟩⟩
 .cases hf
theorem y93(hm:X.mg "tuple"=none)(ha:DA Z X EE [e] dA)(hg:gu (Gl X "tuple") jJ)(he:gu (oj [e] X.dt=(false,eval e X.dt)::oj [] X.dt) jJ)(dz:gu ((yC ia (oj [] X.dt)).tZ (·.1)=false) jJ):DE Z X EE (.wu (.mU "tuple" p) [e] [] ia) (bL j_ dA):=
 SY zbL Uy Ku.M4._n.«tuple» hm ha hg (by decide) (by decide) he dz
theorem Q0t(hm:X.mg "len"=none)(ha:DA Z X EE [e] dA)(hg:gu (Gl X "len") jJ)(he:gu (oj [e] X.dt=(false,eval e X.dt)::oj [] X.dt) jJ)(dz:gu ((yC ia (oj [] X.dt)).tZ (·.1)=false) jJ):DE Z X EE (.wu (.mU "len" p) [e] [] ia) (bL bg dA):=
 Cm QH S2 lU.ń hm ha hg (by decide) (by decide) he dz
theorem z49(i:aT)(hm:X.mg "len"=none)(hN:gu (X.N[i]?=ai x) jJ)(jb:gu (kg X.dt.gs x) jN)(hd:gu ((x==("__debug__":fv))=false) jK)(eK:gu ((x==("__classdict__":fv))=false) jK)
  (hg:gu (Gl X "len") jJ)(hs:gu (oj [.mU x p] X.dt=(false,eval (.mU x p) X.dt)::oj [] X.dt) jJ)(dz:gu ((yC ia (oj [] X.dt)).tZ (·.1)=false) jJ):DE Z X EE (.wu (.mU "len" pn) [.mU x p] [] ia) (i5 i bg):=
 Uv i QH S2 lU.ń hm hN jb hd eK hg (by decide) (by decide) hs dz
def rG:aj W->fy (aj W)
 |[.dS ws]=>ai ws
 |[.gw ws]=>ai ws
 |_=>none
def μ(dA:j' (aj W)):j' (aj W):=λe=>(dA e).qK λws e1=>bx (rG ws) e1
def z5a(hm:X.mg "list"=none)(ha:DA Z X EE [e] dA)(hg:gu (Gl X "list") jJ)(he:gu (oj [e] X.dt=(false,eval e X.dt)::oj [] X.dt) jJ)(dz:gu ((yC ia (oj [] X.dt)).tZ (·.1)=false) jJ):DF Z X EE (.wu (.mU "list" p) [e] [] ia) (μ dA):=by
 refine PE.mV (PY zbg hg hm Ku.M4._n.«list» ha (by decide) (by decide) he dz) ?_;rintro σ H Q ⟨G,e,mT,h⟩;simp only[μ,R.au,a8]at h;refine⟨G,e,mT,h.uX (λws e1 h G1 vs H1 r1 s1 p1=>?_) λ_ _ h=>h⟩
 let⟨uZ,hf,h⟩:=h;unfold rG at hf;split at hf
 .cases hf;let⟨y,r,rfl,py,pr⟩:=p1;cases(show r=[]from pr);let⟨a,ys,rfl,hq,rq⟩:=py;exact⟨a,ys,rfl,.j9 (r1.pA.ot hq),EV r1 s1 rq h⟩
 .cases hf;let⟨y,r,rfl,py,pr⟩:=p1;cases(show r=[]from pr);let⟨a,ys,rfl,hq,rq⟩:=py;exact⟨a,ys,rfl,.mW (r1.pA.gw hq),EV r1 s1 rq h⟩
 .cases hf
def oC:aj S->SR:=λ_=>.no
theorem y94{st:Dn}:DS Z X EE st oC:=λd0 s σ H D I ⟨G,e,r,h⟩=>h.nU
end
section
variable{P:wW}{w:uG}{mg:fv->fy eT}{kT:g6}
def S7(hF:∀ws,F ws=.no)(h:n0 K F vs H Q E):uH:=by
 grind [S0]
theorem P9:∀(ns:aj dr),aq K G (ns.a7 W.a6) (ns.a7 V.a6)
 |[]=>rfl
 |n::ns=>⟨_,_,rfl,rfl,P9 ns⟩
def Uz{e:eT}(z:ee P w [] H s (λ_ _ _=>uH) e s'):uH:=by
 let⟨_,_,_,_,_,_,_,_,_,_,h⟩:=z;exact h
end
section
variable{e:oP}{d:j' fv}{n:aT}
def Uh(Z:Zt)(X:Cx)(EE:L2.St->XK)(n:aT)(es:aj oP)(d:j' fv):Prop:=PF X es (λtW σ H Q=>tW.aO+n*1000001<=16777216/\∃G e,ph X.K Z G σ H e/\(d e).Uj (λy e'=>∀G' H',ph X.K Z G' σ H' e'->ar G G'->Q (tW++y) H') (XH X.K Z EE σ G))
end
section
variable{β:Type}{c:Prop} [É c]{a:α}{e':aj S}{k:α->aj S->R β}{ks:α->aj S->SR}{x y:R α}{s t:SR}{v:eT}{st:S}
theorem z5b:(R.ok a e).qK k=k a e:=rfl
theorem z5c:(R.ex v e:R α).qK k=.ex v e:=rfl
theorem z5d:(R.no:R α).qK k=.no:=rfl
def y95:(if c then x else y).qK k=if c then x.qK k else y.qK k:=by split<;>rfl
theorem y5s:(R.ok a e).cR ks=ks a e:=rfl
theorem Q0v:(R.ex v e:R α).cR ks=.ex v e:=rfl
theorem Q0w:(R.no:R α).cR ks=.no:=rfl
def z5e:(if c then x else y).cR ks=if c then x.cR ks else y.cR ks:=by split<;>rfl
def SR.ot:SR->(aj S->SR)->SR
 |.nx e,b=>b e
 |r,_=>r
def Q0x{p:aj S->SR}:ah p q e=(p e).ot q:=by
 unfold ah SR.ot;cases p e<;>rfl
theorem Q0y:(SR.nx e).ot q=q e:=rfl
theorem Q0z:(SR.rt st e).ot q=.rt st e:=rfl
theorem Q00:(SR.ex v e).ot q=.ex v e:=rfl
theorem Q01:(SR.bk e).ot q=.bk e:=rfl
theorem Q02:(SR.ct e).ot q=.ct e:=rfl
theorem Q03:(SR.no).ot q=.no:=rfl
def z5f:(if c then s else t).ot q=if c then s.ot q else t.ot q:=by split<;>rfl
theorem Q5f:(SR.nx e).fn=.ok (.fr .aC):=rfl
theorem Q5g:(SR.rt st e).fn=.ok st:=rfl
theorem Q5h:(SR.ex v e).fn=.ex v:=rfl
theorem Q5i:(SR.no).fn=.no:=rfl
def Q04:(if c then s else t).fn=if c then s.fn else t.fn:=by split<;>rfl
theorem y3e:bx (ai a) e=.ok a e:=rfl
theorem y3f:bx (none:fy α) e=.no:=rfl
def y5t{o p:fy α}:bx (if c then o else p) e=if c then bx o e else bx p e:=by split<;>rfl
def u4(i:aT)(e:aj S):fy S->R W
 |ai (.fr w)=>.ok w e
 |ai (.ke none ws)=>.ok (.dS ws) (e.ri i (.fr (.dS ws)))
 |ai (.x k)=>match k._Q with
  |ai w=>.ok w e
  |none=>.no
 |_=>.no
def Q05:af i e=u4 i e e[i]?:=by
 unfold af u4;cases e[i]? with
 |none=>rfl
 |ai s=>cases s with
  |ke b ws=>cases b<;>rfl
  |_=>rfl
theorem Q06:u4 i e (ai (.fr w))=.ok w e:=rfl
theorem z5g:u4 i e (ai (.ke none ws))=.ok (.dS ws) (e.ri i (.fr (.dS ws))):=rfl
theorem V6:dC w e=.ok w e:=rfl
theorem Q5j{f:W->W->fy W}:ao f da db e=(da e).qK λx e1=>(db e1).qK λy e2=>bx (f x y) e2:=rfl
theorem Q5k{f:W->fy W}:nB f da e=(da e).qK λx e1=>bx (f x) e1:=rfl
def wz(e:aj S):W->R ie
 |.bl k=>.ok k e
 |_=>.no
theorem z5h:aw da e=(da e).qK λx e1=>wz e1 x:=rfl
theorem z5i{b:ie}:wz e (.bl b)=.ok b e:=rfl
theorem Q07:cP da e=(da e).qK λx e1=>bx (jg x) e1:=rfl
theorem Q08{p q:j' ie}:hX p q e=(p e).qK λx e1=>if x=true then q e1 else .ok false e1:=rfl
theorem Q5l{p q:j' ie}:kZ p q e=(p e).qK λx e1=>if x=true then .ok true e1 else q e1:=rfl
theorem Q09{p:j' ie}:eE p e=(p e).qK λx e1=>.ok (!x) e1:=rfl
def Au(q:j' W)(e:aj S):W->R W
 |.bl true=>q e
 |.bl false=>.ok (.bl false) e
 |_=>.no
theorem z5j{p q:j' W}:fq p q e=(p e).qK λx e1=>Au q e1 x:=rfl
def Q1a{q:j' W}{b:ie}:Au q e (.bl b)=if b=true then q e else .ok (.bl false) e:=by cases b<;>rfl
def NO(q:j' W)(e:aj S):W->R W
 |.bl true=>.ok (.bl true) e
 |.bl false=>q e
 |_=>.no
theorem Q1b{p q:j' W}:nv p q e=(p e).qK λx e1=>NO q e1 x:=rfl
def Q5m{q:j' W}{b:ie}:NO q e (.bl b)=if b=true then .ok (.bl true) e else q e:=by cases b<;>rfl
def BA(e:aj S):W->R W
 |.bl k=>.ok (.bl (!k)) e
 |_=>.no
theorem z5k{p:j' W}:gB p e=(p e).qK λx e1=>BA e1 x:=rfl
theorem Q1c{b:ie}:BA e (.bl b)=.ok (.bl (!b)) e:=rfl
theorem Q5n{p:j' ie}{q q':j' W}:vk p q q' e=(p e).qK λx e1=>if x=true then q e1 else q' e1:=rfl
theorem Q1d:ag e=.ok [] e:=rfl
theorem z5l{p:j' W}{q:j' (aj W)}:aa p q e=(p e).qK λx e1=>(q e1).qK λxs e2=>.ok (x::xs) e2:=rfl
theorem Q1e{p:j' (aj W)}:bo p e=(p e).qK λxs e1=>if xs.aO<=16777216 then .ok (.gw xs) e1 else .no:=rfl
theorem Q1f{p:j' (aj W)}:cj p e=(p e).qK λxs e1=>if xs.aO<=16777216 then .ok xs e1 else .no:=rfl
theorem Q5o{p:j' (aj W)}:cY p e=(p e).qK λxs e1=>.ok (.dS xs) e1:=rfl
theorem Q5p{f:aj W->fy W}{p:j' (aj W)}:bL f p e=(p e).qK λxs e1=>bx (f xs) e1:=rfl
theorem z5m{p:j' (aj W)}:μ p e=(p e).qK λxs e1=>bx (rG xs) e1:=rfl
theorem Q5q:b7 e=.nx e:=rfl
theorem Q5r:oC e=.no:=rfl
theorem z5n:hZ d e=(d e).cR λ_ e'=>.nx e':=rfl
theorem Q1g:aG d e=(d e).cR λw e'=>.rt (.fr w) e':=rfl
theorem z5o{d:j' (aj W)}:dW d e=(d e).cR λw e'=>.rt (.ke none w) e':=rfl
def ç(e:aj S):fy S->SR
 |ai (.ke none ws)=>.rt (.ke none ws) e
 |ai (.fr w)=>.rt (.fr w) e
 |_=>.no
def z5p:gD i e=ç e e[i]?:=by
 grind [gD,ç]
theorem z5q:ç e (ai (.ke none ws))=.rt (.ke none ws) e:=rfl
theorem Q1h:ç e (ai (.fr w))=.rt (.fr w) e:=rfl
theorem Q1i{p:j' ie}{q':aj S->SR}:aL p q q' e=(p e).cR λx e1=>if x=true then q e1 else q' e1:=rfl
theorem Q1j:ay i d e=(d e).cR λw e'=>.nx (e'.ri i (.fr w)):=rfl
theorem z5r{d:j' (aj W)}:cV i d e=(d e).cR λw e'=>.nx (e'.ri i (.ke none w)):=rfl
def gA(e:aj S):FR->R W
 |.ok (.fr w)=>.ok w e
 |.ok (.ke none ws)=>.ok (.dS ws) e
 |.ok (.aZ kvs)=>.ok (.aZ kvs) e
 |.ok (.gP us ws vs)=>.ok (.gw (us++.dS ws::vs)) e
 |.ex c=>.ex c e
 |_=>.no
theorem y96{us vs:aj W}:gA e (.ok (.gP us ws vs))=.ok (.gw (us++.dS ws::vs)) e:=rfl
theorem y97{kvs:Dd}:gA e (.ok (.aZ kvs))=.ok (.aZ kvs) e:=rfl
def z5s{F:aj W->FR}{d:j' (aj W)}:ak F d e=(d e).qK λws e1=>gA e1 (F ws):=by
 unfold ak;congr 1
theorem z5t:gA e (.ok (.fr w))=.ok w e:=rfl
theorem y98:gA e (.ok (.ke none ws))=.ok (.dS ws) e:=rfl
theorem z5u:gA e (.ex v)=.ex v e:=rfl
theorem z5v:gA e .no=.no:=rfl
def y99{f g:FR}:gA e (if c then f else g)=if c then gA e f else gA e g:=by split<;>rfl
def ma(e:aj S):FR->R (aj W)
 |.ok (.ke none ws)=>.ok ws e
 |.ex c=>.ex c e
 |_=>.no
theorem y5u:ma e (.ok (.ke none ws))=.ok ws e:=rfl
theorem z0a:ma e (.ex v)=.ex v e:=rfl
def y5v{f g:FR}:ma e (if c then f else g)=if c then ma e f else ma e g:=by split<;>rfl
def xf(i:aT)(b:aj S->SR)(e:aj S):fy (aj W)->SR
 |ai ws=>cL i b ws e
 |none=>.no
def Q1k{b:aj S->SR}:i6 i d b e=(d e).cR λw e1=>xf i b e1 (eG w):=by
 unfold i6;congr 1
def z5w{g:aj W->fy (aj W)}{d:j' (aj W)}{b:aj S->SR}:cJ i g d b e=(d e).cR λw e1=>xf i b e1 (g w):=by
 unfold cJ;congr 1
theorem y5w{b:aj S->SR}:xf i b e (ai ws)=cL i b ws e:=rfl
def SR.YM:SR->(aj S->SR)->SR
 |.nx e,k=>k e
 |.ct e,k=>k e
 |.bk e,_=>.nx e
 |.rt s e,_=>.rt s e
 |.ex c e,_=>.ex c e
 |.no,_=>.no
def vU{b:aj S->SR}:cL i b (w::ws) e=(b (e.ri i (.fr w))).YM (cL i b ws):=by
 show(match b (e.ri i (.fr w))with|.nx e'=>cL i b ws e'|.ct e'=>cL i b ws e'|.bk e'=>.nx e'|.rt s e'=>.rt s e'|.ex c e'=>.ex c e'|.no=>.no)=_;cases b (e.ri i (.fr w))<;>rfl
theorem zJ:(SR.nx e).YM q=q e:=rfl
theorem z5x:(SR.ct e).YM q=q e:=rfl
theorem z5y:(SR.bk e).YM q=.nx e:=rfl
theorem y1f:(SR.rt st e).YM q=.rt st e:=rfl
theorem z5z:(SR.ex v e).YM q=.ex v e:=rfl
theorem z50:(SR.no).YM q=.no:=rfl
def z0b:(if c then s else t).YM q=if c then s.YM q else t.YM q:=by split<;>rfl
def vZ{p:j' ie}{b:aj S->SR}{n:aT}:bw p b (n+1) e=(p e).cR λx e1=>if x=true then(b e1).YM (bw p b n)else .nx e1:=by
 show(p e).cR _=_;congr 1;funext x e1
 split
 .cases b e1<;>rfl
 .rfl
def jV(k:W->R W):fy W->R W
 |none=>.no
 |ai w=>k w
def Q1l:jD i d e=jV (λ_=>(d e).qK λk e1=>jV (λw=>bx (aQ w k) e1) (e1[i]?.qK S.Ya)) (e[i]?.qK S.Ya):=by
 unfold jD jV;cases e[i]?.qK S.Ya with
 |none=>rfl
 |ai w=>
  dsimp only;try congr 1
theorem y5x{k:W->R W}:jV k (ai w)=k w:=rfl
theorem Q5s:S.Ya (.fr w)=ai w:=rfl
theorem Q1m{b:fy aT}:S.Ya (.ke b ws)=ai (.dS ws):=rfl
def mj(e:aj S)(y:fy W):fy S->R W
 |ai (.fr _)=>bx y e
 |_=>match y with
  |none=>.no
  |ai v=>if aV v=true then .ok v e else .no
def Q1n{f:aj W->fy W}:i5 i f e=jV (λw=>mj e (f [w]) e[i]?) (e[i]?.qK S.Ya):=by
 unfold i5 jV;cases q:e[i]? with
 |none=>rfl
 |ai s=>
  cases s with
  |no=>rfl
  |aZ _=>rfl
  |gP _ _ _=>rfl
  |x k=>
   show(match k.Ya with|none=>R.no|ai w=>match f [w]with|none=>R.no|ai v=>if aV v=true then R.ok v e else R.no)=jV (λw=>mj e (f [w]) (ai (.x k))) k.Ya
   cases k.Ya with
   |none=>rfl
   |ai w=>
    show(match f [w]with|none=>R.no|ai v=>if aV v=true then R.ok v e else R.no)=mj e (f [w]) (ai (.x k));generalize f [w]=y;cases y<;>rfl
  |dw _ _ _=>rfl
  |fr w=>
   show(match f [w]with|none=>R.no|ai v=>R.ok v e)=mj e (f [w]) (ai (.fr w));generalize f [w]=y;cases y<;>rfl
  |ke b ws=>
   show(match f [W.dS ws]with|none=>R.no|ai v=>if aV v=true then R.ok v e else R.no)=mj e (f [W.dS ws]) (ai (.ke b ws));generalize f [W.dS ws]=y;cases y<;>rfl
theorem Q1o{y:fy W}:mj e y (ai (.fr w))=bx y e:=rfl
theorem Q5t{k:SK}{v:W}:mj e (ai v) (ai (.x k))=if aV v=true then .ok v e else .no:=rfl
theorem z51{b:fy aT}{v:W}:mj e (ai v) (ai (.ke b ws))=if aV v=true then .ok v e else .no:=rfl
def Av(i:aT)(e:aj S):aj W->fy S->SR
 |[w],ai (.ke b xs)=>if xs.aO<16777216 then .nx (e.ri i (.ke b (xs++[w])))else .no
 |_,_=>.no
def xV(k:SR):fy S->SR
 |ai (.ke _ _)=>k
 |_=>.no
def Q1p{d:j' (aj W)}:eS i d e=xV ((d e).cR λws e1=>Av i e1 ws e1[i]?) e[i]?:=by
 unfold eS xV;cases e[i]? with
 |none=>rfl
 |ai s=>cases s with
  |ke b xs=>
   dsimp only;try congr 1
  |_=>rfl
theorem Q5u{k:SR}{b:fy aT}:xV k (ai (.ke b ws))=k:=rfl
theorem Q5v{b:fy aT}{xs:aj W}:Av i e [w] (ai (.ke b xs))=if xs.aO<16777216 then .nx (e.ri i (.ke b (xs++[w])))else .no:=rfl
theorem z0c{C:f'}{d:j' (aj W)}:jE C d e=(d e).cR λws e1=>if ws.aO<=16777216 then .ex (.dI C) e1 else .no:=rfl
theorem Q5w{dl dh:j' (fy dr)}:nA d dl dh e=(d e).qK λw e1=>(dl e1).qK λlo e2=>(dh e2).qK λhi e3=>bx (zU w lo hi) e3:=rfl
theorem y5y:bR e=.ok none e:=rfl
def vP(e:aj S):W->R (fy dr)
 |.a6 i=>.ok (ai i) e
 |_=>.no
theorem z52:dU d e=(d e).qK λw e1=>vP e1 w:=rfl
theorem z0d{i:dr}:vP e (.a6 i)=.ok (ai i) e:=rfl
def Bh(e:aj S):fy W->R W
 |ai (.bl b)=>.ok (.bl b) e
 |_=>.no
def Q1q:fK K cv d e=(d e).qK λw e1=>Bh e1 (fB K cv w):=by
 unfold fK;congr 1
theorem Q1r{b:ie}:Bh e (ai (.bl b))=.ok (.bl b) e:=rfl
def K9{b k:ie}(h:NN K (.je "bool") cv=ai k):fB K cv (.bl b)=ai (.bl k):=by show(NN K (.je "bool") cv).a7 W.bl=_;rw[h];rfl
def Ln{b:dr}{k:ie}(h:NN K (.je "int") cv=ai k):fB K cv (.a6 b)=ai (.bl k):=by show(NN K (.je "int") cv).a7 W.bl=_;rw[h];rfl
def Ff{b:aj W}{k:ie}(h:NN K (.je "tuple") cv=ai k):fB K cv (.gw b)=ai (.bl k):=by show(NN K (.je "tuple") cv).a7 W.bl=_;rw[h];rfl
def Fh{b:aj W}{k:ie}(h:NN K (.je "list") cv=ai k):fB K cv (.dS b)=ai (.bl k):=by show(NN K (.je "list") cv).a7 W.bl=_;rw[h];rfl
def Lo{k:ie}(h:NN K (.je "NoneType") cv=ai k):fB K cv .aC=ai (.bl k):=by show(NN K (.je "NoneType") cv).a7 W.bl=_;rw[h];rfl
def md(e:aj S):fy (aj W)->R (aj W)
 |ai uZ=>.ok uZ e
 |none=>.no
def z53{cc:j' ie}:iV js cc d ws e=if ws.aO<=16777216 then md (aY js e) (cS cc d (gf js (aY js e)) ws)else .no:=by
 unfold iV md;split
 .cases cS cc d (gf js (aY js e)) ws<;>rfl
 .rfl
def qJ(js:aj aT)(cc:j' ie)(d:j' W)(e:aj S):fy (aj W)->R (aj W)
 |ai ws=>iV js cc d ws e
 |none=>.no
def z54{di:j' W}{cc:j' ie}:br js di cc d e=(di e).qK λw e1=>qJ js cc d e1 (eG w):=by
 unfold br;congr 1
def z0e{g:aj W->fy (aj W)}{di:j' (aj W)}{cc:j' ie}:bU g js di cc d e=(di e).qK λw e1=>qJ js cc d e1 (g w):=by
 unfold bU;congr 1
theorem y3g{cc:j' ie}:qJ js cc d e (ai ws)=iV js cc d ws e:=rfl
theorem y3h{uZ:aj W}:md e (ai uZ)=.ok uZ e:=rfl
theorem Q1s:bB e=.ok true e:=rfl
theorem z0f:aY [] e=e:=rfl
theorem y5z{j:aT}:aY (j::js) e=aY js (cM e j):=rfl
theorem z55:gf [] e=[]:=rfl
theorem z0g{j:aT}:gf (j::js) e=iw e j::gf js e:=rfl
theorem QA{g:W->W}:∀(ws:aj W),(∀w∈ws,∃e',d (.fr w::pe)=.ok (g w) e')->cS bB d pe ws=ai (ws.a7 g)
 |[],_=>rfl
 |w::ws,h=>by
  let⟨e',he⟩:=h w (by simp);show(match d (.fr w::pe)with|.ok y _=>(cS bB d pe ws).a7 (y::·)|_=>none)=_;rw[he,QA ws λu hu=>h u (by simp[hu])]
  rfl
theorem P_{cc:j' ie}:cS cc d pe (w::ws)=(match cc (.fr w::pe)with
  |.ok true e1=>(match d e1 with|.ok y _=>(cS cc d pe ws).a7 (y::·)|_=>none)
  |.ok false _=>cS cc d pe ws
  |_=>none):=rfl
end
section
variable{i j:dr}{x y:fv}{b c:ie}{us:aj W}
theorem Q1t:ϖ (.a6 i) (.a6 j)=ai (.a6 (i+j)):=rfl
theorem Q1u:ϖ (.str x) (.str y)=if x.aO+y.aO<=16777216 then ai (.str (x++y))else none:=rfl
theorem Q1v:ϖ (.dS ws) (.dS us)=if ws.aO+us.aO<=16777216 then ai (.dS (ws++us))else none:=rfl
theorem Q1w:n_ (.a6 i) (.a6 j)=ai (.a6 (i-j)):=rfl
theorem Q1x:iq (.a6 i) (.a6 j)=if(-18446744073709551616<i/\i<18446744073709551616)\/(-18446744073709551616<j/\j<18446744073709551616)then ai (.a6 (i*j))else none:=rfl
theorem z56:cq (.a6 i) (.a6 j)=if 0<j/\j<1073741824 then ai (.a6 (i / j))else none:=rfl
theorem Q1y:b_ (.a6 i) (.a6 j)=if 0<j then ai (.a6 (i%j))else none:=rfl
def Q1z:rS (.a6 i) (.a6 j)=if 0<=j/\j<=1000000/\-18446744073709551616<i/\i<18446744073709551616 then ai (.a6 (i^j.sG))else none:=by
 show(if 0<=j/\j<=1000000/\i.υ<2^64 then _ else _)=_;have e:(2:aT)^64=18446744073709551616:=by decide
 rw[e]
 by_cases h:0<=j/\j<=1000000/\i.υ<18446744073709551616
 .rw[mS h,mS (by omega)]
 .rw[sF h,sF (by omega)]
theorem Q5x:nR (.a6 i) (.a6 j)=ai (.bl (decide (i<j))):=rfl
theorem Q5y:xK (.a6 i) (.a6 j)=ai (.bl (decide (i<=j))):=rfl
theorem Q5z:kh (.a6 i) (.a6 j)=ai (.bl (decide (j<i))):=rfl
theorem Q50:yX (.a6 i) (.a6 j)=ai (.bl (decide (j<=i))):=rfl
theorem Q51:nT (.a6 i)=ai (.a6 (-i)):=rfl
def Q52:yn (.a6 i) (.a6 j)=ai (.bl (decide (i=j))):=by
 show ai (W.bl (i==j))=_;congr 2
def Q53:yn (.str x) (.str y)=ai (.bl (decide (x=y))):=by
 show ai (W.bl (x==y))=_;congr 2
def Q54:yn (.bl b) (.bl c)=ai (.bl (decide (b=c))):=by
 show ai (W.bl (b==c))=_;congr 2
def z3s:Uk (.a6 i) (.a6 j)=ai (.bl (!decide (i=j))):=by
 show ai (W.bl (!(i==j)))=_;congr 2
def Q55:Uk (.str x) (.str y)=ai (.bl (!decide (x=y))):=by
 show ai (W.bl (!(x==y)))=_;congr 2
def Q56:Uk (.bl b) (.bl c)=ai (.bl (!decide (b=c))):=by
 show ai (W.bl (!(b==c)))=_;congr 2
def Q57:Yz (.bl b) (.bl c)=ai (.bl (decide (b=c))):=by
 show ai (W.bl (b==c))=_;congr 2
theorem Q58:Yz .aC .aC=ai (.bl true):=rfl
theorem Q59:Yz (.bl b) .aC=ai (.bl false):=rfl
theorem Q6a:Yz (.a6 i) .aC=ai (.bl false):=rfl
theorem Q6b:Yz (.str x) .aC=ai (.bl false):=rfl
theorem Q6c:Yz (.gw ws) .aC=ai (.bl false):=rfl
theorem Q6d:Yz (.dS ws) .aC=ai (.bl false):=rfl
def Q10:fR (.bl b) (.bl c)=ai (.bl (!decide (b=c))):=by
 show ai (W.bl (!(b==c)))=_;congr 2
theorem Q11:fR .aC .aC=ai (.bl false):=rfl
theorem Q12:fR (.bl b) .aC=ai (.bl true):=rfl
theorem Q13:fR (.a6 i) .aC=ai (.bl true):=rfl
theorem Q14:fR (.str x) .aC=ai (.bl true):=rfl
theorem Q15:fR (.gw ws) .aC=ai (.bl true):=rfl
theorem Q16:fR (.dS ws) .aC=ai (.bl true):=rfl
theorem Xs:aQ (.gw ws) (.a6 i)=d8 ws i:=rfl
theorem Xr:aQ (.dS ws) (.a6 i)=d8 ws i:=rfl
theorem Q6e:bg [.gw ws]=ai (.a6 ws.aO):=rfl
theorem Q6f:bg [.dS ws]=ai (.a6 ws.aO):=rfl
theorem Q6g:j_ [.dS ws]=ai (.gw ws):=rfl
theorem Q6h:j_ [.gw ws]=ai (.gw ws):=rfl
theorem Q6i:rG [.dS ws]=ai ws:=rfl
theorem Q6j:rG [.gw ws]=ai ws:=rfl
theorem Q6k:jg (.bl b)=ai b:=rfl
theorem Q6l:jg (.a6 i)=ai (i != 0):=rfl
theorem Q6m:jg .aC=ai false:=rfl
theorem Q6n:jg (.gw ws)=ai (!ws.Dl):=rfl
theorem Q6o:jg (.dS ws)=ai (!ws.Dl):=rfl
theorem Q6p:eG (.gw ws)=ai ws:=rfl
theorem Q6q:eG (.dS ws)=ai ws:=rfl
theorem X3:aV (.a6 i)=true:=rfl
theorem X2:aV (.bl b)=true:=rfl
theorem X5:aV (.str x)=true:=rfl
theorem X4:aV .aC=true:=rfl
theorem X8{lo hi:fy dr}:zU (.dS ws) lo hi=ai (.dS (i4 ws lo hi)):=rfl
def at0{xs:aj α}:d8 xs 0=xs[0]?:=by
 cases xs with
 |ro=>rfl
 |p9 a l=>exact oW (j:=0) rfl
def Dp{xs:aj α}:d8 xs 1=xs[1]?:=by
 cases xs with
 |ro=>rfl
 |p9 a l=>
  cases l with
  |ro=>rfl
  |p9 b l=>exact oW (j:=1) rfl
def at2{xs:aj α}:d8 xs 2=xs[2]?:=by
 cases xs with
 |ro=>rfl
 |p9 a l=>
  cases l with
  |ro=>rfl
  |p9 b l=>
   cases l with
   |ro=>rfl
   |p9 c l=>exact oW (j:=2) rfl
def UA{xs:aj α}{k:dr}(h0:0<=k):d8 xs k=xs[k.sG]?:=by
 unfold d8 oO;rw[mS h0]
 by_cases h:k<xs.aO
 .rw[mS h];rfl
 .rw[sF h];exact(w3v (by omega)).symm
def zbW{a b:Yk}(h:fv.YG a=fv.YG b):a=b:=by
 rw[fv.zdh,fv.zdh]at h;have h1:(a.vr.a7 Ϧ.sG).lS=(b.vr.a7 Ϧ.sG).lS:=Zd fv.Yj h;have h2:a.vr.a7 Ϧ.sG=b.vr.a7 Ϧ.sG:=by simpa using Zd yw.vr h1
 have h3:a.vr=b.vr:=by
  have yB:∀c d:Ϧ,c.sG=d.sG->c=d:=λc d e=>by
   apply Ϧ.ext;exact UInt32.toNat_inj.mp e
  exact(w5t yB).mp h2
 exact Yk.ů.mp h3
theorem Q18{a b:Yk}:(fv.YG a=fv.YG b)=(a=b):=propext ⟨zbW,λh=>by rw[h]⟩
end
def iB:W->fy W
 |.dS ws=>ai (.gw ws.V3)
 |_=>none
def e_:aj W->fy (aj ie)
 |[]=>ai []
 |.bl b::ws=>(e_ ws).a7 (b::·)
 |_=>none
def _K:aj W->fy W
 |[.dS ws]=>(e_ ws).a7 λbs=>.bl (bs.rM id)
 |_=>none
def _e:aj W->fy W
 |[.a6 i]=>ai (.a6 i)
 |[.bl b]=>ai (.a6 (if b then 1 else 0))
 |_=>none
def mh(y x:W):ie:=(ft y x).jd false
def xB:W->W->fy W
 |x,.gw ws=>if aV x=true/\ws.rM aV=true then ai (.bl (ws.tZ λy=>mh y x))else none
 |x,.dS ws=>if aV x=true/\ws.rM aV=true then ai (.bl (ws.tZ λy=>mh y x))else none
 |_,_=>none
def jX:W->W->fy W
 |x,.gw ws=>if aV x=true/\ws.rM aV=true then ai (.bl (!ws.tZ λy=>mh y x))else none
 |x,.dS ws=>if aV x=true/\ws.rM aV=true then ai (.bl (!ws.tZ λy=>mh y x))else none
 |_,_=>none
def BY(h:aV w=true)(p:pW K G w v):gE v=true:=by
 cases w with
 |aC=>cases p;rfl
 |bl b=>cases p;rfl
 |a6 b=>cases p;rfl
 |str b=>cases p;rfl
 |_=>cases h
def z57(h:aV w=true)(h':aV u=true)(p:pW K G w v)(q:pW K G u x):sR v x=mh w u:=by
 cases w<;>cases u<;>first|(cases p;cases q;rfl)|exact uv (show false=true from h') w1i|exact uv (show false=true from h) w1i
theorem B5{u:W}{x:V}(hu:aV u=true)(q:pW K G u x):∀{ws:aj W}{xs:aj V},ws.rM aV=true->aq K G ws xs->xs.rM gE=true/\DQ x xs=ws.tZ λy=>mh y u
 |[],xs,_,r=>by cases r;exact⟨rfl,rfl⟩
 |w::ws,xs,h,r=>by
  let⟨y,r',rfl,p,r⟩:=r;rw[w2v,w0l]at h;let⟨i1,i2⟩:=B5 hu q h.2 r;refine⟨by rw[w2v,BY h.1 p,i1];rfl,?_⟩;show(sR y x||DQ x r')=(mh w u||ws.tZ _);rw[z57 h.1 hu p q,i2]
def VQ:iC K (E6 K false) xB:=by
 intro G H x y wx wy w Q s px py hf h;cases wy with
 |gw ws=>
  simp only[xB]at hf;split at hf
  .rename_i hc;cases hf;let⟨a,xs,rfl,ha,ra⟩:=py;let⟨i1,i2⟩:=B5 hc.1 px hc.2 ra;refine⟨a,xs,rfl,.mW (s.gw ha),BY hc.1 px,i1,?_⟩;rw[i2];exact h G _ H (.tT s) rfl
  .cases hf
 |dS ws=>
  simp only[xB]at hf;split at hf
  .rename_i hc;cases hf;let⟨a,xs,rfl,ha,ra⟩:=py;let⟨i1,i2⟩:=B5 hc.1 px hc.2 ra;refine⟨a,xs,rfl,.j9 (s.ot ha),BY hc.1 px,i1,?_⟩;rw[i2];exact h G _ H (.tT s) rfl
  .cases hf
 |_=>simp[xB]at hf
def UB:iC K (E6 K true) jX:=by
 intro G H x y wx wy w Q s px py hf h;cases wy with
 |gw ws=>
  simp only[jX]at hf;split at hf
  .rename_i hc;cases hf;let⟨a,xs,rfl,ha,ra⟩:=py;let⟨i1,i2⟩:=B5 hc.1 px hc.2 ra;refine⟨a,xs,rfl,.mW (s.gw ha),BY hc.1 px,i1,?_⟩;rw[i2];exact h G _ H (.tT s) rfl
  .cases hf
 |dS ws=>
  simp only[jX]at hf;split at hf
  .rename_i hc;cases hf;let⟨a,xs,rfl,ha,ra⟩:=py;let⟨i1,i2⟩:=B5 hc.1 px hc.2 ra;refine⟨a,xs,rfl,.j9 (s.ot ha),BY hc.1 px,i1,?_⟩;rw[i2];exact h G _ H (.tT s) rfl
  .cases hf
 |_=>simp[jX]at hf
def y50:Di K (λx H1 Q=>∃p ys,x=.dI p/\bI K H1 p ys/\∀l,H1 l=none->Q (.dI l) (ny H1 l (.gw ys.V3))) iB:=by
 intro G H x wx w Q s px hf h;unfold iB at hf;split at hf
 .cases hf;let⟨a,xs,rfl,ha,ra⟩:=px;refine⟨a,xs,rfl,s.ot ha,λl hl=>?_⟩
  have g:=aN.Mk s hl (.gw xs.V3);exact h _ _ _ g ⟨l,_,rfl,cH.of bQ,aq.mV g.gg _ ra.V3⟩
 .cases hf
def O':∀{bs:aj ie},e_ ws=ai bs->ws=bs.a7 .bl:=by
 induction ws with
 |ro=>intro bs h;cases h;rfl
 |p9 w ws ih=>
  intro bs h;cases w with
  |bl b=>
   let⟨cs,h1,rfl⟩:=w0i.mp (show(e_ ws).a7 (b::·)=ai bs from h);exact Zd _ (ih h1)
  |_=>cases h
theorem J4:∀(bs:aj ie),e_ (bs.a7 .bl)=ai bs
 |[]=>rfl
 |b::bs=>by
  show(e_ (bs.a7 W.bl)).a7 (b::·)=_;rw[J4 bs];rfl
theorem JO:∀{bs:aj ie}{xs:aj V},aq K G (bs.a7 W.bl) xs->xs=bs.a7 V.bl
 |[],xs,h=>h
 |b::bs,xs,h=>by
  let⟨x,r,rfl,h1,h2⟩:=h;rw[JO h2,show x=V.bl b from h1];rfl
def UJ:qB K (λxs H Q=>∃p ys,xs=[.dI p]/\bI K H p ys/\(∀y∈ys,∃b,y=.bl b)/\Q (.bl (ys.rM λy=>decide (y=.bl true))) H) _K:=by
 intro G H xs ws w Q s pr hf h;unfold _K at hf;split at hf
 .let⟨bs,hb,rfl⟩:=w0i.mp hf;have:=O' hb;subst this;let⟨x,r,rfl,px,pr⟩:=pr;cases(show r=[]from pr);let⟨a,ys,rfl,ha,ra⟩:=px;have:=JO ra;subst this;refine⟨a,_,rfl,s.ot ha,λy hy=>?_,h G _ H (.tT s) ?_⟩
  .let⟨b,_,rfl⟩:=w0r.mp hy;exact⟨b,rfl⟩
  .show V.bl _=V.bl _;congr 1;rw[w4i];congr 1;funext b
   cases b<;>rfl
 .cases hf
def UK:qB K (λxs H Q=>(∃i,xs=[.a6 i]/\Q (.a6 i) H)\/∃k,xs=[.bl k]/\Q (.a6 (if k then 1 else 0)) H) _e:=by
 intro G H xs ws w Q s pr hf h;unfold _e at hf;split at hf
 .cases hf;let⟨x,r,rfl,px,pr⟩:=pr;cases(show r=[]from pr);cases px;exact .j9 ⟨_,rfl,h G _ H (.tT s) rfl⟩
 .cases hf;let⟨x,r,rfl,px,pr⟩:=pr;cases(show r=[]from pr);cases px;exact .mW ⟨_,rfl,h G _ H (.tT s) rfl⟩
 .cases hf
section
variable{a b c e:oP}{p uI lI:vd}{x:fv}
theorem Q6s(hu:X.A.yH+150<yN)(ha:DE Z X EE a da)(hb:DE Z X EE b db)(hm:Z3 .In b=false:=by with_unfolding_all rfl):DT Z X EE (.Yw a [.In] [b] ia) (aw (ao xB da db)):=tK y44 VQ ha hb hm
theorem Q2c(hu:X.A.yH+150<yN)(ha:DE Z X EE a da)(hb:DE Z X EE b db)(hm:Z3 .ZX b=false:=by with_unfolding_all rfl):DT Z X EE (.Yw a [.ZX] [b] ia) (aw (ao jX da db)):=tK zbf UB ha hb hm
theorem y51(hc:X.NI=true)(GW:X.mg "tuple"=none)(sZ:X.mg "reversed"=none)(he:DE Z X EE e da)(GH:gu (Gl X "tuple") jJ)(oI:gu (Gl X "reversed") jJ)
  (oK:gu (oj [.wu (.mU "reversed" p2) [e] [] lI] X.dt=(false,eval (.wu (.mU "reversed" p2) [e] [] lI) X.dt)::oj [] X.dt) jJ)(ja:gu (oj [e] X.dt=(false,eval e X.dt)::oj [] X.dt) jJ):
  DE Z X EE (.wu (.mU "tuple" p1) [.wu (.mU "reversed" p2) [e] [] lI] [] uI) (nB iB da):=PE.mV (y47 hc GW sZ he GH oI oK ja) (Rv y50)
theorem Q2d(hc:X.NI=true)(hm:X.mg "all"=none)(ha:DA Z X EE [e] dA)(hg:gu (Gl X "all") jJ)(he:gu (oj [e] X.dt=(false,eval e X.dt)::oj [] X.dt) jJ)(dz:gu ((yC ia (oj [] X.dt)).tZ (·.1)=false) jJ):DE Z X EE (.wu (.mU "all" p) [e] [] ia) (bL _K dA):=
 Cm (y9m hc) UJ Ku.M4._n.«all» hm ha hg (by decide) (by decide) he dz
theorem z58(hm:X.mg "int"=none)(ha:DA Z X EE [e] dA)(hg:gu (Gl X "int") jJ)(he:gu (oj [e] X.dt=(false,eval e X.dt)::oj [] X.dt) jJ)(dz:gu ((yC ia (oj [] X.dt)).tZ (·.1)=false) jJ):DE Z X EE (.wu (.mU "int" p) [e] [] ia) (bL _e dA):=
 SY y4z UK Ku.M4._n.«int» hm ha hg (by decide) (by decide) he dz
end
theorem z0h:iB (.dS ws)=ai (.gw ws.V3):=rfl
def FG{bs:aj ie}:_K [.dS (bs.a7 .bl)]=ai (.bl (bs.rM id)):=by
 show(e_ (bs.a7 W.bl)).a7 _=_;rw[J4];rfl
theorem Q6t{i:dr}:_e [.a6 i]=ai (.a6 i):=rfl
theorem Q6u:_e [.bl b]=ai (.a6 (if b then 1 else 0)):=rfl
theorem MA:((0:aT):dr)=0:=rfl
theorem MC:((1:aT):dr)=1:=rfl
theorem LS{b:aj S->SR}(I:aT->aj S->Prop):∀(ws:aj W)(k:aT)(e:aj S),I k e->(∀(j:aT)(w:W)(e:aj S),ws[j]?=ai w->I (k+j) e->∃e',b (e.ri i (.fr w))=.nx e'/\I (k+j+1) e')->∃e',cL i b ws e=.nx e'/\I (k+ws.aO) e'
 |[],k,e,h0,_=>⟨e,rfl,h0⟩
 |w::ws,k,e,h0,h=>by
  let⟨e1,h1,h2⟩:=h 0 w e rfl h0
  let⟨e2,h3,h4⟩:=LS I ws (k+1) e1 h2 λj u e hu hI=>by
   have z:=h (j+1) u e (by simpa using hu) (by grind);rw[show k+(j+1)+1=k+1+j+1 by omega]at z;exact z
  grind [vU,zJ]
def J7:(bN lo hi).aO=(hi-lo).sG:=by simp[bN]
def y52{lo hi:dr}{j:aT}(h:(bN lo hi)[j]?=ai w):w=.a6 (lo+j)/\j<(hi-lo).sG:=by
 unfold bN at h;rw[w0t]at h;let⟨k,h1,rfl⟩:=w0i.mp h;let⟨h2,h3⟩:=w0c.mp h1;simp at h2 h3;subst h3;exact⟨rfl,by omega⟩
def qj{b:aj S->SR}{lo hi:dr}(n:aT)(hn:(hi-lo).sG=n)(I:aT->aj S->Prop)(e:aj S)(h0:I 0 e)(h:∀(j:aT)(e:aj S),j<n->I j e->∃e',b (e.ri i (.fr (.a6 (lo+j))))=.nx e'/\I (j+1) e'):∃e',cL i b (bN lo hi) e=.nx e'/\I n e':=by
 let⟨e',h1,h2⟩:=LS (b:=b) (i:=i) I (bN lo hi) 0 e h0 λj w e hw hI=>by
  let⟨rfl,hj⟩:=y52 hw;rw[w2a]at hI |-
  exact h j e (by omega) hI
 rw[J7,hn,w2a]at h2;exact⟨e',h1,h2⟩
def vm(F:aj W->FR)(i:aT)(dA:j' (aj W)):j' W:=λe=>match e[i]? with
 |ai (.ke _ _)=>(dA e).qK λus e1=>match e1[i]? with
  |ai (.ke _ ws)=>match F (.dS ws::us)with
   |.ok (.fr w)=>if aV w=true then .ok w e1 else .no
   |_=>.no
  |_=>.no
 |_=>.no
mutual
noncomputable def cU(K:Fg):W->Value->Bool
 |.aC,u=>match u with|.none=>true|_=>false
 |.bl b,u=>match u with|.bool c=>b==c|_=>false
 |.int i,u=>match u with|.int j _=>decide (i=j)|_=>false
 |.str x,u=>match u with|.str y _=>decide (x=y)|_=>false
 |.tup ws,u=>match u with
  |.ref a=>match K.lookup a with
   |some o=>(o.cls==.type "tuple"&&o.dict.isNone)&&(match o.data with|.seq av _=>Nat.ble av.size 1000000&&jB K ws av.toList|_=>false)
   |none=>false
  |_=>false
 |.lst _,_=>false
 |.exc _,_=>false
 |.aZ _,_=>false
 |.dw _ _ _ _,_=>false
 |.fn _ _ _,_=>false
noncomputable def jB(K:Fg):List W->List Value->Bool
 |[],us=>us.isEmpty
 |w::ws,us=>match us with
  |u::us=>cU K w u&&jB K ws us
  |[]=>false
end
mutual
theorem RK{K:Fg}:∀(w:W){u:Value},cU K w u=true->∃v,RelV v u/\∀G,Rep K G w v
 |.aC,u,h=>by
  unfold cU at h;split at h
  .exact⟨.aC,rfl,λ_=>rfl⟩
  .cases h
 |.bl b,u,h=>by
  unfold cU at h;split at h
  .rename_i c;have:b=c:=by simpa using h
   exact⟨.bl b,by rw[this];rfl,λ_=>rfl⟩
  .cases h
 |.int i,u,h=>by
  unfold cU at h;split at h
  .rename_i j t;have:i=j:=by simpa using h
   exact⟨.int i,⟨t,by rw[this]⟩,λ_=>rfl⟩
  .cases h
 |.str x,u,h=>by
  unfold cU at h;split at h
  .rename_i y t;have:x=y:=by simpa using h
   exact⟨.str x,⟨t,by rw[this]⟩,λ_=>rfl⟩
  .cases h
 |.tup ws,u,h=>by
  unfold cU at h;split at h
  .rename_i a;split at h
   .rename_i o ho;rw[w0l]at h;let⟨h1,h2⟩:=h;split at h2
    .rename_i av n hd;rw[w0l]at h2;let⟨h3,h4⟩:=h2;let⟨xs,r,q⟩:=QB ws h4;exact⟨.ref a,rfl,λG=>⟨a,xs,rfl,.inr ⟨o,av,n,ho,by simpa using ((w0l _ _).mp h1).1,Option.isNone_iff_eq_none.mp ((w0l _ _).mp h1).2,hd,by rw[sizeLine_eq];have:=w3w h3;omega,r⟩,q G⟩⟩
    .cases h2
   .cases h
  .cases h
 |.lst _,u,h=>by unfold cU at h;cases h
 |.exc _,u,h=>by unfold cU at h;cases h
 |.aZ _,u,h=>by unfold cU at h;cases h
 |.dw _ _ _ _,u,h=>by unfold cU at h;cases h
 |.fn _ _ _,u,h=>by unfold cU at h;cases h
theorem QB{K:Fg}:∀(ws:List W){us:List Value},jB K ws us=true->∃xs,Vals xs us/\∀G,aq K G ws xs
 |[],us,h=>by
  unfold jB at h;cases us with
  |nil=>exact⟨[],.nil,λ_=>rfl⟩
  |cons _ _=>cases h
 |w::ws,us,h=>by
  unfold jB at h;cases us with
  |nil=>cases h
  |cons u us=>
   rw[w0l]at h;let⟨v,r,q⟩:=RK w h.1;let⟨xs,r',q'⟩:=QB ws h.2;exact⟨v::xs,.cons r r',λG=>⟨v,xs,rfl,q G,q' G⟩⟩
end
def q9d{x:fv}{u:eT}(hm:X.mg x=ai u)(hc:cU X.K w u=true)(hg:gu (Gl X x) jJ)(hd:gu ((x==("__debug__":fv))=false) jK):DE Z X EE (.mU x ia) (dC w):=by
 let⟨v,r,q⟩:=RK w hc;exact PE.mV (Ro hg hm r hd) λσ H Q ⟨G,e,mT,h⟩=>h G v H mT (.tT _) (q G)
def zap(l : f')(p7 : yw eT)(n : aT)(b : f')(lx : yw eT)(n2 : aT)(T : Yk)(hT : T = "list" \/ T = "tuple")(Nn : ¬(!p7.Dl && uu.aj.Ϻ (p7.d3 + lx.d3)) = true)(oK : p7.d3 <= u0)(ja : p7.d3 + lx.d3 <= u0 + 1) :
  _q (uu.«list.extend» { ia := [eT.dI l, eT.dI b] }) fun _ R s =>
     s.bj.iT l = ai { l_ := eT.je "list", n9 := _D.ot p7 n } /\
      (∃ o, s.bj.iT b = ai o /\ o.l_ = .je T /\ o.n9 = _D.ot lx n2) /\
       R (Except.ok (Flow.zW eT.none)) { s with bj := s.bj.Yh l (qH.Yp λx => x ++ lx) } := by
 refine _q._z λjf w A R s h => ?_
 let⟨hl, ⟨o, hb, hc, hd⟩, h⟩:= h;let⟨l_, x8, n9, Yb⟩:= o;simp only at hc hd;subst hc hd;refine lT (lT (zep rfl (t8 (t8 ?_))));refine lT (lT (AutoSeq1.õ hb (t8 (zep ?_ ?_))))
 .rcases hT with rfl | rfl <;> simp
 refine lT (lT (lT (wpAny_load' hb (t8 (t8 ?_)))));refine lT (lT (lT (wpAny_load' hl (t8 (t8 ?_)))));refine zeo (by simpa using Nn) ?_;exact lT (ĳ hl rfl (t8 ⟨_, rfl, h⟩) oK (by rw [yw.size_append]; exact ja))
def Ct(K:Fg):V->aj V->Hp->VK->Prop:=λx vs H Q=>∃l b xs zs,x=.dI l/\vs=[.dI b]/\H l=ai (.dS xs)/\(bI K H b zs\/cH K H b zs)/\xs.aO+zs.aO<=u0/\Q .aC (ny H l (.dS (xs++zs)))
def UL:F3 X "list.extend" (Ct X.K):=by
 intro d0 s σ H x vs v us Q I rx rv h;let⟨l,b,xs,zs,rfl,rfl,hH,hB,hz,q⟩:=h;cases rx;let⟨u,rfl,ru⟩:=rv.YH;cases ru;let⟨z,av,n,r,hl,e⟩:=I.Bp hH
 have xg:∀(T:Yk)(fg:aj eT)(n2:aT)(o:qH),T="list"\/T="tuple"->t9 zs fg->s.bj.iT b=ai o->o.l_=.je T->o.n9=.ot fg.lS n2->oh (p5 X.jf X.w) X.A (yG (.wO "list.extend") [.dI l,.dI b]) (EP X d0 σ Q) X.xe s:=λT fg n2 o hT r2 e2 hc hd=>by
  have WV:=r2.aO;have hsz:av.lS.d3+fg.lS.d3<=u0:=by rw[w0e,w0e];omega
  have qZ:¬(!av.lS.Dl&&uu.aj.Ϻ (av.lS.d3+fg.lS.d3))=true:=by
   rw[mH hsz,w5m];exact w1i
  refine _L F.zdL ⟨_,e,rfl⟩ F.entry_list_extend (F.args_list_extend_2 _ _)
   (zap l av.lS n b fg.lS n2 T hT qZ (by rw[w0e];omega) (by omega)) ⟨e,⟨o,e2,hc,hd⟩,?_⟩
  refine⟨.aC,_,I.Bo (its':=av++fg) hH e (by simp) (r.Xy r2) ?_,rfl,q⟩;rw[w1k];omega
 rcases hB with hB|hB
 .let⟨fg,r2,pl,_⟩:=I.xT hB;let⟨o,e2,hc,n2,hd⟩:=pl.zf;exact xg "list" fg n2 o (.j9 rfl) r2 e2 hc hd
 .let⟨fg,r2,⟨o,e2,hc,n2,hd⟩,_⟩:=I.Uo hB;exact xg "tuple" fg n2 o (.mW rfl) r2 e2 hc hd
def nu(i:aT)(d:j' (aj W)):aj S->SR:=λe=>match e[i]? with
 |ai (.ke _ _)=>(d e).cR λws e1=>match ws,e1[i]? with
  |[w],ai (.ke b xs)=>match eG w with
   |ai ys=>if xs.aO+ys.aO<=16777216 then .nx (e1.ri i (.ke b (xs++ys)))else .no
   |none=>.no
  |_,_=>.no
 |_=>.no
section
variable{e:oP}{p:vd}{x:fv}
def Q2f(i:aT)(ha:DA Z X EE (e::es) dA)(hN:gu (X.N[i]?=ai x) jJ)(hv:gu (kg X.dt.gs x) jN)(hd:gu ((x==("__debug__":fv))=false) jK)(eK:gu ((x==("__classdict__":fv))=false) jK)
  (c_:gu (Α (.mU x p) "extend" X.dt (eval (.mU x p) X.dt)=eval (.mU x p) X.dt) jJ)
  (cx:gu (((yC aX (oj (e::es) X.dt)).rM (λx=>!x.1)&&(Β aX (Ζ [] X.dt)).rM (λx=>x.1.zi)&&decide ((e::es).aO+([]:aj Y5).aO+(if([]:aj Y5).Dl then 0 else 1)<30))=true) jJ)
  (de:gu ((Ym.Δ==aX.X9)=true) jJ)(hs:gu (oj (e::es) X.dt=(false,eval e X.dt)::oj es X.dt) jJ)(bY:gu ((yC aX (oj es X.dt)).tZ (·.1)=false) jJ)
  (pJ:gu (Zb (.wu (._a (.mU x p) "extend" Ym) (e::es) [] aX) none ia.X9 X.dt=uV false) jJ):
  DS Z X EE (.oP (.wu (._a (.mU x p) "extend" Ym) (e::es) [] aX) ia) (nu i dA):=by
 refine PS.mV (E5 (Md lU.F.Ē lU.F.zdL lU.F.type_list_extend UL (pv i hN hv hd eK) ha c_ cx de hs bY) pJ) ?_;rintro D σ H ⟨G,e,mT,h⟩;unfold nu at h;split at h
 .rename_i b0 KP uf;let⟨a,xs,h1,h2,h3,h4,h5⟩:=mT.ke uf;refine⟨.dI a,h1,.j9 ⟨rfl,xs,bI.of h2⟩,G,e,mT,(ki h).uX (λws e1 h G1 vs H1 r1 s1 p1=>?_) λ_ _ h=>h⟩
  split at h
  .rename_i w b ys xq;let⟨a',zs,g1,g2,g3,g4,g5⟩:=r1.ke xq;rw[h1]at g1;cases g1;let⟨y,r,rfl,py,pr⟩:=p1;cases(show r=[]from pr);split at h
   .rename_i us hu;split at h
    .rename_i hl
     have YY:∀c cs,y=.dI c->(bI X.K G1 c cs\/cH X.K G1 c cs)->aq X.K G1 us cs->Ct X.K (.dI a) [y] H1 (λv H'=>D.nx σ H'):=λc cs hy hq hr=>by
      subst hy;refine⟨a,c,zs,cs,rfl,rfl,g2,?_,by rw[g5.aO,hr.aO,FY];exact hl,?_⟩
      .rcases hq with q|q
       .exact .j9 (r1.pA.ot q)
       .exact .mW (r1.pA.gw q)
      .exact h G1 σ _ (r1.mut xq h1 (g5.Xy hr)) s1
     unfold eG at hu;split at hu
     .cases hu;let⟨c,cs,hy,q,hr⟩:=py;exact YY c cs hy (.mW q) hr
     .cases hu;let⟨c,cs,hy,q,hr⟩:=py;exact YY c cs hy (.j9 q) hr
     .cases hu
    .exact h.nU
   .exact h.nU
  .exact h.nU
 .exact h.nU
end
def pB(i:aT)(dv dk:j' W):aj S->SR:=λe=>(dv e).cR λw e1=>match e1[i]? with
 |ai (.ke _ _)=>(dk e1).cR λk e2=>match k,e2[i]? with
  |.a6 k,ai (.ke b ws)=>match oO ws.aO k with
   |ai j=>.nx (e2.ri i (.ke b (ws.ri j w)))
   |none=>.no
  |_,_=>.no
 |_=>.no
section
variable{e k:oP}{dk:j' W}{p gp:vd}{x:fv}
def Q2g(i:aT)(he:DE Z X EE e d)(hk:DE Z X EE k dk)(hN:gu (X.N[i]?=ai x) jJ)(hv:gu (kg X.dt.gs x) jN)(hd:gu ((x==("__debug__":fv))=false) jK)(eK:gu ((x==("__classdict__":fv))=false) jK)
  (ha:∀v,Z2 (.Yl (.mU x p) k gp) X.dt v=(do
   let ov <- _w [v] (eval (.mU x p) X.dt)
   let iv <- _w [v,ov] (eval k X.dt)
   í gp
   _w [v,ov,iv] (ė ov iv v)
   release [v,ov,iv] []):=by intro _;rfl)
  (hs:gu (zdQ [.Yl (.mU x p) k gp] e ia.X9 X.dt=uV false) jJ)(hw:gu (zdP [.Yl (.mU x p) k gp] e X.dt=uV none) jJ)
  (h1:gu ((Y9 [.Yl (.mU x p) k gp] X.dt).a7 (·.2)=[Z2 (.Yl (.mU x p) k gp) X.dt]) jJ):
  DS Z X EE (.Zi [.Yl (.mU x p) k gp] e ia) (pB i d dk):=by
 refine PS.mV (z9f he (z9e (pv i hN hv hd eK) hk y9i ha) hs hw h1) ?_;rintro D σ H ⟨G,e,mT,h⟩;refine⟨G,e,mT,(ki h).uX (λw e1 h G1 v1 H1 r1 s1 p1=>?_) λ_ _ h=>h⟩
 split at h
 .rename_i b0 KP uf;let⟨a,xs,q1,q2,q3,q4,q5⟩:=r1.ke uf;refine⟨.dI a,q1,G1,e1,r1,(ki (σ:=σ) h).uX (λkw e2 h G2 v2 H2 r2 s2 p2=>?_) λ_ _ h G' H' r s=>h G' H' r (s1.lb s)⟩
  .split at h
   .rename_i kk b ws oH;let⟨a',zs,g1,g2,g3,g4,g5⟩:=r2.ke oH;rw[q1]at g1;cases g1;cases p2;split at h
    .rename_i j hj;refine⟨a,zs,_,j,rfl,rfl,g2,by rw[g5.aO];exact hj,?_⟩;exact h G2 σ _ (r2.mut oH q1 (g5.ri j (pW.mV s2 w p1))) (s1.lb s2)
    .exact h.nU
   .exact h.nU
 .exact h.nU
end
def Xz:W->W->fy W
 |.str i,.str j=>ai (.bl (decide (i.Yj.vr<j.Yj.vr)))
 |_,_=>none
def Dk(K:Fg)(r:V->aj V->Hp->VK->Prop)(f:W->aj W->fy W):Prop:=∀(G H:Hp)(x:V)(xs:aj V)(wx:W)(ws:aj W)(w:W)(Q:VK),ar G H->pW K G wx x->aq K G ws xs->f wx ws=ai w->(∀G' v H',aN G H G' H'->pW K G' w v->Q v H')->r x xs H Q
def kM(T:Yk):W->ie
 |.str _=>T=="str"
 |.dS _=>T=="list"
 |_=>false
def eU(T:Yk)(f:W->aj W->fy W)(d:j' W)(dA:j' (aj W)):j' W:=λe=>(d e).qK λx e1=>if kM T x=true then(dA e1).qK λws e2=>bx (f x ws) e2 else .no
section
variable{o e:oP}{p:vd}{x:fv}
def Lp{T id:Yk}{name:fv}{r:V->aj V->Hp->VK->Prop}{f:W->aj W->fy W}(pa:ſ T)(xP:Slot T name id)(Hn:Ī (.wO id)=uV (.je "method_descriptor"))(hm:wC X id r)(hf:Dk X.K r f)(ho:DE Z X EE o d)(ha:DA Z X EE (e::es) dA)
  (c_:gu (Α o name X.dt (eval o X.dt)=eval o X.dt) jJ)
  (cx:gu (((yC aX (oj (e::es) X.dt)).rM (λx=>!x.1)&&(Β aX (Ζ [] X.dt)).rM (λx=>x.1.zi)&&decide ((e::es).aO+([]:aj Y5).aO+(if([]:aj Y5).Dl then 0 else 1)<30))=true) jJ)
  (de:gu ((Ym.Δ==aX.X9)=true) jJ)(hs:gu (oj (e::es) X.dt=(false,eval e X.dt)::oj es X.dt) jJ)(bY:gu ((yC aX (oj es X.dt)).tZ (·.1)=false) jJ):
  DE Z X EE (.wu (._a o name Ym) (e::es) [] aX) (eU T f d dA):=by
 refine PE.mV (Md pa xP Hn hm ho ha c_ cx de hs bY) ?_;rintro σ H Q ⟨G,e,mT,h⟩;simp only[eU,R.au]at h;refine⟨G,e,mT,h.uX (λwx e1 h G1 v1 H1 r1 s1 p1=>?_) λ_ _ h=>h⟩
 split at h
 .rename_i hk;refine⟨?_,G1,e1,r1,(R.au.mp h).uX (λws e2 h G2 vs H2 r2 s2 p2=>?_) λ_ _ h=>XH.lb s1 h⟩
  .cases wx with
   |str z=>cases p1;exact(by simpa [kM]using hk:T="str")
   |dS ws=>
    let⟨a,xs,rfl,q,_⟩:=p1;exact .j9 ⟨by simpa [kM]using hk,xs,r1.pA.ot q⟩
   |_=>cases hk
  .let⟨w,hw,h⟩:=a8.mp h;exact hf G2 H2 v1 vs wx ws w Q r2.pA (pW.mV s2 wx p1) p2 hw λG' v H' g p=>h G' v H' (r2.yJ g) ((s1.lb s2).lb g.gg) p
 .exact h.nU
end
def iZ:aj W->fy (aj fv)
 |[]=>ai []
 |.str x::r=>(iZ r).a7 (x::·)
 |_=>none
def Ϲ(ZS:fv)(ys:aj fv):ie:=aT.ble ((ys.a7 λx=>x.aO).sum+ys.aO*ZS.aO) 16777216
def my:W->aj W->fy W
 |.str ZS,[w]=>match eG w with
  |ai ws=>match iZ ws with
   |ai ys=>if Ϲ ZS ys=true then ai (.str (ZZ._g ZS ys))else none
   |none=>none
  |none=>none
 |_,_=>none
def ĕ(K:Fg):V->aj V->Hp->VK->Prop:=λx vs H Q=>∃ZS b zs ys,x=.str ZS/\vs=[.dI b]/\(bI K H b zs\/cH K H b zs)/\zs=ys.a7 V.str/\Ϲ ZS ys=true/\Q (.str (ZZ._g ZS ys)) H
theorem K_:∀{ys:aj fv}{av:aj eT},t9 (ys.a7 V.str) av->Ku.M4.ĺ av ys
 |[],av,h=>by cases h;exact .ro
 |y::ys,av,h=>by
  cases h with
  |p9 r t=>
   let⟨k,rfl⟩:=r;exact .p9 y k (K_ t)
def z59:wC X "str.join" (ĕ X.K):=by
 intro d0 s σ H x vs v us Q I rx rv h;let⟨ZS,b,zs,ys,rfl,rfl,hB,rfl,hz,q⟩:=h;let⟨t,rfl⟩:=rx;let⟨u,rfl,ru⟩:=rv.YH;cases ru;have Nz:=w3w hz;have xg:∀(t':_Z)(k:aT),EP X d0 σ Q (eT.str (ZZ._g ZS ys) t') {s with rJ:=k}:=λt' k=>⟨.str _,H,I.Yg k,⟨t',rfl⟩,q⟩
 rcases hB with hB|hB
 .let⟨av,r,pl,_⟩:=I.xT hB;exact Ku.M4.Č pl.zf (by simpa using K_ r) Nz xg
 .let⟨av,r,pl,_⟩:=I.Uo hB;exact Ku.M4.join_tuple pl (by simpa using K_ r) Nz xg
def z0i:∀{ys:aj fv}{xs:aj V},iZ ws=ai ys->aq K G ws xs->xs=ys.a7 V.str:=by
 induction ws with
 |ro=>intro ys xs h r;cases h;exact r
 |p9 w ws ih=>
  intro ys xs h r;cases w with
  |str x=>
   let⟨zs,h1,rfl⟩:=w0i.mp (show(iZ ws).a7 (x::·)=ai ys from h);let⟨v,t,rfl,p,q⟩:=r;cases p;exact Zd _ (ih h1 q)
  |_=>cases h
def z6a:Dk K (ĕ K) my:=by
 intro G H x xs wx ws w Q s px pr hf h;unfold my at hf;split at hf
 .rename_i ZS w0;let⟨y,r,rfl,py,pr⟩:=pr;cases(show r=[]from pr);cases px;split at hf
  .rename_i us hu;split at hf
   .rename_i ys hy;split at hf
    .rename_i ho;cases hf
     have YY:∀c cs,y=.dI c->(bI K G c cs\/cH K G c cs)->aq K G us cs->ĕ K (.str ZS) [y] H Q:=λc cs hc hq hr=>by
      subst hc;refine⟨ZS,c,cs,ys,rfl,rfl,?_,z0i hy hr,ho,h G _ H (.tT s) rfl⟩;rcases hq with q|q
      .exact .j9 (s.ot q)
      .exact .mW (s.gw q)
     unfold eG at hu;split at hu
     .cases hu;let⟨c,cs,hc,q,hr⟩:=py;exact YY c cs hc (.mW q) hr
     .cases hu;let⟨c,cs,hc,q,hr⟩:=py;exact YY c cs hc (.j9 q) hr
     .cases hu
    .cases hf
   .cases hf
  .cases hf
 .cases hf
section
variable{o e:oP}
theorem z6b(ho:DE Z X EE o d)(ha:DA Z X EE [e] dA)
  (c_:gu (Α o "join" X.dt (eval o X.dt)=eval o X.dt) jJ)
  (cx:gu (((yC aX (oj [e] X.dt)).rM (λx=>!x.1)&&(Β aX (Ζ [] X.dt)).rM (λx=>x.1.zi)&&decide ([e].aO+([]:aj Y5).aO+(if([]:aj Y5).Dl then 0 else 1)<30))=true) jJ)
  (de:gu ((Ym.Δ==aX.X9)=true) jJ)(hs:gu (oj [e] X.dt=(false,eval e X.dt)::oj [] X.dt) jJ)(bY:gu ((yC aX (oj [] X.dt)).tZ (·.1)=false) jJ):
  DE Z X EE (.wu (._a o "join" Ym) [e] [] aX) (eU "str" my d dA):=
 Lp lU.F.plainAttrs_str lU.F.slot_str_join lU.F.type_str_join z59 z6a ho ha c_ cx de hs bY
end
def bW(r:aj ie):W:=.gw (r.a7 .bl)
theorem RL:∀x y:aj ie,d_ (x.a7 .bl) (y.a7 .bl)=ai (decide (x=y))
 |[],[]=>rfl
 |[],_::_=>rfl
 |_::_,[]=>rfl
 |a::x,b::y=>by
  show(match ft (.bl a) (.bl b),d_ (x.a7 .bl) (y.a7 .bl)with|ai p,ai q=>ai (p&&q)|_,_=>none)=_;rw[RL x y];show ai ((a==b)&&decide (x=y))=_;congr 1
  grind
def UM(r:aj ie):bc (bW r)<=1:=by
 have:∀r:aj ie,bp (r.a7 .bl)=0:=λr=>by
  induction r with
  |ro=>rfl
  |p9 b r ih=>show max 0 (bp (r.a7 .bl))=0;omega
 show bp (r.a7 .bl)+1<=1;rw[this];exact w0f _
abbrev lY:=aj ie×aT
variable{rs:aj (aj lY)}{r:aj lY}
def rT(p:lY):W:=.gw [.gw (p.1.a7 .bl),.a6 (p.2:dr)]
def iD(s:aj lY):W:=.dS (s.a7 rT)
def UN(p q:lY):ft (rT p) (rT q)=ai (decide (p=q)):=by
 show(match d_ (p.1.a7 .bl) (q.1.a7 .bl),ai (((p.2:dr)==(q.2:dr))&&true)with|ai a,ai b=>ai (a&&b)|_,_=>none)=_;rw[RL];let⟨a,i⟩:=p;let⟨b,j⟩:=q;show ai (decide (a=b)&&(((i:dr)==(j:dr))&&true))=_;congr 1;rw[w4t,w1r];simp;omega
def Cp(x y:aj lY):ft (iD x) (iD y)=ai (decide (x=y)):=by
 show d_ (x.a7 rT) (y.a7 rT)=_
 induction x generalizing y with
 |ro=>cases y<;>rfl
 |p9 a x ih=>
  cases y with
  |ro=>rfl
  |p9 b y=>
   show(match ft (rT a) (rT b),d_ (x.a7 rT) (y.a7 rT)with|ai p,ai q=>ai (p&&q)|_,_=>none)=_;rw[UN,ih];show ai (decide (a=b)&&decide (x=y))=_;congr 1;rw[w1r];simp
def UO(s:aj lY):bc (iD s)<=3:=by
 have h2:∀p,bc (rT p)<=2:=λp=>by
  show max (bc (bW p.1)) (max 0 0)+1<=2;have:=UM p.1;omega
 have:∀s:aj lY,bp (s.a7 rT)<=2:=λs=>by
  induction s with
  |ro=>exact w1c _
  |p9 b r ih=>exact aT.max_le.uY ⟨h2 b,ih⟩
 exact aT.succ_le_succ (this s)
def SU{x y:aj lY}(h:iD x=iD y):x=y:=by
 have:=Cp x y;rw[h,Cp]at this
 simpa using this
open Classical in
def pK(w:W):fy (aj lY):=if h:∃r,w=iD r then ai h.Ň else none
open Classical in
def kL(ws:aj W):fy (aj (aj lY)):=if h:∃rs:aj (aj lY),ws=rs.a7 iD then ai h.Ň else none
def z6c(h:pK w=ai r):w=iD r:=by
 unfold pK at h;split at h
 .rename_i z;cases h;exact z.Õ
 .cases h
def z0j(h:kL ws=ai rs):ws=rs.a7 iD:=by
 unfold kL at h;split at h
 .rename_i z;cases h;exact z.Õ
 .cases h
def z6d(r:aj lY):pK (iD r)=ai r:=by
 unfold pK;have h:∃q,iD r=iD q:=⟨r,rfl⟩;rw[Ō h,<- SU h.Õ]
theorem RM:∀{x y:aj (aj lY)},x.a7 iD=y.a7 iD->x=y
 |[],[],_=>rfl
 |[],_::_,h=>nomatch h
 |_::_,[],h=>nomatch h
 |a::x,b::y,h=>by
  injection h with h1 h2
  rw[SU h1,RM h2]
def z0k(rs:aj (aj lY)):kL (rs.a7 iD)=ai rs:=by
 unfold kL;have h:∃q:aj (aj lY),rs.a7 iD=q.a7 iD:=⟨rs,rfl⟩;rw[Ō h,<- RM h.Õ]
def y54{σ:L2.St}(I:j3 X d0 σ H s)(sg:ar G H)(hu:A.yH+3<yN)(hr:aq X.K G (rs.a7 iD) xs)(px:pW X.K G (iD r) x)(vl:t9 xs av)(rx:uc x v):
  ∃e:eT->ie,(∀k (hk:k<av.aO),∃q,rs[k]?=ai q/\e av[k]=decide (q=r))/\∀y∈av,yy.WE A s y v (e y):=by
 have Ψ:∀k (hk:k<av.aO),∃q xk,rs[k]?=ai q/\pW X.K G (iD q) xk/\uc xk av[k]:=λk hk=>by
  have l1:=hr.aO;have l2:=vl.aO;rw[w0a]at l1;have hx:k<xs.aO:=by omega
  have hq:k<rs.aO:=by omega
  let⟨u1,e1,wj⟩:=vl.A' (w0b hx);let⟨w1,f1,p1⟩:=hr.iM (w0b hx)
  grind
 refine⟨λy=>@decide (∃k,∃(hk:k<av.aO),av[k]=y/\rs[k]?=ai r) (_o.å _),?_⟩
 have first:∀k (hk:k<av.aO),∃q,rs[k]?=ai q/\@decide (∃k',∃(lj:k'<av.aO),av[k']=av[k]/\rs[k']?=ai r) (_o.å _)=decide (q=r):=λk hk=>by
  let⟨q,xk,h1,h2,h3⟩:=Ψ k hk;refine⟨q,h1,?_⟩
  by_cases z:q=r
  .grind
  .rw[Yu z];refine @Yu _ (_o.å _) ?_;rintro⟨k',lj,e1,e2⟩;let⟨q',xk',g1,g2,g3⟩:=Ψ k' lj;rw[g1]at e2;cases(e2);rw[e1]at g3;rw[g3.yB h3]at g2;have:=Cd I sg (iD q) h2 g2 (Cp q r)
   grind
 refine⟨first,λy hy=>?_⟩
 let⟨k,hk,rfl⟩:=w1s.mp hy;let⟨q,h1,h2⟩:=first k hk
 refine(Zd (yy.WE A s av[k] v) h2).uY ?_;let⟨q',xk,g1,g2,g3⟩:=Ψ k hk;rw[h1]at g1;cases g1;refine K7 g3 (K6 g2) (Mf I sg 3 (UO q) hu g2 px g3 rx (Cp q r)) λz=>?_
 subst z;rw[g3.yB rx]at g2;exact Cd I sg (iD q) g2 px (Cp q r)
def iN:W->aj W->fy W
 |.dS ws,[x]=>match pK x,kL ws with
  |ai r,ai rs=>if r∈rs then ai (.a6 (rs.Ue r:aT))else none
  |_,_=>none
 |_,_=>none
def o4(K:Fg):V->aj V->Hp->VK->Prop:=λv vs H Q=>∃(G:Hp)(b:f')(xs:aj V)(rs:aj (aj lY))(r:aj lY)(x:V),v=.dI b/\vs=[x]/\ar G H/\bI K G b xs/\aq K G (rs.a7 iD) xs/\pW K G (iD r) x/\r∈rs/\Q (.a6 (rs.Ue r:aT)) H
def y55(hu:X.A.yH+150<yN):wC X "list.index" (o4 X.K):=by
 intro d0 s σ H x vs v us Q I rx rv h;let⟨G,b,xs,rs,r,x0,rfl,rfl,sg,hB,hr,px,hm,q⟩:=h;cases rx;let⟨u,rfl,ru⟩:=rv.YH;let⟨av,vl,pl,hz⟩:=I.xT (sg.ot hB);let⟨⟨l_,dd,n9,sl⟩,ho,hc,n,hd⟩:=pl.zf;simp only at hc hd;subst hc hd;have l1:=hr.aO;have l2:=vl.aO;rw[w0a]at l1;have hj:=w2k.uY hm;have GU:=fO;let⟨e,h1,h2⟩:=y54 I sg (A:=X.A.Dh) (by grind) hr px vl ru;refine _L F.Ě ⟨_,ho,rfl⟩ F.zco (F.zb6 _ _) (yy.zc2 b av.lS n dd sl u e (rs.Ue r) (by grind) (by omega) ?_ ?_) ⟨ho,?_,?_⟩
 .grind
 .intro m hm b8;have GV:m<av.aO:=by simpa using hm
  let⟨q,a1,a2⟩:=h1 m GV;rw[aj.getElem_toArray,a2];refine Yu λz=>?_
  have sZ:m<rs.aO:=by omega
  rw[w0b sZ]at a1;injection a1 with a1
  have:=w4y (p:=(·==r)) b8
  grind
 .grind
 .exact⟨.a6 (rs.Ue r:aT),H,I.Yg _,⟨_,rfl⟩,q⟩
def y56:Dk K (o4 K) iN:=by
 intro G H x xs wx ws w Q s px pr hf h;unfold iN at hf;split at hf
 .rename_i us x0;let⟨y,r,rfl,py,pr⟩:=pr;cases(show r=[]from pr);split at hf
  .rename_i r rs h1 h2;split at hf
   .rename_i hm;cases hf;let⟨a,cs,rfl,hq,rp⟩:=px;rw[z6c h1]at py;rw[z0j h2]at rp;exact⟨G,a,cs,rs,r,y,rfl,rfl,s,hq,rp,py,hm,h G _ H (.tT s) rfl⟩
   .cases hf
  .cases hf
 .cases hf
section
variable{a b o e:oP}
theorem y57(hu:X.A.yH+150<yN)(ho:DE Z X EE o d)(ha:DA Z X EE [e] dA)
  (c_:gu (Α o "index" X.dt (eval o X.dt)=eval o X.dt) jJ)
  (cx:gu (((yC aX (oj [e] X.dt)).rM (λx=>!x.1)&&(Β aX (Ζ [] X.dt)).rM (λx=>x.1.zi)&&decide ([e].aO+([]:aj Y5).aO+(if([]:aj Y5).Dl then 0 else 1)<30))=true) jJ)
  (de:gu ((Ym.Δ==aX.X9)=true) jJ)(hs:gu (oj [e] X.dt=(false,eval e X.dt)::oj [] X.dt) jJ)(bY:gu ((yC aX (oj [] X.dt)).tZ (·.1)=false) jJ):
  DE Z X EE (.wu (._a o "index" Ym) [e] [] aX) (eU "list" iN d dA):=
 Lp lU.F.Ē lU.F.Ě lU.F.zdY (y55 hu) y56 ho ha c_ cx de hs bY
end
def y58(h:r∈rs):iN (.dS (rs.a7 iD)) [iD r]=ai (.a6 (rs.Ue r:aT)):=by
 show(match pK (iD r),kL (rs.a7 iD)with|ai r,ai rs=>if r∈rs then ai (W.a6 (rs.Ue r:aT))else none|_,_=>none)=_;rw[z6d,z0k];exact mS h
def SR.ez(r:SR)(k:aj S->SR):SR:=match r with
 |.nx e'=>k e'
 |.ct e'=>k e'
 |.bk e'=>.nx e'
 |.rt s e'=>.rt s e'
 |.ex c e'=>.ex c e'
 |.no=>.no
structure zfl(P:wW)(w:uG)(K:Fg)(d:f')(tb:aj (fv×dr)):Prop where
 ZA:∀h,K.In h->Ku.M4.StrTab P w h d (lU.W.kdpD tb)
 Up:∃o,K.hW d=ai o/\o.l_=.je "dict" /\ o.x8=none
def xX(i:aT)(e:aj S)(b:fy aT)(ws:aj W)(w:W):fy aT->SR
 |ai j=>.nx (e.ri i (.ke b (ws.ri j w)))
 |none=>.no
def xW(i:aT)(e:aj S)(w:W):W->fy S->SR
 |.a6 k,ai (.ke b ws)=>xX i e b ws w (oO ws.aO k)
 |_,_=>.no
def BG(i:aT)(dk:j' W)(w:W)(e:aj S):fy S->SR
 |ai (.ke _ _)=>(dk e).cR λk e2=>xW i e2 w k e2[i]?
 |_=>.no
def Q2k{dv:j' W}:pB i dv dk e=(dv e).cR λw e1=>BG i dk w e1 e1[i]?:=by
 unfold pB;congr 1
theorem z0l:BG i dk w e (ai (.ke b ws))=(dk e).cR λk e2=>xW i e2 w k e2[i]?:=rfl
theorem z0m:xW i e w (.a6 k) (ai (.ke b ws))=xX i e b ws w (oO ws.aO k):=rfl
theorem y59:xX i e b ws w (ai j)=.nx (e.ri i (.ke b (ws.ri j w))):=rfl
def rE(e:aj S):FR->R W
 |.ok (.fr w)=>if aV w=true then .ok w e else .no
 |_=>.no
def rD(F:aj W->FR)(us:aj W)(e:aj S):fy S->R W
 |ai (.ke _ ws)=>rE e (F (.dS ws::us))
 |_=>.no
def rC(F:aj W->FR)(i:aT)(dA:j' (aj W))(e:aj S):fy S->R W
 |ai (.ke _ _)=>(dA e).qK λus e1=>rD F us e1 e1[i]?
 |_=>.no
def z6e:vm F i dA e=rC F i dA e e[i]?:=by
 unfold vm rC;cases e[i]? with
 |none=>rfl
 |ai s=>cases s with
  |ke b ws=>
   dsimp only;congr 1
  |_=>rfl
theorem y6a:rC F i dA e (ai (.ke b ws))=(dA e).qK λus e1=>rD F us e1 e1[i]?:=rfl
theorem y6b:rD F us e (ai (.ke b ws))=rE e (F (.dS ws::us)):=rfl
theorem z0n:rE e (.ok (.fr w))=if aV w=true then .ok w e else .no:=rfl
def xc(i:aT)(e:aj S)(b:fy aT)(xs:aj W):fy (aj W)->SR
 |ai ys=>if xs.aO+ys.aO<=16777216 then .nx (e.ri i (.ke b (xs++ys)))else .no
 |none=>.no
def xb(i:aT)(e:aj S):aj W->fy S->SR
 |[w],ai (.ke b xs)=>xc i e b xs (eG w)
 |_,_=>.no
def xa(i:aT)(d:j' (aj W))(e:aj S):fy S->SR
 |ai (.ke _ _)=>(d e).cR λws e1=>xb i e1 ws e1[i]?
 |_=>.no
def Q2l{d:j' (aj W)}:nu i d e=xa i d e e[i]?:=by
 unfold nu xa;cases e[i]? with
 |none=>rfl
 |ai s=>cases s with
  |ke b ws=>
   dsimp only;congr 1
  |_=>rfl
theorem z0o{d:j' (aj W)}:xa i d e (ai (.ke b xs))=(d e).cR λws e1=>xb i e1 ws e1[i]?:=rfl
theorem z0p:xb i e [w] (ai (.ke b xs))=xc i e b xs (eG w):=rfl
theorem y6c:xc i e b xs (ai ys)=if xs.aO+ys.aO<=16777216 then .nx (e.ri i (.ke b (xs++ys)))else .no:=rfl
theorem z6f:eU T f d dA e=(d e).qK λx e1=>if kM T x=true then(dA e1).qK λws e2=>bx (f x ws) e2 else .no:=rfl
theorem Q2m:kM "str" (.str z)=true:=rfl
theorem Q2n:kM "list" (.dS ws)=true:=rfl
theorem Q2o{i:fv}:Xz (.str i) (.str j)=ai (.bl (decide (i.Yj.vr<j.Yj.vr))):=rfl
def ed(i j:aT)(b:aj S->SR):aj (W×W)->aj S->SR
 |[],e=>.nx e
 |p::ps,e=>(b ((e.ri i (.fr p.1)).ri j (.fr p.2))).ez (ed i j b ps)
def iW(i j:aT)(d:j' (aj (W×W)))(b:aj S->SR):aj S->SR:=λe=>(d e).cR λps e1=>ed i j b ps e1
def du(c:j' ie)(d:j' W)(pe:aj S):aj (W×W)->fy (aj W)
 |[]=>ai []
 |p::ps=>match c (.fr p.1::.fr p.2::pe)with
  |.ok true e1=>match d e1 with
   |.ok y _=>(du c d pe ps).a7 (y::·)
   |_=>none
  |.ok false _=>du c d pe ps
  |_=>none
def jA(js:aj aT)(c:j' ie)(d:j' W)(ps:aj (W×W))(e1:aj S):R (aj W):=
 if ps.aO<=16777216 then(match du c d (gf js (aY js e1)) ps with
  |ai uZ=>.ok uZ (aY js e1)
  |none=>.no)else .no
def cX(js:aj aT)(di:j' (aj (W×W)))(c:j' ie)(d:j' W):j' (aj W):=λe=>(di e).qK λps e1=>jA js c d ps e1
structure jx(K:Fg)(G1:Hp)(J:It)(ps:aj (W×W)):Prop where
 go:∀(i:aT)(G H:Hp),ar G1 G->ar G H->i<ps.aO->J.go i H
 kQ:∀(i:aT)(G H:Hp)(x:V)(H':Hp),ar G1 G->ar G H->J.kQ i H x H'->∀u v,ps[i]?=ai (u,v) ->
  aN G H G H'/\∀(m n:aT)(σ:St)(Q:St->Hp->Prop),(∀y z,pW K G u y->pW K G v z->Q ((σ.ri m (ai y)).ri n (ai z)) H')->pE K 2 (fM (bJ m) (fM (bJ n) pD)) x σ H' Q
 stop:∀(i:aT)(G H:Hp),ar G1 G->ar G H->ps.aO<=i->J.stop i H
def vH(K:Fg)(Z:Zt)(EE:L2.St->XK)(d:j' (aj (W×W))):TI:=λσ H R=>tO K Z σ H λG e=>(d e).Uj (λps e1=>∀G1 H1 J,ph K Z G1 σ H1 e1->ar G G1->jx K G1 J ps->R J H1) (XH K Z EE σ G)
def DI(Z:Zt)(X:Cx)(EE:L2.St->XK)(tg xA:oP)(d:j' (aj (W×W))):Prop:=PI X tg xA (vH X.K Z EE d)
theorem PI.mV(h:PI X tg xA wi)(m:∀σ H R,zaN σ H R->wi σ H R):PI X tg xA zaN:=λd0 s σ H R I q=>h d0 s σ H R I (m σ H R q)
def y6d(r:ph K Z G' σ H e)(s:ar G1 G')(pu:pW K G' p.1 x)(pv:pW K G' p.2 y)
  (h:bG K Z EE D G1 (ed i j s1 (p::ps) e))(hP:∀fk fV l6 e'',ph K Z fk fV l6 e''->ar G1 fk->bG K Z EE D G1 (ed i j s1 ps e'')->Pv fV l6):
  eu K Z EE s1 {D with nx:=Pv,ct:=Pv,bk:=D.nx} ((σ.ri i (ai x)).ri j (ai y)) H:=by
 refine⟨G',_,(r.ri pu).ri pv,?_⟩;unfold ed at h;cases q:s1 ((e.ri i (.fr p.1)).ri j (.fr p.2))with
 |nx e'=>rw[q]at h;exact λfk fV l6 nX iR=>hP fk fV l6 e' nX (s.lb iR) h
 |ct e'=>rw[q]at h;exact λfk fV l6 nX iR=>hP fk fV l6 e' nX (s.lb iR) h
 |bk e'=>rw[q]at h;exact λfk fV l6 nX iR=>h fk fV l6 nX (s.lb iR)
 |rt t e'=>rw[q]at h;exact λfk fV v l6 nX iR p=>h fk fV v l6 nX (s.lb iR) p
 |ex c e'=>rw[q]at h;exact λfk fV l6 nX iR=>h fk fV l6 nX (s.lb iR)
 |no=>rw[q]at h;exact h
def Pa{ps:aj (W×W)}{k:aT}{p:W×W}(h:ps[k]?=ai p):ps.zd k=p::ps.zd (k+1):=by
 let⟨h1,h2⟩:=w0c.mp h;rw[w3a h1,h2]
def ph.zeg(r:ph K Z G σ H e)(js:aj aT){u:W}{y x:V}(q:pW K G u y)(p:pW K G w x):ph K ⟨H,G,[]⟩ G (ai y::ai x::pj js σ) H (.fr u::.fr w::gf js e):=by
 have b:=r.block js p
 have lh:∀(i:aT)(s:S),(S.fr w::gf js e)[i]?=ai s->s=.no\/∃u,s=.fr u:=λi s h=>by
  cases i with
  |TL=>cases h;exact .mW ⟨w,rfl⟩
  |OK k=>
   rw[w0d]at h;unfold gf at h;rw[w0t]at h;let⟨j,h1,h2⟩:=w0i.mp h;unfold iw at h2;split at h2
   .subst h2;exact .mW ⟨_,rfl⟩
   .subst h2;exact .j9 rfl
 refine⟨b.pA,λi s h=>?_,?_,λi j b1 b2 w1 w2 a h1 h2 _ _=>?_,b.YC,b.kH,b.gen⟩
 .cases i with
  |TL=>cases h;exact⟨y,rfl,q⟩
  |OK i=>
   rw[w0d]at h;have z:=b.xP i s h;rcases lh i s h with rfl|⟨u',rfl⟩
   .trivial
   .let⟨v,z1,z2⟩:=b.fr h;exact⟨v,by rw[w0d,z1];rfl,z2⟩
 .have:=b.uz;simp only[w0x]at this |-
  omega
 .cases i with
  |TL=>cases h1
  |OK i=>
   rw[w0d]at h1;rcases lh i _ h1 with z|⟨u',z⟩<;>cases z
def z0q{J:It}{ps:aj (W×W)}{uZ:aj W}{Q:VK}{G0 G1 H1:Hp}{e1:aj S}(W0:jx K G1 J ps)(r1:ph K Z G1 σ H1 e1)(s1:ar G0 G1)(hl:ps.aO<=16777216)
  (hz:∀p,H1 p=none->p∉Z.io)(hc:du c d (gf js e1) ps=ai uZ)
  (h:∀G' a xs H',ph K Z G' σ H' e1->ar G0 G'->H' a=ai (.dS xs)->G' a=none->Z.H a=none->iH σ e1 a->aq K G' uZ xs->Q (.dI a) H'):
  ∀D,H1 D=none->∃W:aT->aT->Hp->Prop,(∃m,W 0 m (ny H1 D (.dS [])))/\∀i m H2,W i m H2 ->
   (J.stop i H2/\Q (.dI D) H2)\/(J.go i H2/\∀x H3,J.kQ i H2 x H3->pE K 2 (fM (bJ 0) (fM (bJ 1) pD)) x (aj.w4 2 none++pj js σ) H3 λou H4=>Kp (aj.w4 2 none++pj js σ) ou/\cT K c ou H4 λb H5=>
    if b=true then cE K d ou H5 λy H6=>∃ys,H6 D=ai (.dS ys)/\ys.aO<u0/\∃m',m'<m/\W (i+1) m' (ny H6 D (.dS (ys++[y])))else ∃m',m'<m/\W (i+1) m' H5):=by
 intro D hD
 refine⟨λi m H2=>m=ps.aO-i/\i<=ps.aO/\∃G2 ys done wV,ph K Z G2 σ H2 e1/\ar G1 G2/\H2 D=ai (.dS ys)/\G2 D=none/\aq K G2 done ys/\done.aO<=i/\du c d (gf js e1) (ps.zd i)=ai wV/\done++wV=uZ,
  ⟨ps.aO,by omega,w1c _,G1,[],[],uZ,r1.yJ (aN.nL r1.pA hD _),.tT _,bQ,r1.pA.rk hD,rfl,w0f _,hc,rfl⟩,?_⟩
 rintro i m H2 ⟨rfl,hi,G2,ys,done,wV,r2,s2,YK,oI,so,M5,cQ,ho⟩;have bX:iH σ e1 D:=zH r1 hD;have vD:Z.H D=none:=qo r1 hD
 by_cases b8:i<ps.aO
 .refine .mW ⟨W0.go i G2 H2 s2 r2.pA b8,λx H3 hy=>?_⟩
  have hp:ps[i]?=ai ((ps[i]).1,(ps[i]).2):=by rw[w0b b8]
  let⟨g3,GI⟩:=W0.kQ i G2 H2 x H3 s2 r2.pA hy _ _ hp;have zS:=r2.yJ g3;have Dy:H3 D=ai (.dS ys):=g3.hh _ _ YK;rw[Pa hp]at cQ;refine GI 0 1 _ _ λyv zv py pz=>⟨Kp.two,⟨H3,G2,[]⟩,G2,.fr (ps[i]).1::.fr (ps[i]).2::gf js e1,zS.zeg js py pz,?_⟩
  unfold du at cQ;cases qc:c (.fr (ps[i]).1::.fr (ps[i]).2::gf js e1)with
  |no=>rw[qc]at cQ;cases cQ
  |ex _ _=>rw[qc]at cQ;cases cQ
  |ok k e2=>
   rw[qc]at cQ;intro G3 H5 r3 s3;have g3:=r3.fU s3;cases k with
   |false=>
    exact⟨ps.aO-(i+1),by omega,rfl,b8,G3,ys,done,wV,zS.yJ g3,s2.lb s3,g3.hh _ _ Dy,by rw[g3.xM D (by rw[Dy];simp)];exact oI,aq.mV s3 _ so,by omega,cQ,ho⟩
   |true=>
    refine⟨⟨H3,G2,[]⟩,G3,e2,r3,?_⟩;dsimp only at cQ;cases qd:d e2 with
    |no=>rw[qd]at cQ;cases cQ
    |ex _ _=>rw[qd]at cQ;cases cQ
    |ok y e3=>
     rw[qd]at cQ;intro G4 v H6 r4 s4 p4;have g4:=r4.fU (s3.lb s4);let⟨mL,hr,rfl⟩:=w0i.mp cQ;have sX:H6 D=ai (.dS ys):=g4.hh _ _ Dy;have vx:G4 D=none:=by rw[g4.xM D (by rw[Dy];simp)];exact oI
     refine⟨ys,sX,?_,ps.aO-(i+1),by omega,rfl,b8,G4,ys++[v],done++[y],mL,(zS.yJ g4).ir vx vD (hz D hD) bX sX,s2.lb (s3.lb s4),bQ,vx,(aq.mV (s3.lb s4) _ so).Xy (.YH p4),by simp;omega,hr,by rw[w2y];exact ho⟩;rw[so.aO,FY];omega
 .have:i=ps.aO:=by omega
  subst this;rw[w2p]at cQ;cases cQ;rw[w1q]at ho;subst ho;exact .j9 ⟨W0.stop _ G2 H2 s2 r2.pA (by omega),h G2 D ys H2 r2 (s1.lb s2) YK oI vD bX so⟩
section
variable{yO xA e a:oP}{t6:aj Dn}{yK:aj oP}{gs sc:zb}{pt p3:vd}{x y:fv}{Nf N:aj fv}{di:j' (aj (W×W))}{s1:aj S->SR}
def z6g(i j:aT)(hN:X.N.yr)(hp:ϩ (p5 X.jf X.w) X.A X.dt X.xe)(hc:X.NI=true)(hl:DI Z X EE (.Yi [.mU x p1,.mU y p2] kt p3) e di)(hb:mY Z X EE t6 s1)
  (hi:gu (X.N[i]?=ai x) jJ)(hx:gu (YT X.dt.gs x) jM)(hf:gu (X.fn x=true\/X.dt.gs.p6.hW x=ai .local) jL)
  (hj:gu (X.N[j]?=ai y) jJ)(hy:gu (YT X.dt.gs y) jM)(GD:gu (X.fn y=true\/X.dt.gs.p6.hW y=ai .local) jL)
  (hn:gu ((Y9 [.mU x p1,.mU y p2] X.dt).aO=2) jJ)(ko:gu ((Y9 [.mU x p1,.mU y p2] X.dt).Ő (·.1)=none) jJ)
  (g1:gu ((Y9 [.mU x p1,.mU y p2] X.dt).a7 (·.2)=Z2 (.mU x p1) X.dt::(Y9 [.mU y p2] X.dt).a7 (·.2)) jJ)(g2:gu ((Y9 [.mU y p2] X.dt).a7 (·.2)=Z2 (.mU y p2) X.dt::(Y9 [] X.dt).a7 (·.2)) jJ)
  (hs:∀x,Zv e X.dt x=uV x:=by intro _;rfl):
  DS Z X EE (.For (.Yi [.mU x p1,.mU y p2] kt p3) e t6 [] ia) (iW i j di s1):=by
 refine PS.mV (LW hp hc hl (SN hc (ET (uR i hN hi hx hf) (ET (uR j hN hj hy GD) Rp g2) g1) hn ko) hb hs) ?_;rintro D σ H ⟨G,e,mT,h⟩;refine⟨G,e,mT,(ki h).uX (λps e1 h G1 H1 J r1 q1 W0=>?_) λ_ _ h=>h⟩
 have h:=bG.lb q1 h;refine⟨λk m aM H'=>m=ps.aO-k/\k<=ps.aO/\∃G' e',ph X.K Z G' aM H' e'/\ar G1 G'/\bG X.K Z EE D G1 (ed i j s1 (ps.zd k) e'),⟨ps.aO,by omega,w1c _,G1,e1,r1,.tT _,h⟩,?_⟩
 rintro k m aM H' ⟨rfl,hk,G',e',r',s',h'⟩
 by_cases b8:k<ps.aO
 .refine .mW ⟨W0.go k G' H' s' r'.pA b8,λfV l6=>∃G' e',ph X.K Z G' fV l6 e'/\ar G1 G'/\bG X.K Z EE D G1 (ed i j s1 (ps.zd (k+1)) e'),?_,λv H2 hy=>?_⟩
  .rintro fV l6 ⟨fk,e'',nX,iR,p_⟩;exact⟨ps.aO-(k+1),by omega,rfl,b8,fk,e'',nX,iR,p_⟩
  .have hp:ps[k]?=ai ((ps[k]).1,(ps[k]).2):=by rw[w0b b8]
   let⟨g3,GI⟩:=W0.kQ k G' H' v H2 s' r'.pA hy _ _ hp;rw[Pa hp]at h';exact GI i j aM _ λy z py pz=>y6d (p:=((ps[k]).1,(ps[k]).2)) (r'.yJ g3) s' py pz h' λfk fV l6 e'' nX iR p_=>⟨fk,e'',nX,iR,p_⟩
 .have:k=ps.aO:=by omega
  subst this;rw[w2p]at h';exact .j9 ⟨W0.stop _ G' H' s' r'.pA (by omega),h' G' aM H' r' s'⟩
def y3i:∀σ H Q,oR K Z EE (cX js di c d) σ H Q->i0 (vH K Z EE di) 2 js (pE K 2 (fM (bJ 0) (fM (bJ 1) pD))) (cT K c) (cE K d) σ H Q:=by
 rintro σ H Q ⟨G,e,mT,h⟩;simp only[cX,R.au]at h;refine⟨G,e,mT,h.uX (λps e1 h G1 H1 J r1 s1 W0=>?_) λ_ _ h=>h⟩
 unfold jA at h;split at h
 .rename_i hl;split at h
  .rename_i uZ ho;let⟨G2,s2,r2⟩:=r1.aY js;have W1:jx K G2 J ps:=⟨λi G H a=>W0.go i G H (s2.lb a),λi G H x H' a=>W0.kQ i G H x H' (s2.lb a),λi G H a=>W0.stop i G H (s2.lb a)⟩
   exact z0q W1 r2 (s1.lb s2) hl (lu r2) ho h
  .exact h.nU
 .exact h.nU
def z0r(hc:X.NI=true)(hi:DI Z X EE (.Yi [.mU x p1,.mU y p2] kt p3) xA di)(ok:b9 sc gs N Nf js=true)
  (ht:∀Z' cl C ax aE ex,sO Z' (X.cp ([x,y]++Nf) gs cl C ax aE ex) (λ_=>E0) yK c)(he:∀Z' cl C ax aE ex,DE Z' (X.cp ([x,y]++Nf) gs cl C ax aE ex) (λ_=>E0) yO d)
  (hg:∀cl C ax aE ex,PG (X.cp ([x,y]++Nf) gs cl C ax aE ex) (.Yi [.mU x p1,.mU y p2] kt p3) (pE X.K 2 (fM (bJ 0) (fM (bJ 1) pD))))
  (hsc:gu (X.dt.gs=sc) jJ)(hN:gu (X.N=N) jJ)(hs:∀x,Zv xA X.dt x=uV x:=by intro _;rfl):
  DF Z X EE (.YN yO [⟨.Yi [.mU x p1,.mU y p2] kt p3,xA,yK,0⟩] gs ia) (cX js di c d):=by
 exact PE.mV (EU (Nl:=[x,y]) (tc:=cT X.K c) (te:=cE X.K d) hc hi ok hg (yk ht) (zY he) hsc hN hs) y3i
def d7:aj W->fy (aj (W×W))
 |[]=>ai []
 |.gw [u,v]::ws=>(d7 ws).a7 ((u,v)::·)
 |_=>none
def j6(d:j' W):j' (aj (W×W)):=λe=>(d e).qK λw e1=>match eG w with
 |ai ws=>bx (d7 ws) e1
 |none=>.no
theorem Qa:∀{ws:aj W}{ps:aj (W×W)},d7 ws=ai ps->ws.aO=ps.aO/\∀(i:aT) u v,ps[i]?=ai (u,v)->ws[i]?=ai (.gw [u,v])
 |[],ps,h=>by cases h;exact⟨rfl,λi u v z=>by simp at z⟩
 |w::ws,ps,h=>by
  unfold d7 at h;split at h
  .rename_i z;cases z
  .rename_i u v ws' z;cases z;let⟨q,hq,rfl⟩:=w0i.mp h;let⟨h1,h2⟩:=Qa hq;refine⟨by simp[h1],λi u' v' z=>?_⟩
   cases i with
   |TL=>simp at z;simp[z.1,z.2]
   |OK i=>simp only[w0d]at z |-;exact h2 i _ _ z
  .cases h
def Qb(W0:ϔ J xs SQ)(rp:aq K G1 ws xs)(hp:d7 ws=ai ps)(pF:∀G' H',ar G1 G'->ar G' H'->SQ H'):jx K G1 J ps:=by
 let⟨hl,hg⟩:=Qa hp;have hx:=rp.aO;refine⟨λi G H a b h=>W0.go i H (pF G H a b) (by omega),λi G H x H' a b hy u v h=>?_,λi G H a b h=>W0.stop i H (pF G H a b) (by omega)⟩
 have b8:i<ps.aO:=(w0c.mp h).1;let⟨rfl,vC⟩:=W0.kQ i H x H' (pF G H a b) hy (by omega);refine⟨aN.tT b,λm n σ Q hQ=>?_⟩
 let⟨w,hw,pw⟩:=rp.iM vC;rw[hg i u v h]at hw;cases hw;have pw:=pW.mV a _ pw;let⟨c,ys,rfl,hq,y1,q1,rfl,p1,y2,q2,rfl,p2,rfl⟩:=pw;exact⟨c,[y1,y2],rfl,b.gw hq,rfl,y1,[y2],rfl,y2,[],rfl,rfl,hQ y1 y2 p1 p2⟩
def z0s(hl:DE Z X EE l zcg):DI Z X EE tg l (j6 zcg):=by
 refine PI.mV (Cn hl) ?_;rintro σ H RR ⟨G,e,mT,h⟩;simp only[j6,R.au]at h;refine⟨G,e,mT,h.uX (λw e1 h G1 v1 H1 r1 s1 p1=>?_) λ_ _ h=>h⟩
 split at h
 .rename_i ws hw;let⟨ps,hp,h⟩:=a8.mp h;cases w with
  |gw us=>
   cases (hw);let⟨a,xs,rfl,hq,rp⟩:=p1;exact⟨a,rfl,.mW ⟨⟨xs,r1.pA.gw hq⟩,h _ _ _ r1 s1 (Qb LZ rp hp λG' H' s s'=>ar.gw s' (ar.gw s hq))⟩⟩
  |dS us=>
   cases (hw);let⟨a,xs,rfl,hq,rp⟩:=p1;exact⟨a,rfl,.j9 ⟨⟨xs,r1.pA.ot hq⟩,h _ _ _ r1 s1 (Qb LY rp hp λG' H' s s'=>ar.ot s' (ar.ot s hq))⟩⟩
  |_=>cases hw
 .exact h.nU
def cn:aT->aj W->aj (W×W)
 |_,[]=>[]
 |k,w::ws=>(.a6 k,w)::cn (k+1) ws
def mO(dA:j' (aj W)):j' (aj (W×W)):=λe=>(dA e).qK λws e1=>match ws with
 |[.dS us]=>.ok (cn 0 us) e1
 |_=>.no
theorem J8:∀(k:aT)(ws:aj W),(cn k ws).aO=ws.aO
 |_,[]=>rfl
 |k,w::ws=>by simp[cn,J8 (k+1) ws]
theorem J9:∀(k:aT)(ws:aj W)(i:aT)(u v:W),(cn k ws)[i]?=ai (u,v)->u=.a6 ((k+i:aT):dr)/\ws[i]?=ai v
 |_,[],i,u,v,h=>by simp[cn]at h
 |k,w::ws,i,u,v,h=>by
  cases i with
  |TL=>
   have e:(W.a6 k,w)=(u,v):=fy.ai.yB h;cases e;exact⟨rfl,rfl⟩
  |OK i=>
   have h:(cn (k+1) ws)[i]?=ai (u,v):=h;let⟨h1,h2⟩:=J9 (k+1) ws i u v h;exact⟨by rw[h1];congr 2;omega,h2⟩
def FW(K:Fg)(a:f'):It:=
 ⟨λi H=>∃xs x,bI K H a xs/\xs[i]?=ai x,λi H x H'=>∃b y,x=.dI b/\H b=none/\(∀xs,bI K H a xs->xs[i]?=ai y)/\H'=ny H b (.gw [.a6 i,y]),λi H=>∃xs,bI K H a xs/\xs.aO<=i⟩
def J_{h':g6}{t':aT}{fp:aj f'}{b:f'}{o:HO}(I:j3 X d0 σ H s)(k:∀b o,b∉fp->s.bj.iT b=ai o->h'.iT b=ai o)(hf:∀b∈fp,eO X d0 H b)(hp:s.bj.g0.d3<=b)(xM:aS X.jf X.w (ny H b o) h' b o):j3 X d0 σ (ny H b o) {s with bj:=h',rJ:=t'}:=by
 have hn:H b=none:=I.aJ.yI hp;have ne:∀c u,H c=ai u->c≠b:=λc u e=>gh e hn
 have Bx:∀c u,H c=ai u->c∉fp:=λc u e z=>by rw[(hf c z).1]at e;cases e
 have lt:∀c o,s.bj.iT c=ai o->c≠b:=λc o e=>w0p (w1f (g6.yu e) hp)
 refine I.YY (g':=s.YD) (d':=s.ν) (ch:=fp) (λc hc=>?_) (λc o _ _ hc e _=>k c o hc e) (λc o _ _ hc e _=>⟨o.Yb,k c o hc e⟩) (λc o _ e n=>by rw[aR (lt c o e)];exact n)
  (λc o hc e=>⟨o,k c o hc e⟩) (λc xs e=>by rw[aR (ne c _ e)];exact e) (λc o u e=>by rw[aR (ne c _ e)];exact e) (λc ps e=>⟨#[],by rw[aR (ne c _ e),e];simp⟩) (λm hm=>?_) (λc u e=>?_) I.M_
 .let⟨f0,f1,f2,f3,f4,f5⟩:=hf c hc;exact⟨f3,f1,f4,f5⟩
 .let⟨o,es,ep,ho,r⟩:=hm;exact⟨o,es,ep,k _ o (λz=>(hf _ z).2.1 rfl) ho,r⟩
 .by_cases hb:c=b
  .subst hb;rw[bQ]at e;cases e;exact xM
  .rw[aR hb]at e;refine(I.aJ c u e).fi (λd v hd q=>k d v ?_ q) (λd q=>by rw[aR (ne d _ q)];exact q) λd xs _ q=>by rw[aR (ne d _ q)];exact q
   rcases hd with z|z
   .rw[z];exact Bx c u e
   .exact Bx d _ z
theorem y6e{P:wW}{w:uG}(a e it:f')(gH:e≠it):Χ P w K (.Yi Z5 kt pt) (FW K a) [e,it] e (λi h=>∃yF,lU.ü h e it (i:aT) yF/\h.Ϗ it a i) where
 Xt:=by simp
 Up:=λi h ⟨yF,jo,iS⟩ b hb=>by
  simp only[w0h,w1g,YX]at hb;rcases hb with rfl|rfl
  .exact⟨_,jo,λv z=>by cases z⟩
  .let⟨o,e,c,d⟩:=iS;exact⟨o,e,λv z=>by rw[d]at z;cases z⟩
 xJ:=λi h h' ⟨yF,jo,iS⟩ k=>⟨yF,k e (by simp) _ jo,iS.at λo e=>k it (by simp) o e⟩
 ZF:=by
  intro X hP hw hK hc i d0 s σ H E I hf st hg;subst hP hw hK;let⟨yF,jo,iS⟩:=st;let⟨xs,x,hq,hx⟩:=hg;let⟨av,rv,p,hz⟩:=I.xT hq;let⟨u,hu,ru⟩:=rv.A' hx;refine wpAny_pyNext_enum_item jo iS p.zf (x:=u) (by simpa using hu) gH λh1 ug xr Hl NA qX=>⟨_,rfl,?_⟩
  refine zeq ug λh2 oH ja=>?_
  have ja:g6.ZY e h1 h2:=ja;have b8:e<s.bj.g0.d3:=g6.yu jo;have lh:H s.bj.g0.d3=none:=I.aJ.yI (w0f _);have Ba:h2.iT s.bj.g0.d3=ai {l_:=.je "tuple", n9:=.ot #[.a6 i s.rJ,u]}:=(ja.2 _ (w2s b8)).lb Hl;refine⟨.dI s.bj.g0.d3,ny H s.bj.g0.d3 (.gw [.a6 i,x]),?_,rfl,⟨_,x,rfl,lh,λys hy=>by rw[I.il hy hq];exact hx,rfl⟩,⟨u,oH,?_⟩,λb hb=>?_⟩
  .show L2.j3 X d0 σ _ {s with bj:=h2,rJ:=s.rJ+1};refine J_ (fp:=[e,it]) I (λb o hb q=>?_) hf (w0f _) ⟨?_,[.a6 i s.rJ,u],.p9 ⟨_,rfl⟩ (.p9 ru .ro),⟨_,Ba,rfl,?_⟩,⟨_,Ba,rfl⟩⟩
   .simp only[w0h,w1g,YX,Đ]at hb;exact(ja.2 b hb.1).lb (qX b o hb.1 hb.2 q)
   .rw[FY];simp
   .exact⟨_,rfl⟩
  .exact xr.at λo q=>(ja.2 it (Ne.symm gH)).lb q
  .have:b≠s.bj.g0.d3:=by
    obtain⟨o,q,_⟩:∃o,s.bj.iT b=ai o/\ku:=by
     simp only[w0h,w1g,YX]at hb;rcases hb with rfl|rfl
     .exact⟨_,jo,trivial⟩
     .let⟨o,e,_⟩:=iS;exact⟨o,e,trivial⟩
    exact w0p (g6.yu q)
   rw[aR this];exact(hf b hb).1
 done:=by
  intro X hP hw hK hc i d0 s σ H E I hf st hg;subst hP hw hK;let⟨yF,jo,iS⟩:=st;let⟨xs,hq,hx⟩:=hg;let⟨av,rv,p,hz⟩:=I.xT hq;let⟨f0,f1,f2,f3,f4,f5⟩:=hf it (by simp);have hl:=rv.aO;exact wpAny_pyNext_enum_end (I.ok.hd hc) jo iS p.zf (by simp;omega) λh' eb=>⟨rfl,I.ZU (t':=s.rJ) (λb o hb e=>eb b o hb e) f0 f1 f3 f4 f5⟩
 self:=λ_ _ _ _ _ ⟨yF,jo,_⟩ h=>į jo h
def Bd(K:Fg)(ta:TA):TI:=λσ H R=>ta σ H λvs H1=>∃a,vs=[.dI a]/\(∃xs,bI K H1 a xs)/\R (FW K a) H1
def z6h{ta:TA}{p:vd}(hg:Gl X "enumerate")(hm:X.mg "enumerate"=none)(ha:PA X [a] ta)(hs:gu (oj [a] X.dt=[(false,eval a X.dt)]) jJ):PI X (.Yi Z5 kt pt) (.wu (.mU "enumerate" p) [a] [] ia) (Bd X.K ta):=by
 intro d0 s σ H R I h;refine Ku.M4.ø (rY I hg hm Ku.M4.zca (Ku.M4.Ϛ (bC (ha ia d0 s σ H _ I h) λus s1 ⟨vs,H1,I1,r1,q1⟩=>?_) hs rfl))
 let⟨l,e,⟨xs,hq⟩,q⟩:=q1;subst e;cases r1 with
 |p9 r rr=>
  cases rr;cases r;let⟨av,rv,p,hz⟩:=I1.xT hq;refine call_enumerate_list p.zf λh' he Zy hsz hk=>?_
  refine į he ?_;refine⟨s1.bj.g0.d3+1,[s1.bj.g0.d3+1,s1.bj.g0.d3],_,_,H1,rfl,I1.XE (t':=s1.rJ) hk,y6e l _ _ (w3x _),⟨_,he,Zy⟩,λb hb=>?_,q⟩
  simp only[w0h,w1g,YX]at hb;rcases hb with rfl|rfl
  .exact I1.jI (by omega) (I1.aJ.yI (by omega))
  .exact I1.jI (w0f _) (I1.aJ.yI (w0f _))
def y3j(rp:aq K G1 ws xs)(hq:bI K G1 b xs):jx K G1 (FW K b) (cn 0 ws):=by
 have hx:=rp.aO;have hl:=J8 0 ws;refine⟨λi G H s s' h=>⟨xs,xs[i]'(by omega),ar.ot s' (ar.ot s hq),by simp⟩,λi G H x H' s s' hy u v h=>?_,λi G H s s' h=>⟨xs,ar.ot s' (ar.ot s hq),by omega⟩⟩
 let⟨c,y,rfl,hn,vC,rfl⟩:=hy;let⟨hu,hv⟩:=J9 0 ws i u v h;let⟨w,hw,pw⟩:=rp.iM (vC xs (ar.ot s' (ar.ot s hq)));rw[hv]at hw;cases hw;refine⟨aN.nL s' hn _,λm n σ Q hQ=>⟨c,[.a6 i,y],rfl,cH.of bQ,rfl,.a6 i,[y],rfl,y,[],rfl,rfl,hQ _ _ ?_ (pW.mV s _ pw)⟩⟩
 rw[hu,w2a];exact rfl
def z6i{p:vd}(hm:X.mg "enumerate"=none)(ha:DA Z X EE [a] dA)(hg:gu (Gl X "enumerate") jJ)(hs:gu (oj [a] X.dt=[(false,eval a X.dt)]) jJ):DI Z X EE (.Yi Z5 kt pt) (.wu (.mU "enumerate" p) [a] [] ia) (mO dA):=by
 refine PI.mV (z6h hg hm ha hs) ?_;rintro σ H RR ⟨G,e,mT,h⟩;simp only[mO,R.au]at h;refine⟨G,e,mT,h.uX (λws e1 h G1 vs H1 r1 s1 p1=>?_) λ_ _ h=>h⟩
 split at h
 .rename_i us;let⟨y,r,rfl,e1,e2⟩:=p1;cases(show r=[]from e2);let⟨b,xs,rfl,hq,rp⟩:=e1;exact⟨b,rfl,⟨xs,r1.pA.ot hq⟩,h _ _ _ r1 s1 (y3j rp hq)⟩
 .exact h.nU
end
theorem UP{x y:fv}{p3:vd}(hN:X.N.yr)(hc:X.NI=true)
  (hi:gu (X.N[0]?=ai x) jJ)(hx:gu (YT X.dt.gs x) jM)(hf:gu (X.fn x=true\/X.dt.gs.p6.hW x=ai .local) jL)
  (hj:gu (X.N[1]?=ai y) jJ)(hy:gu (YT X.dt.gs y) jM)(GD:gu (X.fn y=true\/X.dt.gs.p6.hW y=ai .local) jL)
  (hn:gu ((Y9 [.mU x p1,.mU y p2] X.dt).aO=2) jJ)(ko:gu ((Y9 [.mU x p1,.mU y p2] X.dt).Ő (·.1)=none) jJ)
  (g1:gu ((Y9 [.mU x p1,.mU y p2] X.dt).a7 (·.2)=Z2 (.mU x p1) X.dt::(Y9 [.mU y p2] X.dt).a7 (·.2)) jJ)(g2:gu ((Y9 [.mU y p2] X.dt).a7 (·.2)=Z2 (.mU y p2) X.dt::(Y9 [] X.dt).a7 (·.2)) jJ):
  PG X (.Yi [.mU x p1,.mU y p2] kt p3) (pE X.K 2 (fM (bJ 0) (fM (bJ 1) pD))):=
 SN hc (ET (uR 0 hN hi hx hf) (ET (uR 1 hN hj hy GD) Rp g2) g1) hn ko
section
variable{ps:aj (W×W)}{c:Prop} [É c]{s t:SR}{k:aj S->SR}{st:S}
theorem z6j:iW i j di b e=(di e).cR λps e1=>ed i j b ps e1:=rfl
theorem y6f:ed i j b (p::ps) e=(b ((e.ri i (.fr p.1)).ri j (.fr p.2))).ez (ed i j b ps):=rfl
theorem z0t:(SR.nx e).ez k=k e:=rfl
theorem z0u:(SR.ct e).ez k=k e:=rfl
theorem z0v:(SR.bk e).ez k=.nx e:=rfl
theorem z0w:(SR.rt st e).ez k=.rt st e:=rfl
theorem z0x:(SR.ex v e).ez k=.ex v e:=rfl
theorem z0y:(SR.no).ez k=.no:=rfl
def y6g:(if c then s else t).ez k=if c then s.ez k else t.ez k:=by split<;>rfl
def wk(e:aj S):aj W->R (aj (W×W))
 |[.dS us]=>.ok (cn 0 us) e
 |_=>.no
def Q2q:mO dA e=(dA e).qK λws e1=>wk e1 ws:=by
 unfold mO;congr 1
theorem z6k:wk e [.dS ws]=.ok (cn 0 ws) e:=rfl
def wm(e:aj S):fy (aj W)->R (aj (W×W))
 |ai ws=>bx (d7 ws) e
 |none=>.no
def Q2r:j6 d e=(d e).qK λw e1=>wm e1 (eG w):=by
 unfold j6;congr 1
theorem y3k:wm e (ai ws)=bx (d7 ws) e:=rfl
def z0z{cc:j' ie}:jA js cc d ps e=if ps.aO<=16777216 then md (aY js e) (du cc d (gf js (aY js e)) ps)else .no:=by
 unfold jA md;split
 .cases du cc d (gf js (aY js e)) ps<;>rfl
 .rfl
theorem z00:cX js di cc d e=(di e).qK λps e1=>jA js cc d ps e1:=rfl
theorem BV{cc:j' ie}{p:W×W}:du cc d pe (p::ps)=(match cc (.fr p.1::.fr p.2::pe)with
  |.ok true e1=>(match d e1 with|.ok y _=>(du cc d pe ps).a7 (y::·)|_=>none)
  |.ok false _=>du cc d pe ps
  |_=>none):=rfl
theorem J'{cc:j' ie}{d:j' W}{pe:aj S}{q:W×W->ie}{g:W×W->W}:∀(ps:aj (W×W)),(∀p∈ps,∃e1,cc (.fr p.1::.fr p.2::pe)=.ok (q p) e1/\(q p=true->∃e2,d e1=.ok (g p) e2))->du cc d pe ps=ai ((ps.DV q).a7 g)
 |[],_=>rfl
 |p::ps,h=>by
  let⟨e1,h1,h2⟩:=h p (by simp);have ih:=J' (cc:=cc) (d:=d) (pe:=pe) (q:=q) (g:=g) ps λu hu=>h u (by simp[hu])
  rw[BV,h1,ih];cases hq:q p with
  |true=>
   let⟨e2,h3⟩:=h2 hq;simp only[hq,h3,w2q,_N];rfl
  |false=>simp[hq,w2q]
end
theorem y6h(l)(p7)(n)(x)(u)(dd)(sl)(hc0:¬(!uu.aj.zc0 x)=true)(Dx:¬p7.d3*x.sG>(2^63-1) / 8)(cQ:¬uu.aj.Ϻ (p7.d3*x.sG)=true):
  _q (uu.«list.__mul__» ⟨[.dI l,.a6 x u],[]⟩) (λ_ R s=>s.bj.iT l=ai {l_:=.je "list", x8:=dd,n9:=.ot p7 n,Yb:=sl}/\R (.ok (.zW (eT.dI s.bj.g0.d3))) {s with bj:=s.bj.tB {l_:=eT.je "list", n9:=_D.ot (aj.yW (λx1 x2=>x1++x2) #[] (aj.w4 (if p7.Dl=true then 0 else x.sG) p7))},rJ:=s.rJ}):=
 ._z λjf w A R s h=>by
  let⟨hp,g,d,tk,os⟩:=s;let⟨hl,h⟩:=h;have hsz:=lU.AutoListH.joined_fits cQ
  wp_walk;refine zeo (Yu (w3r.uY hsz)) ?_;wp_walk;exact⟨_,rfl,h⟩
theorem y6i(a)(t)(l)(p7)(n)(dd)(sl):
  _q (uu.«int.__rmul__» ⟨[.a6 a t,.dI l],[]⟩) (λ_ R s=>s.bj.iT l=ai {l_:=.je "list", x8:=dd,n9:=.ot p7 n,Yb:=sl}/\R (.ok (.zW eT.zdd)) s):=
 ._z λjf w A R s h=>by let⟨hp,g,d,tk,os⟩:=s;let⟨hl,h⟩:=h;wp_walk;exact⟨_,rfl,h⟩
def wb(K:Fg):R2:=λx y H Q=>∃l k xs,x=.dI l/\y=.a6 k/\bI K H l xs/\-(2^63)<=k/\k<2^63/\xs.aO*k.sG<=u0 /\
 ∀p,H p=none->Q (.dI p) (ny H p (.dS (aj.w4 k.sG xs).Yo))
def RN:fF X (Zr .Υ) (wb X.K):=by
 intro d0 s σ H x y v u Q I rx ry h;let⟨l,k,xs,rfl,rfl,hH,h1,h2,hz,q⟩:=h;cases rx;let⟨t,rfl⟩:=ry;let⟨av,r,p1,_⟩:=I.xT hH;let⟨⟨l_,dd,n9,sl⟩,ho,hc,n,hd⟩:=id p1.zf;simp only at hc hd;subst hc hd;have hl:=r.aO;have wR:av.lS.d3*k.sG<=u0:=by rw[w0e,<- hl];exact hz
 have k9:¬av.lS.d3*k.sG>(2^63-1) / 8:=by
  have:(u0:aT)<=(2^63-1) / 8:=by decide
  omega
 have qV:¬(!uu.aj.zc0 k)=true:=by
  rw[fitsIndex_both h1 h2];exact w1i
 have qZ:¬uu.aj.Ϻ (av.lS.d3*k.sG)=true:=by
  rw[mH wR];exact w1i
 have ui:aj.yW (λx1 x2=>x1++x2) #[] (aj.w4 (if av.lS.Dl=true then 0 else k.sG) av.lS)=(aj.w4 k.sG av).Yo.lS:=by
  have f0:∀m:aT,aj.yW (λx1 x2=>x1++x2) #[] (aj.w4 m av.lS)=(aj.w4 m av).Yo.lS:=λm=>by
   have:=JR av m [];rw[w3k]at this;exact this
  rw[f0];cases av with
  |ro=>simp
  |p9 a r'=>rw[sF (by simp)]
 refine zej (T:="list") (U:="int") (by decide) ⟨_,ho,rfl⟩ (λs'=>î s' k t) noFill_list_mul F.zcw F.ę repeat_list F.zdJ.hW
  (lU._L F.ę (î s k t) F.zcn (F.zb5 _ _) (y6i k t l av.lS n dd sl)
   ⟨ho,rfl,⟨_,ho,rfl⟩,lU._L F.slot_list_mul ⟨_,ho,rfl⟩ F.entry_list_mul (F.args_list_mul_2 _ _) (y6h l av.lS n k t dd sl qV k9 qZ) ⟨ho,?_⟩⟩)
 rw[ui];exact⟨.dI _,_,I.Bn (t':=s.rJ) (r.yM k.sG) (by rw[Ly,w4j];exact hz),rfl,q _ I.yI⟩
def pR:W->W->fy W
 |.dS ws,.a6 k=>if qi k=true/\ws.aO*k.sG<=16777216 then ai (.dS (aj.w4 k.sG ws).Yo)else none
 |_,_=>none
theorem EW(r:aq K G ws xs):∀k:aT,aq K G (aj.w4 k ws).Yo (aj.w4 k xs).Yo
 |0=>rfl
 |k+1=>by
  rw[w2m,w2m,w3p,w3p];exact r.Xy (EW r k)
def UQ:iC K (wb K) pR:=by
 intro G H x y wx wy w Q s px py hf h;unfold pR at hf;split at hf
 .rename_i ws k;split at hf
  .rename_i hc;cases hf;cases(show y=V.a6 k from py);let⟨l,xs,rfl,hq,rp⟩:=px;have hb:=yh hc.1;refine⟨l,k,xs,rfl,rfl,s.ot hq,by omega,by omega,by rw[FY,rp.aO];exact hc.2,λp hp=>?_⟩
   have g:aN G H (ny G p (.dS (aj.w4 k.sG xs).Yo)) (ny H p (.dS (aj.w4 k.sG xs).Yo)):=aN.Mk s hp _;exact h _ _ _ g ⟨p,_,rfl,bI.of bQ,aq.mV g.gg _ (EW rp _)⟩
  .cases hf
 .cases hf
theorem Q2t(ha:DE Z X EE a da)(hb:DE Z X EE b db):DE Z X EE (._m a .Υ b ia) (ao pR da db):=v9 RN UQ ha hb
theorem UR:pR (.dS ws) (.a6 k)=if qi k=true/\ws.aO*k.sG<=16777216 then ai (.dS (aj.w4 k.sG ws).Yo)else none:=rfl
def mw(x:dr):aj dr->fy aT
 |[]=>none
 |y::ys=>if y=x then ai 0 else(mw x ys).a7 (·+1)
theorem QC{x:dr}:∀{ys:aj dr}{j:aT},mw x ys=ai j->ys[j]?=ai x/\∀(m:aT)(y:dr),m<j->ys[m]?=ai y->y≠x
 |[],j,h=>by cases h
 |y::ys,j,h=>by
  unfold mw at h;split at h
  .rename_i hy;cases h;exact⟨by rw[hy];rfl,λm y hm _=>by omega⟩
  .rename_i hy;let⟨k,h1,rfl⟩:=w0i.mp h;let⟨h2,h3⟩:=QC h1;refine⟨by simpa using h2,λm z hm hz=>?_⟩
   cases m with
   |TL=>simp at hz;rw[<- hz];exact hy
   |OK m=>exact h3 m z (by omega) (by simpa using hz)
def d5:aj W->fy (aj dr)
 |[]=>ai []
 |.a6 x::r=>(d5 r).a7 (x::·)
 |_=>none
theorem EX:∀{ws:aj W}{ys:aj dr}{xs:aj V},d5 ws=ai ys->aq K G ws xs->xs=ys.a7 V.a6
 |[],ys,xs,h,r=>by cases h;cases(show xs=[]from r);rfl
 |w::ws,ys,xs,h,r=>by
  unfold d5 at h;split at h
  .rename_i z;cases z
  .rename_i y r' z;cases z;let⟨ys',h1,rfl⟩:=w0i.mp h;let⟨v,vs,rfl,p1,p2⟩:=r;cases(show v=V.a6 y from p1);rw[EX h1 p2];rfl
  .cases h
def fN:W->aj W->fy W
 |.dS ws,[.a6 x]=>match d5 ws with
  |ai ys=>match mw x ys with
   |ai j=>ai (.a6 j)
   |none=>none
  |none=>none
 |_,_=>none
def o3(K:Fg):V->aj V->Hp->VK->Prop:=λv vs H Q=>∃b ys x j,v=.dI b/\vs=[.a6 x]/\bI K H b (ys.a7 V.a6)/\mw x ys=ai j/\Q (.a6 (j:aT)) H
theorem RO:∀{ys:aj dr}{av:aj eT},t9 (ys.a7 V.a6) av->∀(m:aT)(u:eT),av[m]?=ai u->∃y t,ys[m]?=ai y/\u=.a6 y t
 |[],av,h,m,u,hu=>by cases h;simp at hu
 |y::ys,av,h,m,u,hu=>by
  cases h with
  |p9 r t=>
   let⟨k,rfl⟩:=r;cases m with
   |TL=>simp at hu;exact⟨y,k,rfl,hu.symm⟩
   |OK m=>simpa using RO t m u (by simpa using hu)
def y6j:wC X "list.index" (o3 X.K):=by
 intro d0 s σ H x vs v us Q I rx rv h;let⟨b,ys,x0,j,rfl,rfl,hB,hj,q⟩:=h;cases rx;let⟨u,rfl,ru⟩:=rv.YH;let⟨t,rfl⟩:=ru;let⟨av,r,pl,hz⟩:=I.xT hB;let⟨⟨l_,dd,n9,sl⟩,ho,hc,n,hd⟩:=pl.zf;simp only at hc hd;subst hc hd;let⟨h1,h2⟩:=QC hj;have wR:=r.aO;rw[w0a]at wR hz;have y0:j<ys.aO:=(w0c.mp h1).1;have GU:=fO
 let e:eT->ie:=λu=>match u with|.a6 y _=>y==x0|_=>false
 have Ψ:∀(m:aT)(hm:m<av.lS.d3),∃y k,ys[m]?=ai y/\av.lS[m]=.a6 y k:=λm hm=>by
  have GV:m<av.aO:=by simpa using hm
  let⟨y,k,z1,z2⟩:=RO r m av[m] (w0b GV);exact⟨y,k,z1,by simpa using z2⟩
 refine _L F.Ě ⟨_,ho,rfl⟩ F.zco (F.zb6 _ _) (yy.zc2 b av.lS n dd sl (.a6 x0 t) e j (by simp only[w0e];omega) (by omega) ?_ ?_) ⟨ho,?_,?_⟩
 .let⟨y,k,z1,z2⟩:=Ψ j (by simp only[w0e];omega);rw[h1]at z1;cases z1;rw[z2];simp[e]
 .intro m hm b8;let⟨y,k,z1,z2⟩:=Ψ m hm;rw[z2]
  simpa [e]using h2 m y b8 z1
 .intro y hy;let⟨m,hm,rfl⟩:=yw.mem_iff_getElem.mp hy;let⟨y,k,z1,z2⟩:=Ψ m hm;rw[z2];exact yy.WE.Ý y k x0 t
 .exact⟨.a6 j,H,I.Yg _,⟨_,rfl⟩,q⟩
def y6k:Dk K (o3 K) fN:=by
 intro G H x xs wx ws w Q s px pr hf h;unfold fN at hf;split at hf
 .rename_i us x0;let⟨y,r,rfl,py,pr⟩:=pr;cases(show r=[]from pr);cases py;split at hf
  .rename_i ys hy;split at hf
   .rename_i j hj;cases hf;let⟨a,cs,rfl,hq,rp⟩:=px;have:=EX hy rp;subst this;exact⟨a,ys,x0,j,rfl,rfl,s.ot hq,hj,h G _ H (.tT s) rfl⟩
   .cases hf
  .cases hf
 .cases hf
section
variable{o e:oP}
theorem y6l(ho:DE Z X EE o d)(ha:DA Z X EE [e] dA)
  (c_:gu (Α o "index" X.dt (eval o X.dt)=eval o X.dt) jJ)
  (cx:gu (((yC aX (oj [e] X.dt)).rM (λx=>!x.1)&&(Β aX (Ζ [] X.dt)).rM (λx=>x.1.zi)&&decide ([e].aO+([]:aj Y5).aO+(if([]:aj Y5).Dl then 0 else 1)<30))=true) jJ)
  (de:gu ((Ym.Δ==aX.X9)=true) jJ)(hs:gu (oj [e] X.dt=(false,eval e X.dt)::oj [] X.dt) jJ)(bY:gu ((yC aX (oj [] X.dt)).tZ (·.1)=false) jJ):
  DE Z X EE (.wu (._a o "index" Ym) [e] [] aX) (eU "list" fN d dA):=
 Lp lU.F.Ē lU.F.Ě lU.F.zdY y6j y6k ho ha c_ cx de hs bY
end
section
variable{w:uG}
def OB{j b:f'}{k:aT}{vs:yw eT}{x:eT}{Q:eT->oi->Prop}(gi:s.bj._b j b k)(gt:s.bj.Yy b vs)(gx:vs[k]?=ai x)
  (hQ:∀h',h'._b j b (k+1)->g6.ZY j s.bj h'->Q x {s with bj:=h'}):oh (p5 jf w) A (uu.Zq._P (.dI j)) Q E s:=by
 let⟨o,ho,hc,hd⟩:=id gi;let⟨zdl,Hb,_,m,AX⟩:=gt;unfold uu.Zq._P;refine lT (Ç (name:=fv.YG "__next__") gi.Zh F.Ĝ (ò F.Ĝ gi.Zh F.zcq ?_ (F.zb8 _)));show oh _ _ (ο (.dI j) 0 >>= _) _ _ s;refine lT (ZI ho hd (x:=.dI b) rfl ?_);show oh _ _ (if(eT.dI b==eT.none)=true then _ else _) _ _ s;rw[sF (show ¬((eT.dI b==eT.none)=true)from w1i)];show oh _ _ (ο (.dI j) 1 >>= _) _ _ s;refine lT (ZI ho hd (x:=.a6 k 0) rfl ?_);show oh _ _ (Ė (.dI b) >>= _) _ _ s;refine lT (_A Hb AX ?_);simp only[w1v,gx];refine lT (zet ho hd (by simp) (t8 ⟨x,rfl,t8 (hQ _ ⟨_,g6.zcC _ ho (qH.isFreed_of_fields (qH.zck hd _)),(qH.cls_mapFields ..).lb hc,by rw[qH.zck hd];simp[_i]⟩ (g6.ZY.Yh ..))⟩))
def Ju(hh:A.YV=none)(gi:s.bj._b j b k)(gt:s.bj.Yy b vs)(gx:vs[k]?=none)
  (hE:∀h' e,g6.ExtBut j s.bj h'->(∃o,h'.iT e=ai o/\o.l_=.je "StopIteration")->E (.dI e) {s with bj:=h'}):oh (p5 jf w) A (uu.Zq._P (.dI j)) Q E s:=by
 let⟨o,ho,hc,hd⟩:=id gi;let⟨zdl,Hb,_,m,AX⟩:=gt;unfold uu.Zq._P;refine lT (Ç (name:=fv.YG "__next__") gi.Zh F.Ĝ (ò F.Ĝ gi.Zh F.zcq ?_ (F.zb8 _)));show oh _ _ (ο (.dI j) 0 >>= _) _ _ s;refine lT (ZI ho hd (x:=.dI b) rfl ?_);show oh _ _ (if(eT.dI b==eT.none)=true then _ else _) _ _ s;rw[sF (show ¬((eT.dI b==eT.none)=true)from w1i)];show oh _ _ (ο (.dI j) 1 >>= _) _ _ s;refine lT (ZI ho hd (x:=.a6 k 0) rfl ?_);show oh _ _ (Ė (.dI b) >>= _) _ _ s;refine lT (_A Hb AX ?_);simp only[w1v,gx];refine lT (ö (lT (zet ho hd (by simp) ?_)));show oh _ _ (newExc (.je "StopIteration") [] >>= _) _ _ _;refine lT ?_;simp only[newExc,newTuple];refine lT (_T ?_ (by size_fits));refine lT (m:=zcx _ _) (ϣ (a:=eT.none) (by first|rfl|(simp only[zcx];rfl)) (_T ?_ (by size_fits)));simp only[raiseNew];refine lT (wpAny_handled ?_)
 first|rw[show A.Dh.YV=none from hh]|rw[hh]
 refine lT (t8 (wpAny_throw (hE _ _ (((g6.ZY.Yh ..).yt.tB _).tB _) ⟨_,g6.Bt _ rfl,rfl⟩)))
def cW(t:ie)(j b:f')(k:aT)(h:g6):Prop:=if t=true then h._b j b k else h.Ϗ j b k
def eA(t:ie)(b:f')(vs:yw eT)(h:g6):Prop:=if t=true then h.Yy b vs else h._p b vs
def cW.xJ(x:cW t j b k h)(e:∀o,h.iT j=ai o->h'.iT j=ai o):cW t j b k h':=by
 cases t with
 |true=>let⟨o,ho,r⟩:=(show h._b j b k from x);exact⟨o,e o ho,r⟩
 |false=>let⟨o,ho,r⟩:=(show h.Ϗ j b k from x);exact⟨o,e o ho,r⟩
def cW.Up(x:cW t j b k h):∃o,h.iT j=ai o/\∀v,o.n9≠.ur v:=by
 cases t with
 |true=>let⟨o,ho,c,d⟩:=(show h._b j b k from x);grind
 |false=>let⟨o,ho,c,d⟩:=(show h.Ϗ j b k from x);grind
def eA.xJ(x:eA t b vs h)(e:∀o,h.iT b=ai o->h'.iT b=ai o):eA t b vs h':=by
 cases t with
 |true=>let⟨o,ho,r⟩:=(show h.Yy b vs from x);exact⟨o,e o ho,r⟩
 |false=>let⟨o,ho,r⟩:=(show h._p b vs from x);exact⟨o,e o ho,r⟩
def Lq(gi:cW t j b k s.bj)(gt:eA t b vs s.bj)(gx:vs[k]?=ai x)
  (hQ:∀h',cW t j b (k+1) h'->g6.ZY j s.bj h'->Q x {s with bj:=h'}):oh (p5 jf w) A (uu.Zq._P (.dI j)) Q E s:=by
 cases t with
 |true=>exact OB gi gt gx hQ
 |false=>exact wpAny_nextOf_list_item gi gt gx hQ
def S'(hh:A.YV=none)(gi:cW t j b k s.bj)(gt:eA t b vs s.bj)(gx:vs[k]?=none)
  (hE:∀h' e,g6.ExtBut j s.bj h'->(∃o,h'.iT e=ai o/\o.l_=.je "StopIteration")->E (.dI e) {s with bj:=h'}):oh (p5 jf w) A (uu.Zq._P (.dI j)) Q E s:=by
 cases t with
 |true=>exact Ju hh gi gt gx hE
 |false=>exact wpAny_nextOf_list_end hh gi gt gx hE
structure Ξ(z I O i j a b:f'):Prop where
 Iz:I≠z
 Oz:O≠z
 iz:i≠z
 jz:j≠z
 IO:I≠O
 Ii:I≠i
 Ij:I≠j
 Oi:O≠i
 Oj:O≠j
 ij:i≠j
 az:a≠z
 zb1:a≠O
 zb3:a≠i
 zb4:a≠j
 bz:b≠z
 bO:b≠O
 bi:b≠i
 zb':b≠j
def z6l{i:f'}{q:eT}{Q:eT->oi->Prop}(D:Ξ z I O i j a b)
  (gz:Zp s.bj z I O .none)(gI:Yx s.bj I (.dI i) (.dI j))(gO:Yx s.bj O p q)
  (g1:cW t i a k s.bj)(g2:cW u j b k s.bj)(l1:eA t a xs s.bj)(l2:eA u b ys s.bj)(hx:xs[k]?=ai x)(hy:ys[k]?=ai y)
  (hQ:∀h',Zp h' z I O (_i s.bj.g0.d3)->Yx h' O x y->cW t i a (k+1) h'->cW u j b (k+1) h'->Yx h' s.bj.g0.d3 x y->h'.g0.d3=s.bj.g0.d3+1 ->
   (∀c o,c≠z->c≠O->c≠i->c≠j->s.bj.iT c=ai o->h'.iT c=ai o)->Q (.dI s.bj.g0.d3) {s with bj:=h'}):
  oh (p5 jf w) A (uu.«zip.__next__» ⟨[.dI z],[]⟩) (λxg s'=>∃v,xg=.done (.zW v)/\Q v s') E s:=by
 show oh _ _ (ο (.dI z) 2 >>= _) _ _ _;refine lT (ZI gz rfl (x:=.xv false) rfl ?_);show oh _ _ (ο (.dI z) 3 >>= _) _ _ _;refine lT (ZI gz rfl (x:=.dI I) rfl (lT (_A gI rfl ?_)));show oh _ _ (uu.Zq.đ (.dI z) >>= _) _ _ _;refine lT ?_;unfold uu.Zq.đ;refine lT (ZI gz rfl (x:=.none) rfl (t8 ?_));simp only[_N];refine lT (ö (lT (ZI gz rfl (x:=.dI O) rfl (lT (È gz (by simp) λha za sa=>?_)))))
 replace za:Zp ha z I O .ϱ:=za
 refine lT ?_;simp only[aj.zipIdx_cons,aj.zipIdx_nil,w3f,w4n];refine lT (lT (Į ?_));show oh _ _ (uu.Zq._P (.dI i) >>= _) _ _ _;refine lT (Lq (s:={s with bj:=ha}) (g1.xJ λo e=>sa.yt _ _ D.iz e) (l1.xJ λo e=>sa.yt _ _ D.az e) hx λhb ib sb=>t8 ?_)
 have Ob:Yx hb O p q:=sb.yt _ _ D.Oi (sa.yt _ _ D.Oz gO);refine lT (_A Ob rfl (lT (Ź Ob λhc Oc sc=>?_)))
 replace Oc:Yx hc O x q:=Oc
 refine lT (Μ (t8 (lT (lT (Į ?_)))));show oh _ _ (uu.Zq._P (.dI j) >>= _) _ _ _;refine lT (Lq (s:={s with bj:=hc}) (g2.xJ λo e=>sc.yt _ _ D.Oj.symm (sb.yt _ _ D.ij.symm (sa.yt _ _ D.jz e))) (l2.xJ λo e=>sc.yt _ _ D.bO (sb.yt _ _ D.bi (sa.yt _ _ D.bz e))) hy λhd zcP sd=>t8 ?_)
 have Od:Yx hd O x q:=sd.yt _ _ D.Oj Oc;refine lT (_A Od rfl (lT (Ź Od λhe Oe se=>?_)))
 replace Oe:Yx he O x y:=Oe
 refine lT (Μ (t8 (t8 (lT (_A Oe rfl (lT (zer ?_)))))));have sz:he.g0.d3=s.bj.g0.d3:=by rw[se.1,sd.1,sc.1,sb.1,sa.1]
 have ze:Zp he z I O .ϱ:=se.yt _ _ D.Oz.symm (sd.yt _ _ D.jz.symm (sc.yt _ _ D.Oz.symm (sb.yt _ _ D.iz.symm za)));have zcT:∀c o,c≠z->c≠O->c≠i->c≠j->s.bj.iT c=ai o->he.iT c=ai o:=λc o c1 c2 c3 c4 e=>se.yt _ _ c2 (sd.yt _ _ c4 (sc.yt _ _ c2 (sb.yt _ _ c3 (sa.yt _ _ c1 e))))
 have zcJ:cW t i a (k+1) he:=ib.xJ λo e=>se.yt _ _ D.Oi.symm (sd.yt _ _ D.ij (sc.yt _ _ D.Oi.symm e))
 have zcQ:cW u j b (k+1) he:=zcP.xJ λo e=>se.yt _ _ D.Oj.symm e
 have FL:z<he.g0.d3:=g6.yu ze;show oh _ _ (uu.Zq.zdm (.dI z) (.dI he.g0.d3) >>= _) _ _ _;refine lT ?_;unfold uu.Zq.zdm;have zeX:Zp (he.tB {l_:=.je "tuple", n9:=.ot #[x,y]}) z I O .ϱ:=g6.w6 _ ze;refine lT (È zeX (by simp) λhg zg sg=>?_)
 replace zg:Zp hg z I O (_i he.g0.d3):=zg
 refine È zg (by simp) λhk zk sk=>?_
 replace zk:Zp hk z I O (_i he.g0.d3):=zk
 have up:∀c o,c≠z->he.iT c=ai o->hk.iT c=ai o:=λc o c1 e=>sk.yt _ _ c1 (sg.yt _ _ c1 (g6.w6 _ e))
 have Tk:Yx hk he.g0.d3 x y:=sk.yt _ _ (w2s FL) (sg.yt _ _ (w2s FL) (g6.Bt _ rfl));have nk:hk.g0.d3=he.g0.d3+1:=by rw[sk.1,sg.1,g6.ZH]
 rw[sz]at zk Tk nk;refine t8 ⟨_,rfl,?_⟩;show Q (.dI he.g0.d3) _;rw[sz];exact hQ hk zk (up _ _ D.Oz Oe) (zcJ.xJ λo e=>up _ o D.iz e) (zcQ.xJ λo e=>up _ o D.jz e) Tk nk λc o c1 c2 c3 c4 e=>up c o c1 (zcT c o c1 c2 c3 c4 e)
def US{i:f'}{q:eT}(hh:A.YV=none)(D:Ξ z I O i j a b)
  (gz:Zp s.bj z I O .none)(gI:Yx s.bj I (.dI i) (.dI j))(gO:Yx s.bj O p q)
  (g1:cW t i a k s.bj)(g2:cW u j b k s.bj)(l1:eA t a xs s.bj)(l2:eA u b ys s.bj)(AY:xs[k]?=none\/ys[k]?=none)
  (hE:∀h' e,(∀c o,c≠z->c≠O->c≠i->c≠j->s.bj.iT c=ai o->h'.iT c=ai o)->(∃o,h'.iT e=ai o/\o.l_=.je "StopIteration")->E (.dI e) {s with bj:=h'}):
  oh (p5 jf w) A (uu.«zip.__next__» ⟨[.dI z],[]⟩) Q E s:=by
 show oh _ _ (ο (.dI z) 2 >>= _) _ _ _;refine lT (ZI gz rfl (x:=.xv false) rfl ?_);show oh _ _ (ο (.dI z) 3 >>= _) _ _ _;refine lT (ZI gz rfl (x:=.dI I) rfl (lT (_A gI rfl ?_)));show oh _ _ (uu.Zq.đ (.dI z) >>= _) _ _ _;refine lT ?_;unfold uu.Zq.đ;refine lT (ZI gz rfl (x:=.none) rfl (t8 ?_));simp only[_N];refine lT (ö (lT (ZI gz rfl (x:=.dI O) rfl (lT (È gz (by simp) λha za sa=>?_)))))
 replace za:Zp ha z I O .ϱ:=za
 refine lT ?_;simp only[aj.zipIdx_cons,aj.zipIdx_nil,w3f,w4n];refine lT (lT (Į ?_));show oh _ _ (uu.Zq._P (.dI i) >>= _) _ _ _;cases hx:xs[k]? with
 |none=>
  refine lT (S' (s:={s with bj:=ha}) hh (g1.xJ λo e=>sa.yt _ _ D.iz e) (l1.xJ λo e=>sa.yt _ _ D.az e) hx λhb e sb ge=>?_)
  let⟨oe,A9,Gv⟩:=ge;have zeV:Zp hb z I O .ϱ:=sb _ _ D.iz.symm za;have nz:e≠z:=λx=>by grind
  refine È zeV (by simp) λhc _ sc=>hE hc e (λc o c1 _ c3 _ x=>sc.yt _ _ c1 (sb _ _ c3 (sa.yt _ _ c1 x))) ⟨oe,sc.yt _ _ nz A9,Gv⟩
 |ai x=>
  have hy:ys[k]?=none:=by grind
  refine lT (Lq (s:={s with bj:=ha}) (g1.xJ λo e=>sa.yt _ _ D.iz e) (l1.xJ λo e=>sa.yt _ _ D.az e) hx λhb ib sb=>t8 ?_)
  have Ob:Yx hb O p q:=sb.yt _ _ D.Oi (sa.yt _ _ D.Oz gO);refine lT (_A Ob rfl (lT (Ź Ob λhc Oc sc=>?_)))
  refine lT (Μ (t8 (lT (lT (Į ?_)))));show oh _ _ (uu.Zq._P (.dI j) >>= _) _ _ _;refine lT (S' (s:={s with bj:=hc}) hh (g2.xJ λo e=>sc.yt _ _ D.Oj.symm (sb.yt _ _ D.ij.symm (sa.yt _ _ D.jz e))) (l2.xJ λo e=>sc.yt _ _ D.bO (sb.yt _ _ D.bi (sa.yt _ _ D.bz e))) hy λhd e sd ge=>?_)
  let⟨oe,A9,Gv⟩:=ge;have zeW:Zp hd z I O .ϱ:=sd _ _ D.jz.symm (sc.yt _ _ D.Oz.symm (sb.yt _ _ D.iz.symm za));have nz:e≠z:=λx=>by grind
  refine È zeW (by simp) λhe _ se=>hE he e (λc o c1 c2 c3 c4 x=>se.yt _ _ c1 (sd _ _ c4 (sc.yt _ _ c2 (sb.yt _ _ c3 (sa.yt _ _ c1 x))))) ⟨oe,se.yt _ _ nz A9,Gv⟩
def z6m{i:f'}{q:eT}(D:Ξ z I O i j a b)
  (gz:Zp s.bj z I O .none)(gI:Yx s.bj I (.dI i) (.dI j))(gO:Yx s.bj O p q)
  (g1:cW t i a k s.bj)(g2:cW u j b k s.bj)(l1:eA t a xs s.bj)(l2:eA u b ys s.bj)(hx:xs[k]?=ai x)(hy:ys[k]?=ai y)
  (hQ:∀h',Zp h' z I O (_i s.bj.g0.d3)->Yx h' O x y->cW t i a (k+1) h'->cW u j b (k+1) h'->Yx h' s.bj.g0.d3 x y->h'.g0.d3=s.bj.g0.d3+1 ->
   (∀c o,c≠z->c≠O->c≠i->c≠j->s.bj.iT c=ai o->h'.iT c=ai o)->Q (ai (.dI s.bj.g0.d3)) {s with bj:=h'}):oh (p5 jf w) A (Η (.dI z)) Q E s:=by
 have hT:s._G (.dI z) "zip":=⟨_,gz,rfl⟩;unfold Η;exact lT (ñ (Ç (name:=fv.YG "__next__") hT F.ĝ (ò F.ĝ hT F.zcr (z6l D gz gI gO g1 g2 l1 l2 hx hy λh' a1 a2 a3 a4 a5 zbZ zb0=>t8 (hQ h' a1 a2 a3 a4 a5 zbZ zb0)) (F.zb9 _))))
def z6n{i:f'}{q:eT}(hh:A.YV=none)(D:Ξ z I O i j a b)
  (gz:Zp s.bj z I O .none)(gI:Yx s.bj I (.dI i) (.dI j))(gO:Yx s.bj O p q)
  (g1:cW t i a k s.bj)(g2:cW u j b k s.bj)(l1:eA t a xs s.bj)(l2:eA u b ys s.bj)(AY:xs[k]?=none\/ys[k]?=none)
  (hQ:∀h',(∀c o,c≠z->c≠O->c≠i->c≠j->s.bj.iT c=ai o->h'.iT c=ai o)->Q none {s with bj:=h'}):oh (p5 jf w) A (Η (.dI z)) Q E s:=by
 have hT:s._G (.dI z) "zip":=⟨_,gz,rfl⟩;unfold Η;refine lT (ñ (Ç (name:=fv.YG "__next__") hT F.ĝ (ò F.ĝ hT F.zcr (US hh D gz gI gO g1 g2 l1 l2 AY λh' e hk he=>?_) (F.zb9 _))))
 let⟨o,ho,hc⟩:=he;exact lT (ŵ (T:="StopIteration") (b:=true) ⟨o,ho,hc⟩ isSubtype_stop (t8 (hQ _ hk)))
end
def HC(t:ie):Yk:=if t=true then "tuple_iterator" else "list_iterator"
abbrev Df(t:ie)(h:g6)(a:f'):g6:=h.tB {l_:=.je (HC t),n9:=.NJ #[.dI a,.a6 0 0]}
abbrev FN(t u:ie)(h:g6)(a b:f'):g6:=(Df t h a).tB {l_:=.je (HC u),n9:=.NJ #[.dI b,.a6 0 0]}
abbrev FO(t u:ie)(h:g6)(a b:f'):g6:=(FN t u h a b).tB {l_:=.je "tuple", n9:=.ot #[.dI h.g0.d3,.dI (Df t h a).g0.d3]}
abbrev FP(t u:ie)(h:g6)(a b:f'):g6:=(FO t u h a b).tB {l_:=.je "tuple", n9:=.ot #[.none,.none]}
abbrev yQ(t u:ie)(h:g6)(a b:f'):g6:=(FP t u h a b).tB {l_:=.je "zip", n9:=.NJ #[.none,.xv false,.xv false,.dI (FN t u h a b).g0.d3,.dI (FO t u h a b).g0.d3]}
theorem UT(t u)(a b)(xs ys):
  _q (uu.«zip.__new__» ⟨[.je "zip", .dI a,.dI b],[]⟩) (λ_ R s=>eA t a xs s.bj/\eA u b ys s.bj/\R (.ok (.zW (.dI (FP t u s.bj a b).g0.d3))) {s with bj:=yQ t u s.bj a b}):=
 ._z λjf w A R s hyp=>by
  let⟨hp,g,d,tk,os⟩:=s;let⟨g1,g2,h⟩:=hyp;have rj:=sub_zip;have q2:eA u b ys (Df t hp a):=g2.xJ λo e=>g6.w6 _ e
  cases t with
  |false=>
   have p1:g6._p (oi.bj ⟨hp,g,d,tk,os⟩) a xs:=g1;cases u with
   |false=>
    have p2:g6._p (oi.bj ⟨hp.tB {l_:=.je "list_iterator", n9:=.NJ #[.dI a,.a6 0 0]},g,d,tk,os⟩) b ys:=q2
    wp_walk using Ν p1,Ν p2
    exact⟨_,rfl,h⟩
   |true=>
    have p2:g6.Yy (oi.bj ⟨hp.tB {l_:=.je "list_iterator", n9:=.NJ #[.dI a,.a6 0 0]},g,d,tk,os⟩) b ys:=q2
    wp_walk using Ν p1,ω p2
    exact⟨_,rfl,h⟩
  |true=>
   have p1:g6.Yy (oi.bj ⟨hp,g,d,tk,os⟩) a xs:=g1;cases u with
   |false=>
    have p2:g6._p (oi.bj ⟨hp.tB {l_:=.je "tuple_iterator", n9:=.NJ #[.dI a,.a6 0 0]},g,d,tk,os⟩) b ys:=q2
    wp_walk using ω p1,Ν p2
    exact⟨_,rfl,h⟩
   |true=>
    have p2:g6.Yy (oi.bj ⟨hp.tB {l_:=.je "tuple_iterator", n9:=.NJ #[.dI a,.a6 0 0]},g,d,tk,os⟩) b ys:=q2
    wp_walk using ω p1,ω p2
    exact⟨_,rfl,h⟩
def QD(e:h.iT j=ai o)(c:o.l_=.je (HC t))(d:o.n9=.NJ #[.dI a,.a6 0 0]):cW t j a 0 h:=by
 cases t with
 |true=>exact(show h._b j a 0 from⟨o,e,c,d⟩)
 |false=>exact(show h.Ϗ j a 0 from⟨o,e,c,d⟩)
def y6n{w:uG}(g1:eA t a xs s.bj)(g2:eA u b ys s.bj)
  (h:∀h',Zp h' (s.bj.g0.d3+4) (s.bj.g0.d3+2) (s.bj.g0.d3+3) .none->Yx h' (s.bj.g0.d3+2) (.dI s.bj.g0.d3) (.dI (s.bj.g0.d3+1)) ->
   Yx h' (s.bj.g0.d3+3) .none .none->cW t s.bj.g0.d3 a 0 h'->cW u (s.bj.g0.d3+1) b 0 h'->(∀c o,s.bj.iT c=ai o->h'.iT c=ai o)->Q (.dI (s.bj.g0.d3+4)) {s with bj:=h'}):
  oh (p5 jf w) A (yG (.je "zip") [.dI a,.dI b]) Q E s:=by
 refine Ņ F.called_zip (by decide) (F.typeCall_zip_2 _ _) (F.newCall_zip_2 _ _) (λUp=>F.args_object_init_3 Up _ _) F.entry_zip_new (UT t u a b xs ys) ⟨g1,g2,?_⟩
 have n1:(Df t s.bj a).g0.d3=s.bj.g0.d3+1:=g6.ZH ..;have n2:(FN t u s.bj a b).g0.d3=s.bj.g0.d3+2:=by rw[g6.ZH,n1]
 have n3:(FO t u s.bj a b).g0.d3=s.bj.g0.d3+3:=by rw[g6.ZH,n2]
 have n4:(FP t u s.bj a b).g0.d3=s.bj.g0.d3+4:=by rw[g6.ZH,n3]
 have k5:(yQ t u s.bj a b).iT (FP t u s.bj a b).g0.d3=ai _:=g6.Bt _ rfl;have k4:(yQ t u s.bj a b).iT (FO t u s.bj a b).g0.d3=ai _:=g6.w6 _ (g6.Bt _ rfl);have k3:(yQ t u s.bj a b).iT (FN t u s.bj a b).g0.d3=ai _:=g6.w6 _ (g6.w6 _ (g6.Bt _ rfl));have k2:(yQ t u s.bj a b).iT (Df t s.bj a).g0.d3=ai _:=g6.w6 _ (g6.w6 _ (g6.w6 _ (g6.Bt _ rfl)));have k1:(yQ t u s.bj a b).iT s.bj.g0.d3=ai _:=g6.w6 _ (g6.w6 _ (g6.w6 _ (g6.w6 _ (g6.Bt _ rfl))));have up:∀c o,s.bj.iT c=ai o->(yQ t u s.bj a b).iT c=ai o:=λc o e=>g6.w6 _ (g6.w6 _ (g6.w6 _ (g6.w6 _ (g6.w6 _ e))))
 show _/\_;rw[n2,n3,n4]at k5;rw[n1,n2]at k3;rw[n3]at k4;rw[n1]at k2;rw[n4];exact⟨⟨_,k5,rfl⟩,h _ k5 k3 k4 (QD k1 rfl rfl) (QD k2 rfl rfl) up⟩
def mZ(K:Fg)(t:ie)(H:Hp)(a:f')(xs:aj V):Prop:=if t=true then cH K H a xs else bI K H a xs
def zR(I:j3 X d0 σ H s)(h:mZ X.K t H a xs):∃av:aj eT,t9 xs av/\eA t a av.lS s.bj:=by
 cases t with
 |true=>
  let⟨av,r,p,_⟩:=I.Uo h;exact⟨av,r,(show s.bj.Yy a av.lS from p)⟩
 |false=>
  let⟨av,r,p,_⟩:=I.xT h;exact⟨av,r,p.zf⟩
def Ta(I:j3 X d0 σ H s)(h:mZ X.K t H a xs)(h':mZ X.K t H a ys):xs=ys:=by
 cases t with
 |true=>exact I.gm h h'
 |false=>exact I.il h h'
def eA.Up(x:eA t a vs h):∃o,h.iT a=ai o/\o.l_=.je (if t=true then "tuple" else "list"):=by
 cases t with
 |true=>let⟨o,ho,c,_⟩:=(show h.Yy a vs from x);exact⟨o,ho,c⟩
 |false=>let⟨o,ho,c,_⟩:=(show h._p a vs from x);exact⟨o,ho,c⟩
def zby{h':g6}{t':aT}{fp:aj f'}(I:j3 X d0 σ H s)(k:∀b o,b∉fp->s.bj.iT b=ai o->h'.iT b=ai o)(hf:∀b∈fp,eO X d0 H b):j3 X d0 σ H {s with bj:=h',rJ:=t'}:=by
 have Bx:∀c u,H c=ai u->c∉fp:=λc u e z=>by rw[(hf c z).1]at e;cases e
 refine I.YY (g':=s.YD) (d':=s.ν) (ch:=fp) (λc hc=>?_) (λc o _ _ hc e _=>k c o hc e) (λc o _ _ hc e _=>⟨o.Yb,k c o hc e⟩) (λc o _ e n=>n)
  (λc o hc e=>⟨o,k c o hc e⟩) (λc xs e=>e) (λc o u e=>e) (λc ps e=>⟨#[],by rw[e];simp⟩) (λm hm=>?_) (λc u e=>?_) I.M_
 .let⟨f0,f1,f2,f3,f4,f5⟩:=hf c hc;exact⟨f3,f1,f4,f5⟩
 .let⟨o,es,ep,ho,r⟩:=hm;exact⟨o,es,ep,k _ o (λz=>(hf _ z).2.1 rfl) ho,r⟩
 .refine(I.aJ c u e).fi (λd v hd q=>k d v ?_ q) (λd q=>q) λd xs _ q=>q
  rcases hd with z|z
  .rw[z];exact Bx c u e
  .exact Bx d _ z
def FX(K:Fg)(t u:ie)(a b:f'):It:=
  ⟨λi H=>∃xs ys x y,mZ K t H a xs/\mZ K u H b ys/\xs[i]?=ai x/\ys[i]?=ai y,
   λi H v H'=>∃c x y,v=.dI c/\H c=none/\(∀xs,mZ K t H a xs->xs[i]?=ai x)/\(∀ys,mZ K u H b ys->ys[i]?=ai y)/\H'=ny H c (.gw [x,y]),
   λi H=>∃xs ys,mZ K t H a xs/\mZ K u H b ys/\(xs.aO<=i\/ys.aO<=i)⟩
def z01{P:wW}{w:uG}(t u:ie)(a b z I O i j:f')(D:Ξ z I O i j a b):
  Χ P w K (.Yi Z5 kt pt) (FX K t u a b) [z,I,O,i,j] z (λk h=>Zp h z I O .none/\Yx h I (.dI i) (.dI j)/\(∃p q,Yx h O p q)/\cW t i a k h/\cW u j b k h) where
 Xt:=by simp
 Up:=λk h ⟨s1,s2,⟨p,q,s3⟩,s4,s5⟩ c hc=>by
  simp only[w0h,w1g,YX]at hc;rcases hc with rfl|rfl|rfl|rfl|rfl
  .exact⟨_,s1,λv z=>by cases z⟩
  .exact⟨_,s2,λv z=>by cases z⟩
  .exact⟨_,s3,λv z=>by cases z⟩
  .exact s4.Up
  .exact s5.Up
 xJ:=λk h h' ⟨s1,s2,⟨p,q,s3⟩,s4,s5⟩ f=>⟨f z (by simp) _ s1,f I (by simp) _ s2,⟨p,q,f O (by simp) _ s3⟩,s4.xJ λo e=>f i (by simp) o e,s5.xJ λo e=>f j (by simp) o e⟩
 ZF:=by
  intro X hP hw hK hc k d0 s σ H E Iv hf st hg;subst hP hw hK;let⟨s1,s2,⟨p,q,s3⟩,s4,s5⟩:=st;let⟨xs,ys,x,y,q1,q2,hx,hy⟩:=hg;let⟨NF,r1,p1⟩:=zR Iv q1;let⟨NG,r2,p2⟩:=zR Iv q2;let⟨ux,Xd,XY⟩:=r1.A' hx;let⟨uy,Xe,XZ⟩:=r2.A' hy;refine z6m D s1 s2 s3 s4 s5 p1 p2 (x:=ux) (y:=uy) (by simpa using Xd) (by simpa using Xe) λh1 z1 o1 i1 j1 t1 n1 k1=>⟨_,rfl,?_⟩
  refine wpAny_letOwnedTupleGo_zip z1 λh2 z2 b2=>?_
  have b2:g6.ZY z h1 h2:=b2;have FL:z<s.bj.g0.d3:=g6.yu s1;have lh:H s.bj.g0.d3=none:=Iv.aJ.yI (w0f _);have t2:Yx h2 s.bj.g0.d3 ux uy:=(b2.2 _ (w2s FL)).lb t1;have I1:Yx h1 I (.dI i) (.dI j):=k1 I _ D.Iz D.IO D.Ii D.Ij s2;refine⟨.dI s.bj.g0.d3,ny H s.bj.g0.d3 (.gw [x,y]),?_,rfl,⟨_,x,y,rfl,lh,λxs' h'=>by rw[Ta Iv h' q1];exact hx,λys' h'=>by rw[Ta Iv h' q2];exact hy,rfl⟩,⟨z2,(b2.2 _ D.Iz).lb I1,⟨ux,uy,(b2.2 _ D.Oz).lb o1⟩,i1.xJ λo e=>(b2.2 _ D.iz).lb e,j1.xJ λo e=>(b2.2 _ D.jz).lb e⟩,λc hc=>?_⟩
  .show L2.j3 X d0 σ _ {s with bj:=h2,rJ:=s.rJ};refine J_ (fp:=[z,I,O,i,j]) Iv (λc o hc q=>?_) hf (w0f _) ⟨?_,[ux,uy],.p9 XY (.p9 XZ .ro),⟨_,t2,rfl,?_⟩,⟨_,t2,rfl⟩⟩
   .simp only[w0h,w1g,YX,Đ]at hc;exact(b2.2 c hc.1).lb (k1 c o hc.1 hc.2.2.1 hc.2.2.2.1 hc.2.2.2.2 q)
   .rw[FY];simp
   .exact⟨_,rfl⟩
  .have:c≠s.bj.g0.d3:=by
    obtain⟨o,q,_⟩:∃o,s.bj.iT c=ai o/\ku:=by
     simp only[w0h,w1g,YX]at hc;rcases hc with rfl|rfl|rfl|rfl|rfl
     .exact⟨_,s1,trivial⟩
     .exact⟨_,s2,trivial⟩
     .exact⟨_,s3,trivial⟩
     .let⟨o,e,_⟩:=s4.Up;exact⟨o,e,trivial⟩
     .let⟨o,e,_⟩:=s5.Up;exact⟨o,e,trivial⟩
    exact w0p (g6.yu q)
   rw[aR this];exact(hf c hc).1
 done:=by
  intro X hP hw hK hc k d0 s σ H E Iv hf st hg;subst hP hw hK;let⟨s1,s2,⟨p,q,s3⟩,s4,s5⟩:=st;let⟨xs,ys,q1,q2,wR⟩:=hg;let⟨NF,r1,p1⟩:=zR Iv q1;let⟨NG,r2,p2⟩:=zR Iv q2;have l1:=r1.aO;have l2:=r2.aO;refine z6n (Iv.ok.hd hc) D s1 s2 s3 s4 s5 p1 p2 (by rcases wR with h|h;left;simp;omega;right;simp;omega) λh' k1=>⟨rfl,?_⟩
  have qe:∀c∈[z,I,O,i,j],eO X d0 H c:=hf;refine zby (fp:=[z,I,O,i,j]) (t':=s.rJ) Iv (λc o hc q=>?_) qe
  simp only[w0h,w1g,YX,Đ]at hc;exact k1 c o hc.1 hc.2.2.1 hc.2.2.2.1 hc.2.2.2.2 q
 self:=λ_ _ _ _ _ ⟨s1,_⟩ h=>zes s1 h
theorem y6p(n a b:aT)(ha:a<n)(hb:b<n):Ξ (n+4) (n+2) (n+3) n (n+1) a b where
 Iz:=by grind
 Oz:=by grind
 iz:=by grind
 jz:=by grind
 IO:=by grind
 Ii:=by grind
 Ij:=by grind
 Oi:=by grind
 Oj:=by grind
 ij:=by grind
 az:=by grind
 zb1:=by grind
 zb3:=by grind
 zb4:=by grind
 bz:=by grind
 bO:=by grind
 bi:=by grind
 zb':=by grind
section
variable{a1 a2:oP}{pt:vd}
def Hw(K:Fg)(ta:TA):TI:=λσ H R=>ta σ H λvs H1=>∃t u a b,vs=[.dI a,.dI b]/\(∃xs,mZ K t H1 a xs)/\(∃ys,mZ K u H1 b ys)/\R (FX K t u a b) H1
def UU{ta:TA}{p:vd}(hg:Gl X "zip")(hm:X.mg "zip"=none)(ha:PA X [a1,a2] ta)(hs:gu (oj [a1,a2] X.dt=[(false,eval a1 X.dt),(false,eval a2 X.dt)]) jJ)(ja:gu (oj [a2] X.dt=[(false,eval a2 X.dt)]) jJ):
  PI X (.Yi Z5 kt pt) (.wu (.mU "zip" p) [a1,a2] [] ia) (Hw X.K ta):=by
 intro d0 s σ H R I h;refine Ku.M4.ø (rY I hg hm Ku.M4.boot_zip (Ku.M4.Ϛ (bC (ha ia d0 s σ H _ I h) λus s1 ⟨vs,H1,I1,r1,q1⟩=>?_) (by rw[hs,ja]) (by rw[ja];rfl)))
 let⟨t,u,a,b,e,⟨xs,hx⟩,⟨ys,hy⟩,q⟩:=q1;subst e;cases r1 with
 |p9 r rr=>
  cases rr with
  |p9 r' rr=>
   cases rr;cases r;cases r';let⟨NF,v1,p1⟩:=zR I1 hx;let⟨NG,v2,p2⟩:=zR I1 hy;let⟨oa,ea,_⟩:=p1.Up;let⟨ob,eb,_⟩:=p2.Up;have la:=g6.yu ea;have zfB:=g6.yu eb;refine y6n p1 p2 λh' z1 i1 o1 k1 k2 up=>?_
   refine zes z1 ?_
   have D:Ξ (s1.bj.g0.d3+4) (s1.bj.g0.d3+2) (s1.bj.g0.d3+3) s1.bj.g0.d3 (s1.bj.g0.d3+1) a b:=by
    grind [y6p]
   refine⟨s1.bj.g0.d3+4,[s1.bj.g0.d3+4,s1.bj.g0.d3+2,s1.bj.g0.d3+3,s1.bj.g0.d3,s1.bj.g0.d3+1],_,_,H1,rfl,I1.XE (t':=s1.rJ) up,z01 t u a b _ _ _ _ _ D,⟨z1,i1,⟨_,_,o1⟩,k1,k2⟩,λc hc=>?_,q⟩
   simp only[w0h,w1g,YX]at hc;rcases hc with rfl|rfl|rfl|rfl|rfl<;>exact I1.jI (by omega) (I1.aJ.yI (by omega))
def lQ(dA:j' (aj W)):j' (aj (W×W)):=λe=>(dA e).qK λws e1=>match ws with
 |[x,y]=>match eG x,eG y with
  |ai us,ai vs=>.ok (us.wt vs) e1
  |_,_=>.no
 |_=>.no
def RP(h:eG w=ai us)(p:pW K G w v):∃t a xs,v=.dI a/\mZ K t G a xs/\aq K G us xs:=by
 cases w with
 |gw l=>
  cases h;let⟨a,xs,rfl,hq,rp⟩:=p;exact⟨true,a,xs,rfl,hq,rp⟩
 |dS l=>
  cases h;let⟨a,xs,rfl,hq,rp⟩:=p;exact⟨false,a,xs,rfl,hq,rp⟩
 |_=>cases h
def oV(s:ar G H)(h:mZ K t G a xs):mZ K t H a xs:=by
 cases t with
 |true=>exact s.gw h
 |false=>exact s.ot h
def y6q(r1:aq K G1 us xs)(r2:aq K G1 vs ys)(h1:mZ K t G1 a xs)(h2:mZ K u G1 b ys):jx K G1 (FX K t u a b) (us.wt vs):=by
 have l1:=r1.aO;have l2:=r2.aO;have lz:(us.wt vs).aO=min us.aO vs.aO:=w2t ..;refine⟨λi G H s s' h=>⟨xs,ys,xs[i]'(by omega),ys[i]'(by omega),oV s' (oV s h1),oV s' (oV s h2),by simp,by simp⟩,λi G H x H' s s' hy p q h=>?_,λi G H s s' h=>⟨xs,ys,oV s' (oV s h1),oV s' (oV s h2),by omega⟩⟩
 let⟨c,x1,y1,rfl,hn,Bc,tu,rfl⟩:=hy;let⟨hu,hv⟩:=w4o.mp h;let⟨w1,Nv,XJ⟩:=r1.iM (Bc xs (oV s' (oV s h1)));let⟨w2,Nw,XM⟩:=r2.iM (tu ys (oV s' (oV s h2)));rw[hu]at Nv;rw[hv]at Nw;cases Nv;cases Nw;exact⟨aN.nL s' hn _,λm n σ Q hQ=>⟨c,[x1,y1],rfl,cH.of bQ,rfl,x1,[y1],rfl,y1,[],rfl,rfl,hQ _ _ (pW.mV s _ XJ) (pW.mV s _ XM)⟩⟩
def Q2y{p:vd}(hm:X.mg "zip"=none)(ha:DA Z X EE [a1,a2] dA)(hg:gu (Gl X "zip") jJ)(hs:gu (oj [a1,a2] X.dt=[(false,eval a1 X.dt),(false,eval a2 X.dt)]) jJ)(ja:gu (oj [a2] X.dt=[(false,eval a2 X.dt)]) jJ):
  DI Z X EE (.Yi Z5 kt pt) (.wu (.mU "zip" p) [a1,a2] [] ia) (lQ dA):=by
 refine PI.mV (UU hg hm ha hs ja) ?_;rintro σ H RR ⟨G,e,mT,h⟩;simp only[lQ,R.au]at h;refine⟨G,e,mT,h.uX (λws e1 h G1 vs H1 r1 s1 p1=>?_) λ_ _ h=>h⟩
 split at h
 .rename_i w1 w2;split at h
  .rename_i us ws hu hw;let⟨y1,r,rfl,q1,y2,r',rfl,q2,q3⟩:=p1;cases(show r'=[]from q3);let⟨t,a,xs,rfl,hx,rx⟩:=RP hu q1;let⟨u,b,ys,rfl,hy,ry⟩:=RP hw q2;exact⟨t,u,a,b,rfl,⟨xs,oV r1.pA hx⟩,⟨ys,oV r1.pA hy⟩,h _ _ _ r1 s1 (y6q rx ry hx hy)⟩
  .exact h.nU
 .exact h.nU
end
def mP(e:aj S):aj W->R (aj (W×W))
 |[x,y]=>match eG x,eG y with
  |ai us,ai vs=>.ok (us.wt vs) e
  |_,_=>.no
 |_=>.no
def Q2z:lQ dA e=(dA e).qK λws e1=>mP e1 ws:=by
 unfold lQ;congr 1
theorem z02:mP e [.gw us,.gw vs]=.ok (us.wt vs) e:=rfl
theorem z03:mP e [.dS us,.dS vs]=.ok (us.wt vs) e:=rfl
theorem z04:mP e [.gw us,.dS vs]=.ok (us.wt vs) e:=rfl
theorem z05:mP e [.dS us,.gw vs]=.ok (us.wt vs) e:=rfl
theorem RQ:∀ns:aj dr,d5 (ns.a7 .a6)=ai ns
 |[]=>rfl
 |n::ns=>by rw[w0n];show(d5 (ns.a7 .a6)).a7 (n::·)=_;rw[RQ ns];rfl
def gG:S->S
 |.ke _ ws=>.fr (.dS ws)
 |.aZ kvs=>.fr (.aZ kvs)
 |.gP us ws vs=>.fr (.gw (us++.dS ws::vs))
 |.x (.fz w)=>.fr w
 |.dw sh ks ws=>.fr (.dw false sh ks ws)
 |s=>s
def dZ(e:aj S):aj S:=e.a7 gG
def eh(e:aj S):R W->R W
 |.ok w _=>if aV w=true then .ok w e else .no
 |.ex c _=>.ex c e
 |.no=>.no
def bE(d:j' W):j' W:=λe=>eh e (d (dZ e))
def ei(e:aj S):R ie->R ie
 |.ok b _=>.ok b e
 |.ex c _=>.ex c e
 |.no=>.no
def a_(d:j' ie):j' ie:=λe=>ei e (d (dZ e))
def ph.hide(r:ph K Z G σ H e):ph K ⟨H,H,[]⟩ H σ H (dZ e):=by
 have g:∀(i:aT)(s:S),(dZ e)[i]?=ai s->∃s0,e[i]?=ai s0/\s=gG s0:=λi s h=>by
  unfold dZ at h;rw[w0t]at h;let⟨s0,h1,h2⟩:=w0i.mp h;exact⟨s0,h1,h2.symm⟩
 refine⟨.tT _,λi s h=>?_,by unfold dZ;rw[w0a];exact r.uz,λi j b b' ws ws' a h1 _ _ _=>?_,λa o h _=>h,(λa h=>nomatch h),λa _=>rfl⟩
 .let⟨s0,h0,rfl⟩:=g i s h;have q:=r.xP i s0 h0;cases s0 with
  |no=>trivial
  |fr w=>
   let⟨u,q1,q2⟩:=q;exact⟨u,q1,pW.mV r.pA w q2⟩
  |ke b ws=>
   let⟨a,xs,q1,q2,q3,q4,q5⟩:=q;exact⟨.dI a,q1,a,xs,rfl,bI.of q2,aq.mV r.pA ws q5⟩
  |aZ kvs=>
   let⟨a,q1,q2,_⟩:=q;exact⟨.dI a,q1,a,rfl,q2⟩
  |gP us ws vs=>
   let⟨t,l,o,xs,ys,zs,q1,q2,q3,_,_,q6,q7,q8⟩:=q;exact⟨.dI t,q1,t,_,rfl,cH.of (r.pA _ _ q2),(aq.mV r.pA us q6).Xy ⟨.dI l,zs,rfl,⟨l,ys,rfl,.j9 (.mW ⟨o,q3⟩),aq.mV r.pA ws q7⟩,aq.mV r.pA vs q8⟩⟩
  |x k=>
   cases k with
   |fz w=>let⟨u,as,q1,_,q3⟩:=q;exact⟨u,q1,eB.yM r.pA (λl o ys z=>z.1) w q3⟩
  |dw sh ks ws=>
   let⟨a,kvs,bD,q1,q2,_,_,q5,q6,q7⟩:=q;exact⟨.dI a,q1,a,kvs,bD,rfl,q2,q5,q6.mV r.pA,aq.mV r.pA ws q7.pT⟩
 .let⟨s0,_,h2⟩:=g i _ h1;cases s0 with
  |x k=>cases k<;>cases h2
  |_=>cases h2
def ph.Ò(r:ph K Z G σ H e)(r2:ph K ⟨H,H,[]⟩ G2 σ H2 e2):ph K Z G σ H2 e:=by
 have hh:ar H H2:=λa o h=>r2.YC a o h (λz=>nomatch z)
 exact r.yJ ⟨hh,.tT _,λa o h=>hh a o (r.pA a o h),λ_ _=>rfl⟩
def z06(h:aV w=true)(p:pW K G w v):pW K G' w v:=by
 cases w with
 |aC=>exact p
 |bl b=>exact p
 |a6 b=>exact p
 |str b=>exact p
 |_=>cases h
def y6r{e:lU.oP}(he:∀Z',DE Z' X EE e d):DE Z X EE e (bE d):=by
 intro d0 s σ H Q I hq;let⟨G,e0,mT,h⟩:=hq;refine he ⟨H,H,[]⟩ d0 s σ H Q I ⟨H,dZ e0,mT.hide,?_⟩;unfold bE eh at h;cases q:d (dZ e0)with
 |ok w e2=>
  rw[q]at h;dsimp only at h;split at h
  .rename_i hs;intro G2 v H2 r2 s2 p;exact h G v H2 (mT.Ò r2) (.tT _) (z06 hs p)
  .exact h.nU
 |ex k e2=>
  rw[q]at h;intro G2 H2 r2 s2;exact h G H2 (mT.Ò r2) (.tT _)
 |no=>rw[q]at h;exact h.nU
def y6s{e:lU.oP}(he:∀Z',DT Z' X EE e c):DT Z X EE e (a_ c):=by
 intro d0 s σ H Q I hq;let⟨G,e0,mT,h⟩:=hq;refine he ⟨H,H,[]⟩ d0 s σ H Q I ⟨H,dZ e0,mT.hide,?_⟩;unfold a_ ei at h;cases q:c (dZ e0)with
 |ok w e2=>
  rw[q]at h;intro G2 H2 r2 s2;exact h G H2 (mT.Ò r2) (.tT _)
 |ex k e2=>
  rw[q]at h;intro G2 H2 r2 s2;exact h G H2 (mT.Ò r2) (.tT _)
 |no=>rw[q]at h;exact h.nU
section
variable [É p]
theorem y6t:bE d e=eh e (d (dZ e)):=rfl
theorem y3l{d:j' ie}:a_ d e=ei e (d (dZ e)):=rfl
theorem y6u:eh e (.ok w e')=if aV w=true then .ok w e else .no:=rfl
theorem y6v:eh e (.ex v e')=.ex v e:=rfl
theorem y3m:ei e (.ok k e')=.ok k e:=rfl
theorem y3n:ei e (.ex v e')=.ex v e:=rfl
def y3o:eh e (if p then x else y)=if p then eh e x else eh e y:=by split<;>rfl
def x91:ei e (if p then x else y)=if p then ei e x else ei e y:=by split<;>rfl
theorem z07:dZ []=[]:=rfl
theorem y6w{s:D.S}:dZ (s::e)=gG s::dZ e:=rfl
theorem z08:gG (.ke b ws)=.fr (.dS ws):=rfl
theorem z6o:gG (.fr w)=.fr w:=rfl
theorem z6p:gG .no=.no:=rfl
end
end D
namespace L2
open PySem PySem.Spec PyProof.Rows
structure zfh(qp:aj MO)(H H':Hp)(h h':g6)(e:f')(l_:eT)(B:g6):Prop where
 fi:B.StaysIn h'
 M_:B.iT e=none
 ff:h'.ύ B qp
 tr:∃a0 fl,h'.TracedAtW B e l_ a0 fl
 yF:∀b o,h.iT b=ai o->H b=none->b∉fu qp->B.iT b=ai o
 oo:∀b u o,H' b=ai u->h'.iT b=ai o->B.iT b=ai o
 rM:∀b o,h.iT b=ai o->b∈fu qp\/∃o',B.iT b=ai o'
 xM:h.iT e=none
end L2
namespace D
open PySem L2
def kz(c:j' ie)(d:j' W)(pe:aj S):aj W->fy (eT ⊕ aj W)
 |[]=>ai (.mW [])
 |w::ws=>match c (.fr w::pe)with
  |.ok true e1=>match d e1 with
   |.ok y _=>(kz c d pe ws).a7 (Y8.a7 id (y::·))
   |.ex k _=>ai (.j9 k)
   |.no=>none
  |.ok false _=>kz c d pe ws
  |.ex k _=>ai (.j9 k)
  |.no=>none
def kY(e:aj S):fy (eT ⊕ aj W)->R (aj W)
 |ai (.mW uZ)=>.ok uZ e
 |ai (.j9 k)=>.ex k e
 |none=>.no
def nr(js:aj aT)(c:j' ie)(d:j' W)(ws:aj W)(e1:aj S):R (aj W):=
 if ws.aO<=16777216 then kY (aY js e1) (kz c d (gf js (aY js e1)) ws)else .no
theorem z09:nr js cc d ws e=if ws.aO<=16777216 then kY (aY js e) (kz cc d (gf js (aY js e)) ws)else .no:=rfl
theorem y6x:kY e (ai (.mW uZ))=.ok uZ e:=rfl
theorem y6y:kY e (ai (.j9 k))=.ex k e:=rfl
section
variable{X:Cx}{Z:Zt}{EE:L2.St->XK}{yO xA a b:oP}{yK:aj oP}{gs sc:zb}{ia pt:vd}{x:fv}{Nf N:aj fv}{js:aj aT}{di:j' W}{dA:j' (aj W)}{c:j' ie}{d:j' W}
def Q20(h:(nr js c d ws e1).Uj P Ex):ws.aO<=16777216/\∃uZ,kz c d (gf js (aY js e1)) ws=ai uZ/\Y8.nU (λk=>Ex k (aY js e1)) (λo=>P o (aY js e1)) uZ:=by
 unfold nr at h;split at h
 .rename_i hl;cases ho:kz c d (gf js (aY js e1)) ws with
  |none=>rw[ho]at h;exact h.nU
  |ai uZ=>rw[ho]at h;exact⟨hl,uZ,rfl,by cases uZ<;>exact h⟩
 .exact h.nU
end
end D
namespace L2
open PySem PySem.Spec PyProof.Rows
variable{A:FZ}{jf:wW}{s:oi}{E:eT->oi->Prop}{w:uG}
def F4(t:SetTable):Prop:=t.place.vr.Y7 (·<·)/\t.dummies=#[]
def KN:eT->dr
 |.a6 n _=>n
 |_=>0
structure ze2(jf:wW)(w:uG)(es:yw (dr×eT))(t:SetTable)(S:aj dr):Prop where
 el:ElemsOf (intKind jf w) es.vr
 sz:es.d3<scanBound
 fit:t.Z6 es.d3=true
 rise:F4 t
 led:t.led=!w.ua.followText "set-order"
 Κ:∀e∈es.vr,∃n k,e.2=eT.a6 n k
 perm:(es.vr.a7 λe=>KN e.2).Zk S
def sy(S:aj dr)(k:dr):aj dr:=if k∈S then S else S++[k]
theorem fL:∀(ns S:aj dr),(ns.yW sy S).aO<=S.aO+ns.aO
 |[],S=>by simp
 |n::ns,S=>by
  have:=fL ns (sy S n)
  grind [sy]
namespace SI
def ke:Manifest.owners.hW (Yk.ofList ['r','o','t','a','r','e','t','i','_','t','e','s'].V3)=ai Manifest.sig_set_iterator:=by kernel_rfl
theorem next:Slot "set_iterator" "__next__" "set_iterator.__next__":=.of (owner:="set_iterator") (n:="__next__") (by rw[ĩ,Ā];kernel_rfl) (by decide +kernel) (by decide +kernel) (by decide +kernel) (by first|exact .j9 (by decide +kernel)|exact .mW (by decide +kernel)) (by rw[ŗ];kernel_rfl)
theorem xA:Slot "set_iterator" "__iter__" "set_iterator.__iter__":=.of (owner:="set_iterator") (n:="__iter__") (by rw[ĩ,Ā];kernel_rfl) (by decide +kernel) (by decide +kernel) (by decide +kernel) (by first|exact .j9 (by decide +kernel)|exact .mW (by decide +kernel)) (by rw[ŗ];kernel_rfl)
end SI
open PySem PySem.Spec PyProof.Rows
end L2
namespace D
open PySem L2
section
variable(l:f')(p7:yw eT)(n:aT)(k:dr)(u:_Z)(dd:fy f')(sl:yw (fy eT))
theorem z1a(h1:¬(k < -(2^63)||k>=2^63)=true)(h2:¬(p7.Dl||k==1)=true)(h3:¬(k<=0||p7.Dl)=true)(h4:¬p7.d3*k>(2^63-1) / 8)(h5:¬uu.Yi.zdX (p7.d3*k)=true)(h6:(aj.yW (λx1 x2=>x1++x2) #[] (aj.w4 k.sG p7)).d3<=u0):
  _q (uu.«tuple.__mul__» ⟨[.dI l,.a6 k u],[]⟩) (λ_ R s=>s.bj.iT l=ai {l_:=.je "tuple", x8:=dd,n9:=.ot p7 n,Yb:=sl}/\R (.ok (.zW (eT.dI s.bj.g0.d3))) {s with bj:=s.bj.tB {l_:=eT.je "tuple", n9:=_D.ot (aj.yW (λx1 x2=>x1++x2) #[] (aj.w4 k.sG p7))}}):=
 ._z λjf w A R s h=>by
  let⟨hp,g,d,tk,os⟩:=s;let⟨hl,h⟩:=h
  wp_walk
  refine ô (λz=>uv z h1) λ_=>?_
  wp_walk
  refine ô (λz=>uv z h4) λ_=>?_
  wp_walk
  exact⟨_,rfl,h⟩
theorem z1b(h1:¬(k < -(2^63)||k>=2^63)=true)(h2:¬(p7.Dl||k==1)=true)(h3:(k<=0||p7.Dl)=true):
  _q (uu.«tuple.__mul__» ⟨[.dI l,.a6 k u],[]⟩) (λ_ R s=>s.bj.iT l=ai {l_:=.je "tuple", x8:=dd,n9:=.ot p7 n,Yb:=sl}/\R (.ok (.zW (eT.dI s.bj.g0.d3))) {s with bj:=s.bj.tB {l_:=eT.je "tuple", n9:=_D.ot #[]}}):=
 ._z λjf w A R s h=>by
  let⟨hp,g,d,tk,os⟩:=s;let⟨hl,h⟩:=h
  wp_walk
  refine ô (λz=>uv z h1) λ_=>?_
  wp_walk
  exact⟨_,rfl,h⟩
theorem z1c(h1:¬(k < -(2^63)||k>=2^63)=true)(h2:(p7.Dl||k==1)=true):
  _q (uu.«tuple.__mul__» ⟨[.dI l,.a6 k u],[]⟩) (λ_ R s=>s.bj.iT l=ai {l_:=.je "tuple", x8:=dd,n9:=.ot p7 n,Yb:=sl}/\R (.ok (.zW (eT.dI l))) s):=
 ._z λjf w A R s h=>by
  let⟨hp,g,d,tk,os⟩:=s;let⟨hl,h⟩:=h
  wp_walk
  refine ô (λz=>uv z h1) λ_=>?_
  wp_walk
  exact⟨_,rfl,h⟩
theorem y6z:_q (uu.«int.__rmul__» ⟨[.a6 k u,.dI l],[]⟩) (λ_ R s=>s.bj.iT l=ai {l_:=.je "tuple", x8:=dd,n9:=.ot p7 n,Yb:=sl}/\R (.ok (.zW eT.zdd)) s):=
 ._z λjf w A R s h=>by let⟨hp,g,d,tk,os⟩:=s;let⟨hl,h⟩:=h;wp_walk;exact⟨_,rfl,h⟩
end
variable{X:Cx}{dA:j' (aj W)}{e:oP}{p:vd}{Z:Zt}
theorem y3p:fillsNumberSlot (.je "tuple") "mul"=uV false:=
 fillsNumberSlot_seq (id:="tuple.__mul__") (r:=ai (.wO "tuple.__rmul__")) lU.F.ê.hW (by decide +kernel) lU.F.zdN.hW (by decide +kernel)
def y3q:seqRepeat? (.je "tuple")=uV (ai (.wO "tuple.__mul__")):=by
 unfold seqRepeat?;rw[seqSlot_of (T:="tuple") (name:="__mul__") (id:="tuple.__mul__") lU.F.ê.hW (by decide +kernel),seqSlot_of (T:="tuple") (name:="__rmul__") (id:="tuple.__rmul__") lU.F.zdN.hW (by decide +kernel)];rfl
def wc(K:Fg):R2:=λx y H Q=>∃l k xs,x=.dI l/\y=.a6 k/\cH K H l xs/\xs≠[]/\-(2^63)<=k/\k<2^63/\xs.aO*k.sG<=u0 /\
 (k=1->Q (.dI l) H)/\(k≠1->∀p,H p=none->Q (.dI p) (ny H p (.gw (aj.w4 k.sG xs).Yo)))
def Pb(av:aj eT)(m:aT):aj.yW (λx1 x2=>x1++x2) #[] (aj.w4 m av.lS)=(aj.w4 m av).Yo.lS:=by
 have:=JR av m [];rw[w3k]at this;exact this
def z6q:fF X (Zr .Υ) (wc X.K):=by
 intro d0 s σ H x y v u Q I rx ry h;let⟨l,k,xs,rfl,rfl,hH,gH,h1,h2,hz,q1,q2⟩:=h;cases rx;let⟨t,rfl⟩:=ry;let⟨av,r,p1,_⟩:=I.Uo hH;let⟨⟨l_,dd,n9,sl⟩,ho,hc,n,hd⟩:=id p1;simp only at hc hd;subst hc hd;have hl:=r.aO;have qV:¬(k < -(2^63)||k>=2^63)=true:=by simp;omega
 have zfp:av.lS.Dl=false:=by
  grind
 have Zg:∀{Q':eT->oi->Prop},(oh (p5 X.jf X.w) X.A (yG (.wO "tuple.__mul__") [.dI l,.a6 k t]) Q' X.xe s)->oh (p5 X.jf X.w) X.A (Zr .Υ (.dI l) (.a6 k t)) Q' X.xe s:=λ{Q'} hq=>by
  refine zej (T:="tuple") (U:="int") (by decide) ⟨_,ho,rfl⟩ (λs'=>î s' k t) y3p lU.F.zcw lU.F.ę y3q lU.F.zdJ.hW
   (lU._L lU.F.ę (î s k t) lU.F.zcn (lU.F.zb5 _ _) (y6z l av.lS n k t dd sl) ⟨ho,rfl,⟨_,ho,rfl⟩,hq⟩)
 by_cases qX:k=1
 .subst qX;exact Zg (lU._L lU.F.ê ⟨_,ho,rfl⟩ lU.F.Ŏ (lU.F.Ŀ _ _) (z1c l av.lS n 1 t dd sl qV (by simp)) ⟨ho,.dI l,H,I,rfl,q1 rfl⟩)
 .have Dt:¬(av.lS.Dl||k==1)=true:=by grind
  have fr:=I.aJ.yI (w0f s.bj.g0.d3)
  by_cases y_:k<=0
  .refine Zg (lU._L lU.F.ê ⟨_,ho,rfl⟩ lU.F.Ŏ (lU.F.Ŀ _ _) (z1b l av.lS n k t dd sl qV Dt (by simp[y_])) ⟨ho,?_⟩);have e:k.sG=0:=by omega
   have z:=q2 qX _ fr;rw[e]at z;exact⟨.dI s.bj.g0.d3,_,I.Mk (t':=s.rJ) (λb o e=>g6.w6 _ e) (w0f _) (show aS X.jf X.w _ _ _ (.gw (aj.w4 0 xs).Yo)from⟨w1c _,[],.ro,Ku.M4.ZW.xM _ _,_,g6.Bt _ rfl,rfl⟩),rfl,z⟩
  .have wR:av.aO*k.sG<=u0:=by rw[<- hl];exact hz
   have vv:((av.lS.d3:aT):dr)*k=((av.aO*k.sG:aT):dr):=by
    grind
   have sl8:(u0:dr)<=(2^63-1) / 8:=by decide
   have GF:(aj.w4 k.sG av).Yo.aO=k.sG*av.aO:=Ly ..;refine Zg (lU._L lU.F.ê ⟨_,ho,rfl⟩ lU.F.Ŏ (lU.F.Ŀ _ _) (z1a l av.lS n k t dd sl qV Dt (by grind) (by rw[vv];omega) (by rw[vv];unfold uu.Yi.zdX;grind) (by grind [Pb])) ⟨ho,?_⟩);rw[Pb];exact⟨.dI s.bj.g0.d3,_,I.Mk (t':=s.rJ) (λb o e=>g6.w6 _ e) (w0f _) (show aS X.jf X.w _ _ _ (.gw (aj.w4 k.sG xs).Yo)from⟨by grind [Ly],_,r.yM k.sG,Ku.M4.ZW.xM _ _,_,g6.Bt _ rfl,rfl⟩),rfl,q2 qX _ fr⟩
def sm:W->W->fy W
 |.gw ws,.a6 k=>if qi k=true/\ws≠[]/\ws.aO*k.sG<=16777216 then ai (.gw (aj.w4 k.sG ws).Yo)else none
 |_,_=>none
def z6r:iC K (wc K) sm:=by
 intro G H x y wx wy w Q s px py hf h;unfold sm at hf;split at hf
 .rename_i ws k;split at hf
  .rename_i hc;cases hf;cases(show y=V.a6 k from py);let⟨l,xs,rfl,hq,rp⟩:=px;have hb:=yh hc.1;refine⟨l,k,xs,rfl,rfl,s.gw hq,λz=>hc.2.1 (by subst z;exact w4u.mp rp.aO.symm),by omega,by omega,by rw[FY,rp.aO];exact hc.2.2,λhk=>?_,λhk p hp=>?_⟩
   .subst hk;have e:(aj.w4 (1:dr).sG ws).Yo=ws:=by simp
    rw[e]at h;exact h G _ H (.tT s) ⟨l,xs,rfl,hq,rp⟩
   .have g:aN G H (ny G p (.gw (aj.w4 k.sG xs).Yo)) (ny H p (.gw (aj.w4 k.sG xs).Yo)):=aN.Mk s hp _;exact h _ _ _ g ⟨p,_,rfl,cH.of bQ,aq.mV g.gg _ (EW rp _)⟩
  .cases hf
 .cases hf
theorem z6s{Z:Zt}(ha:DE Z X EE a da)(hb:DE Z X EE b db):DE Z X EE (._m a .Υ b ia) (ao sm da db):=v9 z6q z6r ha hb
def z1d(hc:X.NI=true):c6 X (.wO "any") (λxs H Q=>∃p ys,xs=[.dI p]/\bI X.K H p ys/\(∀y∈ys,∃b,y=.bl b)/\Q (.bl (ys.tZ λy=>decide (y=.bl true))) H):=by
 intro d0 s σ H xs us Q I r h;let⟨p,ys,rfl,hq,hb,q⟩:=h;let⟨u,rfl,rx⟩:=_k r;cases rx;let⟨av,r',pl,hz⟩:=I.xT hq;have hl:=pl.zf;have b8:p<s.bj.g0.d3:=by let⟨_,e,_⟩:=hl;exact g6.yu e
 have hh:X.A.Dh.YV=none:=I.ok.hd hc;refine call_any_walk (Ν hl ⟨s.bj.g0.d3,[s.bj.g0.d3,p],[s.bj.g0.d3],_,_,_,λi=>decide (ys[i]?=ai (.bl true)),rfl,ϕ.xT hh s.bj.g0.d3 p (w0p b8) av.lS,⟨⟨_,g6.Bt _ rfl,rfl,rfl⟩,hl.tB _⟩,?_,λh' tk kp=>?_⟩)
 .intro i v s1 Q1 E1 hv hQ;have rl:av[i]?=ai v:=by simpa using hv
  have hi:i<ys.aO:=by rw[r'.aO];exact(w0c.mp rl).1
  let⟨u,hu,ru⟩:=r'.A' (w0b hi);rw[rl]at hu;cases hu;let⟨b,eb⟩:=hb ys[i] (w1o hi);rw[eb]at ru;cases ru;refine _U ?_
  have e:decide (ys[i]?=ai (V.bl true))=b:=by
   rw[w0b hi,eb];cases b<;>simp
  rw[<- e];exact hQ
 .have e:(aj.u5 av.lS.d3).tZ (λi=>decide (ys[i]?=ai (V.bl true)))=ys.tZ λy=>decide (y=.bl true):=by
   rw[w1r,w2e,w2e];constructor
   .rintro⟨i,hi,z⟩;rw[w0u,w0e,<- r'.aO]at hi;rw[w0b hi]at z;exact⟨ys[i],w1o hi,by simpa using z⟩
   .rintro⟨y,hy,z⟩;let⟨i,hi,rfl⟩:=w3d hy;exact⟨i,by rw[w0u,w0e,<- r'.aO];exact hi,by rw[w0b hi];simpa using z⟩
  refine⟨.bl _,H,I.XE (t':=tk) λb o qU=>kp b o (λz=>?_) (g6.w6 _ qU),rfl,e ▸ q⟩
  rw[w1h]at z;exact uv (g6.yu qU) (by rw[z];exact w1z _)
def nq:aj W->fy W
 |[.dS ws]=>(e_ ws).a7 λbs=>.bl (bs.tZ id)
 |_=>none
def UC{K:Fg}:qB K (λxs H Q=>∃p ys,xs=[.dI p]/\bI K H p ys/\(∀y∈ys,∃b,y=.bl b)/\Q (.bl (ys.tZ λy=>decide (y=.bl true))) H) nq:=by
 intro G H xs ws w Q s pr hf h;unfold nq at hf;split at hf
 .let⟨bs,hb,rfl⟩:=w0i.mp hf;have:=O' hb;subst this;let⟨x,r,rfl,px,pr⟩:=pr;cases(show r=[]from pr);let⟨a,ys,rfl,ha,ra⟩:=px;have:=JO ra;subst this;refine⟨a,_,rfl,s.ot ha,λy hy=>?_,h G _ H (.tT s) ?_⟩
  .let⟨b,_,rfl⟩:=w0r.mp hy;exact⟨b,rfl⟩
  .show V.bl _=V.bl _;congr 1;rw[w5b];congr 1;funext b
   cases b<;>rfl
 .cases hf
section
variable{EE:L2.St->XK}{ia:vd}
theorem Q22(hc:X.NI=true)(hm:X.mg "any"=none)(ha:DA Z X EE [e] dA)(hg:gu (Gl X "any") jJ)(he:gu (oj [e] X.dt=(false,eval e X.dt)::oj [] X.dt) jJ)(dz:gu ((yC ia (oj [] X.dt)).tZ (·.1)=false) jJ):DE Z X EE (.wu (.mU "any" p) [e] [] ia) (bL nq dA):=
 Cm (z1d hc) UC Ku.M4._n.«any» hm ha hg (by decide) (by decide) he dz
end
def VR{bs:aj ie}:nq [.dS (bs.a7 .bl)]=ai (.bl (bs.tZ id)):=by
 show(e_ (bs.a7 .bl)).a7 _=_;rw[J4];rfl
def v_(K:Fg):R2:=λx y H Q=>∃a b ys,x=.dI a/\y=.dI b/\cH K H a []/\cH K H b ys/\Q (.dI b) H
open PyProof.Rows in
def zd0:fF X (Zr .Add) (v_ X.K):=by
 intro d0 s σ H x y v u Q I rx ry h;let⟨a,b,ys,rfl,rfl,ha,hb,q⟩:=h;cases rx;cases ry;let⟨av,r1,p1,_⟩:=I.Uo ha;let⟨fg,r2,p2,_⟩:=I.Uo hb;cases r1;let⟨⟨l_,dd,n9,sl⟩,ho,hc,n,hd⟩:=id p1;let⟨⟨Az,vo,data2,zT⟩,tf,cQ,n2,YK⟩:=id p2;simp only at hc hd cQ YK;subst hc hd cQ YK;exact Ą ⟨_,ho,rfl⟩ ⟨_,tf,rfl⟩ ś ť lU.F.ŧ lU.F.ō (lU.F.ľ _ _) (tuple_addW0 a b _ _ n n2 dd vo sl zT rfl) ⟨ho,tf,.dI b,H,I,rfl,q⟩
def bh:W->W->fy W
 |.gw xs,.gw ys=>if xs.aO+ys.aO<=16777216 then ai (.gw (xs++ys))else none
 |x,y=>ϖ x y
theorem z6t:bh (.gw xs) (.gw ys)=if xs.aO+ys.aO<=16777216 then ai (.gw (xs++ys))else none:=rfl
theorem z6u:bh (.a6 i) (.a6 j)=ai (.a6 (i+j)):=rfl
theorem z6v:bh (.dS xs) (.dS ys)=if xs.aO+ys.aO<=16777216 then ai (.dS (xs++ys))else none:=rfl
theorem z6w:bh (.str x) (.str y)=if x.aO+y.aO<=16777216 then ai (.str (x++y))else none:=rfl
def z6x{K:Fg}:iC K (λx y H Q=>v_ K x y H Q\/(nY (λi j=>.a6 (i+j)) x y H Q\/((∃i j,x=.str i/\y=.str j/\i.aO+j.aO<=u0/\Q (.str (i++j)) H)\/(si K x y H Q\/sf K x y H Q)))) bh:=by
 intro G H x y wx wy w Q s px py hf h;unfold bh at hf;split at hf
 .rename_i xs ys;split at hf
  .rename_i hl
   by_cases h0:xs=[]
   .subst h0;cases hf;let⟨a,vs,rfl,hq,rp⟩:=px;let⟨b,us,rfl,DK,so⟩:=py;cases(show vs=[]from rp);exact .j9 ⟨a,b,us,rfl,rfl,s.gw hq,s.gw DK,h G _ H (.tT s) ⟨b,us,rfl,DK,so⟩⟩
   .exact .mW (S1 G H x y (.gw xs) (.gw ys) w Q s px py (by show(if xs≠[]/\xs.aO+ys.aO<=16777216 then ai (W.gw (xs++ys))else none)=ai w;rw[mS ⟨h0,hl⟩];exact hf) h)
  .cases hf
 .exact .mW (S1 G H x y _ _ w Q s px py hf h)
theorem z6y{Z:Zt}(ha:DE Z X EE a da)(hb:DE Z X EE b db):DE Z X EE (._m a .Add b ia) (ao bh da db):=v9 (zd0.or (zeA.or (zdb.or (zd1.or z40)))) z6x ha hb
def RS{l:aj dr}{i:aT}(h:i<l.aO):l.jd i 0=l[i]:=by
 unfold aj.jd;rw[w0b h];rfl
open PySem L2 PySem.Spec PyProof.Rows
end D
namespace L2
open PySem PySem.Spec PyProof.Rows
section
variable{κ:Type} [ϊ κ]
def fE(kvs:aj (κ×V))(k:κ):fy V:=(kvs.ϳ λkv=>decide (kv.1=k)).a7 (·.2)
def Zl(kvs:aj (κ×V))(k:κ)(v:V):aj (κ×V):=
 if(kvs.tZ λkv=>decide (kv.1=k))=true then kvs.a7 (λkv=>if kv.1=k then(kv.1,v)else kv)else kvs++[(k,v)]
def B6{k:κ}(e:p.1=k):fE (p::r) k=ai p.2:=by simp[fE,w2b,e]
def B7{k:κ}(e:¬p.1=k):fE (p::r) k=fE r k:=by simp[fE,w2b,e]
theorem K'(k):∀kvs:aj (κ×V),(kvs.tZ λkv=>decide (kv.1=k))=(fE kvs k).zi
 |[]=>rfl
 |p::r=>by
  rw[w2w]
  by_cases e:p.1=k
  .simp_all [B6]
  .rw[B7 e,Yu e,ie.false_or];exact K' k r
def O1(kvs)(k:κ)(v):(Zl kvs k v).aO<=kvs.aO+1:=by
 grind [Zl]
def z1e{k:κ}(v)(h:fE kvs k=none):Zl kvs k v=kvs++[(k,v)]:=by
 simp_all [Zl,K']
def kl.gb(r:kl o u):o.zi=u.zi:=by
 cases o with
 |none=>cases u with
  |none=>rfl
  |ai _=>exact(show uH from r).nU
 |ai _=>cases u with
  |none=>exact(show uH from r).nU
  |ai _=>rfl
def KV.vI(r:KV kvs vs)(k:κ):kl (fE kvs k) (ð vs k):=by
 unfold KV at r
 induction r with
 |ro=>exact ku.intro
 | @p9 p q ps qs h t ih=>
  let⟨h1,h2⟩:=h
  by_cases e:p.1=k
  .have e':q.1=k:=h1.symm.lb e;have b:ð (q::qs) k=ai q.2:=by simp[ð,w2b,e']
   rw[B6 e,b];exact h2
  simp_all [ð,B7]
def KV.tZ(r:KV kvs vs)(k:κ):(kvs.tZ λkv=>decide (kv.1=k))=vs.tZ λkv=>decide (kv.1=k):=by
 unfold KV at r
 induction r with
 |ro=>rfl
 |p9 h t ih=>rw[w2w,w2w,ih,h.1]
def KV.yo(r:KV kvs vs)(k:κ)(ry:uc y u):
  KV (kvs.a7 λkv=>if kv.1=k then(kv.1,y)else kv) (vs.a7 λkv=>if kv.1=k then(kv.1,u)else kv):=by
 unfold KV at r |-
 induction r with
 |ro=>exact .ro
 | @p9 p q ps qs h t ih=>
  rw[w0n,w0n];refine .p9 ?_ ih
  grind
def KV.put(r:KV kvs vs)(k:κ)(ry:uc y u):KV (Zl kvs k y) (stored vs k u):=by
 unfold Zl stored;rw[r.tZ k]
 by_cases e:(vs.tZ λkv=>decide (kv.1=k))=true
 .rw[mS e,mS e];exact r.yo k ry
 .rw[sF e,sF e];exact Zj.Z8 r ⟨rfl,ry⟩
theorem KV.aO{kvs:aj (κ×V)}{vs:aj (κ×eT)}(r:KV kvs vs):kvs.aO=vs.aO:=Zj.aO r
end
variable{a b:f'}{H:Hp}{bD:aj f'}{sh:Sh}{σ:St}
def FH{P:wW}{w:uG}{k:Xx}{u:eT}(r:uc (kV k) u):(cZ P w).is k u=true:=by
 cases k with
 |j9 i=>let⟨t,e⟩:=(show ∃t,u=eT.a6 i t from r);subst e;exact za' P w i t
 |mW x=>let⟨t,e⟩:=(show ∃t,u=eT.str x t from r);subst e;exact zba P w x t
abbrev KT(sh:Sh)(H:Hp):aj (Kx×V)->aj (Kx×f'×eT)->Prop:=Zj λp q=>p.1=q.1/\(cF H p.1 (.dI q.2.1)/\fw p.1 sh/\p.1.w8<=7)/\uc p.2 q.2.2
def KT.vI(r:KT sh H kvs xs)(k):kl (fE kvs k) ((Ω xs k).a7 (·.2)):=by
 induction r with
 |ro=>exact ku.intro
 | @p9 p q ps qs h t ih=>
  let⟨h1,_,h2⟩:=h
  by_cases e:p.1=k
  .have e':q.1=k:=h1.symm.lb e;have b:Ω (q::qs) k=ai q.2:=by simp[Ω,w2b,e']
   rw[B6 e,b];exact h2
  simp_all [Ω,B7]
def KT.yo{kvs:aj (Kx×V)}{xs:aj (Kx×f'×eT)}(r:KT sh H kvs xs)(k:Kx){y:V}{u:eT}(ry:uc y u):
  KT sh H (kvs.a7 λkv=>if kv.1=k then(kv.1,y)else kv) (xs.a7 (ē k u)):=by
 induction r with
 |ro=>exact .ro
 | @p9 p q ps qs h t ih=>
  rw[w0n,w0n];refine .p9 ?_ ih;let⟨h1,h2,h3⟩:=h;unfold ē
  by_cases e:p.1=k
  .rw[mS e,mS (h1.symm.lb e)];exact⟨h1,h2,ry⟩
  .rw[sF e,sF (λz=>e (h1.lb z))];exact⟨h1,h2,h3⟩
def KT.put(r:KT sh H kvs xs)(k)(hb:cF H k (.dI b)/\fw k sh/\k.w8<=7)(ry:uc y u):
  KT sh H (Zl kvs k y) (ğ xs k b u):=by
 have e:(kvs.tZ λkv=>decide (kv.1=k))=(Ω xs k).zi:=by
  rw[K',(r.vI k).gb,w3s]
 unfold Zl ğ;rw[e]
 by_cases q:(Ω xs k).zi=true
 .rw[mS q,mS q];exact r.yo k ry
 simp_all [Zj.Z8]
def iY(kvs:aj (Kx×V))(bD:aj f')(k:Kx)(b:f'):aj f':=if(fE kvs k).zi=true then bD else bD++[b]
def KT.iY{kvs:aj (Kx×V)}{xs:aj (Kx×f'×eT)}(r:KT sh H kvs xs)(ka:xs.a7 (·.2.1)=bD)(k:Kx){u:eT}:(ğ xs k b u).a7 (·.2.1)=L2.iY kvs bD k b:=by
 unfold ğ L2.iY;rw[(r.vI k).gb,w3s]
 by_cases q:(Ω xs k).zi=true
 .rw[mS q,mS q,w0z,<- ka];refine w1n λx _=>?_
  show(ē k u x).2.1=x.2.1;unfold ē;split<;>rfl
 .rw[sF q,sF q,w1b,ka];rfl
theorem KT.YE(r:KT sh H kvs xs)(ht:∀b u,eg u->H b=ai u->H' b=ai u):KT sh H' kvs xs:=
 Zj.xO r λ_ _ z=>⟨z.1,⟨cF.YE ht _ z.2.1.1,z.2.1.2⟩,z.2.2⟩
section
variable{P:wW}{w:uG}{h:g6}
theorem T7(ok:dg P w H h)(e:Rd H a u):aS P w H h a u:=e.ok ok
theorem C9(ok:dg P w H h)(e:Rd H a (.dK kvs)):kvs.aO<=u0/\(a==_j)=false/\∃vs,KV kvs vs/\h.ό (cZ P w) a vs:=
 show aS P w H h a (.dK kvs)from T7 ok e
theorem T8(ok:dg P w H h)(e:H a=ai (.dK kvs)):kvs.aO<=u0/\(a==_j)=false/\∃vs,KV kvs vs/\h.ό (cZ P w) a vs:=C9 ok (.j9 e)
def ZW.ot{av:aj eT}(p:ZW h a av.lS):∃o n,h.iT a=ai o/\o.l_=.je "tuple" /\ o.n9=.ot av.lS n:=by
 let⟨o,h1,h2,n,h3⟩:=p;exact⟨o,n,h1,h2,h3⟩
mutual
theorem cF.is(ok:dg P w H h):∀(k:Kx){x:V}{v:Value},cF H k x->RelV x v->pf h k v
 |.aC,x,v,e,r=>by cases(show x=.aC from e);exact r
 |.bl b,x,v,e,r=>by cases(show x=.bl b from e);exact r
 |.int b,x,v,e,r=>by cases(show x=.int b from e);exact r
 |.str b,x,v,e,r=>by cases(show x=.str b from e);exact r
 |.tup ks,x,v,e,r=>by
  let⟨a,xs,rfl,q,rs⟩:=e;cases(show v=Value.ref a from r);let⟨_,av,rv,p,_⟩:=(show aS P w H h a (.tup xs)from Rd.ok q ok);let⟨o,n,h1,h2,h3⟩:=IsTup.seq p;exact⟨a,o,av.toArray,n,rfl,h1,h2,h3,by simpa using fm.are ok ks rs rv⟩
theorem fm.are(ok:dg P w H h):∀(ks:List Kx){xs:List V}{vs:List Value},fm H ks xs->Vals xs vs->g8 h ks vs
 |[],xs,vs,e,r=>by
  cases(show xs=[]from e);cases r;rfl
 |k::ks,xs,vs,e,r=>by
  let⟨x,r0,rfl,h1,h2⟩:=e;cases r with
  |cons q t=>exact⟨_,_,rfl,cF.is ok k h1 q,fm.are ok ks h2 t⟩
end
theorem Fw(ok:dg P w H h)(e:cF H k (.dI a)/\fw k sh/\k.w8<=7):(e5 P w sh).is h k a:=⟨cF.is ok k e.1 rfl,e.2⟩
def C_{kvs:aj (Kx×V)}(ok:dg P w H h)(e:Rd H a (.dT sh kvs bD)):kvs.aO<=u0/\(a==_j)=false /\
  ∃xs,KT sh H kvs xs/\xs.a7 (·.2.1)=bD/\h.DictOfH (e5 P w sh) a xs:=by
 let⟨z,y,xs,r,ka,o,es,ep,h1,h2,h3,h4,h5⟩:=(show aS P w H h a (.dT sh kvs bD)from T7 ok e);refine⟨z,y,xs,r,ka,o,es,ep,h1,h2,h3,h4,λx hx=>?_,h5⟩
 have rM:∀{l:aj (Kx×V)}{m:aj (Kx×f'×eT)},KT sh H l m->∀x∈m,(e5 P w sh).is h x.1 x.2.1:=by
  intro l m q
  induction q with
  |ro=>intro x hx;exact nomatch hx
  | @p9 p q ps qs hq t ih=>
   intro x hx;rcases w0h.mp hx with e|hx
   .subst e;exact Fw ok (by rw[<- hq.1];exact hq.2.1)
   .exact ih x hx
 exact rM r x hx
theorem VS(ok:dg P w H h)(e:H a=ai (.dT sh kvs bD)):kvs.aO<=u0/\(a==_j)=false /\
  ∃xs,KT sh H kvs xs/\xs.a7 (·.2.1)=bD/\h.DictOfH (e5 P w sh) a xs:=C_ ok (.j9 e)
end
def fH(H:Hp)(a:f')(y:V)(r:fy V):Prop:=
 (∃kvs k,Rd H a (.dK kvs)/\y=kV k/\r=fE kvs k)\/∃sh kvs bD k b,Rd H a (.dT sh kvs bD)/\y=.dI b/\(cF H k (.dI b)/\fw k sh/\k.w8<=7)/\r=fE kvs k
def l5(H:Hp)(a:f')(y v:V)(H':Hp):Prop:=
 (∃kvs k,H a=ai (.dK kvs)/\y=kV k/\kvs.aO<u0/\H'=ny H a (.dK (Zl kvs k v))) \/
 ∃sh kvs bD k b,H a=ai (.dT sh kvs bD)/\y=.dI b/\(cF H k (.dI b)/\fw k sh/\k.w8<=7)/\kvs.aO<u0/\H'=ny H a (.dT sh (Zl kvs k v) (iY kvs bD k b))
theorem fH.k{kvs:aj (Xx×V)}{k:Xx}(e:H a=ai (.dK kvs)):fH H a (kV k) (fE kvs k):=.j9 ⟨kvs,k,.j9 e,rfl,rfl⟩
theorem fH.t{kvs:aj (Kx×V)}{k:Kx}(e:Rd H a (.dT sh kvs bD))(eb:cF H k (.dI b)/\fw k sh/\k.w8<=7):fH H a (.dI b) (fE kvs k):=.mW ⟨sh,kvs,bD,k,b,e,rfl,eb,rfl⟩
theorem l5.k{kvs:aj (Xx×V)}{k:Xx}{v:V}(e:H a=ai (.dK kvs))(hl:kvs.aO<u0):l5 H a (kV k) v (ny H a (.dK (Zl kvs k v))):=.j9 ⟨kvs,k,e,rfl,hl,rfl⟩
theorem l5.t{kvs:aj (Kx×V)}{k:Kx}{v:V}(e:H a=ai (.dT sh kvs bD))(eb:cF H k (.dI b)/\fw k sh/\k.w8<=7)(hl:kvs.aO<u0):
  l5 H a (.dI b) v (ny H a (.dT sh (Zl kvs k v) (iY kvs bD k b))):=.mW ⟨sh,kvs,bD,k,b,e,rfl,eb,hl,rfl⟩
def j3.big(I:j3 X d0 σ H s):_j<s.bj.g0.d3:=by
 have h:Yd<s.bj.g0.d3:=(I.WI.Zx.YE I.bk).lt;exact aT.lt_trans (by decide) h
def La{A:FZ}(hu:A.yH+20<yN):(e5 P w sh).room A.Dh:=by
 show A.Dh.yH+8<yN
 grind
def y60(hu:A.yH+20<yN)(I:j3 X d0 σ H s)(g:fH H a y (ai v))(ry:uc y u)(h:∀w' s',j3 X d0 σ H s'->uc v w'->Q w' s'):
  oh (p5 X.jf X.w) A (ρ (.dI a) u) Q E s:=by
 rcases g with⟨kvs,k,e,ey,l⟩|⟨sh,kvs,bD,k,b,e,ey,eb,l⟩
 .subst ey;let⟨z,hd,vs,mT,dd⟩:=C9 I.aJ e;let⟨w',hw,uT⟩:=kl.Ũ (v:=v) (o:=ð vs k) (by rw[l];exact mT.vI k);exact zem (FH ry) dd.mapOf hw (h w' _ (I.Yg _) uT)
 .subst ey;cases(show u=eT.dI b from ry);let⟨z,hd,xs,mT,_,dd⟩:=C_ I.aJ e;let⟨w',hw,uT⟩:=kl.Ũ (v:=v) (o:=(Ω xs k).a7 (·.2)) (by rw[l];exact mT.vI k);let⟨p,hp,vz⟩:=w0i.mp hw;refine wpAny_getItem_heap (La hu) (Fw I.aJ eb) dd hp ?_;rw[vz];exact h w' _ (I.Yg _) uT
def z6z(hu:A.yH+20<yN)(I:j3 X d0 σ H s)(g:fH H a y o)(ry:uc y u)(h:∀s',j3 X d0 σ H s'->Q (.xv (!o.zi)) s'):
  oh (p5 X.jf X.w) A (Zs .ZX u (.dI a)) Q E s:=by
 rcases g with⟨kvs,k,e,ey,l⟩|⟨sh,kvs,bD,k,b,e,ey,eb,l⟩
 .subst ey;let⟨z,hd,vs,mT,dd⟩:=C9 I.aJ e;refine wpAny_notIn_of (FH ry) hd dd.mapOf ?_;rw[<- (mT.vI k).gb,<- l];exact h _ (I.Yg _)
 .subst ey;cases(show u=eT.dI b from ry);let⟨z,hd,xs,mT,_,dd⟩:=C_ I.aJ e;refine wpAny_notIn_heap (La hu) (Fw I.aJ eb) hd dd ?_;have q:=(mT.vI k).gb;rw[w3s]at q;rw[<- q,<- l];exact h _ (I.Yg _)
theorem Lr(I:j3 X d0 σ H s)(mu:Am (H a))(hs:g6.ZY a s.bj h')(he:∃q,h'.iT a=ai q)(xM:aS X.jf X.w (ny H a ob) h' a ob):
  j3 X d0 σ (ny H a ob) {s with bj:=h',rJ:=t'}:=
 I.Zc (x:=a) (e:=a) mu (.j9 rfl) (λb q hb z=>(hs.2 b hb).lb z) he xM
theorem S8(z:kvs.aO<=u0)(hd:(a==_j)=false)(mT:KV kvs vs)(dd:h'.ό (cZ P w) a vs):
  aS P w H' h' a (.dK kvs):=⟨z,hd,vs,mT,dd⟩
def y62(hu:A.yH+20<yN)(I:j3 X d0 σ H s)(g:l5 H a y v H')(ry:uc y u)(rv:uc v r)(h:∀s',j3 X d0 σ H' s'->Q () s'):
  oh (p5 X.jf X.w) A (ė (.dI a) u r) Q E s:=by
 rcases g with⟨kvs,k,e,ey,l,eH⟩|⟨sh,kvs,bD,k,b,e,ey,eb,l,eH⟩
 .subst ey eH;let⟨z,hd,vs,mT,dd⟩:=T8 I.aJ e;have hz:vs.aO<=u0:=by grind [KV.aO]
  have hl:(Zl kvs k v).aO<=u0:=by grind [O1]
  refine wpAny_setItem_pairs (hsz:=hz) (FH ry) dd λh' vn hs=>h _ ?_
  have he:∃q,h'.iT a=ai q:=let ⟨q,_,_,hq,_⟩:=vn;⟨q,hq⟩;exact Lr I (by rw[e];exact ku.intro) hs he (S8 hl hd (mT.put k rv) vn)
 .subst ey eH;cases(show u=eT.dI b from ry);let⟨z,hd,xs,mT,ka,dd⟩:=VS I.aJ e;have hz:xs.aO<=u0:=by grind [Zj.aO]
  have hl:(Zl kvs k v).aO<=u0:=by grind [O1]
  refine wpAny_setItem_heap (hsz:=hz) (La hu) (Fw I.aJ eb) dd λh' vn hs=>h _ ?_
  let⟨q,es,ep,hq,h2,h3,h4,_,h5⟩:=vn;refine Lr I (by rw[e];exact ku.intro) hs ⟨q,hq⟩ ⟨hl,hd,_,(mT.put k eb rv).YE λc u ys ec=>?_,mT.iY ka k,q,es,ep,hq,h2,h3,h4,h5⟩
  rw[aR (fG ec e (λz=>by subst z;exact ys))]
  exact ec
def VT{Q:eT->oi->Prop}(I:j3 X d0 σ H s)(e:Rd H a (.dK kvs))(h:∀t s',j3 X d0 σ H s'->Q (.a6 kvs.aO t) s'):oh (p5 X.jf X.w) A (yG (.wO "len") [.dI a]) Q E s:=by
 let⟨z,hd,vs,mT,dd⟩:=C9 I.aJ e;refine call_len_dict hd dd (by rw[<- mT.aO];rw[FY]at z;omega) ?_;rw[<- mT.aO];exact h _ _ (I.Yg _)
def tS(i:oP):Prop:=∀ov iv,ģ i false ov iv=ş [ov,iv] (ρ ov iv)
def z60{id:Yk}
  (hl:Ĩ (.je T) "__getitem__"=uV (ai (.wO id)))(hs:tS ZT)
  (h:oh (p5 jf w) A (eval Zm dt) (λo aH=>oh (p5 jf w) A (eval ZT dt) (λi mR=>mR._G o T/\oh (p5 jf w) A (ρ o i) Q E mR) E aH) E s):
  oh (p5 jf w) A (eval (.Yl Zm ZT ia) dt) Q E s:=by
 refine Ļ (YQ h (λo aH dG=>YQ dG (λi mR xx=>?_) λ_ _ x=>x) λ_ _ x=>x)
 let⟨hT,xx⟩:=xx;unfold ū;refine lT ?_;rw[getitemInPython_of_ne hT.not_modules];refine lT (İ hT hl ?_)
 have xg:oh (p5 jf w) A (ģ ZT false o i) (λr CK=>oh (p5 jf w) A (letTemporaryGo Zm o r >>= λ_=>uV r) Q E CK) E mR:=by
  rw[hs o i];exact wpAny_operating (YQ xx (λr CK Hv=>lT (wpAny_letTemporaryGo (t8 Hv))) λ_ _ x=>x)
 grind [t8,lT]
def zbz(I:j3 X d0 σ H s)(g:fH H a y o):s._G (.dI a) "dict":=by
 rcases g with⟨kvs,k,e,_,_⟩|⟨sh,kvs,bD,k,b,e,_,_,_⟩
 .let⟨_,_,vs,_,dd⟩:=C9 I.aJ e;exact dd.Zh
 .let⟨_,_,xs,_,_,dd⟩:=C_ I.aJ e;exact dd.Zh
def CN(td ty:TE):TE:=λσ H Q=>td σ H λx H1=>ty σ H1 λy H2=>∃a v,x=.dI a/\fH H2 a y (ai v)/\Q v H2
def zd3(ty td:TE):TE:=λσ H Q=>ty σ H λy H1=>td σ H1 λx H2=>∃a o,x=.dI a/\fH H2 a y o/\Q (.bl (!o.zi)) H2
def CG(td ty tv:TE):TS:=λD σ H=>tv σ H λv H1=>td σ H1 λx H2=>ty σ H2 λy H3=>∃a H4,x=.dI a/\l5 H3 a y v H4/\D.nx σ H4
def RT(hu:X.A.yH+20<yN)(ho:PE X o td)(hi:PE X i ty)(hs:tS i):PE X (.Yl o i ia) (CN td ty):=by
 intro d0 s σ H Q I h;refine z60 lU.F.zdH.hW hs (bC (ho d0 s σ H _ I h) λu s1 ⟨x,H1,I1,rx,q1⟩=>bC (hi d0 s1 σ H1 _ I1 q1) λiv s2 ⟨y,H2,I2,ry,a,v,ex,g,q2⟩=>?_)
 subst ex;obtain rfl:u=eT.dI a:=rx;exact⟨zbz I2 g,y60 hu I2 g ry λw' s3 I3 uT=>⟨v,H2,I3,uT,q2⟩⟩
def Qc(hu:X.A.yH+20<yN)(hi:PE X i ty)(ho:PE X o td):PC X .ZX i o (zd3 ty td):=by
 intro d0 s σ H Q I h;refine bC (hi d0 s σ H _ I h) λiv s1 ⟨y,H1,I1,ry,q1⟩=>bC (ho d0 s1 σ H1 _ I1 q1) λu s2 ⟨x,H2,I2,rx,a,ov,ex,g,q2⟩=>?_
 subst ex;obtain rfl:u=eT.dI a:=rx;exact z6z hu I2 g ry λs3 I3=>⟨.bl (!ov.zi),H2,I3,rfl,q2⟩
def RU(hu:X.A.yH+20<yN)(ho:PE X o td)(hi:PE X i ty)(hv:PE X Zm tv)(hs:Zb Zm (ai (.Yl o i YI)) ia.X9 X.dt=uV false):
  PS X (.Zi [.Yl o i YI] Zm ia) (CG td ty tv):=by
 intro d0 s σ H D I h;refine wpAny_Assign_Subscript (bC (hv d0 s σ H _ I h) λr s1 ⟨v,H1,I1,rv,q1⟩=>bC (ho d0 s1 σ H1 _ I1 q1) λu s2 ⟨x,H2,I2,rx,q2⟩=>bC (hi d0 s2 σ H2 _ I2 q2) λiv s3 ⟨y,H3,I3,ry,a,H4,ex,g,q3⟩=>?_) hs
 subst ex;obtain rfl:u=eT.dI a:=rx;exact y62 hu I3 g ry rv λs4 I4=>⟨σ,H4,I4,q3⟩
theorem z1f(h:g6)(hb:_j<h.g0.d3):aS P w H (h.tB {l_:=.je "dict", n9:=.x8 #[]}) h.g0.d3 (.dK []):=
 ⟨w1c _,ÿ.uY (Ne.symm (w0p hb)),[],.ro,g6.ό.xM h⟩
theorem z1g(h:g6)(hb:_j<h.g0.d3):aS P w H (h.tB {l_:=.je "dict", n9:=.x8 #[]}) h.g0.d3 (.dT sh [] []):=
 ⟨w1c _,ÿ.uY (Ne.symm (w0p hb)),[],.ro,rfl,_,#[],0,g6.Bt _ rfl,⟨rfl,rfl,rfl⟩,rfl,rfl,aj.nodup_nil⟩
def zeF(sh:Sh):TE:=λ_ H Q=>∀p,H p=none->Q (.dI p) (ny H p (.dT sh [] []))
theorem z1h:PE X (.ϋ [] [] ia) (zeF sh):=λd0 s σ H Q I h=>
 wpAny_Dict_empty ⟨.dI s.bj.g0.d3,_,I.Mk (a:=s.bj.g0.d3) (o:=.dT sh [] []) (t':=s.rJ) (λ_ _ q=>g6.w6 _ q) (w0f _) (z1g s.bj I.big),rfl,h _ (I.aJ.yI (w0f _))⟩
def j3.Ŭ(I:j3 X d0 σ H s)(e:H a=ai u)(ht:¬eg u)(hb:∀ps,u≠.om ps)(hf:∀o v,X.aE a≠ai (.cB o v))(hw:∀x,u≠.ke x)(ok:dg X.jf X.w H s.bj->aS X.jf X.w (ny H a u') s.bj a u'):j3 X d0 σ (ny H a u') s:=by
 have up:∀b,H b=none->ny H a u' b=none:=λb n=>by
  grind [aR]
 refine⟨I.ok,I.os,I.M_,⟨I.kT.xJ,I.kT.xP,λb ob q n hx=>up b (I.kT.rk b ob q n hx),I.kT.YZ,λb xs q=>?_,λb ob v q=>?_,λb ps q=>?_⟩,I.YF,I.ur,up _ I.rk,λx c q=>up c (I.dy x c q),λp hp=>?_,λb v q=>?_,I.uz⟩
 .have z:=I.kT.gq b xs q
  grind [eg,aR]
 .by_cases i9:b=a
  .grind
  .rw[aR i9];exact I.kT.aY b ob v q
 .let⟨ZR,z⟩:=I.kT.fj b ps q
  grind [aR]
 .let⟨q1,q2,q3⟩:=I.Ys p hp
  grind
 .by_cases i9:b=a
  .grind [bQ,aJ]
  .rw[aR i9]at q;refine(I.aJ b v q).fi (λ_ _ _ z=>z) (λc z=>?_) λc xs tl z=>?_
   all_goals grind [aR]
theorem j3.k8(I:j3 X d0 σ H s)(e:H a=ai (.dS xs))(q:s.bj.iT a=ai o):j3 X d0 σ (ny H a (.cB o (.dS xs))) s:=
 I.Ŭ e (λz=>z) (λ_ z=>nomatch z) (λob v z=>by have:=I.kT.aY a ob v z;grind) (λ_ z=>nomatch z) λok=>⟨q,(ok a _ e).fi (λ_ _ _ z=>z) (λc z=>by rw[aR (fG z e (λy=>nomatch y))];exact z) λc xs tl z=>by rw[aR (fG z e (λy=>by subst y;exact tl))];exact z⟩
theorem j3.vK(I:j3 X d0 σ H s)(e:H a=ai (.cB o (.dS xs)))(hf:∀o v,X.aE a≠ai (.cB o v)):j3 X d0 σ (ny H a (.dS xs)) s:=
 I.Ŭ e (λz=>z) (λ_ z=>nomatch z) hf (λ_ z=>nomatch z) λok=>(ok a _ e).2.fi (λ_ _ _ z=>z) (λc z=>by rw[aR (fG z e (λy=>nomatch y))];exact z) λc xs tl z=>by rw[aR (fG z e (λy=>by subst y;exact tl))];exact z
def RV(hl:PE X l tl):PE X l (λσ H Q=>tl σ H λv H1=>∃a xs,v=.dI a/\H1 a=ai (.dS xs)/\∀o,Q v (ny H1 a (.cB o (.dS xs)))):=by
 intro d0 s σ H Q I h;refine bC (hl d0 s σ H _ I h) λv s1 ⟨x,H1,I1,r1,q1⟩=>?_
 let⟨a,xs,rfl,e,q⟩:=q1;let⟨av,_,⟨o,n,g,_⟩,_⟩:=I1.xT (bI.of e);exact⟨.dI a,_,I1.k8 e g,r1,q o⟩
end L2
namespace D
open PySem L2 PySem.Spec PyProof.Rows
open PyProof.Rows (envOfC)
section
variable{X:Cx}{Z:Zt}{EE:L2.St->XK}{a b c e:oP}{es:aj oP}{da db d:j' W}{dF dA:j' (aj W)}{x:fv}{ia p gp:vd}
def tD:S->ie
 |.gP _ _ _=>true
 |.x (.fz _)=>true
 |_=>false
def ph.HL{K:Fg}{G H:Hp}{σ:L2.St}{e:aj S}{l:f'}{o:qH}{ys:aj V}{u:HO}(r:ph K Z G σ H e)(hl:H l=ai (.cB o (.dS ys)))(hg:G l=none)(hz:Z.H l=none)(hT:∀s∈e,tD s=false):ph K Z G σ (ny H l u) e:=by
 refine⟨λc u z=>?_,λj s z=>?_,r.uz,r.lZ,λc u z n=>?_,λc z=>?_,r.gen⟩
 .rw[aR (gh z hg)];exact r.pA c u z
 .have y:=r.xP j s z;cases s with
  |no=>trivial
  |fr w=>exact y
  |ke b2 w2=>
   let⟨c,ys,y1,y2,y3,y4,y5⟩:=y;refine⟨c,ys,y1,?_,y3,y4,y5⟩;rw[aR (fG y2 hl (λz=>nomatch z))];exact y2
  |aZ kvs=>
   let⟨c,y1,y2,y3,y4⟩:=y;refine⟨c,y1,?_,y3,y4⟩;rw[aR (fG y2 hl (pQ rfl))];exact y2
  |gP us ws vs=>have:=hT _ (w0y z);cases this
  |x k=>
   have hk:=hT _ (w0y z);cases k with
   |_=>cases hk
  |dw sh ks ws=>exact iE.Xu y (.tT _) λl o ys k1 k2 k3=>⟨by rw[aR (fG k1 hl (tJ rfl))];exact k1,k2,k3⟩
 .rw[aR (gh z hz)];exact r.YC c u z n
 .by_cases hc:c=l
  .subst hc;rw[bQ];exact λz=>nomatch z
  .rw[aR hc];exact r.kH c z
end
variable{K:Fg}
mutual
noncomputable def eW:W->Bool
 |.aC=>true
 |.bl _=>true
 |.int _=>true
 |.str _=>true
 |.tup ws=>bV ws
 |_=>false
noncomputable def bV:List W->Bool
 |[]=>true
 |w::ws=>eW w&&bV ws
end
theorem z1i:gG (.gP us ws vs)=.fr (.gw (us++.dS ws::vs)):=rfl
end D
namespace L2
open PySem PySem.Spec PyProof.Rows
end L2
namespace D
open PySem L2 PySem.Spec PyProof.Rows
variable{X:Cx}{EE:L2.St->XK}{ia:vd}{K:Fg}{Z:Zt}
theorem F6{e:aj S}(h:e.rM (λs=>!tD s)=true):∀s∈e,tD s=false:=λs hs=>by
 have:=w1d.mp h s hs;simpa using this
end D
namespace L2
open PySem PySem.Spec PyProof.Rows
section
variable{σ:St}{H:Hp}{s:oi}{a:f'}{sh:Sh}{kvs:aj (Kx×V)}{bD:aj f'}
theorem y3r{jf:wW}{w:uG}{d:f'}(hd:(d==_j)=false):
  MeetsIn jf w (uu.«dict.__len__» ⟨[.dI d],[]⟩) (λ_ R s=>∃o es ep,s.bj.iT d=ai o/\o.n9=.x8 es ep/\R (.ok (.zW (.a6 es.d3 s.rJ))) {s with rJ:=s.rJ+1}):=
 ._z λA R s ⟨o,es,ep,ho,xp,h⟩=>by
  show oh _ _ (dictSize d >>= _) _ _ s;unfold dictSize;refine lT (lT (wpAny_dictEntries ho xp (t8 ?_)));show oh _ _ (uu.ϋ.pendingCount d >>= _) _ _ s;refine lT (wpAny_pendingCount_other hd ?_);refine wpAny_ret_mkInt ?_;rw[w4k];exact h
def UD(I:j3 X d0 σ H s)(e:Rd H a (.dT sh kvs bD))(h:∀t s',j3 X d0 σ H s'->Q (.a6 kvs.aO t) s'):oh (p5 X.jf X.w) A (yG (.wO "len") [.dI a]) Q E s:=by
 let⟨z,hd,xs,mT,_,dd⟩:=C_ I.aJ e;have hT:=dd.Zh;let⟨o,es,ep,ho,_,xp,GC,_⟩:=dd;have hsz:es.d3=kvs.aO:=by rw[size_of_entries GC,Zj.aO mT]
 rw[FY]at z;refine YR.call_function_entry kind_len plain_len entry_len (args_len1 _) ?_
 unfold uu.«len»;refine lT (m:=oneArg "len" _) (t8 ?_)
 refine lT (m:=callSpecial? (.dI a) (fv.YG "__len__")) (Ç (name:=fv.YG "__len__") hT F.zdI
  (call_meetsIn F.zdI hT F.entry_dict_len (F.args_dict_len_1 _) (y3r hd) ⟨o,es,ep,ho,xp,?_⟩))
 rw[hsz];show oh _ _ _ _ _ {s with rJ:=s.rJ+1};refine lT (ZJ (t8 ?_));refine lT (Μ ?_);show oh _ _ (if((kvs.aO:aT):dr)<0 then _ else _) _ _ _;rw[sF (by omega)];show oh _ _ (if((kvs.aO:aT):dr)>=2^63 then _ else _) _ _ _;rw[sF (by omega)];exact lT (ĭ (t8 ⟨_,rfl,h _ _ (I.Yg _)⟩))
def Cz:aj V->Hp->VK->Prop:=λxs H Q=>∃a sh kvs bD,xs=[.dI a]/\Rd H a (.dT sh kvs bD)/\Q (.a6 kvs.aO) H
def y63:c6 X (.wO "len") Cz:=by
 intro d0 s σ H xs us Q I r h;let⟨a,sh,kvs,bD,rfl,e,q⟩:=h;let⟨u,rfl,rx⟩:=_k r;cases(show u=eT.dI a from rx);exact UD I e λt s' I'=>⟨.a6 kvs.aO,H,I',⟨t,rfl⟩,q⟩
end
def Cy:aj V->Hp->VK->Prop:=λxs H Q=>∃a kvs,xs=[.dI a]/\Rd H a (.dK kvs)/\Q (.a6 kvs.aO) H
def y64:c6 X (.wO "len") Cy:=by
 intro d0 s σ H xs us Q I r h;let⟨a,kvs,rfl,e,q⟩:=h;let⟨u,rfl,rx⟩:=_k r;cases(show u=eT.dI a from rx);exact VT I e λt s' I'=>⟨.a6 kvs.aO,H,I',⟨t,rfl⟩,q⟩
end L2
namespace D
open PySem L2 PySem.Spec PyProof.Rows
open Classical
variable{a b:f'}{fz:ie}{X:Cx}{d dk:j' W}{G H:Hp}{σ:L2.St}{ks:aj Kx}{e:aj S}{ws:aj W}{i:aT}{ia:vd}{K:Fg}{sh:Sh}{x:fv}{κ:Type}{v:V}{Z:Zt}
mutual
noncomputable def xH:W->Option Kx
 |.aC=>some .aC
 |.bl b=>some (.bl b)
 |.int i=>some (.int i)
 |.str _=>none
 |.tup ws=>(gW ws).map .tup
 |_=>none
noncomputable def gW:List W->Option (List Kx)
 |[]=>some []
 |w::ws=>match xH w,gW ws with
  |some k,some ks=>some (k::ks)
  |_,_=>none
end
def stH(o:qH):ie:=match o.n9 with
 |.ot av _=>(match av.vr with
  |.str _ _::_=>true
  |_=>false)
 |_=>false
def eQ(K:Fg):Prop:=∀a o,K.hW a=ai o->o.l_=.je "tuple"->stH o=true
def cH.rd{xs:aj V}(hK:eQ K)(q:cH K G a xs):Rd G a (.gw xs)\/∃x r,xs=.str x::r:=by
 rcases q with q|⟨o,av,n,h1,h2,h3,h4,h5,h6⟩
 .exact .j9 q
 .have z:=hK a o h1 h2;unfold stH at z;rw[h4]at z;dsimp only at z;split at z
  .rename_i q;rw[q]at h6;cases h6 with
   |p9 r _=>
    rename_i v vs _;cases v with
    |str y=>exact .mW ⟨y,vs,rfl⟩
    |_=>first|(cases r;done)|(let⟨_,r⟩:=r;cases r)
  .cases z
mutual
theorem S9{K:Fg}{G H:Hp}(hK:eQ K)(s:ar G H):∀(w:W){k:Kx}{v:V},xH w=some k->Rep K G w v->cF H k v
 |.bl b,k,v,e,r=>by cases e;exact r
 |.int b,k,v,e,r=>by cases e;exact r
 |.str b,k,v,e,r=>by cases e
 |.tup ws,k,v,e,r=>by
  have e:(gW ws).map Kx.tup=some k:=e;let⟨ks,h1,rfl⟩:=w0i.mp e;let⟨a,xs,rfl,q,rs⟩:=r;refine⟨a,xs,rfl,?_,RW hK s ws h1 rs⟩;rcases cH.rd hK q with(z|⟨o,z⟩)|⟨x,r,rfl⟩
  .exact .inl (s _ _ z)
  .exact .inr ⟨o,s _ _ z⟩
  .cases ws with
   |nil=>cases rs
   |cons w ws=>
    let⟨y,zfS,q,r1,r2⟩:=rs;cases q;have h1:(match xH w,gW ws with|some k,some ks=>some (k::ks)|_,_=>none)=some ks:=h1;cases w with
    |str x=>cases h1
    |aC=>cases r1
    |bl _=>cases r1
    |int _=>cases r1
    |fn i l ws=>let⟨_,_,_,_,r,_⟩:=r1;cases r
    |dw _ _ _ _=>let⟨_,_,_,r,_⟩:=r1;cases r
    |tup _=>let⟨_,_,r,_⟩:=r1;cases r
    |lst _=>let⟨_,_,r,_⟩:=r1;cases r
    |exc _=>let⟨_,r,_⟩:=r1;cases r
    |aZ _=>let⟨_,r,_⟩:=r1;cases r
 |.aC,k,v,e,r=>by cases e;exact r
 |.lst _,k,v,e,r=>by cases e
 |.exc _,k,v,e,r=>by cases e
 |.aZ _,k,v,e,r=>by cases e
 |.dw _ _ _ _,k,v,e,r=>by cases e
 |.fn _ _ _,k,v,e,r=>by cases e
theorem RW{K:Fg}{G H:Hp}(hK:eQ K)(s:ar G H):∀(ws:List W){ks:List Kx}{vs:List V},gW ws=some ks->aq K G ws vs->fm H ks vs
 |[],ks,vs,e,r=>by cases e;exact r
 |w::ws,ks,vs,e,r=>by
  have e:(match xH w,gW ws with|some k,some ks=>some (k::ks)|_,_=>none)=some ks:=e;split at e
  .rename_i k0 Xw h1 h2;cases e;let⟨x,xs,rfl,r1,r2⟩:=r;exact⟨x,xs,rfl,S9 hK s w h1 r1,RW hK s ws h2 r2⟩
  .cases e
end
def kx:W->fy Kx
 |.gw ws=>(gW ws).a7 .gw
 |_=>none
def Lb(hK:eQ K)(s:ar G H){w:W}{k:Kx}(e:kx w=ai k)(r:pW K G w v):∃b,v=.dI b/\cF H k (.dI b):=by
 cases w with
 |gw ws=>
  have z:=S9 hK s (.gw ws) e r;let⟨a,xs,rfl,q,rs⟩:=r;exact⟨a,rfl,z⟩
 |_=>cases e
def Z6(k:Kx)(sh:Sh):Prop:=fw k sh/\k.w8<=7
theorem c7.Z8{k:Kx}(hk:cF G k (.dI b)):∀{ks:aj Kx}{bs:aj f'},c7 G ks bs->c7 G (ks++[k]) (bs++[b])
 |[],[],_=>⟨hk,trivial⟩
 |_::_,_::_,h=>⟨h.1,c7.Z8 hk h.2⟩
 |[],_::_,h=>h.nU
 |_::_,[],h=>h.nU
def mD:aj Kx->aj W->Kx->fy W
 |k::ks,w::ws,x=>if k=x then ai w else mD ks ws x
 |_,_,_=>none
theorem LU{K:Fg}{G:Hp}{x:Kx}:∀{kvs:aj (Kx×V)}{ws:aj W},aq K G ws (kvs.a7 (·.2)) ->
  (∀w,mD (kvs.a7 (·.1)) ws x=ai w->∃v,fE kvs x=ai v/\pW K G w v)/\(mD (kvs.a7 (·.1)) ws x=none->fE kvs x=none)
 |[],ws,r=>by
  cases ws with
  |ro=>exact⟨(λw z=>nomatch z),λ_=>rfl⟩
  |p9 w ws=>let⟨_,_,z,_⟩:=r;cases z
 |p::kvs,[],r=>by cases(show _=[]from r)
 |p::kvs,w::ws,r=>by
  let⟨v,rr,z,h1,h2⟩:=r;cases z;have ih:=LU (x:=x) h2
  by_cases e:p.1=x
  all_goals simp_all [mD,B6,B7]
def tQ.rd{kvs:aj (Kx×V)}{bD:aj f'}(s:ar G H)(h:tQ fz G a sh kvs bD):Rd H a (oD sh kvs bD):=by
 cases fz with
 |true=>let⟨o,h⟩:=h;exact .mW ⟨o,s _ _ h⟩
 |false=>exact .j9 (s _ _ h)
def NM{t:Kx}(kr:cF H t (.dI b))(hc:Z6 t sh):sh.tw=false:=by
 cases sh with
 |a6=>
  cases t with
  |a6 i=>exact nomatch (show V.dI b=V.a6 i from kr)
  |_=>exact hc.1.nU
 |str=>
  cases t with
  |str i=>exact nomatch (show V.dI b=V.str i from kr)
  |_=>exact hc.1.nU
 |_=>rfl
def DP(w d:W):fy W:=match kx w,d with
 |ai k,.dw _ sh ks ws=>if Z6 k sh then ai (.bl (mD ks ws k).zi)else none
 |_,_=>none
def pL(w d:W):fy W:=match kx w,d with
 |ai k,.dw _ sh ks ws=>if Z6 k sh then ai (.bl (!(mD ks ws k).zi))else none
 |_,_=>none
def xD(d w:W):fy W:=match kx w,d with
 |ai k,.dw _ sh ks ws=>if Z6 k sh then mD ks ws k else none
 |_,_=>none
def mB:aj W->fy W
 |[.dw _ _ ks _]=>ai (.a6 ks.aO)
 |_=>none
def S_{k:Kx}(s:ar G H)(p:pW K G (.dw fz sh ks ws) v)(kr:cF H k (.dI b))(hc:Z6 k sh):
  ∃a o,v=.dI a/\fH H a (.dI b) o/\(∀w,mD ks ws k=ai w->∃u,o=ai u/\pW K G w u)/\(mD ks ws k=none->o=none):=by
 let⟨a,kvs,bD,rfl,h1,rfl,h3,h4⟩:=p;refine⟨a,_,rfl,fH.t (by have:=h1.rd s;rwa [zX (NM kr hc)]at this) ⟨kr,hc⟩,?_⟩;exact LU h4
def z61(hK:eQ K):iC K (λy x H Q=>∃a o,x=.dI a/\fH H a y o/\Q (.bl (!o.zi)) H) pL:=by
 intro G H x y wx wy w Q s px py hf h;unfold pL at hf;split at hf
 .rename_i k fz sh ks ws hk;split at hf
  .rename_i hc;cases hf;let⟨b,rfl,kr⟩:=Lb hK s hk px;let⟨a,o,rfl,g,g1,g2⟩:=S_ s py kr hc;refine⟨a,o,rfl,g,h G _ H (.tT s) ?_⟩;show V.bl (!o.zi)=V.bl (!(mD ks ws k).zi);cases q:mD ks ws k with
   |none=>rw[g2 q];rfl
   |ai w=>let⟨u,hu,_⟩:=g1 w q;rw[hu];rfl
  .cases hf
 .cases hf
def UE(hK:eQ K):iC K (λx y H Q=>∃a v,x=.dI a/\fH H a y (ai v)/\Q v H) xD:=by
 intro G H x y wx wy w Q s px py hf h;unfold xD at hf
 grind [Lb,S_,aN.tT]
def wa:aj V->Hp->VK->Prop:=λxs H Q=>∃a sh kvs bD,xs=[.dI a]/\Rd H a (oD sh kvs bD)/\Q (.a6 kvs.aO) H
def y67:c6 X (.wO "len") wa:=by
 intro d0 s σ H xs us Q I r h;let⟨a,sh,kvs,bD,e1,e2,q⟩:=h;cases hI:sh.tw with
 |false=>rw[zX hI]at e2;exact y63 d0 s σ H xs us Q I r ⟨a,sh,kvs,bD,e1,e2,q⟩
 |true=>
  rw[show oD sh kvs bD=.dK (kvs.a7 λp=>(NH p.1,p.2))from mS hI]at e2
  exact y64 d0 s σ H xs us Q I r ⟨a,_,e1,e2,by rw[w0a];exact q⟩
def z62:qB K wa mB:=by
 intro G H xs ws w Q s pr hf h;unfold mB at hf;split at hf
 .rename_i fz sh ks vs;cases hf;let⟨x,r,rfl,px,pr⟩:=pr;cases(show r=[]from pr);let⟨a,kvs,bD,rfl,h1,rfl,h3,h4⟩:=px;refine⟨a,sh,kvs,bD,rfl,h1.rd s,h G _ H (.tT s) ?_⟩;show V.a6 _=V.a6 _;rw[w0a]
 .cases hf
section
variable{EE:L2.St->XK}{a b e k o:oP}{es:aj oP}{da db:j' W}{dA:j' (aj W)}{p gp:vd}{t6:aj Dn}{s1:aj S->SR}
theorem z63(hK:eQ X.K)(hu:X.A.yH+150<yN)(ha:DE Z X EE a da)(hb:DE Z X EE b db)(hm:gu (Z3 .ZX b=false) jJ):DT Z X EE (.Yw a [.ZX] [b] ia) (aw (ao pL da db)):=
 PT.mV (SM (Qc (by omega) ha hb) hm) λσ H Q h=>vY (z61 hK) σ H _ (JU h)
theorem Q25(hK:eQ X.K)(hu:X.A.yH+150<yN)(ha:DE Z X EE a da)(hb:DE Z X EE b db)(hs:tS b:=by intro _ _;rfl):DE Z X EE (.Yl a b ia) (ao xD da db):=
 PE.mV (RT (by omega) ha hb hs) (vY (UE hK))
theorem z64(hm:X.mg "len"=none)(ha:DA Z X EE [e] dA)(hg:gu (Gl X "len") jJ)(he:gu (oj [e] X.dt=(false,eval e X.dt)::oj [] X.dt) jJ)(dz:gu ((yC ia (oj [] X.dt)).tZ (·.1)=false) jJ):DE Z X EE (.wu (.mU "len" p) [e] [] ia) (bL mB dA):=
 Cm y67 z62 lU.ń hm ha hg (by decide) (by decide) he dz
def xC:S->ie
 |.dw _ _ _=>true
 |.aZ _=>true
 |_=>false
def ph.V8{e:aj S}(r:ph K Z G σ H e)(h:e[i]?=ai (.dw sh ks ws)):∃a kvs bD,σ[i]?=ai (ai (.dI a))/\H a=ai (oD sh kvs bD)/\G a=none/\Z.H a=none/\kvs.a7 (·.1)=ks/\cA sh G ks bD/\fo K Z G sh ws (kvs.a7 (·.2)):=by
 let⟨a,kvs,bD,h1,h2,h3,h4,h5,h6,h7⟩:=r.xP i _ h;refine⟨a,kvs,bD,?_,h2,h3,h4,h5,h6,h7⟩;cases q:σ[i]? with
 |none=>rw[q]at h1;cases h1
 |ai z=>rw[q]at h1;rw[show z=ai (V.dI a)from h1]
def ph.dw{e:aj S}(r:ph K Z G σ H e)(h:e[i]?=ai (.dw sh ks ws)):∃a kvs bD,σ[i]?=ai (ai (.dI a))/\H a=ai (oD sh kvs bD)/\G a=none/\Z.H a=none/\kvs.a7 (·.1)=ks/\cA sh G ks bD/\aq K G ws (kvs.a7 (·.2)):=by
 let⟨a,kvs,bD,h1,h2,h3,h4,h5,h6,h7⟩:=r.V8 h;exact⟨a,kvs,bD,h1,h2,h3,h4,h5,h6,h7.pT⟩
def ph.yx{e:aj S}(r:ph K Z G σ H e){i:aT}{s:S}(hs:∀b ws,s≠.ke b ws)(q:eC K Z G H s (ai v)):ph K Z G (σ.ri i (ai v)) H (e.ri i s):=by
 refine⟨r.pA,λj t z=>?_,by simpa using r.uz,λj k b1 b2 w1 w2 c z1 z2 z3 z4=>?_,r.YC,r.kH,r.gen⟩
 .by_cases hj:j=i
  .subst hj
   have hi:j<e.aO:=by
    have:=(w0c.mp z).1;simpa using this
   rw[w0m hi]at z;cases z;rw[w0m (by rw[<- r.uz];exact hi)];exact q
  .rw[w0j (λz=>hj z.symm)]at z |-
   exact r.xP j t z
 .have yF:∀(k:aT)(bb:fy aT)(ww:aj W),(e.ri i s)[k]?=ai (.ke bb ww)->k≠i/\e[k]?=ai (.ke bb ww):=λk bb ww z=>by
   by_cases hk:k=i
   .subst hk
    have hi:k<e.aO:=by
     have:=(w0c.mp z).1;simpa using this
    rw[w0m hi]at z;cases z;exact uv rfl (hs _ _)
   .rw[w0j (λz=>hk z.symm)]at z;exact⟨hk,z⟩
  let⟨n1,q1⟩:=yF _ _ _ z1;let⟨n2,q2⟩:=yF _ _ _ z2;rw[w0j (λz=>n1 z.symm)]at z3
  rw[w0j (λz=>n2 z.symm)]at z4
  exact r.lZ _ _ _ _ _ _ _ q1 q2 z3 z4
def ph.Bu{e:aj S}(r:ph K Z G σ H e){ks':aj Kx}{ws':aj W}{a:f'}{kvs':aj (Kx×V)}{xE:aj f'}(h:e[i]?=ai (.dw sh ks ws))(ha:σ[i]?=ai (ai (.dI a)))(ho:∀s∈e.ri i .no,xC s=false)
  (h5:kvs'.a7 (·.1)=ks')(h6:cA sh G ks' xE)(h7:fo K Z G sh ws' (kvs'.a7 (·.2))):ph K Z G σ (ny H a (oD sh kvs' xE)) (e.ri i (.dw sh ks' ws')):=by
 let⟨a',kvs,bD,h1,h2,h3,h4,_⟩:=r.dw h;rw[ha]at h1;cases h1;have hi:i<e.aO:=(w0c.mp h).1;refine⟨λc o z=>?_,λj s z=>?_,by simpa using r.uz,λj k b1 b2 w1 w2 c z1 z2 z3 z4=>?_,λc o z n=>?_,λc z=>?_,r.gen⟩
 .rw[aR (gh z h3)];exact r.pA c o z
 .by_cases hj:j=i
  .subst hj;rw[w0m hi]at z;cases z;exact⟨a,kvs',xE,by rw[ha];rfl,bQ,h3,h4,h5,h6,h7⟩
  .rw[w0j (λz=>hj z.symm)]at z
   have y:=r.xP j s z;cases s with
   |no=>trivial
   |fr w=>exact y
   |ke b2 w2=>
    let⟨c,ys,y1,y2,y3,y4,y5⟩:=y;refine⟨c,ys,y1,?_,y3,y4,y5⟩;rw[aR (fG y2 h2 (λz=>tJ rfl z.symm))];exact y2
   |aZ _=>
    have:=ho _ (w0y (i:=j) (by rw[w0j (λz=>hj z.symm)];exact z))
    cases this
   |gP us w2 vs=>
    let⟨t,l,o,pX,ys,zs,y1,y2,y3,y4,y5,y6⟩:=y;refine⟨t,l,o,pX,ys,zs,y1,y2,?_,y4,y5,y6⟩;rw[aR (fG y3 h2 (λz=>tJ rfl z.symm))];exact y3
   |x k=>exact pk.Xu y (.tT _) λl o ys k1 k2 k3=>⟨by rw[aR (fG k1 h2 (λz=>tJ rfl z.symm))];exact k1,k2,k3⟩
   |dw _ _ _=>
    have:=ho _ (w0y (i:=j) (by rw[w0j (λz=>hj z.symm)];exact z))
    cases this
 .have yF:∀(k:aT)(bb:fy aT)(ww:aj W),(e.ri i (S.dw sh ks' ws'))[k]?=ai (.ke bb ww)->e[k]?=ai (.ke bb ww):=λk bb ww z=>by
   by_cases hk:k=i
   .subst hk;rw[w0m hi]at z;cases z
   .rw[w0j (λz=>hk z.symm)]at z;exact z
  exact r.lZ _ _ _ _ _ _ _ (yF _ _ _ z1) (yF _ _ _ z2) z3 z4
 .rw[aR (gh z h4)];exact r.YC c o z n
 .by_cases hc:c=a
  .subst hc;rw[bQ];exact λz=>nomatch z
  .rw[aR hc];exact r.kH c z
def mf(i:aT)(sh:Sh):aj S->SR:=λe=>.nx (e.ri i (.dw sh [] []))
def z65(i:aT)(sh:Sh){YI qN:vd}(hN:X.N.yr)(hI:gu (sh.tw=false) jJ)(hi:gu (X.N[i]?=ai x) jJ)(hx:gu (YT X.dt.gs x) jM)(hs:gu (Zb (.ϋ [] [] qN) (ai (.mU x YI)) ia.X9 X.dt=uV false) jJ)(hf:gu (X.fn x=true\/X.dt.gs.p6.hW x=ai .local) jL):
  DS Z X EE (.Zi [.mU x YI] (.ϋ [] [] qN) ia) (mf i sh):=by
 refine PS.mV (C8 i hN (z1h (sh:=sh)) hi hx hs hf) ?_;rintro D σ H ⟨G,e,mT,h⟩;intro q hq;have g:=aN.nL mT.pA hq (.dT sh [] []);exact h G _ _ ((mT.yJ g).yx (s:=.dw sh [] []) (λ_ _ z=>nomatch z) ⟨q,[],[],rfl,by rw[zX hI];exact bQ,mT.pA.rk hq,qo mT hq,rfl,.of trivial hI,.ro⟩) (.tT _)
def oU(i:aT)(w kw:W)(e:aj S):fy S->SR
 |ai (.dw sh ks ws)=>match kx kw with
  |ai x=>if ks.aO<16777216/\(e.ri i .no).rM (λs=>!xC s)=true/\Z6 x sh/\mD ks ws x=none/\sh.HA=false then .nx (e.ri i (.dw sh (ks++[x]) (ws++[w])))else .no
  |none=>.no
 |_=>.no
def oT(i:aT)(dk:j' W)(w:W)(e1:aj S):fy S->SR
 |ai (.dw _ _ _)=>(dk e1).cR λkw e2=>oU i w kw e2 e2[i]?
 |_=>.no
def me(i:aT)(d dk:j' W):aj S->SR:=λe=>(d e).cR λw e1=>oT i dk w e1 e1[i]?
def z66(i:aT)(hK:eQ X.K)(hu:X.A.yH+150<yN)(he:DE Z X EE e d)(hk:DE Z X EE k dk)(hN:gu (X.N[i]?=ai x) jJ)(hv:gu (kg X.dt.gs x) jN)(hd:gu ((x==("__debug__":fv))=false) jK)(eK:gu ((x==("__classdict__":fv))=false) jK)
  (hs:gu (Zb e (ai (.Yl (.mU x p) k gp)) ia.X9 X.dt=uV false) jJ):DS Z X EE (.Zi [.Yl (.mU x p) k gp] e ia) (me i d dk):=by
 refine PS.mV (RU (by omega) (pv i hN hv hd eK) hk he hs) ?_;rintro D σ H ⟨G,e,mT,h⟩;refine⟨G,e,mT,(ki h).uX (λw e1 h G1 v1 H1 r1 s1 p1=>?_) λ_ _ h=>h⟩
 unfold oT at h;split at h
 .rename_i sh0 Xw KP uf;let⟨a,zfw,zfu,q1,q2,_⟩:=r1.dw uf;refine⟨.dI a,q1,G1,e1,r1,(ki (σ:=σ) h).uX (λkw e2 h G2 v2 H2 r2 s2 p2=>?_) λ_ _ h G' H' r s=>h G' H' r (s1.lb s)⟩
  unfold oU at h;split at h
  .rename_i sh ks ws oH;let⟨a',kvs,bD,g1,g2,g3,g4,g5,zcB,g7⟩:=r2.dw oH;rw[q1]at g1;cases g1;split at h
   .rename_i t qX;split at h
    .rename_i hc;let⟨b,rfl,kr⟩:=Lb hK (.tT G2) qX p2;have Xv:cF H2 t (.dI b):=cF.YE (λ_ _ _ z=>r2.pA _ _ z) t kr
     subst g5;have hI:=NM kr hc.2.2.1;rw[zX hI]at g2;have ui:fE kvs t=none:=(LU g7).2 hc.2.2.2.1;refine⟨a,_,rfl,l5.t g2 ⟨Xv,hc.2.2.1⟩ (by rw[FY];have:=hc.1;rw[w0a]at this;exact this),?_⟩;rw[z1e v1 ui,show iY kvs bD t b=bD++[b] by unfold iY;rw[ui];rfl,<- zX hI];refine h G2 σ _ (r2.Bu (ks':=kvs.a7 (·.1)++[t]) (ws':=ws++[w]) oH q1 (λs hs=>?_) (by rw[w1b];rfl) (.of (c7.Z8 kr (zcB.g hI)) hI) ?_) (s1.lb s2)
     .have:=w1d.mp hc.2.1 s hs;simpa using this
     .rw[w1b];exact .of hc.2.2.2.2 (g7.Xy (.YH (pW.mV s2 w p1)))
    .exact h.nU
   .exact h.nU
  .exact h.nU
 .exact h.nU
end
def fh:dr->aj dr->dr
 |x,[]=>x
 |x,y::ys=>fh (if x<y then y else x) ys
theorem Ls:∀(ys:aj dr)(x:dr),(fh x ys=x\/fh x ys∈ys)/\x<=fh x ys/\∀y∈ys,y<=fh x ys
 |[],x=>⟨.j9 rfl,dr.le_refl _,λy hy=>nomatch hy⟩
 |y::ys,x=>by
  let⟨h1,h2,h3⟩:=Ls ys (if x<y then y else x);have e:fh x (y::ys)=fh (if x<y then y else x) ys:=rfl
  grind
def y68(hc:X.NI=true):c6 X (.wO "max") (λxs H Q=>∃p n ns,xs=[.dI p]/\bI X.K H p ((n::ns).a7 V.a6)/\Q (.a6 (fh n ns)) H):=by
 intro d0 s σ H xs us Q I r h;let⟨p,n,ns,rfl,hq,q⟩:=h;let⟨u,rfl,rx⟩:=_k r;cases rx;let⟨av,r',pl,hz⟩:=I.xT hq;have hl:=pl.zf;have b8:p<s.bj.g0.d3:=by let⟨_,e,_⟩:=hl;exact g6.yu e
 have hh:X.A.Dh.YV=none:=I.ok.hd hc;have wR:av.aO=(n::ns).aO:=by have:=r'.aO;rw[w0a]at this;exact this.symm
 have Bb:∀(i:aT)(v:eT),av.lS[i]?=ai v->∃t,v=eT.a6 ((n::ns).jd i 0) t:=λi v hv=>by
  have rl:av[i]?=ai v:=by simpa using hv
  have hi:i<(n::ns).aO:=by rw[<- wR];exact(w0c.mp rl).1
  let⟨u,hu,ru⟩:=r'.A' (i:=i) (x:=V.a6 ((n::ns).jd i 0)) (by rw[w0t,w0b hi,RS hi];rfl);rw[rl]at hu;cases hu;exact ru
 refine call_max_walk (Ν hl ⟨s.bj.g0.d3,[s.bj.g0.d3,p],[s.bj.g0.d3],_,_,_,_,rfl,ϕ.xT hh s.bj.g0.d3 p (w0p b8) av.lS,⟨⟨_,g6.Bt _ rfl,rfl,rfl⟩,hl.tB _⟩,λb hb=>?_,by rw[w0e,wR];simp,CmpOf.ints_gt (λi=>(n::ns).jd i 0) Bb,λv h' tk hP hk=>?_⟩)
 .show b<(s.bj.tB _).g0.d3;rw[g6.ZH];rcases w0h.mp hb with e|hb
  .rw[e];exact aT.zc5 _
  .rw[w1h.mp hb];exact w1w b8
 .let⟨t,rfl⟩:=Bb _ _ hP;let⟨b1,b2⟩:=argBest_gt (λi=>(n::ns).jd i 0) (av.lS.d3-1)
  have e:(n::ns).jd (argBest (λi j=>decide ((n::ns).jd i 0>(n::ns).jd j 0)) (av.lS.d3-1)) 0=fh n ns:=by
   let⟨m1,m2,m3⟩:=Ls ns n;have hsz:av.lS.d3=ns.aO+1:=by rw[w0e,wR];simp
   generalize argBest (λi j=>decide ((n::ns).jd i 0>(n::ns).jd j 0)) (av.lS.d3-1)=k at b1 b2
   have hk:k<(n::ns).aO:=by simp;omega
   have ge:(n::ns).jd k 0<=fh n ns:=by
    rw[RS hk];rcases w0h.mp (w1o hk)with z|z
    .rw[z];exact m2
    .exact m3 _ z
   have le:fh n ns<=(n::ns).jd k 0:=by
    have:∃j,j<=ns.aO/\(n::ns).jd j 0=fh n ns:=by
     rcases m1 with z|z
     .exact⟨0,w1c _,by simp[z]⟩
     .let⟨j,hj,ej⟩:=w1s.mp z;exact⟨j+1,by omega,by simp[aj.jd,hj,ej]⟩
    let⟨j,hj,ej⟩:=this;have:=b2 j (by omega);rw[ej]at this;exact this
   omega
  rw[e];refine⟨.a6 (fh n ns),H,I.XE (t':=tk) λb o qU=>hk b o (λz=>?_) (g6.w6 _ qU),⟨t,rfl⟩,q⟩
  rw[w1h]at z;exact uv (g6.yu qU) (by rw[z];exact w1z _)
def lE:aj W->fy W
 |[.dS ws]=>match d5 ws with
  |ai (n::ns)=>ai (.a6 (fh n ns))
  |_=>none
 |_=>none
def z67:qB K (λxs H Q=>∃p n ns,xs=[.dI p]/\bI K H p ((n::ns).a7 V.a6)/\Q (.a6 (fh n ns)) H) lE:=by
 intro G H xs ws w Q s pr hf h;unfold lE at hf;split at hf
 .let⟨x,r,rfl,px,pr⟩:=pr;cases(show r=[]from pr);split at hf
  .rename_i n ns m8;cases hf;let⟨a,cs,rfl,hq,rp⟩:=px;have:=EX m8 rp;subst this;exact⟨a,n,ns,rfl,s.ot hq,h G _ H (.tT s) rfl⟩
  .cases hf
 .cases hf
section
variable{EE:L2.St->XK}{e:oP}{dA:j' (aj W)}{p:vd}
theorem z68(hc:X.NI=true)(hm:X.mg "max"=none)(ha:DA Z X EE [e] dA)(hg:gu (Gl X "max") jJ)(he:gu (oj [e] X.dt=(false,eval e X.dt)::oj [] X.dt) jJ)(dz:gu ((yC ia (oj [] X.dt)).tZ (·.1)=false) jJ):DE Z X EE (.wu (.mU "max" p) [e] [] ia) (bL lE dA):=
 Cm (y68 hc) z67 Ku.M4._n.«max» hm ha hg (by decide) (by decide) he dz
end
def UG{n:dr}{ns:aj dr}:lE [.dS ((n::ns).a7 .a6)]=ai (.a6 (fh n ns)):=by
 show(match d5 ((n::ns).a7 .a6)with|ai (n::ns)=>ai (W.a6 (fh n ns))|_=>none)=_;rw[RQ]
section
variable{w kw dflt:W}{x:Kx}
theorem z69:mf i sh e=.nx (e.ri i (.dw sh [] [])):=rfl
theorem z7a:me i d dk e=(d e).cR λw e1=>oT i dk w e1 e1[i]?:=rfl
theorem z7b:oT i dk w e (ai (.dw sh ks ws))=(dk e).cR λkw e2=>oU i w kw e2 e2[i]?:=rfl
def z7c(hk:kx kw=ai x)(h1:ks.aO<16777216)(h2:(e.ri i .no).rM (λs=>!xC s)=true)(h3:Z6 x sh)(h4:mD ks ws x=none)(h5:gu (sh.HA=false) jJ):oU i w kw e (ai (.dw sh ks ws))=.nx (e.ri i (.dw sh (ks++[x]) (ws++[w]))):=by
 show(match kx kw with|ai x=>_|none=>_)=_;rw[hk];exact mS ⟨h1,h2,h3,h4,h5⟩
def UH(hk:kx w=ai x)(hc:Z6 x sh):pL w (.dw fz sh ks ws)=ai (.bl (!(mD ks ws x).zi)):=by
 simp_all [pL]
def VU(hk:kx w=ai x)(hc:Z6 x sh):xD (.dw fz sh ks ws) w=mD ks ws x:=by
 simp_all [xD]
theorem Q28:mB [.dw fz sh ks ws]=ai (.a6 ks.aO):=rfl
theorem z7d:gG (.dw sh ks ws)=.fr (.dw false sh ks ws):=rfl
end
def iA(K:Fg)(a:f'):ie:=match K.hW a with
 |ai o=>(match o.l_ with
  |.je n=>n=="tuple"&&!stH o
  |_=>false)
 |none=>false
def dX(K:Fg):Fg:=K.DV λp=>!iA K p.1
theorem Er{q:f'->ie}:∀{K:Fg}{o:qH},(K.DV λp=>q p.1).hW a=ai o->K.hW a=ai o/\q a=true
 |[],_,h=>by cases h
 |(b,u)::K,o,h=>by
  by_cases hq:q b=true
  .rw[aj.filter_cons_of_pos (p:=λp:f'×qH=>q p.1) (a:=(b,u)) hq]at h
   by_cases e:a=b
   .grind
   .rw[show aj.hW a ((b,u)::(K.DV λp=>q p.1))=aj.hW a (K.DV λp=>q p.1) by grind]at h
    let⟨h1,h2⟩:=Er h
    grind
  .rw[aj.filter_cons_of_neg (p:=λp:f'×qH=>q p.1) (a:=(b,u)) hq]at h
   let⟨h1,h2⟩:=Er h
   grind
theorem z1j{h:g6}(X:K.In h):(dX K).In h:=λa o e=>X a o (Er (q:=λa=>!iA K a) e).1
theorem z1k:eQ (dX K):=λa o e z=>by
 let⟨h1,h2⟩:=Er (q:=λa=>!iA K a) e
 unfold iA at h2;rw[h1]at h2
 simpa [z]using h2
def q1h{o:qH}(h:K.hW a=ai o)(t:iA K a=false):(dX K).hW a=ai o:=by
 have gen:∀(l:Fg)(q:f'->ie),q a=true->l.hW a=ai o->(l.DV λp=>q p.1).hW a=ai o:=by
  intro l q hq
  induction l with
  |ro=>intro h;cases h
  |p9 p l ih=>
   grind
 exact gen K (λa=>!iA K a) (by rw[t];rfl) h
def q26{r:fy eT}(h:lU.W._y K a x=ai r)(t:iA K a=false):lU.W._y (dX K) a x=ai r:=by
 unfold lU.W._y at h |-
 cases q:K.hW a with
 |none=>rw[q]at h;cases h
 |ai o=>rw[q1h q t];rw[q]at h;exact h
def zeJ(K:Fg):eT->ie
 |.dI a=>iA K a
 |_=>false
def x93{cd:eT}(h:lU.W._s K cd x=true)(t:zeJ K cd=false):lU.W._s (dX K) cd x=true:=by
 cases cd with
 |dI a=>
  unfold lU.W._s at h |-
  dsimp only at h |-
  cases q:K.hW a with
  |none=>rw[q]at h;cases h
  |ai o=>rw[q1h q t];rw[q]at h;exact h
 |_=>cases h
def funAt(K:Fg)(a:f'):ie:=!iA K a&&(match K.hW a with
 |ai ⟨_,_,.Zf _,_⟩=>true
 |_=>false)
def lk [ϊ κ](kvs:aj (κ×Sv))(x:κ):fy Sv:=(kvs.ϳ λp=>decide (p.1=x)).a7 (·.2)
def _R [ϊ κ](kvs:aj (κ×Sv))(x:κ)(v:Sv):aj (κ×Sv):=if(kvs.tZ λp=>decide (p.1=x))=true then kvs.a7 (λp=>if p.1=x then(p.1,v)else p)else kvs++[(x,v)]
theorem LV [ϊ κ](x):∀kvs:aj (κ×Sv),fE (xG kvs) x=(lk kvs x).a7 sV
 |[]=>rfl
 |p::r=>by
  have ih:=LV x r
  by_cases h:p.1=x
  all_goals simp_all [xG,B6,lk,B7]
def UI [ϊ κ](x:κ)(v:Sv)(kvs:aj (κ×Sv)):Zl (xG kvs) x (sV v)=xG (_R kvs x v):=by
 unfold Zl _R xG;rw[w5b];have e:((λkv:κ×V=>decide (kv.1=x)) ∘ λp:κ×Sv=>(p.1,sV p.2))=λp:κ×Sv=>decide (p.1=x):=rfl
 rw[e];split
 .rw[w0z,w0z];refine w1n λp _=>?_
  simp only[Function.comp];split<;>rfl
 .rw[w1b];rfl
def uq:W->fy Xx
 |.a6 i=>ai (.j9 i)
 |.str x=>ai (.mW x)
 |_=>none
def OL:W->fy Sv
 |.a6 i=>ai (.j9 i)
 |.bl b=>ai (.mW b)
 |_=>none
def Fc:Sv->W
 |.j9 i=>.a6 i
 |.mW b=>.bl b
def Lu(p:pW K G w v)(h:uq w=ai k):v=kV k:=by
 cases w<;>cases h<;>exact p
def U6(p:pW K G w v)(h:OL w=ai k):v=sV k:=by
 cases w<;>cases h<;>exact p
def y69(k):pW K G (Fc k) (sV k):=by cases k<;>rfl
def qM:W->fy (aj (Xx×Sv))
 |.aZ (.k kvs)=>ai kvs
 |_=>none
def QU(h:qM w=ai kvs):w=.aZ (.k kvs):=by
 cases w with
 |aZ d=>cases d<;>cases h;rfl
 |_=>cases h
def uB(w d:W):fy W:=(uq w).qK λk=>(qM d).a7 λkvs=>.bl (!(lk kvs k).zi)
def Bi(d w:W):fy W:=(uq w).qK λk=>(qM d).qK λkvs=>(lk kvs k).a7 Fc
def z7e:iC K (λy x H Q=>∃a o,x=.dI a/\fH H a y o/\Q (.bl (!o.zi)) H) uB:=by
 intro G H x y wx wy w Q s px py hf h;let⟨k,hk,hf⟩:=w1p.mp hf;let⟨kvs,hd,hf⟩:=w0i.mp hf;cases hf;cases Lu px hk;cases QU hd;let⟨e,rfl,he⟩:=py;refine⟨e,_,rfl,fH.k (k:=k) (s _ _ he),h G _ H (.tT s) ?_⟩;rw[LV,w3s];rfl
def U7:iC K (λx y H Q=>∃a v,x=.dI a/\fH H a y (ai v)/\Q v H) Bi:=by
 intro G H x y wx wy w Q s px py hf h;let⟨k,hk,hf⟩:=w1p.mp hf;let⟨kvs,hd,hf⟩:=w1p.mp hf;let⟨v,hv,rfl⟩:=w0i.mp hf;cases Lu py hk;cases QU hd;let⟨e,rfl,he⟩:=px;have g:=fH.k (k:=k) (s _ _ he);rw[LV,hv]at g;exact⟨e,_,rfl,g,h G _ H (.tT s) (y69 v)⟩
section
variable{EE:L2.St->XK}{a b e k:oP}{da db:j' W}{p gp:vd}
theorem z7f(hu:X.A.yH+150<yN)(ha:DE Z X EE a da)(hb:DE Z X EE b db)(hm:gu (Z3 .ZX b=false) jJ):DT Z X EE (.Yw a [.ZX] [b] ia) (aw (ao uB da db)):=
 PT.mV (SM (Qc (by omega) ha hb) hm) λσ H Q h=>vY z7e σ H _ (JU h)
theorem Q3c(hu:X.A.yH+150<yN)(ha:DE Z X EE a da)(hb:DE Z X EE b db)(hs:tS b:=by intro _ _;rfl):DE Z X EE (.Yl a b ia) (ao Bi da db):=
 PE.mV (RT (by omega) ha hb hs) (vY U7)
def ph.aZ{e:aj S}(r:ph K Z G σ H e){kvs:Dd}(h:e[i]?=ai (.aZ kvs)):∃a,σ[i]?=ai (ai (.dI a))/\H a=ai (dO kvs)/\G a=none/\Z.H a=none:=by
 let⟨a,h1,h2,h3,h4⟩:=r.xP i _ h;refine⟨a,?_,h2,h3,h4⟩;cases q:σ[i]? with
 |none=>rw[q]at h1;cases h1
 |ai z=>rw[q]at h1;rw[show z=ai (.dI a)from h1]
def ph.zeR{e:aj S}(r:ph K Z G σ H e){kvs:Dd}{a:f'}(h2:H a=ai (dO kvs))(h3:G a=none)(h4:Z.H a=none):ph K Z G (σ.ri i (ai (.dI a))) H (e.ri i (.aZ kvs)):=by
 refine⟨r.pA,λj s z=>?_,by simpa using r.uz,λj k b1 b2 w1 w2 c z1 z2 z3 z4=>?_,r.YC,r.kH,r.gen⟩
 .by_cases hj:j=i
  .subst hj
   have hi:j<e.aO:=by
    have:=(w0c.mp z).1;simpa using this
   rw[w0m hi]at z;cases z;rw[w0m (by rw[<- r.uz];exact hi)];exact⟨a,rfl,h2,h3,h4⟩
  .rw[w0j (λz=>hj z.symm)]at z |-
   exact r.xP j s z
 .have yF:∀(k:aT)(bb:fy aT)(ww:aj W),(e.ri i (S.aZ kvs))[k]?=ai (.ke bb ww)->k≠i/\e[k]?=ai (.ke bb ww):=λk bb ww z=>by
   by_cases hk:k=i
   .subst hk
    have hi:k<e.aO:=by
     have:=(w0c.mp z).1;simpa using this
    rw[w0m hi]at z;cases z
   .rw[w0j (λz=>hk z.symm)]at z;exact⟨hk,z⟩
  let⟨n1,q1⟩:=yF _ _ _ z1;let⟨n2,q2⟩:=yF _ _ _ z2;rw[w0j (λz=>n1 z.symm)]at z3
  rw[w0j (λz=>n2 z.symm)]at z4
  exact r.lZ _ _ _ _ _ _ _ q1 q2 z3 z4
def Hy:S->ie
 |.aZ _=>true
 |.dw sh _ _=>sh.tw
 |_=>false
def ph.zez{e:aj S}(r:ph K Z G σ H e){kvs kvs':Dd}{a:f'}(h:e[i]?=ai (.aZ kvs))(ha:σ[i]?=ai (ai (.dI a)))(ho:∀j s,j≠i->e[j]?=ai s->Hy s=false):ph K Z G σ (ny H a (dO kvs')) (e.ri i (.aZ kvs')):=by
 let⟨a',h1,h2,h3,h4⟩:=r.aZ h;rw[ha]at h1;cases h1;have hi:i<e.aO:=(w0c.mp h).1;refine⟨λc o z=>?_,λj s z=>?_,by simpa using r.uz,λj k b1 b2 w1 w2 c z1 z2 z3 z4=>?_,λc o z n=>?_,λc z=>?_,r.gen⟩
 .rw[aR (gh z h3)];exact r.pA c o z
 .by_cases hj:j=i
  .subst hj;rw[w0m hi]at z;cases z;exact⟨a,by rw[ha];rfl,bQ,h3,h4⟩
  .rw[w0j (λz=>hj z.symm)]at z
   have y:=r.xP j s z;cases s with
   |no=>trivial
   |fr w=>exact y
   |ke b2 w2=>
    let⟨c,ys,y1,y2,y3,y4,y5⟩:=y;refine⟨c,ys,y1,?_,y3,y4,y5⟩;rw[aR (fG y2 h2 (λz=>pQ rfl z.symm))];exact y2
   |aZ kv=>have:=ho j _ hj z;cases this
   |gP us w2 vs=>
    let⟨t,l,o,pX,ys,zs,y1,y2,y3,y4,y5,y6⟩:=y;refine⟨t,l,o,pX,ys,zs,y1,y2,?_,y4,y5,y6⟩;rw[aR (fG y3 h2 (λz=>pQ rfl z.symm))];exact y3
   |x k=>exact pk.Xu y (.tT _) λl o ys k1 k2 k3=>⟨by rw[aR (fG k1 h2 (λz=>pQ rfl z.symm))];exact k1,k2,k3⟩
   |dw sh ks ws=>
    have hI:sh.tw=false:=ho j _ hj z;exact iE.Xu y (.tT _) λl o ys k1 k2 k3=>⟨by rw[aR (fG k1 h2 (λz=>by rw[zX hI]at z;exact pQ rfl z.symm))];exact k1,k2,k3⟩
 .have yF:∀(k:aT)(bb:fy aT)(ww:aj W),(e.ri i (S.aZ kvs'))[k]?=ai (.ke bb ww)->e[k]?=ai (.ke bb ww):=λk bb ww z=>by
   by_cases hk:k=i
   .subst hk;rw[w0m hi]at z;cases z
   .rw[w0j (λz=>hk z.symm)]at z;exact z
  exact r.lZ _ _ _ _ _ _ _ (yF _ _ _ z1) (yF _ _ _ z2) z3 z4
 .rw[aR (gh z h4)];exact r.YC c o z n
 .by_cases hc:c=a
  .subst hc;rw[bQ];exact λz=>nomatch z
  .rw[aR hc];exact r.kH c z
def AD(i:aT):aj S->SR:=λe=>match e[i]? with
 |ai (.aZ d)=>.rt (.aZ d) e
 |_=>.no
def mI(i:aT)(e:aj S):ie:=(aj.u5 e.aO).rM λj=>decide (j=i)||!((e[j]?.a7 Hy).jd false)
theorem z7g{e:aj S}(h:mI i e=true):∀j s,j≠i->e[j]?=ai s->Hy s=false:=λj s hj hs=>by
 have hl:j<e.aO:=(w0c.mp hs).1;have:=w1d.mp h j (w0u.uY hl);rw[hs]at this
 simpa [hj]using this
def j0(i:aT)(w kw:W)(e:aj S):fy S->SR
 |ai (.aZ (.k kvs))=>match OL w,uq kw with
  |ai v,ai x=>if kvs.aO<16777216/\mI i e=true then .nx (e.ri i (.aZ (.k (_R kvs x v))))else .no
  |_,_=>.no
 |_=>.no
def kD(i:aT)(d dk:j' W):aj S->SR:=λe=>(d e).cR λw e1=>match e1[i]? with
 |ai (.aZ _)=>(dk e1).cR λkw e2=>j0 i w kw e2 e2[i]?
 |_=>.no
def z7h(i:aT)(hu:X.A.yH+150<yN)(he:DE Z X EE e d)(hk:DE Z X EE k dk)(hN:gu (X.N[i]?=ai x) jJ)(hv:gu (kg X.dt.gs x) jN)(hd:gu ((x==("__debug__":fv))=false) jK)(eK:gu ((x==("__classdict__":fv))=false) jK)
  (hs:gu (Zb e (ai (.Yl (.mU x p) k gp)) ia.X9 X.dt=uV false) jJ):DS Z X EE (.Zi [.Yl (.mU x p) k gp] e ia) (kD i d dk):=by
 refine PS.mV (RU (by omega) (pv i hN hv hd eK) hk he hs) ?_;rintro D σ H ⟨G,e,mT,h⟩;refine⟨G,e,mT,(ki h).uX (λw e1 h G1 v1 H1 r1 s1 p1=>?_) λ_ _ h=>h⟩
 split at h
 .rename_i kv0 uf;let⟨a,q1,q2,q3,q4⟩:=r1.aZ uf;refine⟨.dI a,q1,G1,e1,r1,(ki (σ:=σ) h).uX (λkw e2 h G2 v2 H2 r2 s2 p2=>?_) λ_ _ h G' H' r s=>h G' H' r (s1.lb s)⟩
  unfold j0 at h;split at h
  .rename_i kvs oH;let⟨a',g1,g2,g3,g4⟩:=r2.aZ oH;rw[q1]at g1;cases g1;split at h
   .rename_i v t Xg qX;split at h
    .rename_i hc;cases U6 p1 Xg;cases Lu p2 qX;refine⟨a,_,rfl,l5.k (k:=t) g2 (by rw[FY];unfold xG;rw[w0a];exact hc.1),?_⟩;rw[UI];exact h G2 σ _ (r2.zez (kvs':=.k (_R kvs t v)) oH q1 (z7g hc.2)) (s1.lb s2)
    .exact h.nU
   .exact h.nU
  .exact h.nU
 .exact h.nU
end
def rP(e:aj S):fy ie->R W
 |ai k=>.ok (.bl (!k)) e
 |none=>.no
def kC(da:j' W):j' W:=λe=>(da e).qK λx e1=>rP e1 (jg x)
def z7i{a:lU.oP}(ha:PE X a ta):PE X (._H .Not a ia) (λσ H Q=>ta σ H λx H1=>∃k,tV X.K x H1 k/\Q (.bl (!k)) H1):=by
 intro d0 s σ H Q I h;refine Ľ (bC (ha d0 s σ H _ I h) λv s1 ⟨x,H1,I1,r1,k,q1,q2⟩=>?_)
 exact not_of (bC (SS d0 s1 σ H1 x v (λk H2=>Q (.bl (!k)) H2) I1 r1 ⟨k,q1,q2⟩) λb s2 ⟨H2,I2,q3⟩=>⟨.bl (!b),H2,I2,rfl,q3⟩)
def z7j{Z:Zt}{a:lU.oP}(ha:DE Z X EE a da):DE Z X EE (._H .Not a ia) (kC da):=by
 refine PE.mV (z7i ha) ?_;rintro σ H Q ⟨G,e,mT,h⟩;simp only[kC,R.au]at h;refine⟨G,e,mT,h.uX (λx e1 h G1 v1 H1 r1 s1 p1=>?_) λ_ _ h=>h⟩
 cases q:jg x with
 |none=>rw[q]at h;exact h.nU
 |ai k=>
  rw[q]at h;exact⟨k,SX r1.pA p1 q,(show ∀G' v H',_->_->v=V.bl (!k)->Q v H' from h) G1 _ H1 r1 s1 rfl⟩
theorem z7k:kC da e=(da e).qK λx e1=>rP e1 (jg x):=rfl
theorem y7a:rP e (ai k)=.ok (.bl (!k)) e:=rfl
def HG(kvs:aj (Xx×Sv))(k:Xx):fy ie:=match lk kvs k with
 |ai (.mW b)=>ai b
 |_=>none
def vF(kvs l:aj (Xx×Sv)):aj Xx:=(l.DV λp=>HG kvs p.1==ai true).a7 (·.1)
def kW:Xx->W
 |.j9 i=>.a6 i
 |.mW x=>.str x
def Bj(e:aj S):fy S->R (aj W)
 |ai (.aZ (.k kvs))=>if kvs.aO<16777216/\(kvs.rM λp=>(HG kvs p.1).zi)=true then .ok ((vF kvs kvs).a7 kW) e else .no
 |_=>.no
theorem z7l:Bj e (ai (.aZ (.k kvs)))=if kvs.aO<16777216/\(kvs.rM λp=>(HG kvs p.1).zi)=true then .ok ((vF kvs kvs).a7 kW) e else .no:=rfl
def rV(i:aT)(dk:j' W)(w:W)(e1:aj S):fy S->SR
 |ai (.aZ _)=>(dk e1).cR λkw e2=>j0 i w kw e2 e2[i]?
 |_=>.no
def z7m:kD i d dk e=(d e).cR λw e1=>rV i dk w e1 e1[i]?:=by
 unfold kD rV;rfl
theorem z7n:rV i dk w e (ai (.aZ dd))=(dk e).cR λkw e2=>j0 i w kw e2 e2[i]?:=rfl
theorem z1l{b:ie}:j0 i (.bl b) (.a6 n) e (ai (.aZ (.k kvs)))=if kvs.aO<16777216/\mI i e=true then .nx (e.ri i (.aZ (.k (_R kvs (.j9 n) (.mW b)))))else .no:=rfl
theorem z1m:gG (.aZ dd)=.fr (.aZ dd):=rfl
theorem Q3d:uB (.a6 n) (.aZ (.k kvs))=ai (.bl (!(lk kvs (.j9 n)).zi)):=rfl
theorem Q6z:Bi (.aZ (.k kvs)) (.a6 n)=(lk kvs (.j9 n)).a7 Fc:=rfl
end D
namespace L2
open PySem PySem.Spec PyProof.Rows
def y7b{P:wW}{w:uG}{K:Fg}{mg mb:fv->fy eT}{CX:m_}{k:aT}{fa a:f'}{fd:Zo}{x:fv}{sp:Sp}{aH:oi}{vs:aj eT}{ns:aj dr}{yq:aj (f'×fv)}
  (KX:K.In aH.bj)(m8:aH.bj.Ns Yd mg)(hb:aH.bj.Ns ϭ mb)(yY:∀x:fv,x≠"__name__"->mb x=_r x)(xt:aH.bj.Ì)(hg:aH.YD=#[])
  (ha:aH.bj.iT a=ai {l_:=.je "list", n9:=.ot vs.lS})(hi:ώ vs ns)(hl:ns.aO<=u0)(hr:bA k ZM)
  (F:∀kT:g6,K.In kT->kT.Ns Yd mg->_l kT mg->eN P w K mg kT CX k fa fd [x] sp)(mn:∀(s:oi)(u:eT),_C s fd ⟨[u],[]⟩ [(x,u)])
  (tj:∀H:Hp,bI K H a (ns.a7 V.a6)->sp [.dI a] H (λv _=>v=.bl true) λ_ _ _=>uH)
  (xl:∀H e s',CX [] H aH (λ_ _ _=>uH) e s'->uH)
  (Wn:_l aH.bj mg)(hM:∀a q P,(a,ip P q)∈K->yq.hW P=ai q)(hT:∀P q,yq.hW P=ai q->aH.bj.iT P=ai (ϡ #[])/\ċ aH.bj P)(Gm:∀P q,yq.hW P=ai q->K.hW P=none):
  Za (p5 P w) ZM (.yG (.dI fa) ⟨[.dI a],[]⟩) (λr s'=>r=.ok (.zW (.xv true))/\ϑ aH.bj s'.bj/\s'.os=aH.os/\ZV s'.YD) aH:=by
 have rv:=JT hi;have Bk:=hi.aO
 have zb2:yq.hW a=none:=by
  cases q:yq.hW a with
  |none=>rfl
  |ai t=>rw[(hT a t q).1]at ha;cases ha
 have ϯ:∀H0:Hp,(∀b,H0 b=none\/∃o xs,H0 b=ai (.cB o (.dS xs)))->bI K H0 a (ns.a7 V.a6)->dg P w H0 aH.bj->(∀b,H0 b≠none->b=a)->(H0 a≠none->K.hW a=none) ->
   Za (p5 P w) ZM (.yG (.dI fa) ⟨[.dI a],[]⟩) (λr s'=>r=.ok (.zW (.xv true))/\ϑ aH.bj s'.bj/\s'.os=aH.os/\ZV s'.YD) aH:=by
  intro H0 hO Wv G9 hA hK;obtain⟨H,hH⟩:∃H:Hp,H=λb=>match yq.hW b with|ai q=>ai (.om #[.xv true,.str q 0])|none=>H0 b:=⟨_,rfl⟩
  have DP:∀b q,yq.hW b=ai q->H b=ai (.om #[.xv true,.str q 0]):=λb q z=>by rw[hH];simp only[z]
  have rR:∀b,yq.hW b=none->H b=H0 b:=λb z=>by rw[hH];simp only[z]
  have up:∀b u,H0 b=ai u->H b=ai u:=λb u z=>by
   have:b=a:=hA b (by rw[z];simp);subst this;rw[rR b zb2];exact z
  have hS:bI K H a (ns.a7 V.a6):=by
   rcases Wv with(z|⟨o,z⟩)|z
   .exact .j9 (.j9 (up _ _ z))
   .exact .j9 (.mW ⟨o,up _ _ z⟩)
   .exact .mW z
  have aJ:dg P w H aH.bj:=λb u z=>by
   cases q:yq.hW b with
   |ai t=>
    rw[DP b t q]at z;cases z;exact .j9 ⟨t,#[],rfl,rfl,(hT b t q).1,trivial,λia cv z=>by cases z⟩
   |none=>
    rw[rR b q]at z;exact(G9 b u z).fi (λc v _ q=>q) (λc q=>up c _ q) λc v _ q=>up c v q
  have fZ:∀{b:f'}{o:qH},aH.bj.iT b=ai o->H b=none->(gT aH.bj H).iT b=ai o:=λe n=>QE e n
  have rk:∀{b:f'}{o:qH},aH.bj.iT b=ai o->o≠{l_:=.je "list", n9:=.ot vs.lS}->o≠ϡ #[]->H b=none:=λ{b o} e d1 d2=>by
   cases q:yq.hW b with
   |ai t=>rw[(hT b t q).1]at e;cases e;exact uv rfl d2
   |none=>
    rw[rR b q];cases q0:H0 b with
    |none=>rfl
    |ai u=>
     have e':b=a:=hA b (by rw[q0];simp);subst e';rw[ha]at e;cases e;exact uv rfl d1
  have uD:∀{b:f'}{m:fv->fy eT},aH.bj.Ns b m->(gT aH.bj H).Ns b m:=λ{b m} ⟨o,es,ep,e,d,r⟩=>⟨o,es,ep,fZ e (rk e (λz=>by rw[z]at d;cases d) λz=>by rw[z]at d;cases d),d,r⟩
  have AM:K.In (gT aH.bj H):=λb o e=>fZ (KX b o e) (by
   cases q:yq.hW b with
   |ai t=>rw[Gm b t q]at e;cases e
   |none=>
    rw[rR b q];cases q0:H0 b with
    |none=>rfl
    |ai u=>
     have e':b=a:=hA b (by rw[q0];simp);subst e';rw[hK (by rw[q0];simp)]at e;cases e)
  have Wo:_l (gT aH.bj H) mg:=by
   let⟨bm,ob,b1,b2,b3,b4,b5,b6⟩:=Wn;exact⟨bm,ob,b1,b2,fZ b3 (rk b3 (λz=>by rw[z]at b4;simp at b4) λz=>by rw[z]at b4;cases b4),b4,b5,b6⟩
  have Ws:Τ K mg (gT aH.bj H):=⟨AM,uD m8,⟨mb,uD hb,yY⟩,let ⟨mc,h1,h2⟩:=xt;⟨mc,uD h1,h2⟩⟩;have e0:i3 P w K mg (gT aH.bj H) ZM [] aH H:=⟨rfl,Ws,λb o e=>Rn e,aT.le_of_eq (Py _ _),trivial,λb hb=>uv (show b∈([]:aj f')from hb) (by simp),aJ,.Á hg,λa q P m=>⟨_,DP P q (hM a q P m),rfl,rfl⟩⟩
  refine Γ ((F _ AM (uD m8) Wo).ll ZM [] aH H ⟨[.dI a],[]⟩ [.dI a] [.dI a] _ _ hr e0 (mn aH (.dI a)) (.p9 rfl .ro) (tj H hS)) λr s' h=>?_
  cases r with
  |_t e=>exact(xl H e s' h).nU
  |ok fl=>
   cases fl with
   |next=>exact uH.nU h
   |ZL=>exact uH.nU h
   |ZN=>exact uH.nU h
   |zW u=>
    let⟨v,H',os,M_,un,uk,r',q⟩:=h;have q':v=.bl true:=q;subst q';obtain rfl:u=eT.xv true:=r'
    have kp:∀b o,yq.hW b=none->aH.bj.iT b=ai o->s'.bj.iT b=ai o:=λb o z e=>by
     cases q:H b with
     |none=>exact un.xJ b o e q (by intro z;exact uv (show b∈([]:aj f')from z) (by simp)) (by simp)
     |ai u=>
      have q0:=q;rw[rR b z]at q0;rcases hO b with z|⟨ob,xs,z⟩
      .rw[q0]at z;cases z
      .rw[q0]at z;cases z;have z2:=un.aY b ob _ q;let⟨e1,_⟩:=(show aH.bj.iT b=ai ob/\_ from aJ b _ q);let⟨e2,_⟩:=(show s'.bj.iT b=ai ob/\_ from uk b _ z2);rw[e]at e1;cases e1;exact e2
    have gr:∀b t,yq.hW b=ai t->∃qs,s'.bj.iT b=ai (ϡ qs):=λb t z=>by
     let⟨ZR,e⟩:=un.fj b _ (DP b t z);have o1:aS P w H' s'.bj b (.om (#[.xv true,.str t 0]++ZR)):=uk b _ e;rcases o1 with⟨_,qs,_,_,g,_⟩|⟨_,_,_,_,_,_,p0,_⟩
     .exact⟨qs,g⟩
     .rw[w1t (by simp)]at p0;cases p0
    refine⟨rfl,⟨λb o e=>?_,λb o e=>?_⟩,os,M_⟩
    .cases z:yq.hW b with
     |none=>exact .j9 (kp b o z e)
     |ai t=>
      let⟨qs,g⟩:=gr b t z;let⟨g1,g2⟩:=hT b t z;rw[e]at g1;cases g1;exact .mW (.j9 ⟨g2,rfl,#[],qs,rfl,by rw[yw.empty_append];exact g⟩)
    .cases z:yq.hW b with
     |none=>exact⟨o,kp b o z e⟩
     |ai t=>
      let⟨qs,g⟩:=gr b t z;exact⟨_,g⟩
 cases hk:K.hW a with
 |ai o=>
  have e:=KX a o hk;rw[ha]at e;cases e;refine ϯ (λ_=>none) (λ_=>.j9 rfl) (.mW ⟨_,vs.lS,_,hk,rfl,rfl,rfl,by rw[w0e,Bk];exact hl,by simpa using rv⟩) (λb u z=>by have z':(none:fy HO)=ai u:=z;cases z') (λb z=>uv rfl z) λz=>uv rfl z
 |none=>
  refine ϯ (λb=>if b=a then ai (.cB {l_:=.je "list", n9:=.ot vs.lS} (.dS (ns.a7 V.a6)))else none) (λb=>?_) (.j9 (.mW ⟨{l_:=.je "list", n9:=.ot vs.lS},mS rfl⟩)) (λb u z=>?_) (λb z=>?_) λ_=>hk
  .by_cases hb:b=a
   .exact .mW ⟨_,_,mS hb⟩
   .exact .j9 (sF hb)
  .by_cases hb:b=a
   .have z':=(mS hb).symm.lb z;cases z';subst hb;exact⟨ha,by rw[w0a];exact hl,vs,_,rv,ha⟩
   .have z':=(sF hb).symm.lb z;cases z'
  .by_cases hb:b=a
   .exact hb
   .exact uv (sF hb) z
def X'(tk tv:TE):TE:=λσ H Q=>∀p,H p=none->tk σ (ny H p (.dK [])) λk H1=>tv σ H1 λv H2=>∃kk,k=kV kk/\H2 p=ai (.dK [])/\Q (.dI p) (ny H2 p (.dK [(kk,v)]))
def VH(hk:PE X ek tk)(hv:PE X ev tv):PE X (.ϋ [ai ek] [ev] ia) (X' tk tv):=by
 intro d0 s σ H Q I h;refine wpAny_Dict_any rfl rfl (by simp) (by simp) ?_;have fr:H s.bj.g0.d3=none:=I.aJ.yI (w0f _);have I0:=I.Mk (a:=s.bj.g0.d3) (o:=.dK []) (t':=s.rJ) (λ_ _ q=>g6.w6 _ q) (w0f _) (z1f s.bj I.big)
 show oh _ _ (evalPairs [(eval ek X.dt,do let x <- eval ev X.dt;í ia;uV x)]) _ _ _;refine evalPairs_cons (bC (hk d0 _ σ _ _ I0 (h _ fr)) λzcU s1 ⟨k,H1,I1,zdA,q1⟩=>?_)
 refine lT (bC (hv d0 s1 σ H1 _ I1 q1) λvu s2 ⟨v,H2,I2,rv,kk,e,hp,q⟩=>lT (ı (t8 (evalPairs_nil ?_))))
 subst e;let⟨z,hd,vs,mT,dd⟩:=T8 I2.aJ hp;cases mT;refine wpAny_storeAll (knd:=cZ X.jf X.w) [(zcU,vu)] [(kk,vu)] [] s2 _ ⟨FH zdA,rfl,trivial⟩ dd (by rw[FY];simp) λh' vn hs=>?_
 have he:∃q,h'.iT s.bj.g0.d3=ai q:=let ⟨q,_,_,hq,_⟩:=vn;⟨q,hq⟩;have vo:h'.ό (cZ X.jf X.w) s.bj.g0.d3 [(kk,vu)]:=vn;refine⟨.dI s.bj.g0.d3,_,Lr I2 (by rw[hp];exact ku.intro) hs he (S8 (kvs:=[(kk,v)]) (by rw[FY];simp) hd (.p9 ⟨rfl,rv⟩ .ro) vo),rfl,q⟩
end L2
namespace D
open PySem L2
variable{X:Cx}{dA:j' (aj W)}{G H:Hp}{EE:L2.St->XK}{es:aj oP}{e:aj S}{i:aT}{r:aT->aj W->FR}{p ia:vd}{K:Fg}{x:fv}{Z:Zt}
mutual
noncomputable def noFn:W->Bool
 |.tup ws=>bH ws
 |.lst ws=>bH ws
 |.dw _ _ _ ws=>bH ws
 |.fn _ _ _=>false
 |.aC=>true
 |.bl _=>true
 |.int _=>true
 |.str _=>true
 |.exc _=>true
 |.aZ _=>true
noncomputable def bH:List W->Bool
 |[]=>true
 |w::ws=>noFn w&&bH ws
end
section
variable{cs:Cs}
def Rd.rm{a:f'}{u:HO}(c:bF G cs)(h:Rd G a u)(n:∀o,u≠kX o)(n2:∀φ,u≠.ext φ):Rd (dq G cs) a u:=by
 rcases h with h|⟨o,h⟩
 .exact .j9 (c.c5 h n)
 .exact .mW ⟨o,c.c5 h λo' z=>by cases z;exact n2 _ rfl⟩
theorem c7.rm(c:bF G cs):∀{ks:aj Kx}{bs:aj f'},c7 G ks bs->c7 (dq G cs) ks bs
 |[],[],_=>trivial
 |k::ks,b::bs,h=>⟨cF.YE (λ_ _ t z=>c.c5 z (OZ t)) k h.1,c7.rm c h.2⟩
 |[],_::_,h=>h.nU
 |_::_,[],h=>h.nU
def cA.rm{sh:Sh}(c:bF G cs){ks:aj Kx}{bs:aj f'}(h:cA sh G ks bs):cA sh (dq G cs) ks bs:=by
 unfold cA at h |-
 split at h
 .rename_i hi;rw[mS hi];exact h
 .rename_i hi;rw[sF hi];exact h.rm c
mutual
theorem Rep.rm(c:bF G cs):∀(w:W){v:V},noFn w=true->Rep K G w v->Rep K (dq G cs) w v
 |.aC,v,_,h=>h
 |.bl b,v,_,h=>h
 |.int i,v,_,h=>h
 |.str x,v,_,h=>h
 |.tup ws,v,n,h=>by
  let⟨a,xs,rfl,q,r⟩:=h;refine⟨a,xs,rfl,?_,aq.rm c ws n r⟩;rcases q with q|q
  .exact .inl (Rd.rm c q (λo z=>nomatch z) λφ z=>nomatch z)
  .exact .inr q
 |.lst ws,v,n,h=>by
  let⟨a,xs,rfl,q,r⟩:=h;refine⟨a,xs,rfl,?_,aq.rm c ws n r⟩;rcases q with q|q
  .exact .inl (Rd.rm c q (λo z=>nomatch z) λφ z=>nomatch z)
  .exact .inr q
 |.exc e,v,_,h=>by
  let⟨a,rfl,q⟩:=h;exact⟨a,rfl,c.c5 q λo z=>by unfold nE at z;cases z⟩
 |.aZ kvs,v,_,h=>by
  let⟨a,rfl,q⟩:=h;exact⟨a,rfl,c.c5 q λo z=>by cases kvs;cases z⟩
 |.dw fz sh ks ws,v,n,h=>by
  let⟨a,kvs,bD,rfl,h1,h2,h3,h4⟩:=h;refine⟨a,kvs,bD,rfl,?_,h2,cA.rm c h3,aq.rm c ws n h4⟩;cases fz with
  |true=>let⟨o,h1⟩:=h1;exact⟨o,c.c5 h1 λo z=>by injection z with _ z;exact tJ rfl z⟩
  |false=>exact c.c5 h1 λo z=>tJ rfl z
 |.fn _ _ _,v,n,_=>by cases n
theorem aq.rm(c:bF G cs):∀(ws:List W){xs:List V},bH ws=true->aq K G ws xs->aq K (dq G cs) ws xs
 |[],xs,_,h=>h
 |w::ws,xs,n,h=>by
  let⟨x,r,rfl,h1,h2⟩:=h
  have n':noFn w=true/\bH ws=true:=by
   simp_all [bH]
  exact⟨x,r,rfl,Rep.rm c w n'.1 h1,aq.rm c ws n'.2 h2⟩
end
end
section
variable{G' H':Hp}{cs:Cs}
theorem Ld(h:∀b o,cs.hW b=ai o->H b=none):ar H (bT H cs):=λb u e=>by
 cases q:cs.hW b with
 |ai o=>grind
 |none=>rw[iy q];exact e
theorem EI(h:ar G H):ar (bT G cs) (bT H cs):=λb u e=>by
 cases q:cs.hW b with
 |ai o=>rw[pO q]at e |-;exact e
 |none=>rw[iy q]at e |-;exact h b u e
theorem QV(h:ar G H):ar (dq G cs) (dq H cs):=λb u e=>by
 let⟨e1,e2⟩:=Me e;rw[mK e2];exact h b u e1
theorem aN.lam(ch:bF H cs)(cg:bF G cs)(e1:ar (dq H cs) H')(e2:ar (dq G cs) G')(e3:ar G' H')(e4:∀a,dq H cs a≠none->G' a=dq G cs a):aN G H (bT G' cs) (bT H' cs) where
 hh:=λb u e=>by
  cases q:cs.hW b with
  |ai o=>rw[pO q];rw[ch b o q]at e;exact e
  |none=>rw[iy q];exact e1 b u (by rw[mK q];exact e)
 gg:=λb u e=>by
  cases q:cs.hW b with
  |ai o=>rw[pO q];rw[cg b o q]at e;exact e
  |none=>rw[iy q];exact e2 b u (by rw[mK q];exact e)
 pA:=EI e3
 xM:=λa ha=>by
  cases q:cs.hW a with
  |ai o=>rw[pO q,cg a o q]
  |none=>
   rw[iy q,e4 a (by rw[mK q];exact ha),mK q]
theorem aN.gc(g:aN (bT G cs) (bT H cs) G' H')(hn:∀b o,cs.hW b=ai o->H b=none)(sg:ar G H):aN G H (dq G' cs) (dq H' cs) where
 hh:=λb u e=>by
  cases q:cs.hW b with
  |ai o=>rw[hn b o q]at e;cases e
  |none=>rw[mK q];exact g.hh b u (by rw[iy q];exact e)
 gg:=λb u e=>by
  cases q:cs.hW b with
  |ai o=>have:=sg b u e;rw[hn b o q]at this;cases this
  |none=>rw[mK q];exact g.gg b u (by rw[iy q];exact e)
 pA:=QV g.pA
 xM:=λa ha=>by
  cases q:cs.hW a with
  |ai o=>exact uv (hn a o q) ha
  |none=>rw[mK q,g.xM a (by rw[iy q];exact ha),iy q]
end
def gS:R W->FR
 |.ok w _=>.ok (.fr w)
 |.ex c _=>.ex c
 |.no=>.no
def zV(K:Fg)(bS:aT->fy Lm)(r:aT->aj W->FR):V->aj V->Hp->VK->XK->Prop:=λx vs H Q _=>∃G i l aP ws w,ar G H/\pW K G (.fn i l aP) x/\aq K G ws vs/\bH ws=true/\bH aP=true/\bS i=ai l /\
 r i (ws++aP)=.ok (.fr w)/\∀G' H' v,aN G H G' H'->pW K G' w v->Q v H'
structure l7(P:wW)(w:uG)(K:Fg)(mg:fv->fy eT)(kT:g6)(n:aT)(l:Lm)(ps:aj fv)(F:aj W->FR):Prop where
 sc:g9 ps l.nf l.gs
 qK:∀(cl:aj (fv×f'))(pm:eT)(c':f')(eJ:eT)(us:aj eT),us.aO=ps.aO->γ (à "<lambda>" l.rN l.ua l.t6 l.gs cl pm (.dI c') eJ) ⟨us,[]⟩=uV (ps.wt us)
 uz:∀ws,F ws≠.no->ws.aO=ps.aO+l.nf.aO
 t6:∀ws,F ws≠.no->∀(Z:Zt)(f:f')(cd:eT)(cl:aj (fv×f'))(A:FZ)(qp:aj MO)(s:oi)(H:Hp),bA n (A.Zu (eF l.rN l.gs f cd cl s)) ->
  ∃d,DE Z (kA P w K mg kT (ps++l.nf) l.rN l.gs f cd cl A qp s H) (λ_=>E0) l.t6 d/\gS (d (ws.a7 .fr))=F ws
def U8{P:wW}{w:uG}{mg:fv->fy eT}{kT:g6}{n:aT}{bS:aT->fy Lm}(h:∀i l,bS i=ai l->∃ps,l7 P w K mg kT n l ps (r i)):
  sP P w K mg kT (ee P w) (n+1) (zV K bS r):=by
 rintro x vs H Q E ⟨G,i,l,aP,ws,w',sg,rf,rv,nw,nc,hl,hr,q⟩;let⟨ps,L⟩:=h i l hl;let⟨f,cl,zs,cs,rfl,⟨pm,c',eJ,ef⟩,FC,rz⟩:=rf;have hn:r i (ws++aP)≠.no:=by grind
 have wR:=L.uz _ hn;have hz:zs.aO=l.nf.aO:=FC.uz;have eL:aP.aO=l.nf.aO:=by grind [aq.aO]
 have tq:ws.aO=ps.aO:=by grind
 have Xi:vs.aO=ps.aO:=by grind [aq.aO]
 have cg:bF G cs:=λb o e=>(FC.oB b o e).1
 have ch:bF H cs:=λb o e=>sg _ _ (cg b o e)
 refine⟨f,_,_,_,_,_,rfl,sg _ _ ef,λA qp s us hR e0 ru=>?_⟩
 have Hq:us.aO=ps.aO:=by grind [t9.aO]
 have Ui:jt cl l.nf l.gs zs s.bj cs:=⟨FC.yB,FC.YO,FC.rM,λc o e=>⟨(show s.bj.iT c=ai o/\_ from e0.aJ c _ (ch c o e)).1,(FC.oB c o e).2⟩,FC.vI⟩
 let⟨d,hd,he⟩:=L.t6 _ hn ⟨dq H cs,dq G cs,[]⟩ f (.dI c') cl A qp s (dq H cs) (hR.Zu _);refine z4n hR e0 (sg _ _ ef) L.sc ch Ui (L.qK cl pm c' eJ us Hq) Xi hz ru hd ?_;have X6:ar (dq G cs) (dq H cs):=QV sg;have rr:aq K (dq G cs) (ws++aP) (vs++zs):=(aq.rm cg ws nw rv).Xy (aq.rm cg aP nc rz);have mT:=QK (N:=ps++l.nf) X6 rr
 have e1:L2.Z9 (ps++l.nf) (vs++zs)=vs.a7 ai++zs.a7 ai:=by
  simp_all [L2.Z9]
 have e2:ZO (ps++l.nf).aO (ws++aP)=(ws++aP).a7 .fr:=by
  simp_all [ZO]
 rw[e1,e2]at mT;refine⟨dq G cs,_,mT,?_⟩;cases Gx:d ((ws++aP).a7 .fr)with
 |ok w2 e'=>
  rw[Gx,hr]at he;cases he;intro G' v H' r' zdD rp kG
  have GY:∀b o,cs.hW b=ai o->G' b=none:=λb o z=>by
   cases q2:G' b with
   |none=>rfl
   |ai u=>have:=r'.pA b u q2;grind
  exact q (bT G' cs) (bT H' cs) v (aN.lam ch cg (λb u e=>r'.YC b u e (λz=>nomatch z)) zdD r'.pA r'.gen) (pW.mV (Ld GY) _ rp)
 |ex c e'=>rw[Gx,hr]at he;cases he
 |no=>rw[Gx,hr]at he;cases he
section
variable{e:oP}{k:aT}{bS:aT->fy Lm}
open Classical in
def iI(bS:aT->fy Lm)(r:aT->aj W->FR)(j:aT)(l:Lm)(aP:aj W)(ws:aj W)(e1:aj S):R W:=
 if bS j=ai l/\bH ws=true/\bH aP=true then(match r j (ws++aP)with
  |.ok (.fr w)=>.ok w e1
  |_=>.no)else .no
def kU(bS:aT->fy Lm)(r:aT->aj W->FR)(dA:j' (aj W))(e:aj S):fy S->R W
 |ai (.fr (.fn j l aP))=>(dA e).qK λws e1=>iI bS r j l aP ws e1
 |_=>.no
def iJ(bS:aT->fy Lm)(r:aT->aj W->FR)(i:aT)(dA:j' (aj W)):j' W:=λe=>kU bS r dA e e[i]?
def z1n(i:aT)(F:sP X.jf X.w X.K X.mg X.kT (ee X.jf X.w) k (zV X.K bS r))(hr:bA k X.A)(hx:dP (ee X.jf X.w) X EE)(ha:DA Z X EE (e::es) dA)(hv:PE X (.mU x p) (sH i))
  (he:gu (oj (e::es) X.dt=(false,eval e X.dt)::oj es X.dt) jJ)(dz:gu ((yC ia (oj es X.dt)).tZ (·.1)=false) jJ):
  DE Z X EE (.wu (.mU x p) (e::es) [] ia) (iJ bS r i dA):=by
 refine PE.mV (y9q F hr hv hx ha he dz) ?_;rintro σ H Q ⟨G,en,mT,h⟩;unfold iJ kU at h;split at h
 .rename_i j l aP hs;let⟨v,hv,rv⟩:=mT.fr hs;refine⟨v,hv,?_,G,en,mT,?_⟩
  .let⟨f,cl,zs,cs,rfl,⟨pm,c',eJ,ef⟩,_⟩:=rv;exact⟨f,_,_,_,_,_,rfl,mT.pA _ _ ef⟩
  .rw[R.au]at h;refine h.uX (λws e1 h G1 vs H1 r1 s1 p1=>?_) λ_ _ h=>h
   unfold iI at h;split at h
   .rename_i hc;split at h
    .rename_i w hw;exact⟨G1,j,l,aP,ws,w,r1.pA,pW.mV s1 (.fn j l aP) rv,p1,hc.2.1,hc.2.2,hc.1,hw,λG' H' v g rp=>h G' v H' (r1.yJ g) (s1.lb g.gg) rp⟩
    .exact h.nU
   .exact h.nU
 .exact h.nU
end
def dj:aj aT->aj S->fy (aj W)
 |[],_=>ai []
 |j::js,e=>match e[j]? with
  |ai (.fr w)=>(dj js e).a7 (w::·)
  |_=>none
theorem Ka{σ:L2.St}(r:ph K Z G σ H e):∀{js:aj aT}{aP:aj W},dj js e=ai aP->∃zs:aj V,aq K G aP zs/\zs.aO=js.aO/\∀(i j:aT) z,js[i]?=ai j->zs[i]?=ai z->σ[j]?=ai (ai z)
 |[],aP,h=>by
  cases h;exact⟨[],rfl,rfl,λi j z h _=>by simp at h⟩
 |j::js,aP,h=>by
  unfold dj at h;split at h
  .rename_i w hw;let⟨cs,h1,rfl⟩:=w0i.mp h;let⟨zs,r1,r2,r3⟩:=Ka r h1;let⟨v,v1,v2⟩:=r.fr hw;refine⟨v::zs,⟨v,zs,rfl,v2,r1⟩,by simp[r2],λi zcM z g1 g2=>?_⟩
   cases i with
   |TL=>
    simp only[w0g,fy.ai.injEq]at g1 g2;subst g1;subst g2;exact v1
   |OK i=>exact r3 i zcM z (by simpa using g1) (by simpa using g2)
  .cases h
def iP(e1:aj S):FR->R W
 |.ok (.fr w)=>if ZG w=true then .ok w e1 else .no
 |.ex c=>.ex c e1
 |_=>.no
def eZ(F:aj W->FR)(j:aT)(l:Lm)(w:W)(e1:aj S):fy (aj W)->R W
 |ai aP=>iP e1 (F [w,.fn j l aP])
 |none=>.no
def dR(F:aj W->FR)(j:aT)(l:Lm)(js:aj aT)(d:j' W):j' W:=λe=>(d e).qK λw e1=>eZ F j l w e1 (dj js e1)
section
variable{e t6:oP}{ua:Z_}{d:j' W}{d6:vd}{k:aT}{ps N nf:aj fv}{js:aj aT}{sc gs:zb}{F:aj W->FR}
def Pc(j:aT)(l:Lm)(C:sN X.jf X.w X.K X.mg X.kT k x ps (n0 X.K F))(hr:bA k X.A)(hx:dP (ee X.jf X.w) X EE)(M:ϐ X)(qW:∀y,X.fn y=true)(he:DE Z X EE e d)(ok:b9 sc gs N nf js=true)
  (hl:gu (l=⟨X.dt.rN++"<lambda>", ua,t6,gs,nf⟩) jJ)(k_:gu (Ù ua X.dt=([],[])) jJ)(hsc:gu (X.dt.gs=sc) jJ)(hN:gu (X.N=N) jJ)(hg:gu (Gl X x) jJ)
  (f_:gu ((x==("__debug__":fv))=false) jK)(ko:gu (oj [e,.Y6 ua t6 gs d6] X.dt=(false,eval e X.dt)::oj [.Y6 ua t6 gs d6] X.dt) jJ)
  (xw:gu (oj [.Y6 ua t6 gs d6] X.dt=(false,eval (.Y6 ua t6 gs d6) X.dt)::oj [] X.dt) jJ)(dz:gu ((yC ia (oj [.Y6 ua t6 gs d6] X.dt)).tZ (·.1)=false) jJ):
  DE Z X EE (.wu (.mU x p) [e,.Y6 ua t6 gs d6] [] ia) (dR F j l js d):=by
 let⟨fa,fd,FF,m,kp,bd⟩:=C.ex;unfold b9 at ok;simp only[w0l,w1d,ZD,ϙ,w3j,w0u]at ok;obtain⟨⟨⟨⟨⟨⟨k1,k2⟩,k3⟩,k4⟩,k5⟩,k6⟩,k7⟩:=ok;have yD:∀x,X.dt.yL x=sc.p6.hW x:=λx=>by rw[<- hsc];rfl
 refine PE.mV (y3b (Nf:=nf) (js:=js) FF hr hg m kp bd hx M qW he k_ (λx hx hf=>?_) (λi j y e1 e2=>?_) f_ ko xw dz) ?_
 .rw[yD];rcases k4 x hx with(z|z)|z
  .exact uv hf z
  .exact .j9 z
  .exact .mW z
 .have b8:i<js.aO:=(w0c.mp e2).1;have z:=k6 i b8;rw[e1,e2]at z;let⟨z1,z2⟩:=k7 y (w0y e1);refine⟨by rw[hN];simpa using z,lU.ZQ z1,?_,?_⟩
  .rw[hsc];rcases z2 with z|z
   .exact .mW (.j9 z)
   .exact .mW (.mW z)
  .rw[yD];rcases z2 with z|z<;>(rw[z];decide)
 .rintro σ H Q ⟨G,en,mT,h⟩;simp only[dR,R.au]at h;refine⟨G,en,mT,h.uX (λw e1 h G1 v1 H1 r1 s1 p1 f a9 H2 la=>?_) λ_ _ h=>h⟩
  let⟨eY,Hm,pm,eJ,c',hH,hf,rfl⟩:=la
  have rm:ph X.K Z G1 σ Hm e1:=by
   rcases hH with rfl|⟨c,oc,hc,rfl⟩
   .exact r1
   .exact r1.yJ (aN.nL r1.pA hc _)
  have gl:=aN.Mk rm.pA hf (mi (Zz "<lambda>" (X.dt.rN++"<lambda>") ua t6 gs a9 pm c' eJ) (X.dt.rN++"<lambda>") c');have r2:=rm.yJ gl;refine⟨a9,eY,λcs co=>?_⟩
  cases k9:dj js e1 with
  |none=>rw[k9]at h;exact h.nU
  |ai aP=>
   rw[k9]at h;let⟨zs,rz,zl,zv⟩:=Ka r1 k9;have s_:∀b o,cs.hW b=ai o->ny Hm f (mi (Zz "<lambda>" (X.dt.rN++"<lambda>") ua t6 gs a9 pm c' eJ) (X.dt.rN++"<lambda>") c') b=none:=λb o z=>(co.oB b o z).1
   have AI:∀b o,cs.hW b=ai o->ny G1 f (mi (Zz "<lambda>" (X.dt.rN++"<lambda>") ua t6 gs a9 pm c' eJ) (X.dt.rN++"<lambda>") c') b=none:=λb o z=>by
    cases q:ny G1 f (mi (Zz "<lambda>" (X.dt.rN++"<lambda>") ua t6 gs a9 pm c' eJ) (X.dt.rN++"<lambda>") c') b with
    |none=>rfl
    |ai u=>have:=r2.pA b u q;rw[s_ b o z]at this;cases this
   have sA:=gl.gg.lb (Ld AI)
   have xh:cs.hW f=none:=by
    cases q:cs.hW f with
    |none=>rfl
    |ai o=>have:=AI f o q;rw[bQ]at this;cases this
   have fc:fW (bT (ny G1 f (mi (Zz "<lambda>" (X.dt.rN++"<lambda>") ua t6 gs a9 pm c' eJ) (X.dt.rN++"<lambda>") c')) cs) a9 l zs cs:=by
    subst hl;refine⟨co.yB,co.YO,co.rM,λc o z=>⟨pO z,(co.oB c o z).2⟩,λi y z g1 g2=>?_,by rw[zl];exact k5⟩
    have hi:i<js.aO:=by rw[<- zl];exact(w0c.mp g2).1
    have g3:js[i]?=ai js[i]:=w0b hi;exact co.vI i y js[i] z g1 g3 (zv i _ z g3 g2)
   have Kr:pW X.K (bT (ny G1 f (mi (Zz "<lambda>" (X.dt.rN++"<lambda>") ua t6 gs a9 pm c' eJ) (X.dt.rN++"<lambda>") c')) cs) (.fn j l aP) (.dI f):=by
    refine⟨f,a9,zs,cs,rfl,⟨pm,c',eJ,?_⟩,fc,aq.mV sA aP rz⟩;rw[iy xh,bQ,hl]
   refine⟨_,[w,.fn j l aP],EI r2.pA,⟨v1,[.dI f],rfl,pW.mV sA w p1,⟨.dI f,[],rfl,Kr,rfl⟩⟩,?_⟩;cases q:F [w,.fn j l aP]with
   |ok s=>
    simp only[eZ,q]at h;cases s with
    |fr w'=>
     simp only[iP]at h;split at h
     .rename_i W3;intro G' H' v g sl;let⟨u,h1,h2⟩:=sl;cases h1;have g':=aN.gc g s_ r2.pA;have ci:bF G' cs:=λb o z=>g.gg b _ (pO z)
      exact h (dq G' cs) v (dq H' cs) (r2.yJ g') (s1.lb (gl.gg.lb g'.gg)) (pW.rm ci w' W3 h2)
     .exact h.nU
    |_=>exact h.nU
   |ex c=>
    simp only[eZ,q,iP]at h;intro H' sh;refine TY r2 (s1.lb gl.gg) h (dq H' cs) λb u z=>?_
    cases q2:cs.hW b with
    |ai o=>rw[s_ b o q2]at z;cases z
    |none=>rw[mK q2];exact sh b u (by rw[iy q2];exact z)
   |no=>simp only[eZ,q,iP]at h;exact h.nU
end
section
variable{a b:oP}{da db:j' W}
def uS:W->W->fy (aj W)
 |.dS ws,.a6 k=>if qi k=true/\ws.aO*k.sG<=16777216 then ai (aj.w4 k.sG ws).Yo else none
 |_,_=>none
def kE(da db:j' W):j' (aj W):=λe=>(da e).qK λx e1=>(db e1).qK λy e2=>bx (uS x y) e2
def Q3f(ha:DE Z X EE a da)(hb:DE Z X EE b db):DF Z X EE (._m a .Υ b ia) (kE da db):=by
 refine PE.mV (TR RN ha hb) ?_;rintro σ H Q ⟨G,e,mT,h⟩;simp only[kE,R.au,a8]at h;refine⟨G,e,mT,h.uX (λx e1 h G1 v1 H1 r1 s1 p1=>?_) λ_ _ h=>h⟩
 refine⟨G1,e1,r1,h.uX (λy e2 h G2 v2 H2 r2 s2 p2=>?_) λ_ _ h G' H' r s=>h G' H' r (s1.lb s)⟩
 let⟨uZ,hf,h⟩:=h;unfold uS at hf;split at hf
 .rename_i ws k;split at hf
  .rename_i hc;cases hf;let⟨l,xs,rfl,hq,rp⟩:=pW.mV s2 _ p1;cases(show v2=.a6 k from p2);have b:=yh hc.1;refine⟨l,k,xs,rfl,rfl,r2.pA.ot hq,by omega,by omega,by rw[rp.aO,FY];exact hc.2,?_⟩;exact EV r2 (s1.lb s2) (EW rp k.sG) h
  .cases hf
 .cases hf
end
theorem z7o{da db:j' W}:kE da db e=(da e).qK λx e1=>(db e1).qK λy e2=>bx (uS x y) e2:=rfl
def keyOf:W->fy Xx
 |.a6 i=>ai (.j9 i)
 |.str x=>ai (.mW x)
 |_=>none
def zeQ(i:aT)(v:Sv)(e:aj S):fy Xx->SR
 |ai k=>.nx (e.ri i (.aZ (.k [(k,v)])))
 |none=>.no
def lO(i:aT)(v:Sv)(e:aj S):fy S->SR
 |ai (.fr w)=>zeQ i v e (keyOf w)
 |_=>.no
def iK(i j:aT)(v:Sv):aj S->SR:=λe=>lO i v e e[j]?
section
variable{y:fv}
def z1o(i j:aT){n:dr}{c cp}{YI qN:vd}(hN:X.N.yr)(hk:PE X (.mU y p) (sH j))(hi:gu (X.N[i]?=ai x) jJ)(hx:gu (YT X.dt.gs x) jM)(hs:gu (Zb (.ϋ [ai (.mU y p)] [.YS (.a6 n) c cp] qN) (ai (.mU x YI)) ia.X9 X.dt=uV false) jJ)(hf:gu (X.fn x=true\/X.dt.gs.p6.hW x=ai .local) jL):
  DS Z X EE (.Zi [.mU x YI] (.ϋ [ai (.mU y p)] [.YS (.a6 n) c cp] qN) ia) (iK i j (.j9 n)):=by
 refine PS.mV (C8 i hN (VH hk Ft) hi hx hs hf) ?_;rintro D σ H ⟨G,e,mT,h⟩;unfold iK lO at h;split at h
 .rename_i w hw;let⟨v,hv,rv⟩:=mT.fr hw;cases hk:keyOf w with
  |none=>rw[hk]at h;exact h.nU
  |ai k=>
   rw[hk]at h;intro q hq
   have ev:v=kV k:=by
    cases w with
    |a6 i=>cases hk;cases rv;rfl
    |str x=>cases hk;cases rv;rfl
    |_=>cases hk
   refine⟨v,hv,k,ev,bQ,?_⟩;rw[E4];have g:=aN.nL mT.pA hq (dO (.k [(k,.j9 n)]));exact h G _ _ ((mT.yJ g).zeR (kvs:=.k [(k,.j9 n)]) bQ (mT.pA.rk hq) (qo mT hq)) (.tT _)
 .exact h.nU
theorem z1p{j:aT}{v:Sv}:iK i j v e=lO i v e e[j]?:=rfl
theorem z1q{v:Sv}{n:dr}:lO i v e (ai (.fr (.a6 n)))=.nx (e.ri i (.aZ (.k [(.j9 n,v)]))):=rfl
end
def xS:oP:=.mU "" ⟨0,0,0,0⟩
def yA(i:aT)(st:Dn):Dn:=(cK st).jd i (.Pass ⟨0,0,0,0⟩)
def sx:Dn->oP
 |.Zi _ v _=>v
 |.ϓ (ai v) _=>v
 |.For _ it _ _ _=>it
 |.oP v _=>v
 |_=>xS
def vf(i:aT):oP->oP
 |.wu _ as _ _=>as.jd i xS
 |_=>xS
def zeD:oP->oP
 |.Yl v _ _=>v
 |_=>xS
def iO:oP->Z_
 |.Y6 p _ _ _=>p
 |_=>default
def lC:oP->oP
 |.Y6 _ b _ _=>b
 |_=>xS
def jU:oP->zb
 |.Y6 _ _ s _=>s
 |_=>default
def l8(K:Fg)(x:fv)(eD:eT):Prop:=∃c P a,eD=.dI c/\Ø K c P=true/\(a,ip P ((x++".<locals>.")++"<lambda>"))∈K
section
variable{P:wW}{w:uG}{mg:fv->fy eT}{kT:g6}
def Mg{CX:m_}{N:aj fv}{gs:zb}{f:f'}{eD:eT}{A:FZ}{qp:aj MO}{s:oi}{E:XK}(h:l8 K x eD)(b:_l kT mg):ϐ (hV CX P w K mg kT N x gs f eD A qp s H E):=by
 let⟨c,P,a,rfl,h1,h2⟩:=h;exact⟨⟨c,P,a,rfl,h1,h2⟩,b⟩
def Gh{bS:aT->fy Lm}(h:∀i ws,r i ws=.no:=by intro _ _;rfl):sP P w K mg kT (ee P w) 0 (zV K bS r):=by
 rintro x vs H Q E ⟨G,i,l,aP,ws,w',sg,rf,rv,nw,nc,hl,hr,q⟩;rw[h]at hr;cases hr
end
def df(K:Fg)(yq:aj (f'×fv)):Fg:=K++yq.a7 λp=>(Yd,ip p.1 p.2)
section
variable{yq:aj (f'×fv)}{a:f'}{o:qH}
def q5t(h:K.hW a=ai o):(df K yq).hW a=ai o:=by
 unfold df;rw[w5u,h];rfl
def Lv(hG:(K.hW Yd).zi=true):(df K yq).hW a=K.hW a:=by
 unfold df;rw[w5u];cases q:K.hW a with
 |ai o=>rfl
 |none=>
  have ne:a≠Yd:=λz=>by rw[<- z,q]at hG;cases hG
  have:∀l:aj (f'×fv),(l.a7 λp=>(Yd,ip p.1 p.2)).hW a=none:=λl=>by
   induction l with
   |ro=>rfl
   |p9 p l ih=>rw[w0n,w3y,ÿ.uY ne];exact ih
  rw[this];rfl
theorem Hx{h:g6}(hG:(K.hW Yd).zi=true)(X:K.In h):(df K yq).In h:=λb u e=>X b u (by rw[<- Lv (yq:=yq) hG];exact e)
theorem no_m(hG:(K.hW Yd).zi=true)(n:eQ K):eQ (df K yq):=λb u e=>n b u (by grind [Lv])
def ns_m{r:fy eT}(h:lU.W._y K a x=ai r):lU.W._y (df K yq) a x=ai r:=by
 unfold lU.W._y at h |-
 cases q:K.hW a with
 |none=>rw[q]at h;cases h
 |ai o=>rw[q5t q];rw[q]at h;exact h
def Q3g{cd:eT}(h:lU.W._s K cd x=true):lU.W._s (df K yq) cd x=true:=by
 cases cd with
 |dI a=>
  unfold lU.W._s at h |-
  dsimp only at h |-
  cases q:K.hW a with
  |none=>rw[q]at h;cases h
  |ai o=>rw[q5t q];rw[q]at h;exact h
 |_=>cases h
def Q3h(t:funAt K a=true):_x (df (dX K) yq) (.dI a)=true:=by
 have h:=t;unfold funAt at t
 rw[w0l]at t
 grind [W._x,q5t,q1h]
theorem y3t(h:gX K=true)(hd:yq.rM (λp=>yq.hW p.1==ai p.2)=true):∀a q P,(a,ip P q)∈df K yq->yq.hW P=ai q:=λa q P m=>by
 rcases w3g.mp m with m|m
 .have:=w1d.mp h _ m;cases this
 grind
theorem za4(h:gX K=true):gX (dX K)=true:=w1d.uY λp hp=>w1d.mp h p (w1l.mp hp).1
theorem kO(hG:(K.hW Yd).zi=true)(h:yq.rM (λp=>(K.hW p.1).isNone)=true):∀P q,yq.hW P=ai q->(df K yq).hW P=none:=λP q e=>by
 rw[Lv hG];have:=w1d.mp h _ (jW e)
 simpa using this
where
 jW:∀{l:aj (f'×fv)}{P:f'}{q:fv},l.hW P=ai q->(P,q)∈l
 |[],_,_,e=>by cases e
 |(b,t)::l,P,q,e=>by
  rw[w3y]at e
  by_cases hb:(P==b)=true
  .rw[hb]at e;cases e;rw[ą hb];exact .head _
  .rw[w2i.uY hb]at e;exact .Θ _ (jW e)
theorem z7p{h:g6}(X:K.In h)(hT:∀P∈yq.a7 (·.1),h.iT P=ai (ϡ #[]))(hc:∀p∈yq,∃c,Ø K c p.1=true):∀P q,yq.hW P=ai q->h.iT P=ai (ϡ #[])/\ċ h P:=λP q e=>by
 have m:=kO.jW e;let⟨c,hc⟩:=hc _ m;have g:=hT P (w0r.uY ⟨_,m,rfl⟩);exact⟨g,((lU.W.codeHd_of_K X hc).ZA g).ċ⟩
end
section
variable{ws aP:aj W}{bS:aT->fy Lm}{d:j' W}{j:aT}{l:Lm}{w:W}{F:aj W->FR}{js:aj aT}
theorem z1r:iJ bS r i dA e=kU bS r dA e e[i]?:=rfl
theorem y7c:kU bS r dA e (ai (.fr (.fn j l aP)))=(dA e).qK λws e1=>iI bS r j l aP ws e1:=rfl
def Qd(h1:bS j=ai l)(h2:bH ws=true)(h3:bH aP=true)(h4:r j (ws++aP)=.ok (.fr w)):iI bS r j l aP ws e=.ok w e:=by
 unfold iI;rw[mS ⟨h1,h2,h3⟩,h4]
theorem y3u:dR F j l js d e=(d e).qK λw e1=>eZ F j l w e1 (dj js e1):=rfl
theorem NR:eZ F j l w e (ai aP)=iP e (F [w,.fn j l aP]):=rfl
theorem Qe(h:ZG w=true):iP e (.ok (.fr w))=.ok w e:=mS h
theorem z1s:dj [] e=ai []:=rfl
end
end D
namespace L2
open PySem PySem.Spec PyProof.Rows
end L2
namespace D
open PySem L2
end D
namespace L2
open PySem PySem.Spec PyProof.Rows
end L2
namespace D
open PySem L2
section
variable{X:Cx}{Z:Zt}{EE:L2.St->XK}{e a b:oP}{da db:j' W}{ia:vd}
def Xq:W->W->fy W
 |.str i,.str j=>match i.Yj.vr with
  |[c]=>ai (.bl (decide (c∈j.Yj.vr)))
  |_=>none
 |_,_=>none
end
section
variable{X:Cx}{Z:Zt}{EE:L2.St->XK}{yO xA a:oP}{yK:aj oP}{gs sc:zb}{ia pt:vd}{x:fv}{Nf N:aj fv}{js:aj aT}{di:j' W}{dA:j' (aj W)}{c:j' ie}{d:j' W}{kt:aT}
theorem za5(hh:A.YV=none)(it l)(gH:l≠it)(p7):
  Draws jf w A it [it,l] p7.d3 (λi v=>p7[i]?=ai v) (λi h=>h._b it l i/\h.Yy l p7) where
 live:=λ_ _ st=>let ⟨o,ho,_⟩:=st.1;⟨o,ho⟩
 π:=λ_ _ _ st hk=>⟨st.1.at λo e=>hk it (by simp) o e,st.2.at λo e=>hk l (by simp) o e⟩
 ZF:=λi s Q E hi st hQ=>by
  refine OB st.1 st.2 (x:=p7[i]) (by simp[hi]) λh' GP i_=>?_
  exact hQ _ h' s.rJ (by simp[hi]) ⟨GP,st.2.yt i_.yt gH⟩ i_
 done:=λs Q E st hE=>Ju hh st.1 st.2 (by simp) hE
theorem y7d(hh:A.YV=none)(it l)(p7)(i)(hx:p7[i]?=none):
  Draws jf w A it [it,l] i (λ_ _=>uH) (λj h=>j=i/\h._b it l j/\h.Yy l p7) where
 live:=λ_ _ st=>let ⟨o,ho,_⟩:=st.2.1;⟨o,ho⟩
 π:=λ_ _ _ st hk=>⟨st.1,st.2.1.at λo e=>hk it (by simp) o e,st.2.2.at λo e=>hk l (by simp) o e⟩
 ZF:=λj s Q E hi st hQ=>uv st.1 (w0p hi)
 done:=λs Q E st hE=>Ju hh st.2.1 st.2.2 hx hE
def j5(dA:j' (aj W)):j' (aj (W×W)):=λe=>(dA e).qK λws e1=>match ws with
 |[.gw us]=>.ok (cn 0 us) e1
 |_=>.no
def wB(K:Fg)(a:f'):It:=
 ⟨λi H=>∃xs x,cH K H a xs/\xs[i]?=ai x,λi H x H'=>∃b y,x=.dI b/\H b=none/\(∀xs,cH K H a xs->xs[i]?=ai y)/\H'=ny H b (.gw [.a6 i,y]),λi H=>∃xs,cH K H a xs/\xs.aO<=i⟩
section
open AutoSeq1 (wpAny_loadPart')
theorem XQ(l)(p7)(n)(Ga)(sl):
  _q (uu.«enumerate.__new__» ⟨[.je "enumerate", .dI l],[]⟩) (λ_ R s=>s.bj.iT l=ai {l_:=.je "tuple", x8:=Ga,n9:=.ot p7 n,Yb:=sl} /\
   R (.ok (.zW (.dI (s.bj.tB {l_:=.je "tuple_iterator", n9:=.NJ #[.dI l,.a6 0 0]}).g0.d3)))
    {s with bj:=(s.bj.tB {l_:=.je "tuple_iterator", n9:=.NJ #[.dI l,.a6 0 0]}).tB {l_:=.je "enumerate", n9:=.NJ #[.none,.xv false,.dI s.bj.g0.d3,_i 0,.none,.none]}}):=
 ._z λjf w A R s h=>by
  let⟨hp,g,d,tk,os⟩:=s;let⟨hl,h⟩:=h;have rj:=sub_enumerate;have hL:g6.Yy (oi.bj ⟨hp,g,d,tk,os⟩) l p7:=⟨_,hl,rfl,n,rfl⟩
  wp_walk using õ hl
  refine wpAny_stack_any λst=>t8 ?_
  split
  .rename_i c _ _ _ _ _;cases(c==eT.je "enumerate")
   .wp_walk using õ hl,ω hL
    exact⟨_,rfl,h⟩
   .wp_walk using õ hl,ω hL
    exact⟨_,rfl,h⟩
  .wp_walk using õ hl,ω hL
   exact⟨_,rfl,h⟩
end
def XO{s:oi}(hL:s.bj.Yy l p7)
  (h:∀h',ü h' (s.bj.g0.d3+1) s.bj.g0.d3 0 .none->h'._b s.bj.g0.d3 l 0->h'.g0.d3=s.bj.g0.d3+2 ->
   (∀b o,s.bj.iT b=ai o->h'.iT b=ai o)->Q (.dI (s.bj.g0.d3+1)) {s with bj:=h'}):
  oh (p5 jf w) A (yG (.je "enumerate") [.dI l]) Q E s:=by
 let⟨⟨c,Ga,zcl,sl⟩,hl,hc,n,hd⟩:=hL
 replace hc:c=.je "tuple":=hc
 replace hd:zcl=.ot p7 n:=hd
 subst hc hd
 refine Ņ F.called_enumerate (by decide) (F.typeCall_enumerate_1 _) (F.newCall_enumerate_1 _) (λUp=>F.zb7 Up _) F.entry_enumerate_new
  (XQ l p7 n Ga sl) ⟨hl,?_⟩
 have hz:(s.bj.tB {l_:=.je "tuple_iterator", n9:=.NJ #[.dI l,.a6 0 0]}).g0.d3=s.bj.g0.d3+1:=g6.ZH ..;show _/\_;rw[hz]
 have he:ü ((s.bj.tB {l_:=.je "tuple_iterator", n9:=.NJ #[.dI l,.a6 0 0]}).tB
   {l_:=.je "enumerate", n9:=.NJ #[.none,.xv false,.dI s.bj.g0.d3,_i 0,.none,.none]}) (s.bj.g0.d3+1) s.bj.g0.d3 0 .none:=by
  have:=g6.Bt (s.bj.tB {l_:=.je "tuple_iterator", n9:=.NJ #[.dI l,.a6 0 0]})
   (o:={l_:=.je "enumerate", n9:=.NJ #[.none,.xv false,.dI s.bj.g0.d3,_i 0,.none,.none]}) rfl
  grind
 refine⟨⟨_,he,rfl⟩,h _ he ⟨_,g6.w6 _ (g6.Bt _ rfl),rfl,rfl⟩ (by rw[g6.ZH,hz]) λb o x=>g6.w6 _ (g6.w6 _ x)⟩
theorem y3v{P:wW}{w:uG}{K:Fg}{Z5:aj oP}(a e it:f')(gH:e≠it):Χ P w K (.Yi Z5 kt pt) (wB K a) [e,it] e (λi h=>∃yF,lU.ü h e it (i:aT) yF/\h._b it a i) where
 Xt:=by simp
 Up:=λi h ⟨yF,jo,iS⟩ b hb=>by
  simp only[w0h,w1g,YX]at hb;rcases hb with rfl|rfl
  .exact⟨_,jo,λv z=>by cases z⟩
  .let⟨o,e,c,d⟩:=iS;exact⟨o,e,λv z=>by rw[d]at z;cases z⟩
 xJ:=λi h h' ⟨yF,jo,iS⟩ k=>⟨yF,k e (by simp) _ jo,iS.at λo e=>k it (by simp) o e⟩
 ZF:=by
  intro X hP hw hK hc i d0 s σ H E I hf st hg;subst hP hw hK;let⟨yF,jo,iS⟩:=st;let⟨xs,x,hq,hx⟩:=hg;let⟨av,rv,p,hz⟩:=I.Uo hq;let⟨u,hu,ru⟩:=rv.A' hx
  have Nh:a≠it:=λz=>by
   let⟨o,e1,c1,_⟩:=iS;let⟨o',e2,c2,_⟩:=p;rw[z]at e2;rw[e1]at e2;cases e2;rw[c1]at c2;simp at c2
  have WH:e≠a:=λz=>by
   let⟨o',e2,c2,_⟩:=p;rw[<- z]at e2;have e1:s.bj.iT e=ai _:=jo;rw[e1]at e2;cases e2;simp at c2
  refine wpAny_pyNext_enum_itemD (za5 (A:=X.A.Dh) (I.ok.hd hc) it a Nh av.lS) jo ⟨iS,p⟩ (by simpa using (w0c.mp hu).1) gH (by simp[gH,WH]) λu' h1 tk Ho ug mr Hl NA qX=>⟨_,rfl,?_⟩
  obtain rfl:u'=u:=fy.ai.yB (by rw[<- Ho,<- hu];simp);have xr:=mr.1;refine zeq ug λh2 oH ja=>?_
  have ja:g6.ZY e h1 h2:=ja;have b8:e<s.bj.g0.d3:=g6.yu jo;have lh:H s.bj.g0.d3=none:=I.aJ.yI (w0f _);have Ba:h2.iT s.bj.g0.d3=ai {l_:=.je "tuple", n9:=.ot #[.a6 i tk,u']}:=(ja.2 _ (w2s b8)).lb Hl;refine⟨.dI s.bj.g0.d3,ny H s.bj.g0.d3 (.gw [.a6 i,x]),?_,rfl,⟨_,x,rfl,lh,λys hy=>by rw[I.gm hy hq];exact hx,rfl⟩,⟨u',oH,?_⟩,λb hb=>?_⟩
  .show L2.j3 X d0 σ _ {s with bj:=h2,rJ:=tk+1};refine J_ (fp:=[e,it]) I (λb o hb q=>?_) hf (w0f _) ⟨?_,[.a6 i tk,u'],.p9 ⟨_,rfl⟩ (.p9 ru .ro),⟨_,Ba,rfl,?_⟩,⟨_,Ba,rfl⟩⟩
   .simp only[w0h,w1g,YX,Đ]at hb;exact(ja.2 b hb.1).lb (qX b o hb.1 hb.2 q)
   .rw[FY];simp
   .exact⟨_,rfl⟩
  .exact xr.at λo q=>(ja.2 it (Ne.symm gH)).lb q
  .have:b≠s.bj.g0.d3:=by
    obtain⟨o,q,_⟩:∃o,s.bj.iT b=ai o/\ku:=by
     simp only[w0h,w1g,YX]at hb;rcases hb with rfl|rfl
     .exact⟨_,jo,trivial⟩
     .let⟨o,e,_⟩:=iS;exact⟨o,e,trivial⟩
    exact w0p (g6.yu q)
   rw[aR this];exact(hf b hb).1
 done:=by
  intro X hP hw hK hc i d0 s σ H E I hf st hg;subst hP hw hK;let⟨yF,jo,iS⟩:=st;let⟨xs,hq,hx⟩:=hg;let⟨av,rv,p,hz⟩:=I.Uo hq;let⟨f0,f1,f2,f3,f4,f5⟩:=hf it (by simp);have hl:=rv.aO
  have Nh:a≠it:=λz=>by
   let⟨o,e1,c1,_⟩:=iS;let⟨o',e2,c2,_⟩:=p;rw[z]at e2;rw[e1]at e2;cases e2;rw[c1]at c2;simp at c2
  refine wpAny_pyNext_enum_endD (y7d (A:=X.A.Dh) (I.ok.hd hc) it a av.lS i (by simp;omega)) jo ⟨rfl,iS,p⟩ λh' eb=>⟨rfl,I.ZU (t':=s.rJ) (λb o hb e=>eb b o hb e) f0 f1 f3 f4 f5⟩
 self:=λ_ _ _ _ _ ⟨yF,jo,_⟩ h=>į jo h
def zew(K:Fg)(ta:TA):TI:=λσ H R=>ta σ H λvs H1=>∃a,vs=[.dI a]/\(∃xs,cH K H1 a xs)/\R (wB K a) H1
def z1t{Z5:aj oP}{ta:TA}{p ia:vd}(hg:Gl X "enumerate")(hm:X.mg "enumerate"=none)(ha:PA X [a] ta)(hs:gu (oj [a] X.dt=[(false,eval a X.dt)]) jJ):PI X (.Yi Z5 kt pt) (.wu (.mU "enumerate" p) [a] [] ia) (zew X.K ta):=by
 intro d0 s σ H R I h;refine Ku.M4.ø (rY I hg hm Ku.M4.zca (Ku.M4.Ϛ (bC (ha ia d0 s σ H _ I h) λus s1 ⟨vs,H1,I1,r1,q1⟩=>?_) hs rfl))
 let⟨l,e,⟨xs,hq⟩,q⟩:=q1;subst e;cases r1 with
 |p9 r rr=>
  cases rr;cases r;let⟨av,rv,p,hz⟩:=I1.Uo hq;refine XO p λh' he Zy hsz hk=>?_
  refine į he ?_;refine⟨s1.bj.g0.d3+1,[s1.bj.g0.d3+1,s1.bj.g0.d3],_,_,H1,rfl,I1.XE (t':=s1.rJ) hk,y3v l _ _ (w3x _),⟨_,he,Zy⟩,λb hb=>?_,q⟩
  simp only[w0h,w1g,YX]at hb;rcases hb with rfl|rfl
  .exact I1.jI (by omega) (I1.aJ.yI (by omega))
  .exact I1.jI (w0f _) (I1.aJ.yI (w0f _))
def za6(rp:aq K G1 ws xs)(hq:cH K G1 b xs):jx K G1 (wB K b) (cn 0 ws):=by
 have hx:=rp.aO;have hl:=J8 0 ws;refine⟨λi G H s s' h=>⟨xs,xs[i]'(by omega),ar.gw s' (ar.gw s hq),by simp⟩,λi G H x H' s s' hy u v h=>?_,λi G H s s' h=>⟨xs,ar.gw s' (ar.gw s hq),by omega⟩⟩
 let⟨c,y,rfl,hn,vC,rfl⟩:=hy;let⟨hu,hv⟩:=J9 0 ws i u v h;let⟨w,hw,pw⟩:=rp.iM (vC xs (ar.gw s' (ar.gw s hq)));rw[hv]at hw;cases hw;refine⟨aN.nL s' hn _,λm n σ Q hQ=>⟨c,[.a6 i,y],rfl,cH.of bQ,rfl,.a6 i,[y],rfl,y,[],rfl,rfl,hQ _ _ ?_ (pW.mV s _ pw)⟩⟩
 rw[hu,w2a];exact rfl
def z1u{Z5:aj oP}{p ia:vd}(hm:X.mg "enumerate"=none)(ha:DA Z X EE [a] dA)(hg:gu (Gl X "enumerate") jJ)(hs:gu (oj [a] X.dt=[(false,eval a X.dt)]) jJ):DI Z X EE (.Yi Z5 kt pt) (.wu (.mU "enumerate" p) [a] [] ia) (j5 dA):=by
 refine PI.mV (z1t hg hm ha hs) ?_;rintro σ H RR ⟨G,e,mT,h⟩;simp only[j5,R.au]at h;refine⟨G,e,mT,h.uX (λws e1 h G1 vs H1 r1 s1 p1=>?_) λ_ _ h=>h⟩
 split at h
 .rename_i us;let⟨y,r,rfl,e1,e2⟩:=p1;cases(show r=[]from e2);let⟨b,xs,rfl,hq,rp⟩:=e1;exact⟨b,rfl,⟨xs,r1.pA.gw hq⟩,h _ _ _ r1 s1 (za6 rp hq)⟩
 .exact h.nU
end
theorem Q61:Xq (.str ⟨#[c]⟩) (.str j)=ai (.bl (decide (c∈j.Yj.vr))):=rfl
def sv(e1:aj S):aj W->R (aj (W×W))
 |[.gw us]=>.ok (cn 0 us) e1
 |_=>.no
def z7q:j5 dA e=(dA e).qK λws e1=>sv e1 ws:=by
 unfold j5;congr 1
theorem z1v:sv e [.gw ws]=.ok (cn 0 ws) e:=rfl
theorem Q62:Bi (.aZ (.k kvs)) (.str x)=(lk kvs (.mW x)).a7 Fc:=rfl
theorem z1w:j0 i (.a6 n) (.str x) e (ai (.aZ (.k kvs)))=if kvs.aO<16777216/\mI i e=true then .nx (e.ri i (.aZ (.k (_R kvs (.mW x) (.j9 n)))))else .no:=rfl
def we(e:aj S):fy S->SR
 |ai (.aZ d)=>.rt (.aZ d) e
 |_=>.no
def z7r:AD i e=we e e[i]?:=by
 rfl
theorem z7s:we e (ai (.aZ dd))=.rt (.aZ dd) e:=rfl
end D
namespace L2
open PySem PySem.Spec PyProof.Rows
namespace tU
end tU
open PySem PySem.Spec PyProof.Rows
def XU(a v):Ñ "list.sort" ⟨[a],[(fv.YG "key", v)]⟩:=by unfold Ñ;kernel_rfl
def zaq(a v):Ñ "sorted" ⟨[a],[(fv.YG "key", v)]⟩:=by unfold Ñ;kernel_rfl
def lB(a:f')(f ks x:eT)(p7:yw eT):_F (_V ϒ):=do
 match <- (yG f [x]).attempt with
 |.ok k=>do
  uu.aj.τ ks (·.tB k)
  uV (_V.ϥ ϒ.unit)
 |._t e=>do
  Z7 "list.sort.key-raised"
  let made <- uu.aj.Ř ks
  uu.aj.τ ks λ_=>#[]
  letGo made.vr.V3 [e]
  uu.aj.τ (.dI a) λ_=>p7
  throw e
def zbN(a f:f'):uu.«list.sort» ⟨[.dI a],[(fv.YG "key", .dI f)]⟩=(do
  let p7 <- uu.aj.Ř (.dI a)
  uu.aj.τ (.dI a) λ_=>#[]
  let before <- Ţ a
  let held <- newTuple p7.vr
  let ik <- newList []
  _w [held,ik] do
   Z7 "list.sort.key"
   let _ <- ϝ p7 ϒ.unit λx (_:ϒ)=>lB a (.dI f) ik x p7
   let keys <- uu.aj.Ř ik
   let yD <- if p7.d3<2 then uV general' else keyKind' keys
   let ((),s) <- (if p7.d3<2 then uV ()else sortRuns').ll (SortSt.mk' yD (keys.wt p7) #[] 7 none)
   let sorted:=(þ s).a7 (·.2)
   uu.aj.τ ik λ_=>#[]
   letGo ((þ s).a7 (·.1)).vr (ć s).vr
   let Ħ:=(<- Ţ a) != before
   uu.aj.τ (.dI a) λ_=>sorted
   if let ai e:=ć s then Z7 "list.sort.comparison-raised";throw e
   if Ħ then Z7 "list.sort.modified";raiseError "ValueError" "list modified during sort"
   zW .none):=by
 first|rfl|(fail "not by rfl")
def z7t{σ:St}{Q:VK}
  (F:sP X.jf X.w X.K X.mg X.kT (ee X.jf X.w) k sp)(hr:bA k A)(hA:A.Yc=X.A.Yc)(I:j3 X d0 σ H s)(hc:∀b o,cs.hW b=ai o->H b=none/\s.bj.iT b=ai o)
  (hv:∀b o,cs.hW b=ai o->b∉fu X.N3)(hn:∀b o,cs.hW b=ai o->X.kT.iT b=none)(r:t9 vs us)
  (h:sp (.dI f) vs (bT H cs) (λv H'=>Q v (dq H' cs)) λ_ _ _=>uH):
  oh (p5 X.jf X.w) A (yG (.dI f) us) (λu s'=>(∀b o,cs.hW b=ai o->s'.bj.iT b=ai o)/\EP X d0 σ (λv H'=>(∀b o,cs.hW b=ai o->H' b=none)/\Q v H') u s') E s:=by
 have e0:=I.qP
 have uZ:∀b,H b=none->(∀o,cs.hW b≠ai o)->bT H cs b=none:=λb n z=>by
  cases q:cs.hW b with
  |ai o=>exact uv q (z o)
  |none=>rw[iy q];exact n
 have e1:i3 X.jf X.w X.K X.mg X.kT A X.N3 s (bT H cs):=by
  refine⟨hA.lb e0.Yc,e0.WI,λb o q=>⟨(e0.bs b o q).1,uZ b (e0.bs b o q).2 λo' z=>?_⟩,e0.m4,e0.eX,λb hb=>uZ b (e0.oG b hb) λo z=>?_,e0.aJ.add hc,e0.M_,λa q P m=>?_⟩
  .grind
  .exact hv b o z hb
  .let⟨ps,e,p⟩:=e0.ZA a q P m;refine⟨ps,?_,p⟩;cases z:cs.hW P with
   |ai o=>grind
   |none=>rw[iy z];exact e
 let⟨zcv,oc,od,fd,sl,u,ex,ef,ll⟩:=F _ _ _ _ _ h;cases ex;refine Ϣ (Γ (ll A X.N3 s us hr e1 r) λr s' hq=>?_)
 cases r with
 |_t e=>
  let⟨_,_,_,_,_,_,_,_,_,_,hE⟩:=hq;exact hE.nU
 |ok fl=>
  cases fl with
  |zW u=>
   let⟨v,H',os,M_,un,aJ,rv,q⟩:=hq;have CI:bF H' cs:=λb o z=>un.aY b o _ (pO z)
   exact⟨λb o z=>(show s'.bj.iT b=ai o/\_ from aJ b _ (CI b o z)).1,I.ϗ ⟨v,dq H' cs,os,M_,un.gc aJ hc,aJ.rm CI,rv,λb o z=>yf z,q⟩⟩
  |next=>exact uH.nU hq
  |ZL=>exact uH.nU hq
  |ZN=>exact uH.nU hq
def ng(cs:Cs)(H:Hp)(h:g6):Prop:=∀b o,cs.hW b=ai o->H b=none/\h.iT b=ai o
end L2
namespace D
open PySem L2
variable{X:Cx}{EE:L2.St->XK}{ia:vd}{x:fv}{Z:Zt}
theorem aN.Zc(g:aN G H G' H')(hn:H a=none)(hg:G' a=none):aN G H G' (ny H' a o) where
 hh:=λb u e=>by rw[aR (gh e hn)];exact g.hh b u e
 gg:=g.gg
 pA:=λb u e=>by rw[aR (gh e hg)];exact g.pA b u e
 xM:=g.xM
def kwAt(i:aT):oP->oP
 |.wu _ _ ks _=>match ks[i]? with
  |ai k=>k.Zm
  |none=>xS
 |_=>xS
end D
namespace L2
open PySem PySem.Spec PyProof.Rows
def fJ(o:fy (dr×dr))(i n:dr):fy (dr×dr):=match o with
 |none=>ai (i,n)
 |ai (b,m)=>if n<m then ai (i,n)else ai (b,m)
def nS(sp:V->aj V->Hp->VK->XK->Prop)(f:V)(cs:Cs)(K:Fg)(p:f')(xs:aj V)(Q:VK):aj dr->fy (dr×dr)->Hp->Prop
 |[],o,H=>∃b m,o=ai (b,m)/\Q (.a6 b) H
 |i::is,o,H=>sp f [.a6 i] (bT H cs) (λv H'=>∃n,v=.a6 n/\bI K (dq H' cs) p xs/\nS sp f cs K p xs Q is (fJ o i n) (dq H' cs)) λ_ _ _=>uH
def qr(ZE:yw eT):fy (dr×dr)->Prop
 |none=>ZE=#[]
 |ai (b,m)=>∃t u,ZE=#[.a6 b t,.a6 m u]
section
variable{X:Cx}{A:FZ}{k:aT}{sp:V->aj V->Hp->VK->XK->Prop}{d0:aj (f'×qH)}{σ:St}{f I S p:f'}{cs:Cs}{Q:VK}{l3:aj dr}
theorem QW(F:sP X.jf X.w X.K X.mg X.kT (ee X.jf X.w) k sp)(hr:bA k A.Dh)(hA:A.Dh.Yc=X.A.Yc)(hh:A.Dh.YV=none)(hv:∀b o,cs.hW b=ai o->b∉fu X.N3)(hn:∀b o,cs.hW b=ai o->X.kT.iT b=none)
  (Du:S≠I)(Hd:p≠I)(Gr:∀b o,cs.hW b=ai o->b≠I/\b≠S):∀(is:aj dr)(j:aT)(o:fy (dr×dr))(ZE:yw eT)(c:aT)(s:oi)(H:Hp),l3.zd j=is->j<=l3.aO->j3 X d0 σ H s->eO X d0 H I->eO X d0 H S->bI X.K H p (l3.a7 V.a6)->s.bj.Ϗ I p j ->
   s.bj.iT S=ai (Yt "list" ZE c)->qr ZE o->ng cs H s.bj->nS sp (.dI f) cs X.K p (l3.a7 V.a6) Q is o H ->
   Za (p5 X.jf X.w) A (.wO "min.loop" ⟨[.dI I,.dI f,.dI S],[]⟩) (λr s'=>match r with|.ok (.zW v)=>EP X d0 σ Q v s'|.ok _=>uH|._t e=>X.xe e s') s
 |[],j,o,ZE,c,s,H,hd,hj,In,fI,fS,hq,Zy,hS,hb,hc,h=>by
  have y0:j=l3.aO:=by
   have:=Zd aj.aO hd;rw[w3c,aj.length_nil]at this;omega
  let⟨av,rI,pl,hz⟩:=In.xT hq;have A0:av.aO=l3.aO:=by rw[<- rI.aO,w0a]
  let⟨b,m,rfl,q⟩:=h;let⟨t,u,rfl⟩:=hb;have W:=ϕ.xT (jf:=X.jf) (w:=X.w) (A:=A.Dh) hh I p Hd av.lS;refine Ö lU.F.zcp ?_;rw[FZ.ī lU.F.Ã _];show oh _ A.Dh (Ė (.dI S) >>= _) _ _ _;refine lT (_A hS rfl ?_);show oh _ A.Dh (ħ (Η (.dI I)) _ >>= _) _ _ _;refine lT (Ĳ (W.done _ _ _ ⟨by rw[w0e,A0,<- y0];exact Zy,pl.zf⟩ λh' Fb lj=>?_))
  have I1:=In.ZU (t':=Fb) (it:=I) (h':=h') (λb o z e=>lj b o (by simpa using z) e) fI.1 fI.2.1 fI.2.2.2.1 fI.2.2.2.2.1 fI.2.2.2.2.2
  have AO:=lj S _ (by simpa using Du) hS;show oh _ A.Dh (updateSeq S (λ_=>#[]) >>= _) _ _ _
  refine lT (ĳ AO rfl (lT (Μ (t8 ?_))));have I2:=I1.ZU (t':=Fb) (it:=S) (h':=h'.Yh S (qH.Yp λ_=>#[])) (λb o z e=>(g6._v _ _ (Ne.symm z)).lb e) fS.1 fS.2.1 fS.2.2.2.1 fS.2.2.2.2.1 fS.2.2.2.2.2
  exact⟨.a6 b,H,I2,⟨t,rfl⟩,q⟩
 |i::is,j,o,ZE,c,s,H,hd,hj,In,fI,fS,hq,Zy,hS,hb,hc,h=>by
  have mq:(ĥ "min"++ĥ ".loop":Yk)="min.loop":=by decide
  have b8:j<l3.aO:=by
   have:=Zd aj.aO hd;rw[w3c,w0x]at this;omega
  have sY:l3[j]?=ai i:=by
   have:=Zd aj.head? hd;rw[aj.head?_drop]at this
   simpa using this
  have M3:l3.zd (j+1)=is:=by
   rw[<- aj.drop_drop,hd];rfl
  let⟨av,rI,pl,hz⟩:=In.xT hq;have A0:av.aO=l3.aO:=by rw[<- rI.aO,w0a]
  have W:=ϕ.xT (jf:=X.jf) (w:=X.w) (A:=A.Dh) hh I p Hd av.lS;refine Ö lU.F.zcp ?_;rw[FZ.ī lU.F.Ã _];show oh _ A.Dh (Ė (.dI S) >>= _) _ _ _;refine lT (_A hS rfl ?_);show oh _ A.Dh (ħ (Η (.dI I)) _ >>= _) _ _ _;refine lT (Ĳ (W.ZF j _ _ _ (by rw[w0e,A0];exact b8) ⟨Zy,pl.zf⟩ λv h' Fb hP Hk lj=>?_))
  have Xf:av[j]?=ai v:=by simpa using hP
  obtain⟨t,rfl⟩:∃t,v=.a6 i t:=by
   let⟨u,hu,ru⟩:=rI.A' (i:=j) (x:=V.a6 i) (by rw[w0t,sY];rfl);rw[Xf]at hu;cases hu;exact ru
  have I1:=In.ZU (t':=Fb) (it:=I) (h':=h') (λb o z e=>lj b o (by simpa using z) e) fI.1 fI.2.1 fI.2.2.2.1 fI.2.2.2.2.1 fI.2.2.2.2.2
  have AO:=lj S _ (by simpa using Du) hS;let⟨BB,G5,uj,Nk⟩:=id Hk.1;have zci:∀v,BB.n9≠.ur v:=λv z=>by rw[Nk]at z;cases z
  have zcj:∀v,(Yt "list" ZE c).n9≠.ur v:=λv z=>nomatch z
  have I2:=I1.jl (pins':=(I,BB)::(S,Yt "list" ZE c)::d0) λq hq=>by
   rcases w0h.mp hq with rfl|hq
   .exact⟨G5,fI.1,fI.2.1,fI.2.2.1,zci⟩
   .rcases w0h.mp hq with rfl|hq
    .exact⟨AO,fS.1,fS.2.1,fS.2.2.1,zcj⟩
    .exact I1.Ys q (w0k _ hq)
  have Dx:ng cs H h':=λb o z=>⟨(hc b o z).1,lj b o (by simpa using (Gr b o z).1) (hc b o z).2⟩
  have Θ:∀(u:eT)(s2:oi)(n:dr)(H2:Hp),j3 X ((I,BB)::(S,Yt "list" ZE c)::d0) σ H2 s2->(∃t2,u=.a6 n t2)->(∀b o,cs.hW b=ai o->s2.bj.iT b=ai o)->(∀b o,cs.hW b=ai o->H2 b=none)->bI X.K H2 p (l3.a7 V.a6) ->
    nS sp (.dI f) cs X.K p (l3.a7 V.a6) Q is (fJ o i n) H2->∀(oz:yw eT)(c':aT)(s3:oi),qr oz (fJ o i n)->s3.os=s2.os->s3.YD=s2.YD->s3.ν=s2.ν->(∀b o,b≠S->s2.bj.iT b=ai o->s3.bj.iT b=ai o)->s3.bj.iT S=ai (Yt "list" oz c') ->
    s3={s2 with bj:=s3.bj,rJ:=s3.rJ} ->
    Za (p5 X.jf X.w) A (.wO "min.loop" ⟨[.dI I,.dI f,.dI S],[]⟩) (λr s'=>match r with|.ok (.zW v)=>EP X d0 σ Q v s'|.ok _=>uH|._t e=>X.xe e s') s3:=by
   intro u s2 n H2 I3 hu sW WD Hj hm oz c' s3 i9 _ _ _ GR Wx Wd;have pI:=I3.Ys (I,BB) (w0k _ w1e);have pS:=I3.Ys (S,Yt "list" ZE c) (w0k _ (w0o _ w1e));have I4:j3 X d0 σ H2 s2:=I3.jl λq hq=>I3.Ys q (w0k _ (w0o _ (w0o _ hq)))
   have Wf:eO X d0 H2 I:=⟨pI.2.1,fI.2⟩;have yU:eO X d0 H2 S:=⟨pS.2.1,fS.2⟩;have I5:=I4.ZU (t':=s3.rJ) (it:=S) (h':=s3.bj) GR yU.1 yU.2.1 yU.2.2.2.1 yU.2.2.2.2.1 yU.2.2.2.2.2;rw[<- Wd]at I5;exact QW F hr hA hh hv hn Du Hd Gr is (j+1) _ oz c' s3 H2 M3 b8 I5 Wf yU Hj ⟨BB,GR I _ (Ne.symm Du) pI.1,uj,Nk⟩ Wx i9 (λb o z=>⟨WD b o z,GR b o (Gr b o z).2 (sW b o z)⟩) hm
  show oh _ A.Dh (ħ (_w [.a6 i t] (yG (.dI f) [.a6 i t])) _ >>= _) _ _ _;refine lT (Ĳ (ZJ (YQ (z7t (cs:=cs) (Q:=λv H'=>∃n,v=.a6 n/\bI X.K H' p (l3.a7 V.a6)/\nS sp (.dI f) cs X.K p (l3.a7 V.a6) Q is (fJ o i n) H') F hr hA I2 Dx hv hn (vs:=[.a6 i]) (.p9 ⟨t,rfl⟩ .ro) h) (λw s2 DK=>?_) (λ_ _ z=>z))))
  let⟨g1,v,H2,I3,rv,g2,n,rfl,e1,e2⟩:=DK;let⟨t2,rfl⟩:=(show ∃t2,w=eT.a6 n t2 from rv);have pS:=(I3.Ys (S,Yt "list" ZE c) (w0k _ (w0o _ w1e))).1;cases o with
  |none=>
   cases(show ZE=#[]from hb);obtain⟨c2,cQ⟩:∃c2,(s2.bj.Yh S (qH.Yp λ_=>#[.a6 i t,.a6 n t2])).iT S=ai (Yt "list" #[.a6 i t,.a6 n t2] c2):=⟨_,ϵ pS λ_=>#[.a6 i t,.a6 n t2]⟩
   show oh _ A.Dh (updateSeq S (λ_=>#[.a6 i t,.a6 n t2]) >>= _) _ _ _
   refine lT (ĳ pS rfl ?_);rw[mq];exact t8 ⟨Â lU.F.Ã _,Θ _ s2 n H2 I3 ⟨t2,rfl⟩ g1 g2 e1 e2 _ c2 _ ⟨t,t2,rfl⟩ rfl rfl rfl (λb o z e=>(g6._v _ _ (Ne.symm z)).lb e) cQ rfl⟩
  |ai bm=>
   let⟨b,m⟩:=bm;let⟨tb,tm,rfl⟩:=(show ∃t u,ZE=#[.a6 b t,.a6 m u]from hb);show oh _ A.Dh (ħ (_w [.a6 i t,.a6 n t2] (richCompare .Lt (.a6 n t2) (.a6 m tm) >>= _)) _ >>= _) _ _ _;refine lT (Ĳ (ZJ (lT (CmpOf.ints_lt (jf:=X.jf) (w:=X.w) (A:=A.Dh) (P:=λz v=>∃t,v=.a6 (if z=0 then n else m) t) (λz=>if z=0 then n else m) (λi v h=>h) 0 1 _ _ _ _ _ ⟨t2,rfl⟩ ⟨tm,rfl⟩ ?_))))
   refine lT (ZJ (_U ?_));refine lT (Μ (t8 ?_))
   by_cases i9:n<m
   .obtain⟨c2,cQ⟩:∃c2,(s2.bj.Yh S (qH.Yp λ_=>#[.a6 i t,.a6 n t2])).iT S=ai (Yt "list" #[.a6 i t,.a6 n t2] c2):=⟨_,ϵ pS λ_=>#[.a6 i t,.a6 n t2]⟩
    rw[mS (show decide ((if(0:aT)=0 then n else m)<(if(1:aT)=0 then n else m))=true by simp[i9])];refine lT (ĳ pS rfl (lT (Μ ?_)));rw[mq];exact t8 ⟨Â lU.F.Ã _,Θ _ s2 n H2 I3 ⟨t2,rfl⟩ g1 g2 e1 e2 _ c2 _ (by unfold fJ;simp only[mS i9];exact⟨t,t2,rfl⟩) rfl rfl rfl (λb o z e=>(g6._v _ _ (Ne.symm z)).lb e) cQ rfl⟩
   .rw[sF (show ¬decide ((if(0:aT)=0 then n else m)<(if(1:aT)=0 then n else m))=true by simp[i9])];refine lT (Μ ?_);rw[mq];exact t8 ⟨Â lU.F.Ã _,Θ _ s2 n H2 I3 ⟨t2,rfl⟩ g1 g2 e1 e2 _ c s2 (by unfold fJ;simp only[sF i9];exact⟨tb,tm,rfl⟩) rfl rfl rfl (λb o _ e=>e) pS rfl⟩
def y7e{s:oi}{H:Hp}(F:sP X.jf X.w X.K X.mg X.kT (ee X.jf X.w) k sp)(hr:bA (k+1) X.A)(AV:X.NI=true)(hv:∀b o,cs.hW b=ai o->b∉fu X.N3)(hn:∀b o,cs.hW b=ai o->X.kT.iT b=none)
  (In:j3 X d0 σ H s)(hc:ng cs H s.bj)(hq:bI X.K H p (l3.a7 V.a6))(h:nS sp (.dI f) cs X.K p (l3.a7 V.a6) Q l3 none H):
  oh (p5 X.jf X.w) X.A (yG (.wO "min") [.dI p] [(fv.YG "key", .dI f)]) (EP X d0 σ Q) X.xe s:=by
 have mq:(ĥ "min"++ĥ ".loop":Yk)="min.loop":=by decide
 let⟨av,rI,pl,hz⟩:=In.xT hq;have hl:=pl.zf;have b8:p<s.bj.g0.d3:=by let⟨_,e,_⟩:=hl;exact g6.yu e
 refine kmk_tree lU.F.kind_min lU.F.plain_min lU.F.entry_min (kmk_min_key _ _) ?_;show oh _ X.A.Dh (uu.Builtins.bindParams "min" ["key", "default"] 0 ⟨[],[(fv.YG "key", .dI f)]⟩ >>= _) _ _ s;refine lT (ϣ (show uu.Builtins.bindParams "min" ["key", "default"] 0 ⟨[],[(fv.YG "key", .dI f)]⟩=uV [ai (.dI f),none]from rfl) ?_);refine lT (t8 ?_);refine lT (Ν hl ?_);refine lT (ŷ ?_ (w1c _));rw[mq];have hS:(s.bj.tB {l_:=.je "list_iterator", n9:=.NJ #[.dI p,.a6 0 0]}).g0.d3=s.bj.g0.d3+1:=size_push' ..;have k2:∀b o,s.bj.iT b=ai o->((s.bj.tB {l_:=.je "list_iterator", n9:=.NJ #[.dI p,.a6 0 0]}).tB (Yt "list" #[] 0)).iT b=ai o:=λb o e=>g6.w6 _ (g6.w6 _ e)
 have I2:j3 X d0 σ H {s with bj:=(s.bj.tB {l_:=.je "list_iterator", n9:=.NJ #[.dI p,.a6 0 0]}).tB (Yt "list" #[] 0)}:=In.XE (t':=s.rJ) k2;refine t8 ⟨Â lU.F.Ã _,QW F hr.Dh rfl (In.ok.hd AV) hv hn (I:=s.bj.g0.d3) (S:=(s.bj.tB {l_:=.je "list_iterator", n9:=.NJ #[.dI p,.a6 0 0]}).g0.d3) (by rw[hS];exact w3x _) (w0p b8) (λb o z=>?_) l3 0 none #[] 0 _ H rfl (w1c _) I2 (In.jI (w0f _) (In.aJ.yI (w0f _))) (In.jI (by rw[hS];exact w4s _) (In.aJ.yI (by rw[hS];exact w4s _))) hq ⟨_,g6.w6 _ (g6.Bt _ rfl),rfl,rfl⟩ (g6.Bt _ rfl) rfl (λb o z=>⟨(hc b o z).1,k2 b o (hc b o z).2⟩) h⟩
 have:=g6.yu (hc b o z).2;exact⟨w0p this,by rw[hS];exact w0p (w1w this)⟩
end
def CT(sp:V->aj V->Hp->VK->XK->Prop)(X:Cx)(ua:Z_)(t6:oP)(gs:zb)(Nf:aj fv)(js:aj aT)(ta:TE):TE:=λσ H Q=>ta σ H λv H1=>∃(p:f')(is:aj dr),v=.dI p /\
 ∀f a9 H2,ox X ua t6 gs a9 f H1 H2->∀cs,kR a9 Nf gs js σ H2 cs->bI X.K H2 p (is.a7 V.a6)/\nS sp (.dI f) cs X.K p (is.a7 V.a6) Q is none H2
section
variable{X:Cx}{k:aT}{sp:V->aj V->Hp->VK->XK->Prop}
def z7u{ua:Z_}{t6 a:oP}{gs:zb}{d6 p ia kp:vd}{Nf:aj fv}{js:aj aT}{ta:TE}(F:sP X.jf X.w X.K X.mg X.kT (ee X.jf X.w) k sp)(hr:bA (k+1) X.A)(hc:X.NI=true)(hg:Gl X "min")(hm:X.mg "min"=none)
  (M:ϐ X)(qW:∀y,X.fn y=true)(ha:PE X a ta)(k_:Ù ua X.dt=([],[]))
  (bX:∀x∈gs.p6,x.2=.rk->X.dt.yL x.1=ai .ur\/X.dt.yL x.1=ai .rk)
  (nH:∀(i j:aT) y,Nf[i]?=ai y->js[i]?=ai j->X.N[j]?=ai y/\(y,Xn.rk)∈gs.p6/\kg X.dt.gs y/\X.dt.yL y≠ai .local)
  (he:gu (oj [a] X.dt=[(false,eval a X.dt)]) jJ):
  PE X (.wu (.mU "min" p) [a] [⟨ai "key", .Y6 ua t6 gs d6,kp⟩] ia) (CT sp X ua t6 gs Nf js ta):=by
 intro d0 s σ H Q I h;refine Λ (rY I hg hm Ku.M4._n.«min» ?_ (by decide) (by decide));refine callWith_kw ?_ (by rw[he];rfl) (by rw[he];rfl);rw[he];show oh _ _ (Å ((false,eval a X.dt)::[])) _ _ s;refine YR.ë (bC (ha d0 s σ H _ I h) λu s1 ⟨v,H1,I1,r1,q1⟩=>?_)
 let⟨pa,is,rfl,q⟩:=q1;obtain rfl:u=eT.dI pa:=r1;refine YR.ì ?_;refine kws_cons (bC (SW M k_ bX _ _ σ H1 (λv H2=>∃f a9,v=.dI f/\ox X ua t6 gs a9 f H1 H2) I1 (λf a9 H2 z=>⟨f,a9,rfl,z⟩)) λzcz s3 ⟨v3,H2,I3,X0,f,a9,ev,la⟩=>kws_nil ?_)
 subst ev;obtain rfl:zcz=eT.dI f:=X0;let⟨eR,nK,eL,m7⟩:=BU (gs:=gs) (dt:=X.dt) λx hx hf=>I.ok.YO x.1 (bX x hx hf)
 obtain rfl:eR=a9:=jZ (nK.symm.lb la.1)
 have Ya:∀b o,(dQ eR s3.bj).hW b=ai o->∃x,X.dt.XB.hW x=ai b/\s3.bj.iT b=ai o:=λb o z=>by
  let⟨x,h1,h2⟩:=Jt z;exact⟨x,eL x b h1,h2⟩
 have kG:∀b o,(dQ eR s3.bj).hW b=ai o->H2 b=none/\s3.bj.iT b=ai o:=λb o z=>by
  let⟨x,h1,h2⟩:=Ya b o z;exact⟨I3.dy x b h1,h2⟩
 have sU:∀b o,(dQ eR s3.bj).hW b=ai o->X.ax.bj.g0.d3<=b:=λb o z=>by
  let⟨x,h1,h2⟩:=Ya b o z;exact I3.ok.vi x b (qW x) h1
 have CO:kR eR Nf gs js σ H2 (dQ eR s3.bj):=by
  refine⟨λx y c e1 e2=>I3.ok.yB x y c (eL x c e1) (eL y c e2),m7,λx c e=>?_,λc o e=>⟨(kG c o e).1,?_⟩,λi y j z e1 e2 e3=>?_⟩
  .let⟨v,o,g,_⟩:=I3.ur x c (eL x c e);exact⟨o,EC e g⟩
  .let⟨x,h1,h2⟩:=Ya c o e;let⟨v,o',g,d⟩:=I3.ur x c h1;rw[h2]at g;cases g;exact⟨v,d⟩
  .let⟨n1,n2,n3,n4⟩:=nH i j y e1 e2;let⟨m,hm,hl⟩:=I3.YF;let⟨u,ru,l⟩:=hl j y z n1 e3 n3;rcases l with⟨k1,_⟩|⟨k1,c,ec,o,g,d⟩
   .exact uv k1 n4
   .let⟨c',t_⟩:=m7 y n2;have e4:=eL y c' t_;rw[ec]at e4;cases e4;exact⟨c,o,u,t_,EC t_ g,d,ru⟩
 show oh _ _ (yG (.wO "min") [.dI pa] [(fv.YG "key", .dI f)]) _ _ _;let⟨hq,sZ⟩:=q f eR H2 la _ CO;refine y7e F hr hc ?_ (λb o z=>g6.œ (w0q I3.ok.m4 (sU b o z))) I3 (λb o z=>kG b o z) hq sZ
 exact λb o z hb=>by
  rcases w0h.mp (I3.j8 b hb)with e|AR
  .let⟨x,h1,_⟩:=Ya b o z;exact I3.t5 x b h1 e
  .let⟨_,o',q',_⟩:=I3.ok.eX.Xt AR
   exact uv (g6.yu q') (w3r.uY (sU b o z))
end
end L2
namespace D
open PySem L2
def gJ:FR->fy dr
 |.ok (.fr (.a6 n))=>ai n
 |_=>none
def fQ(F:dr->fy dr):aj dr->fy (dr×dr)->fy dr
 |[],o=>o.a7 (·.1)
 |i::is,o=>match F i with
  |ai n=>fQ F is (fJ o i n)
  |none=>none
def rL(r:aT->aj W->FR)(j:aT)(e1:aj S):W->fy (aj W)->R W
 |.dS ws,ai aP=>match d5 ws with
  |ai is=>if bH aP=true then bx ((fQ (λi=>gJ (r j (.a6 i::aP))) is none).a7 .a6) e1 else .no
  |none=>.no
 |_,_=>.no
def kB(r:aT->aj W->FR)(j:aT)(js:aj aT)(d:j' W):j' W:=λe=>(d e).qK λw e1=>rL r j e1 w (dj js e1)
theorem z7v:kB r j js d e=(d e).qK λw e1=>rL r j e1 w (dj js e1):=rfl
theorem RX{K:Fg}{bS:aT->fy Lm}{r:aT->aj W->FR}{j:aT}{lm:Lm}{aP:aj W}{G1 H1:Hp}{cs:Cs}{f p:f'}{xs:aj V}{Q:VK}{uZ:dr}(hl:bS j=ai lm)(DH:bH aP=true)(hq:bI K G1 p xs)
  (hQ:∀Gc Hc,aN G1 H1 Gc Hc->Q (.a6 uZ) Hc):
  ∀(is:aj dr)(o:fy (dr×dr))(Gc Hc:Hp),fQ (λi=>gJ (r j (.a6 i::aP))) is o=ai uZ->aN G1 H1 Gc Hc->(∀b o,cs.hW b=ai o->Hc b=none)->pW K (bT Gc cs) (.fn j lm aP) (.dI f) ->
   nS (zV K bS r) (.dI f) cs K p xs Q is o Hc
 |[],o,Gc,Hc,hm,g,hc,rf=>by
  cases o with
  |none=>cases hm
  |ai bm=>
   let⟨b,m⟩:=bm;cases hm;exact⟨_,_,rfl,hQ Gc Hc g⟩
 |i::is,o,Gc,Hc,hm,g,hc,rf=>by
  obtain⟨n,hn,hm⟩:∃n,gJ (r j (.a6 i::aP))=ai n/\fQ (λi=>gJ (r j (.a6 i::aP))) is (fJ o i n)=ai uZ:=by
   grind [fQ]
  have hn:r j (.a6 i::aP)=.ok (.fr (.a6 n)):=by
   unfold gJ at hn
   grind
  refine⟨bT Gc cs,j,lm,aP,[.a6 i],.a6 n,EI g.pA,rf,⟨_,_,rfl,rfl,rfl⟩,rfl,DH,hl,hn,λG' H' v g' rv=>?_⟩
  cases(show v=V.a6 n from rv);have gn:=aN.gc g' hc g.pA;refine⟨n,rfl,gn.pA.ot ((g.gg.lb gn.gg).ot hq),RX hl DH hq hQ is (fJ o i n) (dq G' cs) _ hm (g.lb gn) (λb o z=>yf z) (pW.mV (EI gn.gg) _ rf)⟩
section
variable{X:Cx}{Z:Zt}{EE:L2.St->XK}{e t6:oP}{ua:Z_}{d:j' W}{d6 p ia kp:vd}{k:aT}{N nf:aj fv}{js:aj aT}{sc gs:zb}{bS:aT->fy Lm}{r:aT->aj W->FR}
def z7w(j:aT)(l:Lm)(F:sP X.jf X.w X.K X.mg X.kT (ee X.jf X.w) k (zV X.K bS r))(hr:bA (k+1) X.A)(hc:X.NI=true)(hm:X.mg "min"=none)(M:ϐ X)(qW:∀y,X.fn y=true)(he:DE Z X EE e d)(A6:bS j=ai l)(ok:b9 sc gs N nf js=true)
  (hl:gu (l=⟨X.dt.rN++"<lambda>", ua,t6,gs,nf⟩) jJ)(k_:gu (Ù ua X.dt=([],[])) jJ)(hsc:gu (X.dt.gs=sc) jJ)(hN:gu (X.N=N) jJ)(hg:gu (Gl X "min") jJ)
  (ko:gu (oj [e] X.dt=[(false,eval e X.dt)]) jJ):
  DE Z X EE (.wu (.mU "min" p) [e] [⟨ai "key", .Y6 ua t6 gs d6,kp⟩] ia) (kB r j js d):=by
 unfold b9 at ok;simp only[w0l,w1d,ZD,ϙ,w3j,w0u]at ok;obtain⟨⟨⟨⟨⟨⟨k1,k2⟩,k3⟩,k4⟩,k5⟩,k6⟩,k7⟩:=ok;have yD:∀x,X.dt.yL x=sc.p6.hW x:=λx=>by rw[<- hsc];rfl
 refine PE.mV (z7u (Nf:=nf) (js:=js) F hr hc hg hm M qW he k_ (λx hx hf=>?_) (λi j y e1 e2=>?_) ko) ?_
 .rw[yD];rcases k4 x hx with(z|z)|z
  .exact uv hf z
  .exact .j9 z
  .exact .mW z
 .have b8:i<js.aO:=(w0c.mp e2).1;have z:=k6 i b8;rw[e1,e2]at z;let⟨z1,z2⟩:=k7 y (w0y e1);refine⟨by rw[hN];simpa using z,lU.ZQ z1,?_,?_⟩
  .rw[hsc];rcases z2 with z|z
   .exact .mW (.j9 z)
   .exact .mW (.mW z)
  .rw[yD];rcases z2 with z|z<;>(rw[z];decide)
 .rintro σ H Q ⟨G,en,mT,h⟩;simp only[kB,R.au]at h;refine⟨G,en,mT,h.uX (λw e1 h G1 v1 H1 r1 s1 p1=>?_) λ_ _ h=>h⟩
  cases w with
  |dS ws=>
   cases k9:dj js e1 with
   |none=>rw[k9]at h;exact h.nU
   |ai aP=>
   rw[k9]at h;simp only[rL]at h;cases hi:d5 ws with
   |none=>rw[hi]at h;exact h.nU
   |ai is=>
   rw[hi]at h;simp only[]at h;split at h
   .rename_i DH;cases ho:fQ (λi=>gJ (r j (.a6 i::aP))) is none with
    |none=>rw[ho]at h;exact h.nU
    |ai uZ=>
    rw[ho]at h;let⟨pa,xs,rfl,q,rr⟩:=p1;cases EX hi rr;refine⟨pa,is,rfl,λf a9 H2 la cs co=>?_⟩
    let⟨eY,Hm,pm,eJ,c',hH,hf,rfl⟩:=la
    have rm:ph X.K Z G1 σ Hm e1:=by
     rcases hH with rfl|⟨c,oc,hc,rfl⟩
     .exact r1
     .exact r1.yJ (aN.nL r1.pA hc _)
    have gl:=aN.Mk rm.pA hf (mi (Zz "<lambda>" (X.dt.rN++"<lambda>") ua t6 gs a9 pm c' eJ) (X.dt.rN++"<lambda>") c');have r2:=rm.yJ gl;let⟨zs,rz,zl,zv⟩:=Ka r1 k9;have s_:∀b o,cs.hW b=ai o->ny Hm f (mi (Zz "<lambda>" (X.dt.rN++"<lambda>") ua t6 gs a9 pm c' eJ) (X.dt.rN++"<lambda>") c') b=none:=λb o z=>(co.oB b o z).1
    have AI:∀b o,cs.hW b=ai o->ny G1 f (mi (Zz "<lambda>" (X.dt.rN++"<lambda>") ua t6 gs a9 pm c' eJ) (X.dt.rN++"<lambda>") c') b=none:=λb o z=>by
     cases q:ny G1 f (mi (Zz "<lambda>" (X.dt.rN++"<lambda>") ua t6 gs a9 pm c' eJ) (X.dt.rN++"<lambda>") c') b with
     |none=>rfl
     |ai u=>have:=r2.pA b u q;rw[s_ b o z]at this;cases this
    have sA:=gl.gg.lb (Ld AI)
    have xh:cs.hW f=none:=by
     cases q:cs.hW f with
     |none=>rfl
     |ai o=>have:=AI f o q;rw[bQ]at this;cases this
    have fc:fW (bT (ny G1 f (mi (Zz "<lambda>" (X.dt.rN++"<lambda>") ua t6 gs a9 pm c' eJ) (X.dt.rN++"<lambda>") c')) cs) a9 l zs cs:=by
     subst hl;refine⟨co.yB,co.YO,co.rM,λc o z=>⟨pO z,(co.oB c o z).2⟩,λi y z g1 g2=>?_,by rw[zl];exact k5⟩
     have hi:i<js.aO:=by rw[<- zl];exact(w0c.mp g2).1
     have g3:js[i]?=ai js[i]:=w0b hi;exact co.vI i y js[i] z g1 g3 (zv i _ z g3 g2)
    have Kr:pW X.K (bT (ny G1 f (mi (Zz "<lambda>" (X.dt.rN++"<lambda>") ua t6 gs a9 pm c' eJ) (X.dt.rN++"<lambda>") c')) cs) (.fn j l aP) (.dI f):=by
     refine⟨f,a9,zs,cs,rfl,⟨pm,c',eJ,?_⟩,fc,aq.mV sA aP rz⟩;rw[iy xh,bQ,hl]
    have q2:bI X.K (ny G1 f (mi (Zz "<lambda>" (X.dt.rN++"<lambda>") ua t6 gs a9 pm c' eJ) (X.dt.rN++"<lambda>") c')) pa (is.a7 V.a6):=gl.gg.ot q;refine⟨r2.pA.ot q2,RX A6 DH q2 (λGc Hc g=>?_) is none _ _ ho (aN.tT r2.pA) s_ Kr⟩
    exact h Gc _ Hc (r2.yJ g) (s1.lb (gl.gg.lb g.gg)) rfl
   .exact h.nU
  |_=>exact h.nU
end
end D
namespace L2
open PySem PySem.Spec PyProof.Rows
def dD{α β:Type}(R:α->β->Prop):aj α->aj β->Prop
 |[],[]=>ku
 |a::as,b::bs=>R a b/\dD R as bs
 |_,_=>uH
def dD.perm{α β:Type}{R:α->β->Prop}{F8 bs:aj β}(h:F8.Zk bs):∀{as:aj α},dD R as bs->∃as',as'.Zk as/\dD R as' F8:=by
 induction h with
 |ro=>exact λ{as} r=>⟨as,.tT _,r⟩
 |p9 x _ ih=>
  intro as r;cases as with
  |ro=>exact r.nU
  |p9 a as=>
   let⟨as',p,q⟩:=ih r.2;exact⟨a::as',p.p9 a,r.1,q⟩
 |swap x y l=>
  intro as r;cases as with
  |ro=>exact r.nU
  |p9 a as=>
   cases as with
   |ro=>exact r.2.nU
   |p9 b as=>exact⟨b::a::as,.swap ..,r.2.1,r.1,r.2.2⟩
 |lb _ _ Xo Xp=>
  intro as r;let⟨a2,p2,q2⟩:=Xp r;let⟨a1,p1,q1⟩:=Xo q2;exact⟨a1,p1.lb p2,q1⟩
theorem dD.A'{α β:Type}{R:α->β->Prop}:∀{as:aj α}{bs:aj β},dD R as bs->∀(i:aT) a,as[i]?=ai a->∃b,bs[i]?=ai b/\R a b
 |a::as,b::bs,r,0,_,e=>by cases e;exact⟨b,rfl,r.1⟩
 |a::as,b::bs,r,i+1,x,e=>dD.A' r.2 i x e
 |[],[],_,i,_,e=>by simp at e
theorem dD.aO:∀{as:aj α}{bs:aj β},dD R as bs->as.aO=bs.aO
 |[],[],_=>rfl
 |_::_,_::_,r=>Zd (·+1) (dD.aO r.2)
theorem dD.a7{f:α->zfV}{g:β->zfW}(h:∀a b,R a b->R' (f a) (g b)):∀{as:aj α}{bs:aj β},dD R as bs->dD R' (as.a7 f) (bs.a7 g)
 |[],[],_=>trivial
 |_::_,_::_,r=>⟨h _ _ r.1,dD.a7 h r.2⟩
def Mt(a:fv×V)(b:Keyed):Prop:=(∃t,b.1=.str a.1 t)/\uc a.2 b.2
theorem Th:∀{ns:aj fv}{xs:aj V}{ws us:aj eT},t9 (ns.a7 V.str) ws->t9 xs us->dD Mt (ns.wt xs) (ws.wt us)
 |[],_,_,us,h1,_=>by cases h1;exact trivial
 |_::_,[],_,_,h1,h2=>by cases h1;cases h2;exact trivial
 |n::ns,x::xs,_,_,h1,h2=>by
  cases h1 with
  |p9 r1 h1=>
  cases h2 with
  |p9 r2 h2=>exact⟨⟨r1,r2⟩,Th h1 h2⟩
theorem QX:∀{xs:aj V}{us:aj eT},dD uc xs us->t9 xs us
 |[],[],_=>.ro
 |_::_,_::_,r=>.p9 r.1 (QX r.2)
theorem Qf:∀{ns:aj fv}{ws:aj eT},t9 (ns.a7 V.str) ws->ĺ ws ns
 |[],_,h=>by cases h;exact .ro
 |n::ns,_,h=>by
  cases h with
  |p9 r h=>
   let⟨t,rfl⟩:=r;exact .p9 n t (Qf h)
theorem y7g:∀{ws:aj eT}{ns:aj fv},ĺ ws ns->2<=ws.aO->keyKind' ws.lS=uV oneType'
 |[],_,_,h=>uv h (by simp)
 |[_],_,_,h=>uv h (by simp)
 |_::_::_,_,hJ,_=>keyKind_strs hJ
abbrev wH(zs:aj (fv×V)):Prop:=zs.Y7 λa b=>¬b.1.Yj.vr<a.1.Yj.vr
def y7h(r:dD Mt zs YU.vr)(h:Ĺ Ġ YU YU.d3):wH zs:=by
 have YL:∀i (hi:i<zs.aO),KK Ġ YU i=zs[i].1.Yj.vr:=λi hi=>by
  let⟨b,e,⟨t,hb⟩,_⟩:=r.A' i zs[i] (w0b hi)
  simp_all [KK]
 refine w3b.uY λi j hi hj sY=>?_
 have hl:zs.aO=YU.d3:=by rw[r.aO];simp
 have:=h i j (w3u sY) (by omega);rw[YL i hi,YL j hj]at this;exact of_decide_eq_false this
def z7x{σ:St}(F:eN X.jf X.w X.K X.mg X.kT (ee X.jf X.w) k f fd ps sp)(hr:bA k A)(hA:A.Yc=X.A.Yc)(hb:ZC X.K fd ps [])
  (I:j3 X d0 σ H s)(r:t9 vs us)(h:sp vs H Q λ_ _ _=>uH):oh (p5 X.jf X.w) A (yG (.dI f) us) (EP X d0 σ Q) E s:=by
 have hl:(us++[]).aO=ps.aO:=by rw[w1q,<- r.aO];exact F.uz _ _ _ _ h
 have e0:=I.qP;have bd:=hb s us I.kJ hl;rw[w1q]at bd;refine Ϣ (Γ (F.ll A X.N3 s H ⟨us,[]⟩ us vs Q _ hr ⟨hA.lb e0.Yc,e0.WI,e0.bs,e0.m4,e0.eX,e0.oG,e0.aJ,e0.M_,e0.ZA⟩ bd r h) λr s' hq=>?_)
 cases r with
 |_t e=>
  let⟨_,_,_,_,_,_,_,_,_,_,hE⟩:=hq;exact hE.nU
 |ok fl=>
  cases fl with
  |zW u=>exact I.ϗ hq
  |next=>exact uH.nU hq
  |ZL=>exact uH.nU hq
  |ZN=>exact uH.nU hq
def mz(sp:Sp)(l:f')(o:qH)(ks:f')(K:aj fv->Hp->Prop):aj V->aj fv->Hp->Prop
 |[],ns,H=>K ns H
 |x::xs,ns,H=>sp [x] H (λv H'=>∃n,v=.str n/\H' l=ai (.cB o (.dS []))/\H' ks=ai (.dS (ns.a7 V.str))/\mz sp l o ks K xs (ns++[n]) (ny H' ks (.dS ((ns++[n]).a7 V.str)))) λ_ _ _=>uH
section
variable{X:Cx}{A:FZ}{k:aT}{f:f'}{fd:Zo}{ps:aj fv}{sp:Sp}{d0:aj (f'×qH)}{σ:St}{l ks:f'}{E:eT->oi->Prop}{o:qH}{K:aj fv->Hp->Prop}
theorem Pd(F:eN X.jf X.w X.K X.mg X.kT (ee X.jf X.w) k f fd ps sp)(hr:bA k A)(hA:A.Yc=X.A.Yc)(hb:ZC X.K fd ps [])
  (pG:l≠ks)(p7:yw eT):∀(xs:aj V)(us:aj eT)(ns:aj fv)(s:oi)(H:Hp),t9 xs us->j3 X d0 σ H s->H l=ai (.cB o (.dS []))->H ks=ai (.dS (ns.a7 V.str))->ns.aO+xs.aO<=1000->mz sp l o ks K xs ns H ->
  oh (p5 X.jf X.w) A (ϝ us ϒ.unit λx (_:ϒ)=>lB l (.dI f) (.dI ks) x p7) (λ_ s'=>∃(H':Hp)(tF:aj fv),j3 X d0 σ H' s'/\H' l=ai (.cB o (.dS []))/\H' ks=ai (.dS (tF.a7 V.str))/\tF.aO=ns.aO+xs.aO/\K tF H') E s
 |[],us,ns,s,H,r,I,hl,hk,hz,h=>by
  cases r;rw[w4n];exact t8 ⟨H,ns,I,hl,hk,rfl,h⟩
 |x::xs,us,ns,s,H,r,I,hl,hk,hz,h=>by
  cases r with
  | @p9 _ u _ us r rr=>
   rw[w3f];refine lT ?_;unfold lB;refine lT (ñ ?_);refine YQ (z7x (Q:=λv H'=>∃n,v=.str n/\H' l=ai (.cB o (.dS []))/\H' ks=ai (.dS (ns.a7 V.str))/\mz sp l o ks K xs (ns++[n]) (ny H' ks (.dS ((ns++[n]).a7 V.str)))) F hr hA hb I (.p9 r .ro) h) (λw s1 hq=>?_) (λ_ _ z=>z)
   let⟨v,H1,I1,rv,n,rfl,e1,e2,h2⟩:=hq;let⟨NA,av,m,rI,eo⟩:=(show aS X.jf X.w H1 s1.bj ks (.dS (ns.a7 V.str))from I1.aJ ks _ e2);have A0:av.aO=ns.aO:=by rw[<- rI.aO,w0a]
   refine lT (Ď eo rfl ?_ (hsz:=by rw[w0e,FY];omega) (hsz2:=by rw[yw.ZH,w0e,FY];omega))
   obtain⟨m2,MH⟩:∃m2,(s1.bj.Yh ks (qH.Yp (·.tB w))).iT ks=ai {l_:=.je "list", n9:=.ot (av++[w]).lS m2}:=by
    have z:=ϵ eo (·.tB w);rw[show av.lS.tB w=(av++[w]).lS by simp]at z;exact⟨_,z⟩
   have I2:j3 X d0 σ (ny H1 ks (.dS ((ns++[n]).a7 V.str))) {s1 with bj:=s1.bj.Yh ks (qH.Yp (·.tB w))}:=by
    refine I1.Zc (t':=s1.rJ) (by rw[e2];exact ku.intro) (.j9 rfl) (λb u hb q=>(g6._v _ _ (Ne.symm hb)).lb q) ⟨_,MH⟩ (show aS X.jf X.w _ _ _ (.dS _)from⟨by rw[w0a,w1k,FY];simp;omega,av++[w],m2,?_,MH⟩)
    rw[w1b];exact rI.Xy (.p9 rv .ro)
   refine t8 ?_;show oh _ _ (ϝ us ϒ.unit _) _ _ _;refine YQ (Pd F hr hA hb pG p7 xs us (ns++[n]) _ _ rr I2 (by rw[aR pG];exact e1) bQ (by rw[w1k];simp at hz |-;omega) h2) (λ_ s' hq=>?_) (λ_ _ z=>z)
   let⟨H',tF,a1,a2,a3,a4,a5⟩:=hq;exact⟨H',tF,a1,a2,a3,by rw[a4,w1k];simp;omega,a5⟩
def o9(sp:Sp)(l:f')(xs:aj V)(H:Hp)(Q:VK):Prop:=
 ∀o ks,ny H l (.cB o (.dS [])) ks=none->mz sp l o ks (λns H'=>∀zs:aj (fv×V),zs.Zk (ns.wt xs)->wH zs->Q (.dI l) (ny (ny H' ks (.dS [])) l (.dS (zs.a7 (·.2))))) xs [] (ny (ny H l (.cB o (.dS []))) ks (.dS []))
def y7i{Q:VK}{xs:aj V}{H:Hp}{s:oi}(F:eN X.jf X.w X.K X.mg X.kT (ee X.jf X.w) k f fd ps sp)(hr:bA k A)(hA:A.Yc=X.A.Yc)(hb:ZC X.K fd ps [])
  (I:j3 X d0 σ H s)(el:H l=ai (.dS xs))(hf:∀o v,X.aE l≠ai (.cB o v))(Gk:xs.aO<64)(h:o9 sp l xs H Q):
  oh (p5 X.jf X.w) A (uu.«list.sort» ⟨[.dI l],[(fv.YG "key", .dI f)]⟩) (λxg s'=>xg=.done (.zW .none)/\EP X d0 σ Q (.dI l) s') E s:=by
 rw[zbN];let⟨_,us,m,rU,eo⟩:=(show aS X.jf X.w H s.bj l (.dS xs)from I.aJ l _ el);have Hq:us.aO=xs.aO:=by rw[<- rU.aO]
 refine lT (zc1 eo rfl ?_);refine lT (Ď eo rfl ?_ (hsz:=by rw[w0e,FY];omega));obtain⟨e1,Dr⟩:∃e1,(s.bj.Yh l (qH.Yp λ_=>#[])).iT l=ai (Yt "list" #[] e1):=⟨_,ϵ eo (λ_=>#[])⟩
 have I1:j3 X d0 σ (ny H l (.dS [])) {s with bj:=s.bj.Yh l (qH.Yp λ_=>#[])}:=
  I.Zc (t':=s.rJ) (by rw[el];exact ku.intro) (.j9 rfl) (λb u hb q=>(g6._v _ _ (Ne.symm hb)).lb q) ⟨_,Dr⟩ (show aS X.jf X.w _ _ _ (.dS [])from⟨w1c _,[],e1,.ro,Dr⟩)
 have I2:=I1.k8 (a:=l) (xs:=[]) (o:=Yt "list" #[] e1) bQ Dr;rw[E4]at I2;refine lT (seqEpoch_at Dr rfl ?_);refine lT (zer ?_ (hsz:=by rw[FY];simp;omega));have I3:=I2.XE (t':=s.rJ) (h':=(s.bj.Yh l (qH.Yp λ_=>#[])).tB (Yt "tuple" us.lS.vr.lS 0)) λb u q=>g6.w6 _ q
 refine lT (ŷ ?_);have fr:=I3.aJ.yI (w0f _)
 have I4:=I3.Mk (t':=s.rJ) (o:=.dS []) (h':=((s.bj.Yh l (qH.Yp λ_=>#[])).tB (Yt "tuple" us.lS.vr.lS 0)).tB (Yt "list" #[] 0)) (λb u q=>g6.w6 _ q) (w0f _)
  (show aS X.jf X.w _ _ _ (.dS [])from⟨w1c _,[],0,.ro,g6.Bt _ rfl⟩)
 refine ZJ ?_;refine lT (ö ?_);rw[aj.forIn_toArray]
 have pG:l≠((s.bj.Yh l (qH.Yp λ_=>#[])).tB (Yt "tuple" us.lS.vr.lS 0)).g0.d3:=λz=>by
  rw[<- z,bQ]at fr;cases fr
 refine lT (YQ (Pd F hr hA hb pG us.lS xs us [] _ _ rU I4 (by rw[aR pG];exact bQ) bQ (by simp;omega) (h _ _ fr)) (λ_ s5 hq=>?_) (λ_ _ z=>z))
 let⟨H5,ns,I5,MF,ME,m8,q⟩:=hq
 clear I1 I2 I3 I4
 generalize ((s.bj.Yh l (qH.Yp λ_=>#[])).tB (Yt "tuple" us.lS.vr.lS 0)).g0.d3=ks at *
 let⟨_,ws,mk,rW,ew⟩:=(show aS X.jf X.w H5 s5.bj _ (.dS (ns.a7 V.str))from I5.aJ _ _ ME);have tq:ws.aO=us.aO:=by rw[<- rW.aO,w0a,m8,Hq];simp
 have hJ:=Qf rW;have Wa:s5.bj.iT l=ai (Yt "list" #[] e1):=(show _/\_ from I5.aJ _ _ MF).1;refine lT (zc1 ew rfl ?_)
 have xg:∀YU:yw Keyed,YU.Zk (ws.lS.wt us.lS)->Ĺ Ġ YU YU.d3->oh (p5 X.jf X.w) A (do
   uu.aj.τ (.dI ks) λ_=>#[]
   letGo (YU.a7 (·.1)).vr ([]:aj eT)
   let Ħ:=(<- Ţ l) != e1
   uu.aj.τ (.dI l) λ_=>YU.a7 (·.2)
   if Ħ then Z7 "list.sort.modified";raiseError "ValueError" "list modified during sort"
   zW .none) (λxg s'=>xg=.done (.zW .none)/\EP X d0 σ Q (.dI l) s') E s5:=λYU hp hs=>by
  have Nm:YU.vr.Zk (ws.wt us):=by
   have:=yw.perm_iff_toList_perm.mp hp
   simpa using this
  let⟨zs,pz,rz⟩:=dD.perm Nm (Th rW rU);have up:=y7h rz hs
  have hy:t9 (zs.a7 (·.2)) (YU.a7 (·.2)).vr:=by
   rw[yw.toList_map];exact QX (dD.a7 (λ_ _ h=>h.2) rz)
  have Ny:YU.d3=us.aO:=by rw[hp.size_eq];simp[tq]
  have Xm:zs.aO=us.aO:=by rw[rz.aO];simp[Ny]
  refine lT (Ď ew rfl ?_ (hsz:=by rw[w0e,FY];omega));obtain⟨e6,MM⟩:∃e6,(s5.bj.Yh ks (qH.Yp λ_=>#[])).iT ks=ai (Yt "list" #[] e6):=⟨_,ϵ ew (λ_=>#[])⟩
  have I6:j3 X d0 σ (ny H5 ks (.dS [])) {s5 with bj:=s5.bj.Yh ks (qH.Yp λ_=>#[])}:=
   I5.Zc (t':=s5.rJ) (by rw[ME];exact ku.intro) (.j9 rfl) (λb u hb q=>(g6._v _ _ (Ne.symm hb)).lb q) ⟨_,MM⟩ (show aS X.jf X.w _ _ _ (.dS [])from⟨w1c _,[],e6,.ro,MM⟩)
  have V_:ny H5 ks (.dS []) l=ai (.cB (Yt "list" #[] e1) (.dS [])):=by rw[aR pG];exact MF
  have Ge:(s5.bj.Yh ks (qH.Yp λ_=>#[])).iT l=ai (Yt "list" #[] e1):=(g6._v _ _ (Ne.symm pG)).lb Wa
  have I7:=I6.vK V_ hf;refine lT (Μ ?_);refine lT (seqEpoch_at Ge rfl ?_);refine lT (Ď Ge rfl ?_ (hsz2:=by rw[yw.size_map,Ny,FY];omega));obtain⟨e8,MI⟩:∃e8,((s5.bj.Yh ks (qH.Yp λ_=>#[])).Yh l (qH.Yp λ_=>YU.a7 (·.2))).iT l=ai (Yt "list" (YU.a7 (·.2)) e8):=⟨_,ϵ Ge (λ_=>YU.a7 (·.2))⟩
  have I8:=I7.Zc (x:=l) (e:=l) (o:=.dS (zs.a7 (·.2))) (t':=s5.rJ) (h':=(s5.bj.Yh ks (qH.Yp λ_=>#[])).Yh l (qH.Yp λ_=>YU.a7 (·.2))) (by rw[bQ];exact ku.intro) (.j9 rfl) (λb u hb q=>(g6._v _ _ (Ne.symm hb)).lb q) ⟨_,MI⟩
   (show aS X.jf X.w _ _ _ (.dS (zs.a7 (·.2)))from⟨by rw[w0a,Xm,FY];omega,(YU.a7 (·.2)).vr,e8,hy,by rw[w4b];exact MI⟩)
  rw[E4]at I8;simp only[Ł,w4h,ĉ];exact t8 ⟨rfl,.dI l,_,I8,rfl,q zs pz up⟩
 have NB:(ws.lS.wt us.lS).d3=us.aO:=by simp[tq]
 by_cases h2:us.lS.d3<2
 .rw[mS h2,mS h2];refine lT (t8 ?_);dsimp only;rw[StateT.run_pure];refine lT (t8 ?_);refine xg (ws.lS.wt us.lS) (yw.Zk.tT _) λi j sY hj=>?_
  have hsz:us.lS.d3=us.aO:=by simp
  have:i=j:=by omega
  subst this;exact KeyOrd.kle_refl _
 .rw[sF h2,sF h2];have hsz:us.lS.d3=us.aO:=by simp
  rw[y7g hJ (by omega)];refine lT (t8 ?_)
  refine lT (YQ (wpS_sortRunsK (a₀:=ws.lS.wt us.lS) (st:=SortSt.mk' oneType' (ws.lS.wt us.lS) #[] 7 none)
   (Q:=λ_ n6=>(þ n6).Zk (ws.lS.wt us.lS)/\ć n6=none/\Ĺ Ġ (þ n6) (ws.lS.wt us.lS).d3)
   strKind_oneLt (λp hp=>?_) ⟨yw.Zk.tT _,rfl,rfl,rfl⟩ (by rw[NB];omega) (by rw[NB];omega) λn6 a1 a2 a3=>⟨a1,a2,a3⟩) ?_ λ_ _ e=>e)
  .have hm:p∈ws.wt us:=by simpa using hp
   have hw:=(w3h hm).1;let⟨i,hi,e⟩:=w1s.mp hw;have kF:i<ns.aO:=by rw[<- w0a (f:=V.str),rW.aO];exact hi
   let⟨u,hu,t,ru⟩:=rW.A' (i:=i) (x:=V.str ns[i]) (by rw[w0t,w0b kF];rfl);rw[w0b hi,e]at hu;cases hu;exact⟨_,by rw[ru]⟩
  rintro⟨⟨⟩,n6⟩ s' ⟨rfl,hp,DB,W9⟩;have z:=xg _ hp (by rw[hp.size_eq];exact W9);rw[<- show(ć n6).vr=([]:aj eT) by rw[DB];rfl]at z;dsimp only at z |-
  rw[DB]at z |-
  exact z
end
def zeH(sp:Sp)(K:Fg)(ta:TE):TE:=λσ H Q=>ta σ H λv H1=>∃(p:f')(xs:aj V),v=.dI p/\bI K H1 p xs/\xs.aO<64/\∀l,H1 l=none->o9 sp l xs (ny H1 l (.dS xs)) Q
section
variable{X:Cx}{k:aT}{f:f'}{fd:Zo}{ps:aj fv}{sp:Sp}
def z1x{a:oP}{x:fv}{np p ia kp:vd}{ta:TE}(F:eN X.jf X.w X.K X.mg X.kT (ee X.jf X.w) k f fd ps sp)(hr:bA (k+2) X.A)(hb:ZC X.K fd ps [])(WL:X.mg x=ai (.dI f))(GJ:Gl X x)(hg:Gl X "sorted")(hm:X.mg "sorted"=none)
  (ha:PE X a ta)(he:gu (oj [a] X.dt=[(false,eval a X.dt)]) jJ)(GB:gu ((x==("__debug__":fv))=false) jK):
  PE X (.wu (.mU "sorted" p) [a] [⟨ai "key", .mU x np,kp⟩] ia) (zeH sp X.K ta):=by
 intro d0 s σ H Q I h;refine Λ (rY I hg hm Ku.M4._n.«sorted» ?_ (by decide) (by decide));refine callWith_kw ?_ (by rw[he];rfl) (by rw[he];rfl);rw[he];show oh _ _ (Å ((false,eval a X.dt)::[])) _ _ s;refine YR.ë (bC (ha d0 s σ H _ I h) λu s1 ⟨v,H1,I1,r1,q1⟩=>?_)
 let⟨pa,xs,rfl,hq,Gk,q⟩:=q1;obtain rfl:u=eT.dI pa:=r1;refine YR.ì ?_;refine kws_cons (zO I1 GJ WL (kws_nil ?_) GB);show oh _ _ (yG (.wO "sorted") [.dI pa] [(fv.YG "key", .dI f)]) _ _ _;let⟨av,rI,pl,hz⟩:=I1.xT hq;have A0:av.aO=xs.aO:=rI.aO.symm;refine call_function_entry_kw kind_sorted plain_sorted entry_sorted (zaq _ _) ?_
 unfold uu.«sorted»;refine lT (m:=checkCount "sorted" 1 1 _) (t8 ?_);refine lT (collect_list pl.zf ?_);have k5:∀b o,s1.bj.iT b=ai o->((s1.bj.tB (Yt "list" #[] 0)).Yh s1.bj.g0.d3 (qH.Yp (·++av.lS))).iT b=ai o:=λb o e=>(g6._v _ _ (w2s (g6.yu e))).lb (g6.w6 _ e)
 have I5:j3 X d0 σ H1 {s1 with bj:=(s1.bj.tB (Yt "list" #[] 0)).Yh s1.bj.g0.d3 (qH.Yp (·++av.lS))}:=I1.XE (t':=s1.rJ) k5;refine lT (ŷ ?_ (hsz:=by rw[FY];omega));have Ds:=I5.aJ.yI (w0f _)
 have I6:=I5.Mk (t':=s1.rJ) (o:=.dS xs) (h':=((s1.bj.tB (Yt "list" #[] 0)).Yh s1.bj.g0.d3 (qH.Yp (·++av.lS))).tB {l_:=.je "list", n9:=.ot av.lS}) (λb o q=>g6.w6 _ q) (w0f _)
  (show aS X.jf X.w _ _ _ (.dS _)from⟨hz,av,0,rI,g6.Bt _ rfl⟩)
 refine lT (ZJ (wpAny_call_entry_kw slot_list_sort ⟨_,g6.Bt _ rfl,rfl⟩ entry_list_sort (YQ (y7i (Q:=Q) (xs:=xs) F ((hr.Dh).Dh) rfl hb I6 bQ ?_ Gk (q _ Ds)) (λxg s' hq=>⟨_,hq.1,?_⟩) λ_ _ z=>z) (XU _ _)))
 .intro o v z;have:=I5.kT.aY _ o v z;rw[Ds]at this;cases this
 .exact t8 ⟨_,rfl,hq.2⟩
end
end L2
namespace zZ
open PySem PySem.W PySem.Calls PyProof.Rows
theorem RY:∀{ns:aj dr}{m:aT},YB.Ĭ (ns.a7 YB.a6)<=m->∀i∈ns,uu.dr.Ϸ i<=m
 |[],_,_,_,h=>nomatch h
 |n::ns,m,hw,i,h=>by
  have e:YB.Ĭ ((n::ns).a7 YB.a6)=uu.dr.Ϸ n+1+YB.Ĭ (ns.a7 YB.a6):=rfl;rw[e]at hw;cases h with
  |head=>omega
  |Θ _ h=>exact RY (by omega) i h
def z1y{ns:aj dr}(h:YB.layableAll [YB.xT (ns.a7 YB.a6)]=true):∀i∈ns,uu.dr.Ϸ i<=1048576:=by
 have h1:(YB.layable (YB.xT (ns.a7 YB.a6))&&true)=true:=h;rw[w4t]at h1;unfold YB.layable at h1;rw[w0l]at h1;have h2:=Ş h1.2;have e:YB.weight (YB.xT (ns.a7 YB.a6))=YB.Ĭ (ns.a7 YB.a6):=rfl;rw[e]at h2;exact RY h2
def zcS{l:_Y}
  (hn:l.À=ai n)(ue:d.ua.ϰ=[])
  (yG:∀(w:uG)(ax aH:oi)(mg mb:fv->fy eT)(fa:f')(o:qH)(pm cd Yn:eT)(a:f')(vs:aj eT)(ns:aj dr),
   Ground q _O [] XP w ax mg mb aH.bj->YP w aH.bj ->
   aH.bj.iT fa=ai o->o.n9=.Zf (docDef d.name d.ua d.t6 d.gs pm cd Yn)->aH.bj.Ĵ cd d.name->mg d.name=ai (.dI fa) ->
   aH.bj.iT a=ai {l_:=.je "list", n9:=.ot vs.lS}->ώ vs ns->ns.aO<=n->(∀i∈ns,uu.dr.Ϸ i<=1048576)->aH.YD=#[] ->
   Za (p5 l.jf w) ZM (.yG (.dI fa) ⟨[.dI a],[]⟩) (λr s'=>r=.ok (.zW (.xv true))/\ϑ aH.bj s'.bj/\s'.os=aH.os/\ZV s'.YD) aH):
  Ð q _O XP YP l.oL.ψ d [] (λf vs=>lU.yG f vs):=by
 intro w ax aH mg mb G Y fa o pm cd Yn dV kV ho hd eK hD hmg hg args ï as pH A5 W8 tq WX;obtain rfl:dV=.none:=ú.none hD ue;obtain rfl:kV=.none:=ú.noKw hD;let⟨a,vs,ns,rfl,rfl,nN,ς,wR⟩:=PZ hn pH tq;refine enter_call (Γ (yG w ax aH mg mb fa o pm cd Yn a vs ns G Y ho (fd_plain hd) eK hmg nN ς wR (z1y A5) hg) λr s' hq=>?_)
 let⟨rfl,h2,h3,h4⟩:=hq;exact⟨.j9 ⟨.xv true,.xv true,[],rfl,λ_=>rfl,.xv true,P0 l _,λ_=>⟨aj.Y7.ro,λ_ hm=>(nomatch hm)⟩⟩,h2,h3,h4⟩
end zZ
namespace L2
open PySem PySem.Spec PyProof.Rows
end L2
namespace D
open PySem L2
def Dg(ns:aj dr):Prop:=ns.aO<=63/\∀i∈ns,uu.dr.Ϸ i<=1048576
def lP(K:Fg):Sp:=λvs H Q _=>∃(a:f')(ns:aj dr),vs=[.dI a]/\bI K H a (ns.a7 V.a6)/\Dg ns/\∀H',Q (.bl true) H'
def y7j(hF:∀ns:aj dr,Dg ns->F [.dS (ns.a7 .a6)]=.ok (.fr (.bl true)))(h:lP K vs H Q E):n0 K F vs H Q E:=by
 let⟨a,ns,rfl,hS,hl,q⟩:=h;refine⟨λb=>if b=a then H a else none,[.dS (ns.a7 .a6)],λb o z=>?_,⟨.dI a,[],rfl,⟨a,ns.a7 V.a6,rfl,?_,P9 ns⟩,rfl⟩,?_⟩
 .grind
 .rcases hS with(h|⟨o,h⟩)|h
  .exact .j9 (.j9 (by simpa using h))
  .exact .j9 (.mW ⟨o,by simpa using h⟩)
  .exact .mW h
 .rw[hF ns hl];intro G' H' v g sl;let⟨u,h1,h2⟩:=sl;cases h1;cases(show v=V.bl true from h2);exact q H'
end D
namespace L2
open PySem PySem.Spec PyProof.Rows
def U9(hl:PE X l tl):PE X l (λσ H Q=>tl σ H λv H1=>∃a xs,H1 a=ai (.dS xs)/\∀o,Q v (ny H1 a (.cB o (.dS xs)))):=by
 intro d0 s σ H Q I h;refine bC (hl d0 s σ H _ I h) λv s1 ⟨x,H1,I1,r1,q1⟩=>?_
 let⟨a,xs,e,q⟩:=q1;let⟨av,_,⟨o,n,g,_⟩,_⟩:=I1.xT (bI.of e);exact⟨x,_,I1.k8 e g,r1,q o⟩
end L2
namespace D
open PySem L2 PySem.Spec PyProof.Rows
open PyProof.Rows (envOfC)
section
variable{K:Fg}{e:aj S}
def ph.refill(r:ph K Z G σ H (e.ri i .no)){s0:S}{v:V}(hv:σ[i]?=ai (ai v))(hs:∀b ws,s0≠.ke b ws)(q:eC K Z G H s0 (ai v)):ph K Z G σ H (e.ri i s0):=by
 have h:=r.yx (i:=i) hs q;rw[aj.set_set]at h
 have:σ.ri i (ai v)=σ:=by
  let⟨hi,h2⟩:=w0c.mp hv;rw[<- h2,aj.set_getElem_self]
 rw[this]at h;exact h
theorem ph.AE(r:ph K Z G σ H e)(i:aT):ph K Z G σ H (e.ri i .no):=r.forget (by simp) λk s z=>by
 by_cases hk:k=i
 .subst hk
  have hi:k<e.aO:=by
   have:=(w0c.mp z).1;simpa using this
  rw[w0m hi]at z;cases z;exact .j9 rfl
 .rw[w0j (λz=>hk z.symm)]at z;exact .mW z
end
section
variable{e:aj S}{w u:W}{i:aT}{d:j' W}{l:Lm}
theorem z1z:bV []=true:=rfl
theorem Q3j:eW (.a6 n)=true:=rfl
end
open PySem L2
end D
namespace L2
open PySem PySem.Spec PyProof.Rows
end L2
namespace D
open PySem L2
open Classical in
noncomputable instance ze8 (k:Kx) (sh:Sh):É (Z6 k sh):=_o.å _
end D
namespace L2
open PySem PySem.Spec PyProof.Rows
structure ky(x:fv)(Nf:aj fv)(sc:zb):Prop where
 yD:sc.yD=.Zw
 co:sc.Þ=false
 gen:sc.ß=false
 χ:sc.p6.hW x=ai .ur
 YH:∀n cl,Ô n sc.p6 cl=(x,n)::cl
 BC:∀h:g6,pushCells h sc.p6=h.tB {l_:=.je "cell", n9:=.ur none}
 only:∀y∈sc.p6,y.2=.ur->y.1=x
 fr:∀y∈Nf,sc.p6.hW y=ai .rk
end L2
namespace D
open PySem L2
structure ze5(P:wW)(w:uG)(K:Fg)(mg:fv->fy eT)(kT:g6)(n:aT)(l:Lm)(x:fv)(F:aj W->FR):Prop where
 sc:ky x l.nf l.gs
 qK:∀(cl:aj (fv×f'))(pm:eT)(c':f')(eJ u:eT),γ (à "<lambda>" l.rN l.ua l.t6 l.gs cl pm (.dI c') eJ) ⟨[u],[]⟩=uV [(x,u)]
 uz:∀ws,F ws≠.no->ws.aO=1+l.nf.aO
 t6:∀ws,F ws≠.no->∀(Z:Zt)(f:f')(cd:eT)(cl:aj (fv×f'))(A:FZ)(qp:aj MO)(s:oi)(H:Hp),bA n (A.Zu (eF l.rN l.gs f cd cl s)) ->
  ∃d,DE Z (kA P w K mg kT ([x]++l.nf) l.rN l.gs f cd cl A qp s H) (λ_=>E0) l.t6 d/\gS (d (ws.a7 .fr))=F ws
end D
namespace L2
open PySem PySem.Spec PyProof.Rows
def zei(P:wW)(w:uG)(K:Fg)(mg:fv->fy eT)(kT:g6)(N:aj fv)(rN:fv)(gs:zb)(f:f')(cd:eT)(cl:aj (fv×f'))(A:FZ)(qp:aj MO)(s:oi)(H:Hp)(E:XK):Cx:=
 {kA P w K mg kT N rN gs f cd cl A qp s H with xe:=λe s'=>oh (p5 P w) (A.Zu (eF rN gs f cd cl s)) (leaving (eF rN gs f cd cl s) e) (λ_ iR=>ee P w qp H s E e iR) (λe' iR=>ee P w qp H s E e' iR) s'}
end L2
namespace D
open PySem L2
variable{X:Cx}{EE:L2.St->XK}{p ia:vd}{K:Fg}{x:fv}{Z:Zt}
structure ze1(P:wW)(w:uG)(K:Fg)(mg:fv->fy eT)(kT:g6)(n:aT)(l:Lm)(x:fv)(F:aj W->FR):Prop where
 sc:ky x l.nf l.gs
 qK:∀(cl:aj (fv×f'))(pm:eT)(c':f')(eJ u:eT),γ (à "<lambda>" l.rN l.ua l.t6 l.gs cl pm (.dI c') eJ) ⟨[u],[]⟩=uV [(x,u)]
 uz:∀ws,F ws≠.no->ws.aO=1+l.nf.aO
 t6:∀ws,F ws≠.no->∀(Z:Zt)(f:f')(cd:eT)(cl:aj (fv×f'))(A:FZ)(qp:aj MO)(s:oi)(H:Hp)(E:XK),bA n (A.Zu (eF l.rN l.gs f cd cl s)) ->
  ∃d,DE Z (zei P w K mg kT ([x]++l.nf) l.rN l.gs f cd cl A qp s H E) (λ_=>E) l.t6 d/\gS (d (ws.a7 .fr))=F ws
open PySem L2 PySem.Spec PyProof.Rows
def kq:fy ie->eT->ie
 |none,.none=>true
 |ai b,.xv c=>b==c
 |_,_=>false
def HU:fy ie->eT
 |none=>.none
 |ai b=>.xv b
def vV(h:kq k v=true):v=HU k:=by
 cases k with
 |none=>cases v<;>first|rfl|cases h
 |ai b=>
  cases v with
  |xv c=>
   have:b=c:=ZD.mp h;subst this;rfl
  |_=>cases h
def jY(w:uG):fy ie->dr
 |none=>kI w .aC
 |ai b=>kI w (.bl b)
def y7k(k)(hv:kq k v=true)(h:Q (jY w k) {s with rJ:=s.rJ+1}):oh (p5 jf w) A (Ĕ v) Q E s:=by
 have:=vV hv;subst this;cases k with
 |none=>exact pyHash_slot (T:="NoneType") rfl F.slot_NoneType_hash F.entry_NoneType_hash (F.args_NoneType_hash_1 _) (zb_ _) (.j9 rfl) (lT (t8 (lT (ĭ (t8 ⟨_,_,rfl,h⟩)))))
 |ai b=>
  refine pyHash_slot (T:="bool") rfl F.slot_bool_hash entry_int_hash (args_int_hash _) (zb_ _) (.j9 rfl) ?_;cases b
  .exact(show oh _ _ (do zW (<- mkInt 0)) _ _ s from lT (ĭ (t8 ⟨_,_,rfl,h⟩)))
  .exact(show oh _ _ (do zW (<- mkInt 1)) _ _ s from lT (ĭ (t8 ⟨_,_,rfl,h⟩)))
def VI(hu:kq a u=true)(hv:kq b v=true)(h:Q (decide (a=b)) s):oh (p5 jf w) A (Ú u v) Q E s:=by
 have h1:=vV hu;have h2:=vV hv;subst h1;subst h2;cases a with
 |none=>
  cases b with
  |none=>exact yy.WE.same _ jf w E Q (by simpa using h)
  |ai c=>exact yy.WE.â c jf w E Q (by simpa using h)
 |ai a=>
  cases b with
  |none=>exact yy.WE.Ó a jf w E Q (by simpa using h)
  |ai c=>
   have e:decide (ai a=ai c)=(a==c):=by grind
   rw[e]at h;exact yy.WE.ϫ a c jf w E Q h
def rQ(jf)(w):KeyKind jf w (fy ie) where
 is:=kq
 ϶:=jY w
 yB:=λv a b ha hb=>by
  have h1:=vV ha;subst h1;cases a with
  |none=>cases b with
   |none=>rfl
   |ai c=>cases hb
  |ai a=>cases b with
   |none=>cases hb
   |ai c=>have:c=a:=ZD.mp hb;rw[this]
 byValue:=λk v h=>by
  have:=vV h;subst this;cases k<;>rfl
 Ĕ:=λ{A E s k v Q} hv h=>y7k k hv h
 Ú:=λ{A E s a b u v Q} hu hv h=>VI hu hv h
 «strs»:=λk x t v h=>(by cases k<;>cases h)
def Yv:fy ie->fv
 |none=>"-"
 |ai true=>"1"
 |ai false=>"0"
def o_(v:eT)(x:fv):ie:=match v with
 |.str y _=>y==x
 |_=>false
def oN(w:uG)(o:qH):ie:=match o.l_,o.x8,o.Yb.vr,o.n9 with
 |.je c,none,[],.x8 es _=>c=="dict"&&(match es.vr with
  |[e1,e2,e3]=>(kq (ai true) e1.YL&&e1.϶==jY w (ai true)&&o_ e1.vI "1")&&(kq (ai false) e2.YL&&e2.϶==jY w (ai false)&&o_ e2.vI "0")&&(kq none e3.YL&&e3.϶==jY w none&&o_ e3.vI "-")
  |_=>false)
 |_,_,_,_=>false
structure oy(w:uG)(K:Fg)(d:f'):Prop where
 Up:∃o,K.hW d=ai o/\oN w o=true
def Jv(h:o_ v x=true):∃t,v=.str x t:=by
 cases v with
 |str y t=>exact⟨t,by rw[show y=x from ZD.mp h]⟩
 |_=>cases h
def y7l{jf:wW}{w:uG}{d:f'}(T:oy w K d){h:g6}(x:K.In h):∃f:fy ie->fy eT,h.MapOf (rQ jf w) d f/\∀k,∃t,f k=ai (.str (Yv k) t):=by
 let⟨o,h1,h2⟩:=T.Up;unfold oN at h2;split at h2
 .rename_i c es ep hc hd hs AX;rw[w0l]at h2;let⟨eK,h2⟩:=h2;split at h2
  .rename_i e1 e2 e3 GC;simp only[w0l,ZD]at h2;let⟨⟨⟨⟨a1,a2⟩,a3⟩,⟨b1,b2⟩,b3⟩,⟨c1,c2⟩,c3⟩:=h2;let⟨t1,v1⟩:=Jv a3;let⟨t2,v2⟩:=Jv b3;let⟨t3,v3⟩:=Jv c3;have k1:=vV a1;have k2:=vV b1;have k3:=vV c1;have he:es=#[e1,e2,e3]:=by apply yw.ů.mp;rw[GC]
   refine⟨ŏ kq es,⟨o,es,ep,x d o h1,⟨?_,hd,?_⟩,AX,λe hm=>?_,λ_=>rfl⟩,λk=>?_⟩
   .rw[hc,ZD.mp eK]
   .apply yw.ů.mp;rw[hs]
   .rw[he]at hm;simp only[aj.mem_toArray,w0h,w1g,YX]at hm;rcases hm with rfl|rfl|rfl
    .exact⟨ai true,a1,a2⟩
    .exact⟨ai false,b1,b2⟩
    .exact⟨none,c1,c2⟩
   .rw[he];unfold ŏ;rw[aj.find?_toArray];cases k with
    |none=>exact⟨t3,by simp only[w2b,k1,k2,k3];exact Zd ai v3⟩
    |ai b=>
     cases b with
     |true=>exact⟨t1,by simp only[w2b,k1,k2,k3];exact Zd ai v1⟩
     |false=>exact⟨t2,by simp only[w2b,k1,k2,k3];exact Zd ai v2⟩
  .cases h2
 .cases h2
def uU:W->fy W
 |.aC=>ai (.str (Yv none))
 |.bl b=>ai (.str (Yv (ai b)))
 |_=>none
section
variable{k:oP}{dk:j' W}{d:f'}
def Kn(d:f'):R2:=λx y H Q=>x=.dI d/\((y=.aC/\Q (.str (Yv none)) H)\/∃b,y=.bl b/\Q (.str (Yv (ai b))) H)
def U_(T:oy X.w X.K d):qy X (Kn d):=by
 intro Zm ZT d0 s σ H x y v u Q I rx ry h hs;let⟨rfl,h⟩:=h;cases rx;let⟨f,hm,hf⟩:=y7l (jf:=X.jf) T I.kJ
 have YL:∃k:fy ie,u=HU k/\Q (.str (Yv k)) H:=by
  rcases h with⟨rfl,q⟩|⟨b,rfl,q⟩
  .exact⟨none,ry,q⟩
  .exact⟨ai b,ry,q⟩
 let⟨k,rfl,q⟩:=YL;let⟨t,ht⟩:=hf k
 have hk:kq k (HU k)=true:=by
  cases k with
  |none=>rfl
  |ai b=>exact ŀ b
 exact Ku.M4.ŭ hm.Zh F.zdH.hW (zem (knd:=rQ X.jf X.w) hk hm ht ⟨.str (Yv k),H,I.Yg _,⟨t,rfl⟩,q⟩) hs
def Q3l(T:∃d,X.mg x=ai (.dI d)/\oy X.w X.K d)(hk:DE Z X EE k dk)(hg:gu (Gl X x) jJ)(hd:gu ((x==("__debug__":fv))=false) jK)(hs:fY k:=by intro _ _;rfl):
  DE Z X EE (.Yl (.mU x p) k ia) (nB uU dk):=by
 let⟨d,hm,T⟩:=T;refine PE.mV (C7 (U_ T) (Ro (v:=.dI d) hg hm rfl hd) hk hs) ?_;rintro σ H Q ⟨G,e,mT,h⟩;simp only[nB,R.au,a8]at h;refine⟨G,e,mT,h.uX (λw e1 h G1 v1 H1 r1 s1 p1=>?_) λ_ _ h=>h⟩
 let⟨w',hw,h⟩:=h;unfold uU at hw;split at hw
 .cases hw;cases p1;exact⟨rfl,.j9 ⟨rfl,h G1 _ H1 r1 s1 rfl⟩⟩
 .rename_i b;cases hw;cases p1;exact⟨rfl,.mW ⟨b,rfl,h G1 _ H1 r1 s1 rfl⟩⟩
 .cases hw
end
def o8:FR->fy fv
 |.ok (.fr (.str n))=>ai n
 |_=>none
def iX(F:aj W->FR):aj W->fy (aj fv)
 |[]=>ai []
 |w::ws=>match o8 (F [w]),iX F ws with
  |ai n,ai ns=>ai (n::ns)
  |_,_=>none
abbrev ve(zs:aj (fv×W)):Prop:=zs.Y7 λa b=>a.1.Yj.vr<b.1.Yj.vr
open Classical in
def n5(ns:aj fv)(ws:aj W):fy (aj W):=if h:ns.aO=ws.aO/\∃zs:aj (fv×W),zs.Zk (ns.wt ws)/\ve zs then ai (h.2.Ň.a7 (·.2))else none
theorem Lw:∀{l m:aj (fv×W)},ve l->ve m->l.Zk m->l=m
 |[],m,_,_,p=>p.nil_eq
 |x::l,[],_,_,p=>(aj.cons_ne_nil _ _ p.eq_nil).nU
 |x::l,y::m,hl,hm,p=>by
  have h1:=w4l.mp hl;have h2:=w4l.mp hm
  have e:x=y:=by
   grind
  subst e;rw[Lw h1.2 h2.2 (aj.Zk.cons_inv p)]
def z7y(hl:ns.aO=ws.aO)(hp:zs.Zk (ns.wt ws))(hu:ve zs):n5 ns ws=ai (zs.a7 (·.2)):=by
 unfold n5;have h:ns.aO=ws.aO/\∃zs:aj (fv×W),zs.Zk (ns.wt ws)/\ve zs:=⟨hl,zs,hp,hu⟩;rw[Ō h];let⟨c1,c2⟩:=h.2.Õ;rw[Lw c2 hu (c1.lb hp.symm)]
def z11(h:n5 ns ws=ai us):ns.aO=ws.aO/\∃zs:aj (fv×W),zs.Zk (ns.wt ws)/\ve zs/\us=zs.a7 (·.2):=by
 unfold n5 at h;split at h
 all_goals grind
def z7z{y:fv}(h:x.Yj.vr=y.Yj.vr):x=y:=by
 cases x;simp_all
def VJ{zs ys:aj (fv×W)}(h:zs.Y7 λa b=>¬b.1.Yj.vr<a.1.Yj.vr)(hp:zs.Zk ys)(hy:ve ys):ve zs:=by
 have zde:(ys.a7 (·.1)).yr:=by
  refine w3t.uY (hy.uX λ{a b} h e=>?_)
  rw[e]at h;exact aj.lt_irrefl _ h
 have nz:(zs.a7 (·.1)).yr:=(hp.a7 _).nodup_iff.uY zde;have nz:=w3t.mp nz;refine(h.and nz).uX λ{a b} h=>?_
 by_cases l:a.1.Yj.vr<b.1.Yj.vr
 .exact l
 .exact(h.2 (z7z (aj.le_antisymm (aj.ď.mp h.1) (aj.ď.mp l)))).nU
def uW(F:aj W->FR):W->fy (aj W)
 |.dS ws=>if ws.aO<64 then(iX F ws).qK λns=>n5 ns ws else none
 |_=>none
def jG(F:aj W->FR)(d:j' W):j' (aj W):=λe=>(d e).qK λw e1=>bx (uW F w) e1
theorem z70:jG F d e=(d e).qK λw e1=>bx (uW F w) e1:=rfl
def Ms(K:Fg)(G:Hp)(a:fv×W)(b:fv×V):Prop:=a.1=b.1/\pW K G a.2 b.2
theorem sq:∀{ns:aj fv}{ws:aj W}{xs:aj V},aq K G ws xs->dD (Ms K G) (ns.wt ws) (ns.wt xs)
 |[],_,_,_=>trivial
 |n::ns,[],xs,h=>by cases(show xs=[]from h);exact trivial
 |n::ns,w::ws,_,h=>by
  let⟨x,xs,rfl,h1,h2⟩:=h;exact⟨⟨rfl,h1⟩,sq h2⟩
theorem o7:∀{ws:aj W}{xs:aj V},dD (pW K G) ws xs->aq K G ws xs
 |[],[],_=>rfl
 |w::ws,x::xs,h=>⟨x,xs,rfl,h.1,o7 h.2⟩
def CF{G:Hp}{zw:aj (fv×W)}{zs:aj (fv×V)}(r:dD (Ms K G) zw zs)(h:wH zs):zw.Y7 λa b=>¬b.1.Yj.vr<a.1.Yj.vr:=by
 refine w3b.uY λi j hi hj sY=>?_
 let⟨b1,e1,r1,_⟩:=r.A' i zw[i] (w0b hi);let⟨b2,e2,r2,_⟩:=r.A' j zw[j] (w0b hj);let⟨qf,rfl⟩:=w0c.mp e1;let⟨WS,rfl⟩:=w0c.mp e2;rw[r1,r2];exact w3b.mp h i j qf WS sY
theorem Qg{F:aj W->FR}{G1 H1:Hp}{l ks:f'}{o:qH}{Kk:aj fv->Hp->Prop}(pG:l≠ks)(n2:H1 ks=none)(rM:aj fv)
  (hK:∀Gc Hc,aN G1 H1 Gc Hc->Gc l=none->Gc ks=none->Hc l=ai (.cB o (.dS []))->Hc ks=ai (.dS (rM.a7 V.str))->Kk rM Hc):
  ∀(ws:aj W)(xs:aj V)(zj ns:aj fv)(Gc Hc:Hp),aq K Gc ws xs->iX F ws=ai ns->zj++ns=rM->aN G1 H1 Gc Hc->Gc l=none->Gc ks=none->Hc l=ai (.cB o (.dS []))->Hc ks=ai (.dS (zj.a7 V.str)) ->
   mz (n0 K F) l o ks Kk xs zj Hc
 |[],xs,zj,ns,Gc,Hc,r,hk,ha,g,g1,g2,h1,h2=>by
  cases(show xs=[]from r);cases hk;rw[w1q]at ha;subst ha;exact hK Gc Hc g g1 g2 h1 h2
 |w::ws,xs,zj,ns,Gc,Hc,r,hk,ha,g,g1,g2,h1,h2=>by
  let⟨x,xs,rfl,r1,r2⟩:=r
  obtain⟨n,tF,hn,lj,rfl⟩:∃n tF,o8 (F [w])=ai n/\iX F ws=ai tF/\ns=n::tF:=by
   grind [iX]
  have hn:F [w]=.ok (.fr (.str n)):=by
   unfold o8 at hn
   grind
  refine⟨Gc,[w],g.pA,⟨x,[],rfl,r1,rfl⟩,?_⟩;rw[hn];intro G' H' v g' sl;let⟨v',e',rp⟩:=sl;cases e';cases(show v=V.str n from rp);have e1:=g'.hh _ _ h1;have e2:=g'.hh _ _ h2;have k1:G' l=none:=by rw[g'.xM l (by grind)];exact g1
  have k2:G' ks=none:=by rw[g'.xM ks (by grind)];exact g2
  refine⟨n,rfl,e1,e2,Qg pG n2 rM hK ws xs (zj++[n]) tF G' _ (aq.mV g'.gg ws r2) lj (by grind) ((g.lb g').Zc n2 k2) k1 k2 (by grind [aR]) bQ⟩
section
variable{e:oP}{d:j' W}{np kp:vd}{k:aT}{ps:aj fv}{F:aj W->FR}
def z71(C:sN X.jf X.w X.K X.mg X.kT k x ps (n0 X.K F))(hr:bA (k+2) X.A)(hm:X.mg "sorted"=none)(he:DE Z X EE e d)(GJ:gu (Gl X x) jJ)(hg:gu (Gl X "sorted") jJ)
  (ko:gu (oj [e] X.dt=[(false,eval e X.dt)]) jJ)(GB:gu ((x==("__debug__":fv))=false) jK):
  DF Z X EE (.wu (.mU "sorted" p) [e] [⟨ai "key", .mU x np,kp⟩] ia) (jG F d):=by
 let⟨fa,fd,FF,m,kpp,bd⟩:=C.ex;refine PE.mV (z1x FF hr bd m GJ hg hm he ko GB) ?_;rintro σ H Q ⟨G,en,mT,h⟩;simp only[jG,R.au,a8]at h;refine⟨G,en,mT,h.uX (λw e1 h G1 v1 H1 r1 s1 p1=>?_) λ_ _ h=>h⟩
 let⟨uZ,hf,h⟩:=h;cases w with
 |dS ws=>
  simp only[uW]at hf;split at hf
  .rename_i Gk;let⟨ns,m8,hf⟩:=w1p.mp hf;let⟨hl,ys,py,uy,rfl⟩:=z11 hf;let⟨pa,xs,rfl,q,rr⟩:=p1;have hxl:xs.aO=ws.aO:=rr.aO;refine⟨pa,xs,rfl,r1.pA.ot q,by omega,λlA A4 o ks A3=>?_⟩
   rw[E4]at A3 |-
   have pG:lA≠ks:=λz=>by subst z;rw[bQ]at A3;cases A3
   have y_:H1 ks=none:=by rw[aR (Ne.symm pG)]at A3;exact A3
   have gl:G1 lA=none:=r1.pA.rk A4;have gk:G1 ks=none:=r1.pA.rk y_;refine Qg (G1:=G1) (H1:=H1) pG y_ ns (λGc Hc g c1 c2 c3 c4 zs pz zd'=>?_) ws xs [] ns G1 _ rr m8 rfl (((aN.tT r1.pA).Zc A4 gl).Zc y_ gk) gl gk (by rw[aR pG];exact bQ) bQ
   let⟨zw,pw,rz⟩:=dD.perm pz (sq (K:=X.K) (G:=Gc) (ns:=ns) (aq.mV g.gg ws rr));have zd_:=VJ (CF rz zd') (pw.lb py.symm) uy;cases Lw zd_ uy (pw.lb py.symm);have zcF:=(g.Zc (o:=.dS []) y_ c2).Zc (o:=.dS (zs.a7 (·.2))) A4 c1;exact h Gc lA _ _ (r1.yJ zcF) (s1.lb g.gg) bQ c1 (qo r1 A4) (zH r1 A4) (o7 (dD.a7 (λ_ _ h=>h.2) rz))
  .cases hf
 |_=>cases hf
end
def AA{P:wW}{w:uG}{mg:fv->fy eT}{kT:g6}{k:aT}{st:Dn}{ps:aj fv}{F:aj W->FR}(A:At K mg x st ps)(hF:∀ws,F ws=.no:=by intro _;rfl):sN P w K mg kT k x ps (n0 K F):=by
 let⟨f,fd,F0,m,b⟩:=A.ex;exact⟨f,fd,⟨λvs H Q E h=>(S7 hF h).nU,λA qp s H args us vs Q E _ _ _ _ h=>(S7 hF h).nU⟩,m,F0.kp,b⟩
end D
namespace L2
open PySem PySem.Spec PyProof.Rows
def y7m{l:lU.W._Y}{K:Í->Fg}{CX:uG->m_}{sp:uG->Sp}{yq:aj (f'×fv)}
  (hn:l.À=ai n)(s_:n<=u0)(ue:d.ua.ϰ=[])(hr:bA k ZM)
  (hY:∀(w:uG)(h:g6),YP w h->(K w.ua).In h)
  (F:∀(w:uG)(mg:fv->fy eT)(fa:f')(h:g6),(K w.ua).In h->h.Ns Yd mg->mg d.name=ai (.dI fa) ->
   ∃fd:Zo,(∀(s:oi)(u:eT),_C s fd ⟨[u],[]⟩ [(x,u)]) /\
    ∀kT:g6,(K w.ua).In kT->kT.Ns Yd mg->_l kT mg->eN l.jf w (K w.ua) mg kT (CX w) k fa fd [x] (sp w))
  (tj:∀(w:uG)(H:Hp)(a:f')(ns:aj dr),ns.aO<=n->(∀i∈ns,uu.dr.Ϸ i<=1048576)->bI (K w.ua) H a (ns.a7 V.a6)->sp w [.dI a] H (λv _=>v=.bl true) λ_ _ _=>uH)
  (xl:∀(w:uG)(H:Hp)(s:oi)(e:eT)(s':oi),CX w [] H s (λ_ _ _=>uH) e s'->uH)
  (hM:∀(w:uG) a q P,(a,ip P q)∈K w.ua->yq.hW P=ai q)(hT:∀(w:uG)(h:g6),YP w h->∀P q,yq.hW P=ai q->h.iT P=ai (ϡ #[])/\ċ h P)(Gm:∀(w:uG) P q,yq.hW P=ai q->(K w.ua).hW P=none):
  lU.W.Ð q _O XP YP l.oL.ψ d [] (λf vs=>lU.yG f vs):=by
 refine zZ.zcS hn ue λw ax aH mg mb fa o pm cd Yn a vs ns G Y ho hd eK hmg nN ς wR AS hg=>?_
 have KX:=hY w _ Y;let⟨fd,hb,hF⟩:=F w mg fa _ KX G.T.g hmg;exact y7b KX G.T.g G.T.b G.T.Ϭ G.T.á hg nN ς (w0q wR s_) hr hF hb (λH hS=>tj w H a ns wR AS hS) (λH e s'=>xl w H aH e s') G.T.bmain (hM w) (hT w _ Y) (Gm w)
end L2
namespace D
open PySem L2
variable{K:Fg}
section
variable{X:Cx}{Z:Zt}{EE:L2.St->XK}{yO xA a b:oP}{yK:aj oP}{gs sc:zb}{ia pt:vd}{x:fv}{Nf N:aj fv}{js:aj aT}{di:j' W}{dA:j' (aj W)}{c:j' ie}{d:j' W}
def y7n{x0:fv}(S:ji x0 gs){p1 p2:vd}(hc:X.NI=true)(hm:X.mg "range"=none)(ha:DA Z X EE [a] dA)(ok:f7 sc gs N Nf js=true)
  (ht:∀Z' cl C ax aE ex,sO Z' (X.cp ([x]++Nf) gs cl C ax aE ex) (λ_=>E0) yK c)(he:∀Z' cl C ax aE ex,DE Z' (X.cp ([x]++Nf) gs cl C ax aE ex) (λ_=>E0) yO d)
  (hg:∀cl C ax aE ex,PG (X.cp ([x]++Nf) gs cl C ax aE ex) (.mU x pt) (bJ 0))
  (AZ:gu (Gl X "range") jJ)(oK:gu (oj [a] X.dt=[(false,eval a X.dt)]) jJ)(hsc:gu (X.dt.gs=sc) jJ)(hN:gu (X.N=N) jJ)(hs:∀x,Zv (.wu (.mU "range" p1) [a] [] p2) X.dt x=uV x:=by intro _;rfl):
  DF Z X EE (.YN yO [⟨.mU x pt,.wu (.mU "range" p1) [a] [] p2,yK,0⟩] gs ia) (bU cO js dA c d):=by
 exact PE.mV (P5 (Nl:=[x]) (tc:=cT X.K c) (te:=cE X.K d) hc (EH AZ hm ha oK) (.mW ⟨_,S⟩) ok hg (yk ht) (zY he) hsc hN hs) JN
end
end D
namespace L2
open PySem PySem.Spec PyProof.Rows
def z12(hl:PA X es tl):PA X es (λσ H Q=>tl σ H λvs H1=>∃a o xs,H1 a=ai (.cB o (.dS xs))/\(∀o v,X.aE a≠ai (.cB o v))/\Q vs (ny H1 a (.dS xs))):=by
 intro p d0 s σ H Q I h;refine bC (hl p d0 s σ H _ I h) λv s1 ⟨x,H1,I1,r1,q1⟩=>?_
 let⟨a,o,xs,e,hf,q⟩:=q1;exact⟨x,_,I1.vK e hf,r1,q⟩
end L2
namespace D
open PySem L2 PySem.Spec PyProof.Rows
open PyProof.Rows (envOfC)
open PySem L2
section
variable{K:Fg}{Z:Zt}{G H:Hp}
mutual
theorem y7o:∀(w:W){v:V},eW w=true->Rep K G w v->eB K Z G H w v []
 |.aC,_,_,h=>⟨h,rfl⟩
 |.bl _,_,_,h=>⟨h,rfl⟩
 |.int _,_,_,h=>⟨h,rfl⟩
 |.str _,_,_,h=>⟨h,rfl⟩
 |.tup ws,_,f,⟨a,xs,e,q,r⟩=>⟨a,xs,e,q,BW ws f r⟩
 |.lst _,_,f,_=>nomatch f
 |.exc _,_,f,_=>nomatch f
 |.aZ _,_,f,_=>nomatch f
 |.dw _ _ _ _,_,f,_=>nomatch f
 |.fn _ _ _,_,f,_=>nomatch f
theorem BW:∀(ws:List W){vs:List V},bV ws=true->aq K G ws vs->aU K Z G H ws vs []
 |[],_,_,h=>⟨h,rfl⟩
 |w::ws,_,f,⟨x,r,e,p,q⟩=>by
  have f:(eW w&&bV ws)=true:=f;rw[w0l]at f;exact⟨x,r,[],[],e,rfl,y7o w f.1 p,BW ws f.2 q⟩
end
theorem aU.Xy:∀{ws ws':aj W}{xs xs':aj V}{as as':aj f'},aU K Z G H ws xs as->aU K Z G H ws' xs' as'->aU K Z G H (ws++ws') (xs++xs') (as++as')
 |[],_,_,_,_,_,h,h'=>by let⟨rfl,rfl⟩:=h;exact h'
 |w::ws,_,_,_,_,_,⟨x,r,b,c,e,e2,p,q⟩,h'=>by
  subst e;subst e2;exact⟨x,_,b,_,rfl,by rw[w2y],p,aU.Xy q h'⟩
theorem e9.yJ(g:aN G H G' H')(h:e9 Z G H l o ys):e9 Z G' H' l o ys:=⟨g.hh _ _ h.1,by rw[g.xM l (by rw[h.1];exact λz=>nomatch z)];exact h.2.1,h.2.2⟩
def _I(K:Fg)(H:Hp):aj (ie×aT)->V->f'->Prop
 |[],v,l=>v=.dI l
 |(true,k)::p,v,l=>jv v (cH K H) λ_ xs=>∃x,xs[k]?=ai x/\_I K H p x l
 |(false,k)::p,v,l=>jv v (bI K H) λ_ xs=>∃x,xs[k]?=ai x/\_I K H p x l
theorem _I.Z8:∀{p:aj (ie×aT)}{v:V},_I K H (p++[(t,k)]) v l->∃l' xs,_I K H p v l'/\(if t=true then cH K H l' xs else bI K H l' xs)/\xs[k]?=ai (.dI l)
 |[],v,h=>by
  cases t with
  |true=>let⟨a,xs,rfl,q,x,h1,h2⟩:=h;cases h2;exact⟨a,xs,rfl,q,h1⟩
  |false=>let⟨a,xs,rfl,q,x,h1,h2⟩:=h;cases h2;exact⟨a,xs,rfl,q,h1⟩
 |(true,j)::p,v,h=>by
  let⟨a,xs,rfl,q,x,h1,h2⟩:=h;let⟨l',ys,k1,k2,k3⟩:=_I.Z8 h2;exact⟨l',ys,⟨a,xs,rfl,q,x,h1,k1⟩,k2,k3⟩
 |(false,j)::p,v,h=>by
  let⟨a,xs,rfl,q,x,h1,h2⟩:=h;let⟨l',ys,k1,k2,k3⟩:=_I.Z8 h2;exact⟨l',ys,⟨a,xs,rfl,q,x,h1,k1⟩,k2,k3⟩
end
section
variable{X:Cx}{Z:Zt}{EE:L2.St->XK}{ex e:oP}{x y z f:fv}{ia p gY:vd}
def pV(K:Fg)(i:aT)(p:aj (ie×aT)):TE:=λσ H Q=>∃v l,σ[i]?=ai (ai v)/\_I K H p v l/\Q (.dI l) H
theorem VL(i:aT)(hN:gu (X.N[i]?=ai x) jJ)(hv:gu (kg X.dt.gs x) jN)(hd:gu ((x==("__debug__":fv))=false) jK)(eK:gu ((x==("__classdict__":fv))=false) jK):PE X (.mU x ia) (pV X.K i []):=
 PE.mV (pv i hN hv hd eK) λσ H Q ⟨v,l,h1,h2,h3⟩=>by cases h2;exact⟨_,h1,h3⟩
theorem HW(k:aT){i:aT}{q:aj (ie×aT)}{kk kp}(h:PE X e (pV X.K i q))(hs:fY (.YS (.a6 (k:dr)) kk kp):=by intro _ _;rfl):PE X (.Yl e (.YS (.a6 (k:dr)) kk kp) gY) (pV X.K i (q++[(false,k)])):=
 PE.mV (C7 oQ h Ft hs) λσ H Q ⟨v,l,h1,h2,h3⟩=>by
  let⟨l',xs,g1,g2,g3⟩:=h2.Z8;rw[sF (λz=>nomatch z)]at g2
  exact⟨v,l',h1,g1,l',xs,_,.dI l,rfl,rfl,g2,oW g3,h3⟩
theorem HX(k:aT){i:aT}{q:aj (ie×aT)}{kk kp}(h:PE X e (pV X.K i q))(hs:fY (.YS (.a6 (k:dr)) kk kp):=by intro _ _;rfl):PE X (.Yl e (.YS (.a6 (k:dr)) kk kp) gY) (pV X.K i (q++[(true,k)])):=
 PE.mV (C7 rA h Ft hs) λσ H Q ⟨v,l,h1,h2,h3⟩=>by
  let⟨l',xs,g1,g2,g3⟩:=h2.Z8;rw[mS rfl]at g2;exact⟨v,l',h1,g1,l',xs,_,.dI l,rfl,rfl,g2,oW g3,h3⟩
end
theorem z72:gG (.x (.fz w))=.fr w:=rfl
variable{X:Cx}{dA:j' (aj W)}{EE:L2.St->XK}{es:aj oP}{js:aj aT}{ws:aj W}{i:aT}{p ia:vd}{K:Fg}{f x:fv}{w:W}{Z:Zt}
def o6(ws:aj W)(e:aj S):fy S->SR
 |ai (.fr w)=>.rt (.gP [] ws [w]) e
 |_=>.no
def jF(dF:j' (aj W))(j:aT):aj S->SR:=λe=>(dF e).cR λws e1=>o6 ws e1 e1[j]?
section
variable{c e:oP}{dF:j' (aj W)}{y:fv}{gp gY yp:vd}
def z13(j:aT){x1}(GO:Z.io=[])(hc:DF Z X EE c dF)(Gp:gu (X.N[j]?=ai y) jJ)(Xj:gu (kg X.dt.gs y) jN)(WG:gu ((y==("__debug__":fv))=false) jK)(Gu:gu ((y==("__classdict__":fv))=false) jK)
  (h1:gu (oj [c,.mU y yp] X.dt=(false,eval c X.dt)::oj [.mU y yp] X.dt) jJ)(h2:gu (oj [.mU y yp] X.dt=(false,eval (.mU y yp) X.dt)::oj [] X.dt) jJ):
  DS Z X EE (.ϓ (ai (.Yi [c,.mU y yp] x1 gp)) ia) (jF dF j):=by
 refine PS.mV (Cj (SD (tH (RV hc) (tH (pv j Gp Xj WG Gu) ye h2) h1))) ?_;rintro D σ H ⟨G,e,mT,h⟩;refine⟨G,e,mT,(ki h).uX (λws e1 h G1 l xs H1 r1 s1 q1 q2 q3 q4 p1=>?_) λ_ _ h=>h⟩
 unfold o6 at h;split at h
 .rename_i w hw;let⟨u,w1,w2⟩:=r1.fr hw;refine⟨l,xs,rfl,q1,λo=>⟨u,w1,by rw[FY];show 2<=16777216;decide,λt ht=>?_⟩⟩
  have r4:=r1.ir (o:=.cB o (.dS xs)) q2 q3 (by rw[GO];exact λz=>nomatch z) q4 q1
  have DL:l≠t:=λz=>by subst z;rw[bQ]at ht;cases ht
  have g:=aN.Mk r4.pA ht (.gw [.dI l,u]);refine h _ σ (.dI t) _ (r4.yJ g) (s1.lb g.gg) ⟨t,l,o,[],xs,[u],rfl,bQ,?_,?_,q3,rfl,aq.mV g.gg ws p1,⟨u,[],rfl,pW.mV g.gg w w2,rfl⟩⟩
  .rw[aR DL,bQ]
  .rw[aR DL];exact q2
 .exact h.nU
theorem z14{j:aT}{e:aj S}:jF dF j e=(dF e).cR λws e1=>o6 ws e1 e1[j]?:=rfl
theorem z15{e:aj S}:o6 ws e (ai (.fr w))=.rt (.gP [] ws [w]) e:=rfl
end
def nG:FR->fy W
 |.ok (.gP us ws vs)=>if(bV us=true/\bV ws=true)/\bV vs=true then ai (.gw (us++.dS ws::vs))else none
 |_=>none
def gQ(F:aj W->FR):aj W->fy (aj W)
 |[]=>ai []
 |w::ws=>(nG (F [w])).qK λy=>(gQ F ws).a7 (y::·)
def j4(js:aj aT)(F:aj W->FR)(e1:aj S)(ws:aj W):SR:=
 if ws.aO<=16777216 then match gQ F ws with
  |ai uZ=>.rt (.x (.fz (.dS uZ))) (aY js e1)
  |none=>.no
 else .no
def lN(js:aj aT)(F:aj W->FR)(e1:aj S):fy (aj W)->SR
 |ai ws=>j4 js F e1 ws
 |none=>.no
def h9(js:aj aT)(di:j' W)(F:aj W->FR):aj S->SR:=λe=>(di e).cR λw e1=>lN js F e1 (eG w)
def Dq(K:Fg)(F:aj W->FR):TE:=λσ H Q=>∃v,σ[0]?=ai (ai v)/\n0 K F [v] H Q E0
def U'{Z0:Zt}(hz:∀a,Z0.H a=none->Z.H a=none)(h:nG (.ok (.gP us ws vs))=ai y)(q:qD K Z0 G H us ws vs (ai v)):∃l,eB K Z G H y v [l]/\Z0.H l=none:=by
 have h:(if(bV us=true/\bV ws=true)/\bV vs=true then ai (W.gw (us++.dS ws::vs))else none)=ai y:=h;split at h
 .rename_i hc;injection h with h
  subst h;let⟨t,l,o,xs,ys,zs,h1,h2,h3,h4,h5,h6,h7,h8⟩:=q;cases h1;refine⟨l,⟨t,_,rfl,cH.of h2,?_⟩,h5⟩;exact aU.Xy (BW us hc.1.1 h6) (ws':=.dS ws::vs) (as':=[l]) ⟨.dI l,zs,[l],[],rfl,rfl,⟨l,ys,rfl,⟨o,h3,h4,hz _ h5⟩,[],rfl,BW ws hc.1.2 h7⟩,BW vs hc.2 h8⟩
 .cases h
def T9{J:It}{xs:aj V}{SQ:Hp->Prop}{uZ:aj W}{F:aj W->FR}{Q:VK}{G0:Hp}(W0:ϔ J xs SQ)(r1:ph K Z G1 σ H1 e1)(s1:ar G0 G1)(rp:aq K G1 ws xs)(pF:∀G' H',ar G1 G'->ar G' H'->SQ H')(hl:ws.aO<=16777216)
  (hz:∀p,H1 p=none->p∉Z.io)(hc:gQ F ws=ai uZ)
  (h:∀G' a ys as H',ph K Z G' σ H' e1->ar G0 G'->H' a=ai (.dS ys)->G' a=none->Z.H a=none->iH σ e1 a->as.yr->aU K Z G' H' uZ ys as->Q (.dI a) H'):
  ∀D,H1 D=none->∃W:aT->aT->Hp->Prop,(∃m,W 0 m (ny H1 D (.dS [])))/\∀i m H2,W i m H2 ->
   (J.stop i H2/\Q (.dI D) H2)\/(J.go i H2/\∀x H3,J.kQ i H2 x H3->bJ 0 x (aj.w4 1 none++pj js σ) H3 λou H4=>Kp (aj.w4 1 none++pj js σ) ou/\cT K bB ou H4 λb H5=>
    if b=true then Dq K F ou H5 λy H6=>∃ys,H6 D=ai (.dS ys)/\ys.aO<u0/\∃m',m'<m/\W (i+1) m' (ny H6 D (.dS (ys++[y])))else ∃m',m'<m/\W (i+1) m' H5):=by
 intro D hD;have wR:=rp.aO
 refine⟨λi m H2=>m=ws.aO-i/\i<=ws.aO/\∃G2 ys as done wV,ph K Z G2 σ H2 e1/\ar G1 G2/\H2 D=ai (.dS ys)/\G2 D=none/\as.yr/\aU K Z G2 H2 done ys as/\ys.aO=i/\gQ F (ws.zd i)=ai wV/\done++wV=uZ,
  ⟨ws.aO,by omega,w1c _,G1,[],[],[],uZ,r1.yJ (aN.nL r1.pA hD _),.tT _,bQ,r1.pA.rk hD,.ro,⟨rfl,rfl⟩,rfl,hc,rfl⟩,?_⟩
 rintro i m H2 ⟨rfl,hi,G2,ys,as,done,wV,r2,s2,YK,oI,DJ,kF,WW,cQ,ho⟩;have bX:iH σ e1 D:=zH r1 hD;have vD:Z.H D=none:=qo r1 hD
 by_cases b8:i<ws.aO
 .refine .mW ⟨W0.go i H2 (pF G2 H2 s2 r2.pA) (by omega),λx H3 hy=>?_⟩
  let⟨rfl,hx⟩:=W0.kQ i H2 x H3 (pF G2 H2 s2 r2.pA) hy (by omega);let⟨w,hw,pw⟩:=rp.iM hx;rw[JV hw]at cQ;refine⟨Kp.YH,⟨H3,G2,[]⟩,G2,.fr w::gf js e1,r2.block js (pW.mV s2 w pw),?_⟩;intro G3 H5 r3 s3;rw[mS rfl];have g3:=r3.fU s3;have zS:=r2.yJ g3;refine⟨x,rfl,G3,[w],r3.pA,.YH (pW.mV s3 w (pW.mV s2 w pw)),?_⟩;let⟨y,tu,Xl⟩:=w1p.mp (show(nG (F [w])).qK _=ai wV from cQ);let⟨mL,hr,rfl⟩:=w0i.mp Xl;cases q:F [w]with
  |no=>rw[q]at tu;cases tu
  |ex c=>rw[q]at tu;cases tu
  |ok s=>
   cases s with
   |gP us ws' vs=>
    intro G' H' v g sl;rw[q]at tu;let⟨l,k1,k2⟩:=U' (Z:=Z) (λa z=>qo zS z) tu sl
    have k2:H5 l=none:=k2;have xo:H5 D=ai (.dS ys):=g3.hh _ _ YK;have WM:G3 D=none:=by rw[g3.xM D (by rw[YK];simp)];exact oI
    have sX:H' D=ai (.dS ys):=g.hh _ _ xo;have vx:G' D=none:=by rw[g.xM D (by rw[xo];simp)];exact WM
    have hDl:D≠l:=λz=>by subst z;rw[k2]at xo;cases xo
    have r7:=(zS.yJ g).ir (o:=.dS (ys++[v])) vx vD (hz D hD) bX sX;have mv:∀c oc yc,e9 Z G' H' c oc yc->e9 Z G' (ny H' D (.dS (ys++[v]))) c oc yc:=λc oc yc z=>⟨by rw[aR (λz'=>by subst z';rw[z.1]at sX;cases sX)];exact z.1,z.2.1,z.2.2⟩
    have nl:l∉as:=λm=>by
     let⟨_,_,z⟩:=aU.xj done kF m;have:=g3.hh _ _ z.1;rw[k2]at this;cases this
    refine⟨ys,sX,by rw[FY];omega,ws.aO-(i+1),by omega,rfl,b8,G',ys++[v],as++[l],done++[y],mL,r7,s2.lb (s3.lb g.gg),bQ,vx,?_,?_,by simp[WW],hr,by rw[w2y];exact ho⟩
    .rw[aj.nodup_append];refine⟨DJ,by simp,λc hc d hd=>?_⟩
     rw[w1h.mp hd];exact λz=>nl (z ▸ hc)
    .refine aU.Xy (aU.Xu (.tT _) done (λc oc yc _ z=>mv c oc yc z) (aU.Xu (s3.lb g.gg) done (λc oc yc _ z=>((e9.yJ g (e9.yJ g3 z)))) kF)) ⟨v,[],[l],[],rfl,rfl,eB.Xu (.tT _) y (λc oc yc _ z=>mv c oc yc z) k1,rfl,rfl⟩
   |_=>rw[q]at tu;cases tu
 .have:i=ws.aO:=by omega
  subst this;rw[w2p]at cQ;cases cQ;rw[w1q]at ho;subst ho;exact .j9 ⟨W0.stop _ H2 (pF G2 H2 s2 r2.pA) (by omega),h G2 D ys as H2 r2 (s1.lb s2) YK oI vD bX DJ kF⟩
section
variable{yO xA ex e:oP}{gs sc:zb}{pt d6 aX np yp:vd}{Nf N:aj fv}{di:j' W}
def y7p{F:aj W->FR}(GO:Z.io=[])(hc:X.NI=true)(hi:DE Z X EE xA di)(ok:b9 sc gs N Nf js=true)
  (he:∀cl C ax aE ex,PE (X.cp ([x]++Nf) gs cl C ax aE ex) yO (Dq X.K F))
  (hg:∀cl C ax aE ex,PG (X.cp ([x]++Nf) gs cl C ax aE ex) (.mU x pt) (bJ 0))
  (hsc:gu (X.dt.gs=sc) jJ)(hN:gu (X.N=N) jJ)(hs:∀x,Zv xA X.dt x=uV x:=by intro _;rfl):
  DS Z X EE (.ϓ (ai (.YN yO [⟨.mU x pt,xA,[],0⟩] gs d6)) ia) (h9 js di F):=by
 refine PS.mV (Cj (RV (EU (Nl:=[x]) (tc:=cT X.K bB) (te:=Dq X.K F) hc (Cn hi) ok hg (yk λ_ _ _ _ _ _=>y1c) he hsc hN hs))) ?_
 rintro D σ H ⟨G,e,mT,h⟩;refine⟨G,e,mT,(ki h).uX (λw e1 h G1 v1 H1 r1 s1 p1=>?_) λ_ _ h=>h⟩
 unfold lN at h;split at h
 .rename_i ws hw;unfold j4 at h;split at h
  .rename_i hl;split at h
   .rename_i uZ ho;let⟨G2,s2,r2⟩:=r1.aY js;have p2:=pW.mV s2 w p1;have io:=lu r2
    have xg:∀G' a ys as H',ph X.K Z G' σ H' (aY js e1)->ar G G'->H' a=ai (.dS ys)->G' a=none->Z.H a=none->iH σ (aY js e1) a->as.yr->aU X.K Z G' H' uZ ys as->∃b xs,V.dI a=V.dI b/\H' b=ai (.dS xs)/\∀o,D.rt (.dI a) (ny H' b (.cB o (.dS xs))):=λG' a ys as H' r s q1 q2 q3 q4 hn kF=>by
     refine⟨a,ys,rfl,q1,λo=>?_⟩
     have r4:=r.ir (o:=.cB o (.dS ys)) q2 q3 (by rw[GO];exact λz=>nomatch z) q4 q1
     refine h G' σ (.dI a) _ r4 s ⟨.dI a,a::as,rfl,w1m.uY ⟨λm=>?_,hn⟩,⟨a,ys,rfl,⟨o,bQ,q2,q3⟩,as,rfl,?_⟩⟩
     .let⟨_,_,z⟩:=aU.xj uZ kF m;rw[z.1]at q1;cases q1
     .exact aU.Xu (.tT _) uZ (λc oc yc _ z=>⟨by rw[aR (λz'=>by subst z';rw[z.1]at q1;cases q1)];exact z.1,z.2.1,z.2.2⟩) kF
    cases w with
    |gw us=>
     cases hw;let⟨a,xs,rfl,hq,rp⟩:=p2;exact⟨a,rfl,.mW ⟨⟨xs,r2.pA.gw hq⟩,T9 (Q:=λv H1=>∃a xs,v=V.dI a/\H1 a=ai (.dS xs)/\∀o,D.rt v (ny H1 a (.cB o (.dS xs)))) LZ r2 (s1.lb s2) rp (λG' H' s s'=>ar.gw s' (ar.gw s hq)) hl io ho xg⟩⟩
    |dS us=>
     cases hw;let⟨a,xs,rfl,hq,rp⟩:=p2;exact⟨a,rfl,.j9 ⟨⟨xs,r2.pA.ot hq⟩,T9 (Q:=λv H1=>∃a xs,v=V.dI a/\H1 a=ai (.dS xs)/\∀o,D.rt v (ny H1 a (.cB o (.dS xs)))) LY r2 (s1.lb s2) rp (λG' H' s s'=>ar.ot s' (ar.ot s hq)) hl io ho xg⟩⟩
    |_=>cases hw
   .exact h.nU
  .exact h.nU
 .exact h.nU
theorem Q3n{F:aj W->FR}{y:fv}{k:aT}{ps:aj fv}(hC:sN X.jf X.w X.K X.mg X.kT k f ps (n0 X.K F))(hr:bA k X.A)(hx:dP (ee X.jf X.w) X (λ_=>E0))(hN:gu (X.N[0]?=ai y) jJ)(hv:gu (kg X.dt.gs y) jN)(hd:gu ((y==("__debug__":fv))=false) jK)(eK:gu ((y==("__classdict__":fv))=false) jK)(hg:gu (Gl X f) jJ)
  (f_:gu ((f==("__debug__":fv))=false) jK)(a1:gu (oj [.mU y yp] X.dt=(false,eval (.mU y yp) X.dt)::oj [] X.dt) jJ)(b1:gu ((yC aX (oj [] X.dt)).tZ (·.1)=false) jJ):
  PE X (.wu (.mU f np) [.mU y yp] [] aX) (Dq X.K F):=
 PE.mV (LX hC hr hx (tH (pv 0 hN hv hd eK) ye a1) hg f_ a1 b1) λσ H Q ⟨v,h1,h2⟩=>⟨v,h1,h2⟩
def nZ(i:aT)(e:aj S):FR->SR
 |.ok (.x (.fz w))=>.nx (e.ri i (.x (.fz w)))
 |_=>.no
def f9(i:aT)(F:aj W->FR)(dA:j' (aj W)):aj S->SR:=λe=>(dA e).cR λws e1=>nZ i e1 (F ws)
def y7q(i:aT){k:aT}{ps:aj fv}{F:aj W->FR}(hN:X.N.yr)(C:sN X.jf X.w X.K X.mg X.kT k f ps (n0 X.K F))(hr:bA k X.A)(hx:dP (ee X.jf X.w) X EE)(ha:DA Z X EE (e::es) dA)(hg:gu (Gl X f) jJ)
  (f_:gu ((f==("__debug__":fv))=false) jK)(he:gu (oj (e::es) X.dt=(false,eval e X.dt)::oj es X.dt) jJ)(dz:gu ((yC aX (oj es X.dt)).tZ (·.1)=false) jJ)
  (hi:gu (X.N[i]?=ai x) jJ)(hl:gu (YT X.dt.gs x) jM)(hs:gu (Zb (.wu (.mU f np) (e::es) [] aX) (ai (.mU x p)) ia.X9 X.dt=uV false) jJ)(hf:gu (X.fn x=true\/X.dt.gs.p6.hW x=ai .local) jL):
  DS Z X EE (.Zi [.mU x p] (.wu (.mU f np) (e::es) [] aX) ia) (f9 i F dA):=by
 refine PS.mV (C8 i hN (LX C hr hx ha hg f_ he dz) hi hl hs hf) ?_;rintro D σ H ⟨G,e,mT,h⟩;refine⟨G,e,mT,(ki h).uX (λws e1 h G1 vs H1 r1 s1 p1=>?_) λ_ _ h=>h⟩
 refine⟨G1,ws,r1.pA,by rw[w1q];exact p1,?_⟩;cases q:F ws with
 |ok s=>
  rw[q]at h;intro G' H' v g sl;cases s with
  |x k=>
   cases k with
   |fz w=>
    have r2:=r1.yJ g;let⟨u,as,k1,k2,k3⟩:=sl;cases k1;exact h G' _ H' (r2.yx (s:=.x (.fz w)) (λ_ _ z=>nomatch z) ⟨_,as,rfl,k2,eB.Xu (.tT _) w (λl o ys _ z=>⟨z.1,z.2.1,qo r1 z.2.2⟩) k3⟩) (s1.lb g.gg)
  |_=>exact h.nU
 |ex c=>rw[q]at h;exact h.nU
 |no=>rw[q]at h;exact h.nU
def l9:W->fy W
 |.dS (.gw (.dS ws::us)::vs)=>if ws.aO<16777216 then ai (.dS (.gw (.dS (ws++[.aC])::us)::vs))else none
 |_=>none
def jy(i:aT)(e:aj S):fy S->SR
 |ai (.x (.fz w))=>match l9 w with
  |ai w'=>if(e.ri i .no).rM (λs=>!tD s)=true then .nx (e.ri i (.x (.fz w')))else .no
  |none=>.no
 |_=>.no
def gR(i:aT):aj S->SR:=λe=>jy i e e[i]?
theorem aU.uz{G H:Hp}:∀{ws:aj W}{xs:aj V}{as:aj f'},aU K Z G H ws xs as->xs.aO=ws.aO
 |[],_,_,h=>by let⟨rfl,_⟩:=h;rfl
 |w::ws,_,_,⟨x,r,b,c,e,_,_,q⟩=>by subst e;simp[aU.uz q]
def eB.F7{G H:Hp}{w':W}{v:V}{as:aj f'}(h:eB K Z G H w v as)(sg:ar G H)(e:l9 w=ai w')(nd:as.yr):
  ∃l o ys,l∈as/\e9 Z G H l o ys/\ys.aO<16777216/\_I K H [(false,0),(true,0)] v l/\∀o',eB K Z G (ny H l (.cB o' (.dS (ys++[.aC])))) w' v as:=by
 unfold l9 at e;split at e
 .rename_i ws us vs;split at e
  .rename_i wR;cases e;let⟨a,xs,rfl,⟨oa,qa⟩,bs,rfl,x,r,b,c,rfl,rfl,⟨t,ts,rfl,qt,y,r2,b1,b2,rfl,rfl,⟨l,ys,rfl,⟨o,ql⟩,b3,rfl,r3⟩,r4⟩,r5⟩:=h;let⟨na,nb⟩:=w1m.mp nd;have WA:a≠l:=λz=>na (by simp[z])
   have A8:∀d,d∈b3++(b2++c)->d≠l:=λd m z=>by
    subst z;have nb:(d::(b3++(b2++c))).yr:=by simpa using nb
    exact(w1m.mp nb).1 m
   refine⟨l,o,ys,by simp,ql,by rw[aU.uz r3];exact wR,⟨a,_,rfl,.j9 (.mW ⟨oa,qa.1⟩),_,rfl,t,_,rfl,sg.gw qt,_,rfl,rfl⟩,λo'=>?_⟩
   have mv:∀d od yd,d≠l->e9 Z G H d od yd->e9 Z G (ny H l (.cB o' (.dS (ys++[.aC])))) d od yd:=λd od yd n z=>⟨by rw[aR n];exact z.1,z.2.1,z.2.2⟩
   refine⟨a,_,rfl,⟨oa,mv _ _ _ WA qa⟩,_,rfl,_,_,_,_,rfl,rfl,⟨t,_,rfl,qt,_,_,_,_,rfl,rfl,⟨l,_,rfl,⟨o',bQ,ql.2.1,ql.2.2⟩,b3,rfl,?_⟩,?_⟩,?_⟩
   .have:=aU.Xy (aU.Xu (.tT _) ws (λd od yd m z=>mv d od yd (A8 d (by simp[m])) z) r3) (ws':=[.aC]) (xs':=[.aC]) (as':=[]) ⟨.aC,[],[],[],rfl,rfl,⟨rfl,rfl⟩,rfl,rfl⟩
    simpa using this
   .exact aU.Xu (.tT _) us (λd od yd m z=>mv d od yd (A8 d (by simp[m])) z) r4
   .exact aU.Xu (.tT _) vs (λd od yd m z=>mv d od yd (A8 d (by simp[m])) z) r5
  .cases e
 .cases e
def z16(i:aT){Ym:vd}{kk kp}(hz:Z.H=X.aE)(he:PE X ex (pV X.K i [(false,0),(true,0)]))
  (c_:gu (Α ex "append" X.dt (eval ex X.dt)=eval ex X.dt) jJ)
  (cx:gu (((yC aX (oj [.YS .none kk kp] X.dt)).rM (λx=>!x.1)&&(Β aX (Ζ [] X.dt)).rM (λx=>x.1.zi)&&decide (([.YS .none kk kp]:aj oP).aO+([]:aj Y5).aO+(if([]:aj Y5).Dl then 0 else 1)<30))=true) jJ)
  (de:gu ((Ym.Δ==aX.X9)=true) jJ)(ko:gu (oj [.YS .none kk kp] X.dt=(false,eval (.YS .none kk kp) X.dt)::oj [] X.dt) jJ)(bY:gu ((yC aX (oj [] X.dt)).tZ (·.1)=false) jJ)
  (pJ:gu (Zb (.wu (._a ex "append" Ym) [.YS .none kk kp] [] aX) none ia.X9 X.dt=uV false) jJ):
  DS Z X EE (.oP (.wu (._a ex "append" Ym) [.YS .none kk kp] [] aX) ia) (gR i):=by
 refine PS.mV (E5 (U9 (SV he (z12 (tH SJ ye ko)) c_ cx de ko bY)) pJ) ?_;rintro D σ H ⟨G,e,mT,h⟩;unfold gR jy at h;split at h
 .rename_i w M6;split at h
  .rename_i w' hw;split at h
   .rename_i hT;let⟨u,as,h1,h2,h3⟩:=mT.xP i _ M6;have Nu:=mT.at M6 λ_=>h1
    let⟨l,o,ys,g1,g2,g3,g4,g5⟩:=h3.F7 mT.pA hw h2;refine⟨u,l,Nu,g4,.j9 ⟨rfl,ys,.j9 (.mW ⟨o,g2.1⟩)⟩,l,o,ys,g2.1,λ_ _ z=>(by rw[<- hz,g2.2.2]at z;cases z),l,ys,.aC,rfl,rfl,bQ,by rw[FY];exact g3,l,ys++[.aC],bQ,λo'=>?_⟩
    rw[show ny (ny (ny H l (.dS ys)) l (.dS (ys++[.aC]))) l (.cB o' (.dS (ys++[.aC])))=ny H l (.cB o' (.dS (ys++[.aC])))from by funext c;unfold ny;split<;>rfl]
    exact h G σ _ (((mT.AE i).HL g2.1 g2.2.1 g2.2.2 (F6 hT)).refill Nu (λ_ _ z=>nomatch z) ⟨u,as,rfl,h2,g5 _⟩) (.tT _)
   .exact h.nU
  .exact h.nU
 .exact h.nU
theorem y7r{F:aj W->FR}{e:aj S}:h9 js di F e=(di e).cR λw e1=>lN js F e1 (eG w):=rfl
theorem z17{F:aj W->FR}{e:aj S}:lN js F e (ai ws)=j4 js F e ws:=rfl
def z18{F:aj W->FR}{e:aj S}{uZ:aj W}(h1:ws.aO<=16777216)(h2:gQ F ws=ai uZ):j4 js F e ws=.rt (.x (.fz (.dS uZ))) (aY js e):=by
 unfold j4;rw[mS h1,h2]
theorem y7s{F:aj W->FR}{e:aj S}:f9 i F dA e=(dA e).cR λws e1=>nZ i e1 (F ws):=rfl
theorem z19{e:aj S}:nZ i e (.ok (.x (.fz w)))=.nx (e.ri i (.x (.fz w))):=rfl
theorem z2a{e:aj S}:gR i e=jy i e e[i]?:=rfl
def z2b{e:aj S}{w':W}(h1:l9 w=ai w')(h2:(e.ri i .no).rM (λs=>!tD s)=true):jy i e (ai (.x (.fz w)))=.nx (e.ri i (.x (.fz w'))):=by
 unfold jy;simp only[h1,h2,_N]
end
end D
namespace L2
open PySem PySem.Spec PyProof.Rows
def C2(K:Fg)(c:f')(tb:(St->XK)->TS)(th:TS):TS:=λD σ H=>
 tb (λaM l_ _ H'=>Ć K l_ (.dI c)=ai true/\∀e,H' e=none->th D aM (ny H' e (nE e l_))) D σ H
def z73{X:Cx}{t6 mQ:aj Dn}{qG:Dn}{c:fv}{Cc:f'}{np _d ia:vd}{tb:(St->XK)->TS}{th:TS}
  (hg:Gl X c)(hm:X.mg c=ai (.dI Cc))
  (hb:∀(EE:L2.St->XK)(pn:aj (f'×qH))(xe:eT->oi->Prop),dP (ee X.jf X.w) (X.tr pn xe) EE->lX (X.tr pn xe) t6 (tb EE))
  (hh:∀e:f',lX (X.hn e) (qG::mQ) th)
  (hs:gu (X.N3=X.dt::X.qp) jJ)(hf:gu (X.dt.π=ai X.dt.Yr) jJ)(f_:gu ((c==("__debug__":fv))=false) jK):
  PS X (.Try t6 [.ż (ai (.mU c np)) none (qG::mQ) _d] [] [] ia) (C2 X.K Cc tb th):=by
 intro d0 s σ H D I h;refine wpAny_Try_except (YQ (hb _ (X.pn++d0) _ ?pass [] s σ H D (I.tr _) h) (λf s1 q=>?_) λ_ _ z=>z)
 case pass=>
  intro pins' aM H1 s1 ev s2 I1 Bc;let⟨e,l_,H2,B,rfl,qg,M8,un,aJ,gF,WZ,hE⟩:=Bc;have I0:j3 X d0 aM H1 s1:=I1.oq;have un:Un (fu X.N3) [] H1 H2 s1.bj s2.bj:=un;have gF:u_ X.N3 H1 H2 s1.bj s2.bj e l_ B:=gF;have lh:=gF.rk aJ;let⟨a0,fl⟩:=gF.fl;have Wh:g6.Ο B (X.dt::X.qp) e l_ a0 s2.bj:=hs ▸ fl;have Wl:X.A.Yc=ai (X.dt::X.qp):=hs ▸ I0.ok.Yc;have By:∀b∈([]:aj f'),(b∈X.ex\/X.ax.bj.g0.d3<=b)/\b≠X.dt.Yr/\(∀x c,X.dt.XB.hW x=ai c->c≠b)/\∀p∈X.pn++d0,p.1≠b:=λb z=>nomatch z
  have land:∀h5 tk,g6.Ο B (X.dt::X.qp) e l_ a0 h5->s2.bj.Î h5->j3 X d0 aM H2 {s2 with bj:=h5,rJ:=tk}:=λh5 tk Wk zaK=>by
   have AG:g6.Ο B X.N3 e l_ a0 h5:=hs.symm ▸ Wk;exact I0.oA (s':={s2 with bj:=h5,rJ:=tk}) (ch:=[]) qg (gF.un un AG zaK) (gF.aJ aJ AG) M8 By
  refine wpAny_looks_onW (kT:=B) Wl hf Wh λzft held C5=>?_
  refine wpAny_landsW held λxy qQ zeL=>?_
  have wA:s2.bj.Î xy:=C5.lb zeL;have I5:=land xy s2.rJ qQ wA;refine wpAny_handleBy_cons (codeAny_handlers_test ?_) (by intro q;cases q);refine zO (X:=X.hn e) (I5.hn e) hg hm ?_ f_;let⟨ob,zh,uj⟩:=qQ.YZ;have LT:lU.W._X (p5 X.jf X.w) xy (Ī (.dI e)) l_:=uj ▸ (lU.W._X.ld zh).Ϙ .now;refine(lU.W.exm_one (M:=p5 X.jf X.w) I5.kJ LT WZ).at ?_;show Za _ _ _ _ _;refine codeAny_handlers_suite ?_;refine lands_againW qQ λuo vq zeM=>?_
  have C6:s2.bj.Î uo:=wA.lb zeM;let⟨oe,ws,A9,G7,G8,_⟩:=vq.first
  have AH:g6.Ο B X.N3 e l_ a0 uo:=hs.symm ▸ vq
  have I7:j3 X d0 aM (ny H2 e (nE e l_)) {s2 with bj:=uo}:=
   I0.oA (s':={s2 with bj:=uo}) (ch:=[]) qg ((gF.un un AH C6).Ĥ gF.xM lh) ((gF.aJ aJ AH).Ĥ lh (z4g ⟨oe,ws,A9,G7,G8⟩)) M8 By
  refine YQ (hh e d0 _ _ _ _ (I7.hn e) (hE e lh)) (λf s9 q=>?_) λ_ _ z=>z.nU
  show _;cases f with
  |next=>let⟨ow,H9,I9,q⟩:=q;exact⟨ow,H9,I9.u3 I0.ok,q⟩
  |ZL=>let⟨ow,H9,I9,q⟩:=q;exact⟨ow,H9,I9.u3 I0.ok,q⟩
  |ZN=>let⟨ow,H9,I9,q⟩:=q;exact⟨ow,H9,I9.u3 I0.ok,q⟩
  |zW u=>let⟨v,ow,H9,I9,r,q⟩:=q;exact⟨v,ow,H9,I9.u3 I0.ok,r,q⟩
 .cases f with
  |next=>let⟨aM,H',I',q⟩:=q;exact ó ⟨aM,H',I'.oq,q⟩
  |ZL=>let⟨aM,H',I',q⟩:=q;exact⟨aM,H',I'.oq,q⟩
  |ZN=>let⟨aM,H',I',q⟩:=q;exact⟨aM,H',I'.oq,q⟩
  |zW u=>let⟨v,aM,H',I',r,q⟩:=q;exact⟨v,aM,H',I'.oq,r,q⟩
end L2
namespace D
open PySem L2 PySem.Spec PyProof.Rows
section
variable{X:Cx}{Z:Zt}{EE:L2.St->XK}
def jH(K:Fg)(c:f')(b h:aj S->SR):aj S->SR:=λe=>match b e with
 |.ex l_ e'=>if Ć K l_ (.dI c)=ai true then(match h e' with
  |.ex _ _=>.no
  |r=>r)else .no
 |r=>r
def z74{t6 mQ:aj Dn}{qG:Dn}{c:fv}{Cc:f'}{np _d ia:vd}{dB dH:aj S->SR}
  (hm:X.mg c=ai (.dI Cc))
  (hb:∀(EE:L2.St->XK)(pn:aj (f'×qH))(xe:eT->oi->Prop),dP (ee X.jf X.w) (X.tr pn xe) EE->mY Z (X.tr pn xe) EE t6 dB)
  (hh:∀e:f',mY Z (X.hn e) (λ_=>E0) (qG::mQ) dH)(hg:gu (Gl X c) jJ)
  (hs:gu (X.N3=X.dt::X.qp) jJ)(hf:gu (X.dt.π=ai X.dt.Yr) jJ)(f_:gu ((c==("__debug__":fv))=false) jK):
  DS Z X EE (.Try t6 [.ż (ai (.mU c np)) none (qG::mQ) _d] [] [] ia) (jH X.K Cc dB dH):=by
 refine PS.mV (z73 (tb:=λEE=>eu X.K Z EE dB) (th:=eu X.K Z (λ_=>E0) dH) hg hm hb hh hs hf f_) ?_
 rintro D σ H ⟨G,e,mT,h⟩;refine⟨G,e,mT,?_⟩;unfold jH at h;cases q:dB e with
 |nx e'=>rw[q]at h;exact h
 |bk e'=>rw[q]at h;exact h
 |ct e'=>rw[q]at h;exact h
 |rt w e'=>rw[q]at h;exact h
 |no=>rw[q]at h;exact h
 |ex l_ e'=>
  rw[q]at h;intro G1 tN H1 r1 s1;dsimp only at h;split at h
  .rename_i hq;refine⟨hq,λex hex=>?_⟩
   have g:=aN.Mk r1.pA hex (nE ex l_);refine⟨_,e',r1.yJ g,?_⟩;have sg:=s1.lb g.gg;cases q2:dH e' with
   |nx e2=>rw[q2]at h;exact λG2 jq H2 r2 s2=>h G2 _ H2 r2 (sg.lb s2)
   |bk e2=>rw[q2]at h;exact λG2 jq H2 r2 s2=>h G2 _ H2 r2 (sg.lb s2)
   |ct e2=>rw[q2]at h;exact λG2 jq H2 r2 s2=>h G2 _ H2 r2 (sg.lb s2)
   |rt w e2=>rw[q2]at h;exact λG2 jq v H2 r2 s2 p2=>h G2 jq v H2 r2 (sg.lb s2) p2
   |ex c2 e2=>rw[q2]at h;exact h.nU
   |no=>rw[q2]at h;exact h.nU
  .exact h.nU
end
open PySem L2
variable{N:aj fv}
@[inline] def zda:Dn->fv
 |.û x _ _ _ _ _ _ _ _ _=>x
 |_=>""
def HV(s:Dn):aj fv:=(er s).args.a7 λx=>x.arg
def HS(s:Dn):aj fv:=(ba s).p6.Ϝ λp=>match p.2 with
 |.local=>ai p.1
 |.ur=>ai p.1
 |_=>none
def DZ(N:aj fv)(js:aj aT):aj fv:=js.a7 λj=>N.jd j ""
theorem nj(h:b9 sc gs N (DZ N js) js=true):b9 sc gs N (DZ N js) js=true:=h
theorem XC(h:f7 sc gs N (DZ N js) js=true):f7 sc gs N (DZ N js) js=true:=h
theorem Bw(h:decide N.yr=true):N.yr:=Ş h
def xi(N P:aj fv)(sc:zb):ie:=sc.yD==.Zw&&!sc.Þ&&!sc.ß&&decide N.yr&&N.yE P.aO==P&&P.rM (λx=>sc.p6.hW x==ai .local||sc.p6.hW x==ai .ur)&&sc.p6.rM λy=>y.2 != .rk
def Va(h:xi N P sc=true):fX N P sc:=by
 simp only[xi,w0l,w3q,w1d,ZD,ϙ,w3j,decide_eq_true_eq]at h;obtain⟨⟨⟨⟨⟨⟨h1,h2⟩,h3⟩,h4⟩,h5⟩,h6⟩,h7⟩:=h;exact⟨h1,h2,h3,h4,h5,h6,h7⟩
def qF(k m:aT)(d:aj S->SR)(ws:aj W):FR:=if ws.aO=k then(d (ZO m ws)).fn else .no
def qL(k:aT)(d:j' W)(ws:aj W):FR:=if ws.aO=k then gS (d (ws.a7 .fr))else .no
def FI{c:Prop} [É c]{x:FR}(h:(if c then x else .no)≠.no):c/\(if c then x else .no)=x:=by
 split at h
 .rename_i q;exact⟨q,mS q⟩
 .exact uv rfl h
section
variable{P:wW}{w:uG}{K:Fg}{mg:fv->fy eT}{kT:g6}
def vj{x:fv}{st:Dn}{ps:aj fv}{k:aT}{b:ie}{d:aj S->SR}{f:f'}{fd:Zo}(F0:Ag K x x st f fd)(m:mg x=ai (.dI f))(hm:b=true->∀f oc od fd sl,mg x=ai (.dI f)->K.hW f=ai ⟨oc,od,.Zf fd,sl⟩->l8 K x fd.θ)(sc:fX N ps (ba st))
  (hb:∀(f:f')(eD:eT)(A:FZ)(qp:aj MO)(s:oi)(H:Hp)(E:XK)(Z:Zt),bA k (A.Zu (Ku.M4.Ze x (ba st) s.bj.g0.d3 f eD))->(Z.H=H/\Z.io=[])->(b=true->l8 K x eD) ->
   mY Z (hV (ee P w) P w K mg kT N x (ba st) f eD A qp s H E) (λ_=>E) (cK st) d):eN P w K mg kT (ee P w) (k+1) f fd ps (n0 K (qF ps.aO N.aO d)):=by
 let⟨oc,od,kV,Yn,pm,an,eD,ct,vO,rfl,lk,eK⟩:=F0.ex;refine VE lk eK sc (λvs H Q E h=>?_) (λA qp s H vs Q E hr h=>?_)
 .let⟨G,ws,hn,r⟩:=S0 h;exact r.aO.lb (FI hn).1
 .let⟨G,ws,sg,rp,h⟩:=h;have hn:qF ps.aO N.aO d ws≠.no:=λz=>by rw[z]at h;exact h
  exact⟨_,hb f eD A qp s H E ⟨H,G,[]⟩ hr ⟨rfl,rfl⟩ (λz=>hm z f _ _ _ _ m lk),G,ZO N.aO ws,QK sg rp,z4z (FI hn).2.symm h⟩
def F_{x:fv}{st:Dn}{ps:aj fv}{k:aT}{b:ie}{d:aj S->SR}(A:At K mg x st ps)(hm:b=true->∀f oc od fd sl,mg x=ai (.dI f)->K.hW f=ai ⟨oc,od,.Zf fd,sl⟩->l8 K x fd.θ)(sc:fX N ps (ba st))
  (hb:∀(f:f')(eD:eT)(A:FZ)(qp:aj MO)(s:oi)(H:Hp)(E:XK)(Z:Zt),bA k (A.Zu (Ku.M4.Ze x (ba st) s.bj.g0.d3 f eD))->(Z.H=H/\Z.io=[])->(b=true->l8 K x eD) ->
   mY Z (hV (ee P w) P w K mg kT N x (ba st) f eD A qp s H E) (λ_=>E) (cK st) d):sN P w K mg kT (k+1) x ps (n0 K (qF ps.aO N.aO d)):=by
 let⟨f,fd,F0,m,bd⟩:=A.ex;exact⟨f,fd,vj F0 m hm sc hb,m,F0.kp,bd⟩
theorem xI{n:aT}{l:Lm}{ps:aj fv}{d:j' W}(h1:g9 ps l.nf l.gs)(h2:∀(cl:aj (fv×f'))(pm:eT)(c':f')(eJ:eT)(us:aj eT),us.aO=ps.aO->γ (à "<lambda>" l.rN l.ua l.t6 l.gs cl pm (.dI c') eJ) ⟨us,[]⟩=uV (ps.wt us))
  (hb:∀(Z:Zt)(f:f')(cd:eT)(cl:aj (fv×f'))(A:FZ)(qp:aj MO)(s:oi)(H:Hp),bA n (A.Zu (eF l.rN l.gs f cd cl s))->DE Z (kA P w K mg kT (ps++l.nf) l.rN l.gs f cd cl A qp s H) (λ_=>E0) l.t6 d):
  l7 P w K mg kT n l ps (qL (ps.aO+l.nf.aO) d):=
 ⟨h1,h2,λws h=>(FI h).1,λws h Z f cd cl A qp s H hr=>⟨d,hb Z f cd cl A qp s H hr,(FI h).2.symm⟩⟩
end
end D
namespace F1
def uE(a:dr)(oL:aj ie):dr:=oL.yW (λtW b=>2*tW+(if b=true then 1 else 0)) a
def num(oL:aj ie):dr:=uE 0 oL
def b2(b:ie):dr:=if b=true then 1 else 0
def y7t(a)(oL)(b):uE a (oL++[b])=2*uE a oL+b2 b:=by
 unfold uE;rw[aj.foldl_append];rfl
theorem RZ:num []=0:=rfl
theorem QY(oL)(b):num (oL++[b])=2*num oL+b2 b:=y7t 0 oL b
def z2c(b):b2 b=0\/b2 b=1:=by cases b<;>simp[b2]
def z2d{P:aj ie->Prop}(h0:P [])(h1:∀l b,P l->P (l++[b])):∀l,P l:=by
 intro l
 have:∀r:aj ie,P r.V3:=by
  intro r
  induction r with
  |ro=>simpa using h0
  |p9 b r ih=>grind
 have:=this l.V3
 grind
def y3w(oL):0<=num oL/\num oL<2^oL.aO:=by
 induction oL using z2d with
 |h0=>simp[RZ]
 |h1 l b ih=>
  rw[QY,w1k,aj.length_singleton,w4m]
  grind [z2c]
def Y_:aT->dr->aj ie
 |0,_=>[]
 |m+1,n=>decide (n%2=1)::Y_ m (n / 2)
def wV:aT->dr->dr
 |0,n=>n
 |m+1,n=>wV m (n / 2)
theorem B8:∀m n,(Y_ m n).aO=m
 |0,_=>rfl
 |m+1,n=>by rw[Y_,w0x,B8 m]
theorem Qh:∀m n,Y_ (m+1) n=Y_ m n++[decide (wV m n%2=1)]
 |0,n=>rfl
 |m+1,n=>by rw[Y_,Qh m (n / 2),Y_,wV];rfl
theorem Qi:∀m n,wV (m+1) n=wV m n / 2
 |0,n=>rfl
 |m+1,n=>by rw[wV,Qi m (n / 2)];rfl
def QZ(m):∀n:dr,n=num (Y_ m n).V3+2^m*wV m n:=by
 induction m with
 |TL=>grind [Y_,wV,RZ]
 |OK m ih=>
  intro n;rw[Y_,wV,w2x,QY,w4m]
  grind [b2]
def z2e(m):(0:dr)<2^m:=by
 induction m with
 |TL=>decide
 |OK m ih=>rw[w4m];omega
def Qj{m:aT}{n:dr}(h0:0<=n)(h1:n<2^m):wV m n=0:=by
 have h:=QZ m n;have hb:=y3w (Y_ m n).V3;rw[w4d,B8]at hb;have hp:=z2e m
 by_cases hr:wV m n=0
 .exact hr
 .exfalso;rcases dr.lt_or_gt_of_ne hr with h2|h2
  .have:2^m*wV m n<=2^m*(-1):=w3z (by omega) (by omega);omega
  .have:2^m*1<=2^m*wV m n:=w3z (by omega) (by omega);omega
def z2f(h0:0<=n)(h1:n<2^m):num (Y_ m n).V3=n:=by
 have h:=QZ m n;rw[Qj h0 h1,dr.mul_zero]at h;omega
def part(oL:aj ie)(i:aT):dr:=num (oL.yE i)*2^(oL.aO-i)
end F1
namespace Q
open PySem L2 D
variable{kT:g6}{z_ tl:aj aT}{ws:aj W}{L L' i j n p:aT}{B:aT->Prop}{K:Fg}{mg:fv->fy eT}{α:Type}
seal DE DF DT DW DA DS mY sO DO Uh PE PT PW PA PS lX PG Ao PI PF sQ PC fF As qy c6 Ar wC F3 vc PO
theorem us1{P:aj α->Prop}(h:∀x0,P [x0]):∀us:aj α,us.aO=1->P us
 |[x0],_=>h x0
theorem us2{P:aj α->Prop}(h:∀x0 x1,P [x0,x1]):∀us:aj α,us.aO=2->P us
 |[x0,x1],_=>h x0 x1
theorem us3{P:aj α->Prop}(h:∀x0 x1 x2,P [x0,x1,x2]):∀us:aj α,us.aO=3->P us
 |[x0,x1,x2],_=>h x0 x1 x2
theorem us4{P:aj α->Prop}(h:∀x0 x1 x2 x3,P [x0,x1,x2,x3]):∀us:aj α,us.aO=4->P us
 |[x0,x1,x2,x3],_=>h x0 x1 x2 x3
theorem us5{P:aj α->Prop}(h:∀x0 x1 x2 x3 x4,P [x0,x1,x2,x3,x4]):∀us:aj α,us.aO=5->P us
 |[x0,x1,x2,x3,x4],_=>h x0 x1 x2 x3 x4
@[inline] def zdS(i:aT):Dn:=lU.ù.pw_circuits_k67_covers_of_made.main.t6.jd i (.Pass ⟨0,0,0,0⟩)
structure yR(P:wW)(w:uG)(K:Fg)(mg:fv->fy eT):Prop where
 Mu:mg "all"=none
 Mv:mg "any"=none
 wK:mg "bool"=none
 vg:mg "enumerate"=none
 Aw:mg "int"=none
 dE:mg "isinstance"=none
 Mw:mg "len"=none
 wL:mg "list"=none
 Mx:mg "max"=none
 Ax:mg "min"=none
 tX:mg "range"=none
 wM:mg "reversed"=none
 Ay:mg "sorted"=none
 tY:mg "tuple"=none
 Mz:mg "zip"=none
 E_:∃d,mg "SIGNS"=ai (.dI d)/\oy w K d
structure aI where
 gZ:f'
 An:f'
 zdU:f'
 cI:f'
 zdt:f'
 dN:eT
 dM:eT
 ju:eT
 g_:eT
 iU:eT
variable{a:aI}
structure iG(K:Fg)(mg:fv->fy eT)(a:aI):Prop where
 z:ku
 zfE:mg "CircuitError"=ai (.dI a.gZ)
 ze0:mg "NoRow"=ai (.dI a.An)
 zfU:mg "NoTable"=ai (.dI a.zdU)
 xN:mg "TooGreat"=ai (.dI a.cI)
 zfI:mg "NoMachine"=ai (.dI a.zdt)
 mG:mg "MOST_PLACES_tables"=ai a.dN
 mF:mg "MOST_PLACES_covers"=ai a.dM
 uA:mg "MOST_CELLS"=ai a.ju
 rK:mg "MOST_ANSWERS"=ai a.g_
 tE:mg "MOST_WISHED"=ai a.iU
 mm:cU K (.a6 10) a.dN=true
 ml:cU K (.a6 4) a.dM=true
 ub:cU K (.a6 4) a.ju=true
 qS:cU K (.a6 6) a.g_=true
 sT:cU K (.a6 4) a.iU=true
 wX:ϲ K a.cI a.gZ=true
 zfK:h_ K a.cI=true
 zcE:Ć K (.dI a.cI) (.dI a.cI)=ai true
 zcO:NN K (.je "NoneType") (.je "int")=ai false
 zdi:NN K (.je "bool") (.je "int")=ai true
 zds:NN K (.je "int") (.je "int")=ai true
 zfT:NN K (.je "str") (.je "int")=ai false
 zc_:NN K (.je "tuple") (.je "int")=ai false
 zdk:NN K (.je "list") (.je "int")=ai false
 zcR:NN K (.je "NoneType") (.je "bool")=ai false
 zc6:NN K (.je "bool") (.je "bool")=ai true
 zdj:NN K (.je "int") (.je "bool")=ai false
 zfO:NN K (.je "str") (.je "bool")=ai false
 zcX:NN K (.je "tuple") (.je "bool")=ai false
 zc8:NN K (.je "list") (.je "bool")=ai false
 zcH:NN K (.je "NoneType") (.je "tuple")=ai false
 zcV:NN K (.je "bool") (.je "tuple")=ai false
 zc7:NN K (.je "int") (.je "tuple")=ai false
 zfM:NN K (.je "str") (.je "tuple")=ai false
 gN:NN K (.je "tuple") (.je "tuple")=ai true
 zcW:NN K (.je "list") (.je "tuple")=ai false
 zfD:NN K (.je "NoneType") (.je "list")=ai false
 zfL:NN K (.je "bool") (.je "list")=ai false
 zfN:NN K (.je "int") (.je "list")=ai false
 zfP:NN K (.je "str") (.je "list")=ai false
 zfG:NN K (.je "tuple") (.je "list")=ai false
 zc9:NN K (.je "list") (.je "list")=ai true
 nt:eQ K
abbrev B9:aT:=0
abbrev rX:aT:=1
abbrev Jy:aT:=2
abbrev Kb:aT:=3
abbrev BZ:aT:=4
abbrev zy:aT:=5
abbrev Jw:aT:=6
abbrev tI:aT:=7
abbrev El:aT:=8
abbrev z2g:aT:=9
abbrev Es:aT:=10
abbrev zar:aT:=11
abbrev Jx:aT:=12
abbrev N5:aT:=13
abbrev BO:aT:=14
abbrev Fx:aT:=15
abbrev Le:aT:=16
abbrev Ji:aT:=17
abbrev Jz:aT:=18
abbrev IP:aT:=19
abbrev zt:aT:=20
abbrev x9:aT:=21
abbrev Iw:aT:=22
abbrev Ig:aT:=23
abbrev ED:aT:=24
abbrev vR:aT:=25
abbrev Jf:aT:=26
abbrev uL:aT:=27
abbrev zo:aT:=28
abbrev zu:aT:=29
abbrev oX:aT:=30
abbrev Lf:aT:=31
abbrev yb:aT:=32
abbrev Ec:aT:=33
abbrev zD:aT:=34
abbrev zC:aT:=35
abbrev Kc:aT:=36
abbrev Iy:aT:=37
abbrev JA:aT:=38
abbrev EJ:aT:=39
abbrev H_:aT:=40
abbrev Ed:aT:=41
abbrev Fi:aT:=42
abbrev IA:aT:=43
abbrev Em:aT:=44
abbrev vQ:aT:=45
abbrev En:aT:=46
abbrev uK:aT:=47
abbrev x_:aT:=48
abbrev BR:aT:=49
abbrev Jj:aT:=50
abbrev Ih:aT:=51
abbrev BN:aT:=52
abbrev Eo:aT:=53
abbrev zx:aT:=54
abbrev Ee:aT:=55
abbrev D4:aT:=56
abbrev D9:aT:=57
abbrev BK:aT:=58
abbrev Ep:aT:=59
abbrev tG:aT:=60
abbrev EK:aT:=61
abbrev Et:aT:=62
abbrev BS:aT:=63
abbrev D5:aT:=64
abbrev Mh:aT:=65
@[inline] def zdR:aj aT:=[7,8,9,12,13,14,16,17,18,19,22,23,24,25,28,29,30,31,32,33,34,35,36,37,39,40,41,43,43,44,45,46,47,48,49,50,51,53,54,55,57,58,60,61,66,67,67,68,69,70,71,72,74,75,76,77,79,80,81,82,83,84,85,86,87,88]
@[inline] abbrev s8(i:aT):Dn:=zdS (zdR.jd i 0)
@[inline] def n8(i:aT):fv:=zda (s8 i)
def ps(i:aT):aj fv:=HV (s8 i)
def Ns:aT->aj fv
 |31=>["reaches", "left"]
 |42=>["machine", "states", "kinds", "found", "numbers", "number"]
 |63=>["_law_pair", "_law_form", "_law_wish_here", "_law_places", "_law_cube", "_law_number", "_law_row", "_law_inside"]
 |65=>["_law_script", "_law_machine", "_law_told", "_law_order_here", "_law_cells_here", "_law_places", "_law_found", "_law_circuit", "_law_forms", "_law_wishes", "_law_k", "_law_due"]
 |i=>HS (s8 i)
def lv:aT->aT
 |27=>2
 |28=>2
 |30=>1
 |31=>1
 |44=>2
 |45=>2
 |46=>2
 |51=>2
 |64=>2
 |65=>2
 |_=>0
theorem E7(h:i<66):fX (Ns i) (ps i) (ba (s8 i)):=Va ((by decide +kernel:∀i,i<66->xi (Ns i) (ps i) (ba (s8 i))=true) i h)
abbrev JB:oP:=(kwAt 0 (sx (yA 0 (s8 31))))
abbrev EF:Lm:=⟨("rarest"++".<locals>.")++"<lambda>", iO JB,lC JB,jU JB,["reaches"]⟩
abbrev xZ:aT:=66
abbrev Kd:oP:=(vf 1 (sx (yA 3 (s8 42))))
abbrev zE:Lm:=⟨("small"++".<locals>.")++"<lambda>", iO Kd,lC Kd,jU Kd,["states", "kinds"]⟩
abbrev IQ:aT:=67
abbrev Ke:oP:=(vf 1 (zeD (sx (yA 5 (s8 42)))))
abbrev zF:Lm:=⟨("small"++".<locals>.")++"<lambda>", iO Ke,lC Ke,jU Ke,["states"]⟩
abbrev IT:aT:=68
def bS:aT->fy Lm
 |66=>ai EF
 |67=>ai zE
 |68=>ai zF
 |_=>none
theorem Zn:bS 66=ai EF:=rfl
theorem zbi:bS 67=ai zE:=rfl
theorem zbj:bS 68=ai zF:=rfl
set_option hygiene false
local macro_rules|`(Lean.Parser.Command.declaration|def $i:ident:=$v)=>if v.raw.isOfKind ``Lean.Parser.Term.explicit||v.raw.isOfKind ``Lean.Parser.Term.byTactic then Lean.Macro.throwUnsupported else `(Lean.Parser.Command.declaration|noncomputable def $i:ident(K:Fg)(a:aI)(r:Nat->List W->FR):=$v)
set_option hygiene true
def D_:=
 (bL bg (aa (ak (r yb) (aa (af 1) (aa (af 0) ag))) ag))
def Ef:=
 (ak (r IA) (aa (af 1) (aa (af 2) (aa (af 0) ag))))
def Eg:=
 (ao aQ (af 1) (af 0))
def JC:=
 (ah (eS 2 (aa (ao yn (ao b_ (af 3) (dC (.a6 2))) (dC (.a6 1))) ag))
  (ay 3 (ao cq (af 3) (dC (.a6 2)))))
def Lg:=
 (ah (cV 2 (cj ag))
  (ah (ay 3 (af 0))
  (ah (cJ 4 cO (aa (af 1) ag)
  (JC K a r))
  (ah (aL (aw (ao Uk (af 3) (dC (.a6 0))))
  oC
  b7)
  (aG (nB iB (af 2)))))))
def BP:=
 (ay 1 (ao iq (dC (.a6 2)) (af 1)))
def Eu:=
 (ah (ay 1 (dC (.a6 1)))
  (ah (cJ 2 cO (aa (af 0) ag)
  (BP K a r))
  (aG (af 1))))
def OC:=
 (ak (r B9) (aa (af 0) (aa (af 1) ag)))
def JD:=
 (dW (bU cO [0] (aa (ak (r rX) (aa (af 0) ag)) ag) bB (OC K a r)))
def Jk:=
 (nv (ao Yz (af 0) (dC .aC)) (ao yn (af 0) (af 1)))
def Kf:=
 (ah (aL (aw (ao Uk (bL bg (aa (af 0) ag)) (bL bg (aa (af 1) ag))))
  (aG (dC (.bl false)))
  b7)
  (aG (bL _K (aa (cY (cX [] (lQ (aa (af 0) (aa (af 1) ag))) bB (Jk K a r))) ag))))
def O2:=
 (af 0)
def O4:=
 (cP (ak (r Kb) (aa (af 2) (aa (af 1) ag))))
def Kg:=
 (dW (cX [0] (mO (aa (ak (r Jy) (aa (bL bg (aa (af 0) ag)) ag)) ag)) (O4 K a r) (O2 K a r)))
def N8:=
 (nB uU (af 0))
def Jl:=
 (aG (eU "str" my (dC (.str "")) (aa (cY (br [] (af 0) bB (N8 K a r))) ag)))
def Jm:=
 (ah (aL (aw (ao yn (ao aQ (af 0) (dC (.a6 0))) (dC (.str "is"))))
  (aG (bo (aa (dC (.str "is")) (aa (gB (ao aQ (af 0) (dC (.a6 1)))) ag))))
  b7)
  (aG (bo (aa (dC (.str "not")) (aa (af 0) ag)))))
def LH:=
 (ah (aL (aw (ao yn (ao aQ (af 1) (dC (.a6 0))) (dC (.str "is"))))
  (aG (ak (r El) (aa (af 0) (aa (ao aQ (af 1) (dC (.a6 1))) (aa (af 2) ag)))))
  b7)
  (ah (aL (aw (ao yn (ao aQ (af 2) (dC (.a6 0))) (dC (.str "is"))))
  (aG (ak (r El) (aa (af 0) (aa (ao aQ (af 2) (dC (.a6 1))) (aa (af 1) ag)))))
  b7)
  (aG (bo (aa (af 0) (aa (af 1) (aa (af 2) ag)))))))
def Jg:=
 (ah (aL (aw (ao yn (af 0) (dC (.str "and"))))
  (aG (vk (cP (af 1)) (af 2) (bo (aa (dC (.str "is")) (aa (dC (.bl false)) ag)))))
  b7)
  (ah (aL (aw (ao yn (af 0) (dC (.str "or"))))
  (aG (vk (cP (af 1)) (bo (aa (dC (.str "is")) (aa (dC (.bl true)) ag))) (af 2)))
  b7)
  (aG (vk (cP (af 1)) (ak (r Jw) (aa (af 2) ag)) (af 2)))))
def z2h:=
 (ah (ay 3 (bo (aa (dC (.str "at")) (aa (af 0) ag))))
  (ah (aL (aw (ao yn (af 1) (bo (aa (dC (.str "is")) (aa (dC (.bl true)) ag)))))
  (aG (ak (r tI) (aa (dC (.str "or")) (aa (bo (aa (dC (.str "not")) (aa (af 3) ag))) (aa (af 2) ag)))))
  b7)
  (ah (aL (aw (ao yn (af 2) (bo (aa (dC (.str "is")) (aa (dC (.bl true)) ag)))))
  (aG (ak (r tI) (aa (dC (.str "or")) (aa (af 3) (aa (af 1) ag)))))
  b7)
  (aG (ak (r tI) (aa (dC (.str "or")) (aa (ak (r tI) (aa (dC (.str "and")) (aa (bo (aa (dC (.str "not")) (aa (af 3) ag))) (aa (af 1) ag)))) (aa (ak (r tI) (aa (dC (.str "and")) (aa (af 3) (aa (af 2) ag)))) ag))))))))
def IU:=
 (aL (aw (ao yn (bL bg (aa (af 0) ag)) (ak (r rX) (aa (af 1) ag))))
  (aG (af 1))
  b7)
def Jn:=
 (ah (cJ 1 cO (aa (ao bh (dC (.a6 10)) (dC (.a6 1))) ag)
  (IU K a r))
  oC)
def zas:=
 (ah (hZ (ak (r Es) (aa (af 0) ag)))
  (aG (ak (r Jx) (aa (af 0) (aa (dC (.a6 0)) ag)))))
def zbO:=
 (gB (af 0))
def za7:=
 (ah (aL (cP (ak (r N5) (aa (af 0) ag)))
  (aG (bo (aa (dC (.str "is")) (aa (ao aQ (af 0) (dC (.a6 0))) ag))))
  b7)
  (ah (ay 2 (ao cq (bL bg (aa (af 0) ag)) (dC (.a6 2))))
  (ah (ay 3 (nA (af 0) bR (dU (af 2))))
  (ah (ay 4 (nA (af 0) (dU (af 2)) bR))
  (ah (ay 5 (ak (r Jx) (aa (af 3) (aa (ao bh (af 1) (dC (.a6 1))) ag))))
  (ah (aL (aw (ao yn (af 3) (af 4)))
  (aG (af 5))
  b7)
  (ah (aL (hX (eE (cP (ak (r N5) (aa (af 3) ag)))) (aw (ao yn (af 4) (cY (br [] (af 3) bB (zbO K a r))))))
  (aG (bo (aa (dC (.str "odd")) (aa (af 5) (aa (bo (aa (dC (.str "at")) (aa (af 1) ag))) ag)))))
  b7)
  (aG (ak (r z2g) (aa (af 1) (aa (af 5) (aa (ak (r Jx) (aa (af 4) (aa (ao bh (af 1) (dC (.a6 1))) ag))) ag))))))))))))
def zaU:=
 (ao yn (af 0) (ao aQ (af 1) (dC (.a6 0))))
def zaz:=
 (aG (bL _K (aa (cY (br [0] (af 0) bB (zaU K a r))) ag)))
def IV:=
 (ah (ay 1 (ak (r Es) (aa (af 0) ag)))
  (ah (aL (aw (ao kh (af 1) (dC (.a6 4))))
  oC
  b7)
  (aG (af 1))))
def Q0:=
 (ao fR (ao aQ (af 1) (af 0)) (dC (.bl false)))
def L6:=
 (ah (aL (aw (ao Uk (ak (r BO) (aa (af 1) ag)) (bL bg (aa (af 0) ag))))
  (aG (dC (.bl false)))
  b7)
  (aG (bL _K (aa (cY (br [1] (ak (r BZ) (aa (af 0) ag)) bB (Q0 K a r))) ag))))
def Pe:=
 (af 0)
def Pf:=
 (cP (ak (r Jz) (aa (af 0) (aa (af 1) ag))))
def Lh:=
 (dW (br [0] (ak (r Ji) (aa (ak (r BO) (aa (af 0) ag)) ag)) (Pf K a r) (Pe K a r)))
def Eh:=
 (nu 3 (aa (cY (cj (aa (ao bh (af 4) (bo (aa (dC .aC) ag))) (aa (ao bh (af 4) (bo (aa (dC (.bl false)) ag))) (aa (ao bh (af 4) (bo (aa (dC (.bl true)) ag))) ag))))) ag))
def IW:=
 (ah (cV 3 (cj ag))
  (ah (i6 4 (af 1)
  (Eh K a r))
  (ay 1 (af 3))))
def Jo:=
 (ah (ay 1 (cY (cj (aa (bo ag) ag))))
  (ah (cJ 2 cO (aa (af 0) ag)
  (IW K a r))
  (aG (af 1))))
def OD:=
 (ak (r Fx) (aa (af 0) (aa (af 1) ag)))
def OE:=
 (ao Yz (ao aQ (af 1) (af 0)) (dC (.bl true)))
def JE:=
 (ah (aL (eE (cP (ak (r Fx) (aa (af 0) (aa (af 1) ag)))))
  (aG (dC (.bl false)))
  b7)
  (ah (aL (eE (cP (bL nq (aa (cY (br [1] (ak (r BZ) (aa (af 0) ag)) bB (OE K a r))) ag))))
  (aG (dC (.bl false)))
  b7)
  (aG (gB (bL nq (aa (cY (br [1] (ak (r IP) (aa (af 0) ag)) bB (OD K a r))) ag))))))
def NY:=
 (ao bh (ao bh (nA (af 1) bR (dU (af 0))) (bo (aa (dC .aC) ag))) (nA (af 1) (dU (ao bh (af 0) (dC (.a6 1)))) bR))
def NZ:=
 (aw (ao fR (ao aQ (af 1) (af 0)) (dC .aC)))
def IX:=
 (dW (bU cO [0] (aa (bL bg (aa (af 0) ag)) ag) (NZ K a r) (NY K a r)))
def N0:=
 (af 0)
def N1:=
 (aw (ao Yz (af 1) (dC (.bl true))))
def IF:=
 (ah (hZ (ak (r BO) (aa (af 0) ag)))
  (dW (cX [] (mO (aa (af 0) ag)) (N1 K a r) (N0 K a r))))
def N9:=
 (af 0)
def N_:=
 (aw (ao jX (af 0) (af 1)))
def Jp:=
 (dW (br [1] (af 0) (N_ K a r) (N9 K a r)))
def BH:=
 (ay 1 (ak (r tI) (aa (dC (.str "or")) (aa (af 1) (aa (ak (r Ig) (aa (af 2) ag)) ag)))))
def IB:=
 (ah (ay 1 (bo (aa (dC (.str "is")) (aa (dC (.bl false)) ag))))
  (ah (i6 2 (af 0)
  (BH K a r))
  (aG (af 1))))
def xY:=
 (aL (aw (ao Yz (af 3) (dC (.bl true))))
  (ay 1 (ak (r tI) (aa (dC (.str "and")) (aa (af 1) (aa (bo (aa (dC (.str "at")) (aa (af 2) ag))) ag)))))
  (aL (aw (ao Yz (af 3) (dC (.bl false))))
  (ay 1 (ak (r tI) (aa (dC (.str "and")) (aa (af 1) (aa (bo (aa (dC (.str "not")) (aa (bo (aa (dC (.str "at")) (aa (af 2) ag))) ag))) ag)))))
  b7))
def Ik:=
 (ah (ay 1 (bo (aa (dC (.str "is")) (aa (dC (.bl true)) ag))))
  (ah (iW 2 3 (j5 (aa (af 0) ag))
  (xY K a r))
  (aG (af 1))))
def JF:=
 (aG (fq (fK K (.je "int") (af 0)) (gB (fK K (.je "bool") (af 0)))))
def IG:=
 (aG (fq (fK K (.je "tuple") (af 0)) (ao yn (bL bg (aa (af 0) ag)) (af 1))))
def Jh:=
 (aG (fq (ao yn (af 0) (af 1)) (ao yn (fK K (.je "bool") (af 0)) (fK K (.je "bool") (af 1)))))
def zm:=
 (aw (ao yn (ao aQ (af 5) (dC (.a6 0))) (dC (.str "tree"))))
def BL:=
 (ah (ay 4 (ao aQ (af 5) (dC (.a6 1))))
  (ah (ay 3 (ao bh (af 3) (dC (.a6 1))))
  (ay 5 (ak (r oX) (aa (af 1) (aa (af 2) (aa (af 3) ag)))))))
def IH:=
 (ah (ay 1 (ak (r zu) (aa (af 0) ag)))
  (ah (ay 2 (ak (r zt) (aa (af 0) ag)))
  (ah (ay 3 (dC (.a6 0)))
  (ah (ay 4 (dC .aC))
  (ah (ay 5 (ak (r oX) (aa (af 1) (aa (af 2) (aa (af 3) ag)))))
  (ah (bw (zm K a r)
  (BL K a r) 1000000)
  (aG (bo (aa (cY (jG (r zy) (ao aQ (af 5) (dC (.a6 1))))) (aa (af 4) ag))))))))))
def NX:=
 (aw (ao yn (ao aQ (af 5) (dC (.a6 0))) (dC (.str "tree"))))
def NS:=
 (ah (ay 4 (ao aQ (af 5) (dC (.a6 1))))
  (ah (ay 3 (ao bh (af 3) (dC (.a6 1))))
  (ay 5 (ak (r oX) (aa (af 1) (aa (af 2) (aa (af 3) ag)))))))
def Il:=
 (ah (ay 1 (ak (r zu) (aa (af 0) ag)))
  (ah (ay 2 (ak (r zt) (aa (af 0) ag)))
  (ah (ay 3 (dC (.a6 0)))
  (ah (ay 4 (dC .aC))
  (ah (ay 5 (ak (r oX) (aa (af 1) (aa (af 2) (aa (af 3) ag)))))
  (ah (bw (NX K a r)
  (NS K a r) 1000000)
  (jF (jG (r zy) (ao aQ (af 5) (dC (.a6 1)))) 4)))))))
def N6:=
 (bo (aa (af 0) (aa (ak (r BZ) (aa (af 0) ag)) ag)))
def IY:=
 (dW (br [] (ak (r Le) (aa (af 0) ag)) bB (N6 K a r)))
def vX:=
 (ah (ay 7 (ak (r oX) (aa (af 0) (aa (ak (r x9) (aa (af 1) (aa (af 6) ag))) (aa (ao n_ (af 2) (dC (.a6 1))) ag)))))
  (ah (aL (aw (ao yn (ao aQ (af 7) (dC (.a6 0))) (dC (.str "cover"))))
  (aG (bo (aa (dC (.str "cover")) (aa (ao bh (cY (cj (aa (af 5) ag))) (ao aQ (af 7) (dC (.a6 1)))) ag))))
  b7)
  (eS 4 (aa (bo (aa (af 5) (aa (ao aQ (af 7) (dC (.a6 1))) ag))) ag))))
def Ce:=
 (ah (aL (aw (ao yn (bL bg (aa (af 1) ag)) (dC (.a6 0))))
  (aG (bo (aa (dC (.str "cover")) (aa (cY (cj ag)) ag))))
  b7)
  (ah (ay 3 (ak (r Lf) (aa (af 0) (aa (af 1) ag))))
  (ah (aL (aw (ao yn (af 2) (dC (.a6 0))))
  (aG (bo (aa (dC (.str "tree")) (aa (bo (aa (af 3) (aa (bo ag) ag))) ag))))
  b7)
  (ah (cV 4 (cj ag))
  (ah (iW 5 6 (j6 (ak (r yb) (aa (af 0) (aa (af 3) ag))))
  (vX K a r))
  (aG (bo (aa (dC (.str "tree")) (aa (bo (aa (af 3) (aa (bL j_ (aa (af 4) ag)) ag))) ag)))))))))
def Li:=
 (aG (kB r 66 [0] (af 1)))
def Pg:=
 (af 0)
def O6:=
 (aw (ao xB (af 1) (ao aQ (af 0) (dC (.a6 1)))))
def Lj:=
 (dW (br [1] (af 0) (O6 K a r) (Pg K a r)))
def II:=
 (ah (ay 3 (ak (r zu) (aa (af 0) ag)))
  (ah (aL (aw (ao nR (af 1) (dC (.a6 0))))
  (aG (ao Yz (af 2) (dC .aC)))
  b7)
  (aG (ak (r zD) (aa (af 2) (aa (af 3) (aa (ak (r zt) (aa (af 0) ag)) (aa (af 1) ag))))))))
def Jq:=
 (ak (r zC) (aa (af 0) (aa (af 1) (aa (af 2) (aa (af 3) (aa (af 4) ag))))))
def zG:=
 (ah (aL (eE (cP (ak (r vR) (aa (af 0) (aa (dC (.a6 2)) ag)))))
  (aG (dC (.bl false)))
  b7)
  (ah (ay 4 (ao aQ (af 0) (dC (.a6 0))))
  (ah (ay 5 (ao aQ (af 0) (dC (.a6 1))))
  (ah (aL (kZ (eE (cP (ak (r ED) (aa (af 4) ag)))) (kZ (aw (ao jX (af 4) (af 2))) (eE (cP (fK K (.je "tuple") (af 5))))))
  (aG (dC (.bl false)))
  b7)
  (ah (aL (aw (ao yn (af 3) (dC (.a6 0))))
  (aG (ao yn (bL bg (aa (af 5) ag)) (dC (.a6 0))))
  b7)
  (ah (ay 6 (ak (r yb) (aa (af 1) (aa (af 4) ag))))
  (ah (aL (aw (ao Uk (bL bg (aa (af 5) ag)) (bL bg (aa (af 6) ag))))
  (aG (dC (.bl false)))
  b7)
  (aG (bL _K (aa (cY (cX [1,2,3] (lQ (aa (af 5) (aa (af 6) ag))) bB (Jq K a r))) ag))))))))))
def Ew:=
 (ah (aL (kZ (eE (cP (ak (r vR) (aa (af 0) (aa (dC (.a6 2)) ag))))) (eE (cP (ak (r Kc) (aa (ao aQ (af 0) (dC (.a6 0))) (aa (ao aQ (af 1) (dC (.a6 0))) ag))))))
  (aG (dC (.bl false)))
  b7)
  (aG (ak (r zD) (aa (ao aQ (af 0) (dC (.a6 1))) (aa (af 2) (aa (ak (r x9) (aa (af 3) (aa (ao aQ (af 1) (dC (.a6 1))) ag))) (aa (ao n_ (af 4) (dC (.a6 1))) ag)))))))
def Jr:=
 (ak (r Jf) (aa (af 0) (aa (af 1) ag)))
def Kh:=
 (ah (aL (eE (cP (ak (r vR) (aa (af 0) (aa (bL bg (aa (af 1) ag)) ag)))))
  (aG (dC (.bl false)))
  b7)
  (aG (bL _K (aa (cY (cX [] (lQ (aa (af 0) (aa (af 1) ag))) bB (Jr K a r))) ag))))
def Ia:=
 (ah (aL (aw (ao Uk (bL bg (aa (af 4) ag)) (ao aQ (af 0) (dC (.a6 1)))))
  oC
  b7)
  (aL (eE (cP (ak (r JA) (aa (af 0) (aa (af 5) ag)))))
  oC
  b7))
def Ib:=
 (ah (aL (aw (ao Uk (bL bg (aa (af 3) ag)) (af 2)))
  oC
  b7)
  (iW 4 5 (j6 (af 3))
  (Ia K a r)))
def IC:=
 (ah (ay 1 (ao aQ (af 0) (dC (.a6 2))))
  (ah (ay 2 (ak (r rX) (aa (ao aQ (af 0) (dC (.a6 0))) ag)))
  (ah (aL (aw (ao yn (bL bg (aa (af 1) ag)) (dC (.a6 0))))
  oC
  b7)
  (i6 3 (af 1)
  (Ib K a r)))))
def JG:=
 (aG (fq (ao xK (dC (.a6 0)) (af 1)) (ao nR (af 1) (bL bg (aa (ao aQ (af 0) (dC (.a6 2))) ag)))))
def zr:=
 (ah (aL (a_ (aw (ao uB (af 8) (af 3))))
  (ah (kD 3 (i5 2 bg) (af 8))
  (eS 2 (aa (af 8) ag)))
  b7)
  (eS 6 (aa (bo (aa (af 7) (aa (bE (ao Bi (af 3) (af 8))) ag))) ag)))
def Ey:=
 (a_ (aw (ao nR (i5 4 bg) (i5 2 bg))))
def Ez:=
 (ah (ay 5 (jD 2 (i5 4 bg)))
  (ah (cV 6 (cj ag))
  (ah (iW 7 8 (j6 (iJ bS r 1 (aa (af 5) ag)))
  (zr K a r))
  (eS 4 (aa (af 6) ag)))))
def Ki:=
 (ah (cV 2 (cj (aa (af 0) ag)))
  (ah (iK 3 0 (.j9 0))
  (ah (cV 4 (cj ag))
  (ah (bw (Ey K a r)
  (Ez K a r) 1000000)
  (aG (bo (aa (af 4) (aa (af 2) ag))))))))
def D2:=
 (aw (ao kh (bL lE (aa (af 2) ag)) (bL lE (aa (jD 1 (nB nT (dC (.a6 1)))) ag))))
def HY:=
 (ah (eS 1 (aa (af 2) ag))
  (ay 2 (ak (r Ed) (aa (af 0) (aa (af 2) ag)))))
def Ic:=
 (ah (cV 1 (cj (aa (ao pR (cY (cj (aa (dC (.a6 0)) ag))) (bL bg (aa (af 0) ag))) ag)))
  (ah (ay 2 (ak (r Ed) (aa (af 0) (aa (jD 1 (nB nT (dC (.a6 1)))) ag))))
  (ah (bw (D2 K a r)
  (HY K a r) 1000000)
  (gD 1))))
def N2:=
 (bo (aa (af 0) (aa (ao aQ (af 2) (af 1)) ag)))
def D3:=
 (ah (ay 5 (bL j_ (aa (cY (cX [1] (j6 (af 4)) bB (N2 K a r))) ag)))
  (ah (aL (a_ (aw (ao pL (af 5) (af 2))))
  (me 2 (bE (bL mB (aa (af 2) ag))) (af 5))
  b7)
  (eS 3 (aa (bE (ao xD (af 2) (af 5))) ag))))
def IJ:=
 (ah (mf 2 (.YW (.gw [.YW .bl,.a6])))
  (ah (cV 3 (cj ag))
  (ah (i6 4 (af 0)
  (D3 K a r))
  (gD 3))))
def EL:=
 (pB 4 (eU "list" fN (ao aQ (af 3) (dC (.a6 1))) (aa (ao aQ (af 2) (af 5)) ag)) (af 5))
def LJ:=
 (ah (hZ (ak (r Iy) (aa (af 0) ag)))
  (ah (ay 1 (ao aQ (af 0) (dC (.a6 2))))
  (ah (ay 2 (ao aQ (ak (r H_) (aa (af 1) ag)) (nB nT (dC (.a6 1)))))
  (ah (ay 3 (dR (r EJ) 67 zE [1,2] (ao aQ (af 2) (dC (.a6 0)))))
  (ah (cV 4 (kE (cY (cj (aa (dC .aC) ag))) (bL bg (aa (af 1) ag))))
  (ah (i6 5 (ao aQ (dR (r EJ) 68 zF [1] (dC (.a6 0))) (dC (.a6 1)))
  (EL K a r))
  (aG (bo (aa (bo (aa (ao aQ (af 0) (dC (.a6 0))) (aa (ao aQ (af 0) (dC (.a6 1))) (aa (ao aQ (af 3) (dC (.a6 0))) ag)))) (aa (af 4) ag))))))))))
def NQ:=
 (bo (aa (af 0) (aa (ao aQ (af 2) (af 1)) ag)))
def ID:=
 (dW (cX [1] (j6 (ao aQ (af 0) (eU "list" fN (af 1) (aa (af 2) ag)))) bB (NQ K a r)))
def N7:=
 (bo (aa (dC (.bl false)) (aa (af 0) ag)))
def Im:=
 (ak (r Ih) (aa (af 0) ag))
def IZ:=
 (ah (ay 1 (ak (r uK) (aa (af 0) ag)))
  (ah (ay 2 (ak (r x_) (aa (af 1) ag)))
  (ah (ay 3 (cY (br [] (ak (r BR) (aa (af 1) ag)) bB (Im K a r))))
  (ah (ay 4 (bL j_ (aa (cY (br [] (nA (af 3) bR (dU (af 2))) bB (N7 K a r))) ag)))
  (aG (bo (aa (ao aQ (af 1) (dC (.a6 0))) (aa (af 4) (aa (bL j_ (aa (nA (af 3) (dU (af 2)) bR) ag)) ag)))))))))
def Oa:=
 (ak (r uL) (aa (af 0) ag))
def EA:=
 (ah (ay 1 (ak (r uK) (aa (af 0) ag)))
  (ah (aL (aw (ao kh (ao bh (ao aQ (af 1) (dC (.a6 0))) (ak (r x_) (aa (af 1) ag))) (dC (.a6 4))))
  (jE a.cI (aa (dC (.str "the truths that come in and the cells are too many for covers")) ag))
  b7)
  (dW (br [] (ak (r BR) (aa (af 1) ag)) bB (Oa K a r)))))
def I_:=
 (ah (ay 1 (ak (r uK) (aa (af 0) ag)))
  (ah (aL (aw (ao kh (ao bh (ao aQ (af 1) (dC (.a6 0))) (ak (r x_) (aa (af 1) ag))) (dC (.a6 4))))
  oC
  b7)
  (h9 [] (ak (r BR) (aa (af 1) ag)) (r zo))))
def Io:=
 (ah (ay 1 (ao aQ (ak (r Fi) (aa (af 0) ag)) (dC (.a6 0))))
  (ah (aL (aw (ao kh (ak (r x_) (aa (af 1) ag)) (dC (.a6 4))))
  oC
  b7)
  (ah (aL (aw (ao kh (ao aQ (af 1) (dC (.a6 1))) (dC (.a6 6))))
  oC
  b7)
  (aG (af 1)))))
def Ei:=
 (aw (ao nR (ak (r rX) (aa (af 1) ag)) (bL bg (aa (ao aQ (af 0) (dC (.a6 2))) ag))))
def IK:=
 (ay 1 (ao bh (af 1) (dC (.a6 1))))
def JH:=
 (ah (ay 1 (dC (.a6 0)))
  (ah (bw (Ei K a r)
  (IK K a r) 1000000)
  (aG (af 1))))
def Of:=
 (ao aQ (af 0) (af 1))
def Oh:=
 (cY (br [0] (af 1) bB (Of K a r)))
def Ol:=
 (ak (r Jj) (aa (af 1) (aa (af 2) (aa (af 0) ag))))
def JI:=
 (ah (ay 1 (ak (r x_) (aa (af 0) ag)))
  (ah (ay 2 (cY (bU cO [0,1] (aa (ak (r rX) (aa (ao bh (ao aQ (af 0) (dC (.a6 0))) (af 1)) ag)) ag) bB (Ol K a r))))
  (dW (bU cO [2] (aa (ao bh (af 1) (ao aQ (af 0) (dC (.a6 1)))) ag) bB (Oh K a r)))))
def JJ:=
 (ah (ay 3 (ao b_ (af 2) (ak (r rX) (aa (af 1) ag))))
  (ah (aL (aw (ao yX (af 3) (bL bg (aa (ao aQ (af 0) (dC (.a6 2))) ag))))
  (aG (ao sm (bo (aa (dC .aC) ag)) (ao bh (af 1) (ao aQ (af 0) (dC (.a6 1))))))
  b7)
  (ah (ay 4 (ao aQ (ao aQ (ao aQ (af 0) (dC (.a6 2))) (af 3)) (ao cq (af 2) (ak (r rX) (aa (af 1) ag)))))
  (aG (ao bh (ak (r B9) (aa (ao aQ (af 4) (dC (.a6 1))) (aa (af 1) ag))) (ao aQ (af 4) (dC (.a6 0))))))))
def zaV:=
 (ao Yz (af 0) (dC (.bl true)))
def Ip:=
 (ah (aL (aw (ao xK (bL bg (aa (af 0) ag)) (ak (r rX) (aa (dC (.a6 4)) ag))))
  (aG (ak (r Iw) (aa (ao aQ (ak (r uL) (aa (af 0) ag)) (dC (.a6 0))) ag)))
  b7)
  (aG (ak (r zar) (aa (cY (br [] (af 0) bB (zaV K a r))) ag))))
def Iq:=
 (ah (aL (aw (ao nR (af 1) (bL bg (aa (af 0) ag))))
  (aG (ao aQ (af 0) (af 1)))
  b7)
  (aG (dC (.a6 0))))
def Ja:=
 (aG (ao b_ (ao rS (ao b_ (ao bh (ao iq (af 0) (dC (.a6 48271))) (ao iq (ao bh (af 1) (dC (.a6 1))) (dC (.a6 1299721)))) (dC (.a6 2147483647))) (dC (.a6 5))) (dC (.a6 2147483647))))
def vS:=
 (ah (aL (aw (ao yn (ao aQ (af 0) (dC (.a6 0))) (dC (.str "is"))))
  (aG (ao aQ (af 0) (dC (.a6 1))))
  b7)
  (ah (aL (aw (ao yn (ao aQ (af 0) (dC (.a6 0))) (dC (.str "at"))))
  (aG (ao aQ (af 1) (ao aQ (af 0) (dC (.a6 1)))))
  b7)
  (ah (ay 2 (ak (r zx) (aa (ao aQ (af 0) (dC (.a6 1))) (aa (af 1) ag))))
  (ah (aL (aw (ao yn (ao aQ (af 0) (dC (.a6 0))) (dC (.str "not"))))
  (aG (gB (af 2)))
  b7)
  (ah (ay 3 (ak (r zx) (aa (ao aQ (af 0) (dC (.a6 2))) (aa (af 1) ag))))
  (ah (aL (aw (ao yn (ao aQ (af 0) (dC (.a6 0))) (dC (.str "and"))))
  (aG (fq (af 2) (af 3)))
  b7)
  (ah (aL (aw (ao yn (ao aQ (af 0) (dC (.a6 0))) (dC (.str "or"))))
  (aG (nv (af 2) (af 3)))
  b7)
  (aG (ao Uk (af 2) (af 3))))))))))
def IE:=
 (ah (ay 2 (ao bh (cY (cj (aa (ao yn (ao b_ (af 0) (dC (.a6 2))) (dC (.a6 1))) ag))) (af 2)))
  (ay 0 (ao cq (af 0) (dC (.a6 2)))))
def IL:=
 (ah (ay 2 (cY (cj ag)))
  (ah (cJ 3 cO (aa (af 1) ag)
  (IE K a r))
  (aG (bL j_ (aa (af 2) ag)))))
def NP:=
 (ao nR (ao b_ (ak (r Eo) (aa (af 1) (aa (ao bh (ao iq (dC (.a6 9)) (af 2)) (af 0)) ag))) (dC (.a6 5))) (dC (.a6 2)))
def BI:=
 (ah (ay 10 (bL j_ (aa (cY (bU cO [7,9] (aa (af 3) ag) bB (NP K a r))) ag)))
  (eS 8 (aa (bo (aa (af 10) (aa (ao b_ (ak (r Eo) (aa (af 7) (aa (ao bh (dC (.a6 70)) (af 9)) ag))) (af 4)) ag))) ag)))
def BJ:=
 (ah (ay 7 (ao bh (ak (r BN) (aa (af 0) (aa (ao bh (dC (.a6 2)) (af 6)) ag))) (ao iq (dC (.a6 13)) (af 6))))
  (aL (hX (aw (ao yn (ao b_ (af 7) (dC (.a6 4))) (dC (.a6 3)))) (aw (ao kh (af 6) (dC (.a6 0)))))
  (eS 5 (aa (cY (μ (aa (jD 5 (ao b_ (ao cq (af 7) (dC (.a6 4))) (af 6))) ag))) ag))
  (ah (cV 8 (cj ag))
  (ah (cJ 9 cO (aa (ao aQ (cY (cj (aa (dC (.a6 1)) (aa (dC (.a6 2)) (aa (dC (.a6 4)) (aa (dC (.a6 8)) ag)))))) (af 2)) ag)
  (BI K a r))
  (eS 5 (aa (af 8) ag))))))
def Ie:=
 (ah (ay 1 (ak (r BN) (aa (af 0) (aa (dC (.a6 0)) ag))))
  (ah (ay 2 (ao b_ (af 1) (dC (.a6 3))))
  (ah (ay 3 (ao bh (ao b_ (ao cq (af 1) (dC (.a6 3))) (dC (.a6 4))) (ao iq (dC (.a6 3)) (bL _e (aa (ao yn (ao b_ (ao cq (af 1) (dC (.a6 768))) (dC (.a6 5))) (dC (.a6 1))) ag)))))
  (ah (ay 4 (ao bh (dC (.a6 1)) (ao b_ (ao cq (af 1) (dC (.a6 12))) (dC (.a6 8)))))
  (ah (aL (aw (ao yn (ao b_ (ao cq (af 1) (dC (.a6 96))) (dC (.a6 8))) (dC (.a6 5))))
  (ay 4 (ao bh (af 4) (dC (.a6 8))))
  b7)
  (ah (aL (aw (ao yn (ao b_ (ao cq (af 1) (dC (.a6 96))) (dC (.a6 8))) (dC (.a6 6))))
  (ah (ay 2 (dC (.a6 3)))
  (ah (ay 4 (ao bh (dC (.a6 1)) (ao b_ (af 4) (dC (.a6 4)))))
  (ay 3 (ao b_ (af 3) (ao bh (ao bh (dC (.a6 1)) (ao iq (bL _e (aa (ao nR (af 4) (dC (.a6 3))) ag)) (dC (.a6 6)))) (bL _e (aa (ao kh (af 4) (dC (.a6 2))) ag)))))))
  b7)
  (ah (aL (kZ (hX (aw (ao yn (af 2) (dC (.a6 2)))) (hX (aw (ao kh (af 4) (dC (.a6 4)))) (aw (ao kh (ao b_ (ao cq (af 1) (dC (.a6 768))) (dC (.a6 4))) (dC (.a6 0)))))) (aw (ao kh (af 4) (dC (.a6 8)))))
  (ay 2 (ao b_ (af 2) (dC (.a6 2))))
  b7)
  (ah (cV 5 (cj ag))
  (ah (cJ 6 cO (aa (af 4) ag)
  (BJ K a r))
  (aG (bo (aa (af 2) (aa (af 3) (aa (af 5) ag))))))))))))))
def NT:=
 (eU "list" iN (af 1) (aa (af 0) ag))
def NU:=
 (bo (aa (ao aQ (af 0) (dC (.a6 0))) (aa (ao aQ (af 1) (ao aQ (af 0) (dC (.a6 1)))) ag)))
def NV:=
 (cY (br [1] (af 0) bB (NU K a r)))
def D6:=
 (ah (ay 4 (cY (br [2] (af 1) bB (NV K a r))))
  (ay 2 (cY (br [4] (af 4) bB (NT K a r)))))
def NW:=
 (dC (.a6 0))
def Ir:=
 (ah (ay 1 (ao aQ (af 0) (dC (.a6 2))))
  (ah (ay 2 (cY (br [] (af 1) bB (NW K a r))))
  (ah (cJ 3 cO (aa (bL bg (aa (af 1) ag)) ag)
  (D6 K a r))
  (aG (af 2)))))
def D':=
 (aL (a_ (aw (ao jX (ao aQ (af 1) (ao aQ (af 4) (dC (.a6 1)))) (af 2))))
  (eS 2 (aa (ao aQ (af 1) (ao aQ (af 4) (dC (.a6 1)))) ag))
  b7)
def Ea:=
 (a_ (aw (ao nR (af 3) (i5 2 bg))))
def Eb:=
 (ah (i6 4 (ao aQ (ao aQ (af 0) (dC (.a6 2))) (jD 2 (af 3)))
  (D' K a r))
  (ay 3 (ao bh (af 3) (dC (.a6 1)))))
def Jb:=
 (ah (cV 2 (cj (aa (ao aQ (af 1) (dC (.a6 0))) ag)))
  (ah (ay 3 (dC (.a6 0)))
  (ah (bw (Ea K a r)
  (Eb K a r) 1000000)
  (gD 2))))
def zp:=
 (aw (ao nR (af 2) (af 0)))
def Iu:=
 (ah (ay 2 (ao iq (af 2) (dC (.a6 2))))
  (ay 1 (ao bh (af 1) (dC (.a6 1)))))
def Js:=
 (ah (ay 1 (dC (.a6 0)))
  (ah (ay 2 (dC (.a6 1)))
  (ah (bw (zp K a r)
  (Iu K a r) 1000000)
  (aG (af 1)))))
def N4:=
 (cY (μ (aa (af 0) ag)))
def IM:=
 (aG (bo (aa (ao aQ (af 0) (dC (.a6 0))) (aa (ao aQ (af 0) (dC (.a6 1))) (aa (cY (br [] (ao aQ (af 0) (dC (.a6 2))) bB (N4 K a r))) ag)))))
def O5:=
 (af 0)
def OS:=
 (hX (aw (ao fR (ao aQ (af 1) (af 0)) (dC .aC))) (aw (ao Uk (ao aQ (af 1) (af 0)) (ao aQ (af 2) (af 0)))))
def Kj:=
 (aG (kC (cY (bU cO [0,1] (aa (bL bg (aa (af 1) ag)) ag) (OS K a r) (O5 K a r)))))
def Ej:=
 (aL (aw (ao yX (af 7) (bL bg (aa (af 2) ag))))
  (eS 5 (aa (dC .aC) ag))
  (ah (ay 8 (ao aQ (ao aQ (ao aQ (af 0) (dC (.a6 2))) (ao aQ (af 2) (af 7))) (af 6)))
  (ah (ay 9 (ao bh (ak (r Ee) (aa (eU "list" fN (af 2) (aa (ao aQ (af 1) (ao aQ (af 8) (dC (.a6 1)))) ag)) (aa (af 3) ag))) (ao aQ (af 8) (dC (.a6 0)))))
  (eS 5 (aa (ao aQ (af 9) (af 4)) ag)))))
def Ek:=
 (cJ 7 cO (aa (ao aQ (cY (cj (aa (dC (.a6 1)) (aa (dC (.a6 2)) (aa (dC (.a6 4)) (aa (dC (.a6 8)) (aa (dC (.a6 16)) ag))))))) (af 3)) ag)
  (Ej K a r))
def JK:=
 (ah (cV 5 (cj ag))
  (ah (cJ 6 cO (aa (ao aQ (cY (cj (aa (dC (.a6 1)) (aa (dC (.a6 2)) (aa (dC (.a6 4)) (aa (dC (.a6 8)) ag)))))) (ao aQ (af 0) (dC (.a6 0)))) ag)
  (Ek K a r))
  (gD 5)))
def Om:=
 (af 0)
def Oo:=
 (cP (ak (r EK) (aa (af 0) (aa (af 1) ag))))
def D7:=
 (ah (ay 6 (ak (r Ee) (aa (af 5) (aa (af 3) ag))))
  (ah (ay 7 (ao Uk (cY (br [6] (ao aQ (af 0) (dC (.a6 0))) (Oo K a r) (Om K a r))) (cY (cj ag))))
  (aL (kZ (hX (aw (ao fR (ao aQ (af 2) (af 5)) (dC .aC))) (aw (ao Uk (ao aQ (af 2) (af 5)) (af 7)))) (aw (ao Uk (ak (r zx) (aa (af 1) (aa (af 6) ag))) (af 7))))
  (aG (dC (.bl false)))
  b7)))
def D8:=
 (aL (kZ (eE (cP (fK K (.je "tuple") (af 4)))) (aw (ao Uk (bL bg (aa (af 4) ag)) (af 3))))
  (aG (dC (.bl false)))
  b7)
def JL:=
 (ah (aL (kZ (eE (cP (fK K (.je "tuple") (af 0)))) (kZ (aw (ao Uk (bL bg (aa (af 0) ag)) (dC (.a6 2)))) (eE (cP (fK K (.je "list") (ao aQ (af 0) (dC (.a6 0))))))))
  (aG (dC (.bl false)))
  b7)
  (ah (i6 4 (ao aQ (af 0) (dC (.a6 0)))
  (D8 K a r))
  (ah (cJ 5 cO (aa (bL bg (aa (af 2) ag)) ag)
  (D7 K a r))
  (aG (ao Yz (ak (r Ec) (aa (af 2) (aa (ao n_ (bL bg (aa (ao aQ (af 0) (dC (.a6 0))) ag)) (dC (.a6 1))) (aa (ao aQ (af 0) (dC (.a6 1))) ag)))) (dC (.bl true)))))))
def HZ:=
 (ah (jH K a.cI
  (hZ (ak (r vQ) (aa (ak (r tG) (aa (af 0) ag)) ag)))
  (aG (dC (.bl true))))
  (aG (dC (.bl false))))
def LK:=
 (ak (r uL) (aa (af 0) ag))
def Cf:=
 (aL (eE (cP (bE (ak (r BS) (aa (ao aQ (af 6) (af 10)) (aa (ao aQ (af 8) (af 10)) (aa (ao aQ (af 9) (af 10)) (aa (af 5) ag))))))))
  (aG (dC (.bl false)))
  b7)
def LL:=
 (ak (r Et) (aa (af 1) (aa (af 2) (aa (af 3) (aa (af 4) (aa (af 0) ag))))))
def LM:=
 (ao aQ (af 0) (dC (.a6 1)))
def Mi:=
 (ah (ay 1 (ak (r D4) (aa (af 0) ag)))
  (ah (ay 2 (ak (r D9) (aa (af 1) ag)))
  (ah (ay 3 (ak (r BK) (aa (af 1) (aa (af 2) ag))))
  (ah (ay 4 (ak (r Ep) (aa (bL bg (aa (af 3) ag)) ag)))
  (ah (ay 5 (ao bh (ao aQ (af 1) (dC (.a6 0))) (af 4)))
  (ah (aL (aw (ao kh (af 5) (dC (.a6 4))))
  (aG (ak (r D5) (aa (af 1) ag)))
  b7)
  (ah (f9 6 (r En) (aa (ak (r tG) (aa (af 1) ag)) ag))
  (ah (ay 7 (ak (r Em) (aa (ak (r tG) (aa (af 1) ag)) ag)))
  (ah (ay 8 (ao bh (cY (br [] (ao aQ (af 7) (dC (.a6 1))) bB (LM K a r))) (cY (μ (aa (ao aQ (af 7) (dC (.a6 2))) ag)))))
  (ah (aL (kZ (eE (cP (bE (fK K (.je "list") (af 6))))) (kZ (a_ (aw (ao Uk (bL bg (aa (af 6) ag)) (ao bh (af 4) (ao aQ (af 1) (dC (.a6 1))))))) (a_ (aw (ao Uk (bL bg (aa (af 8) ag)) (bL bg (aa (af 6) ag)))))))
  (aG (dC (.bl false)))
  b7)
  (ah (ay 9 (cY (bU cO [1,2,3,4] (aa (bE (bL bg (aa (af 6) ag))) ag) bB (LL K a r))))
  (ah (cJ 10 cO (aa (bE (bL bg (aa (af 6) ag))) ag)
  (Cf K a r))
  (ah (ay 11 (cY (br [] (af 9) bB (LK K a r))))
  (ah (aL (a_ (aw (ao Uk (af 6) (af 11))))
  (aG (dC (.bl false)))
  b7)
  (ah (aL (a_ (aw (ao Uk (af 6) (cY (cj ag)))))
  (gR 6)
  b7)
  (aG (fq (bE (ao yn (nA (af 6) (dU (dC (.a6 1))) bR) (nA (af 11) (dU (dC (.a6 1))) bR))) (ao yn (ak (r vQ) (aa (ak (r tG) (aa (af 1) ag)) ag)) (af 11)))))))))))))))))))
def dd:aT->Fg->aI->(aT->aj W->FR)->aj S->SR
 |0=>Lg
 |1=>Eu
 |2=>JD
 |3=>Kf
 |4=>Kg
 |5=>Jl
 |6=>Jm
 |7=>LH
 |8=>Jg
 |9=>z2h
 |10=>Jn
 |11=>zas
 |12=>za7
 |13=>zaz
 |14=>IV
 |15=>L6
 |16=>Lh
 |17=>Jo
 |18=>JE
 |19=>IX
 |20=>IF
 |21=>Jp
 |22=>IB
 |23=>Ik
 |24=>JF
 |25=>IG
 |26=>Jh
 |27=>IH
 |28=>Il
 |29=>IY
 |30=>Ce
 |31=>Li
 |32=>Lj
 |33=>II
 |34=>zG
 |35=>Ew
 |36=>Kh
 |37=>IC
 |38=>JG
 |39=>Ki
 |40=>Ic
 |41=>IJ
 |42=>LJ
 |43=>ID
 |44=>IZ
 |45=>EA
 |46=>I_
 |47=>Io
 |48=>JH
 |49=>JI
 |50=>JJ
 |51=>Ip
 |52=>Iq
 |53=>Ja
 |54=>vS
 |55=>IL
 |56=>Ie
 |57=>Ir
 |58=>Jb
 |59=>Js
 |60=>IM
 |61=>Kj
 |62=>JK
 |63=>JL
 |64=>HZ
 |65=>Mi
 |_=>λ_ _ _ _=>.no
def HF(K:Fg)(a:aI)(r:aT->aj W->FR):aT->aj W->FR
 |66=>qL 2 (D_ K a r)
 |67=>qL 3 (Ef K a r)
 |68=>qL 2 (Eg K a r)
 |_=>λ_=>.no
def t6(K:Fg)(a:aI)(r:aT->aj W->FR)(i:aT):aj W->FR:=if i<66 then qF (ps i).aO (Ns i).aO (dd i K a r)else HF K a r i
def ll(K:Fg)(a:aI):aT->aT->aj W->FR
 |0,_=>λ_=>.no
 |n+1,i=>t6 K a (ll K a n) i
abbrev RR(i k m:aT)(d:Fg->aI->(aT->aj W->FR)->aj S->SR):Prop:=∀{K:Fg}{a:aI}{n:aT}{ws:aj W},ll K a (n+1) i ws=if ws.aO=k then(d K a (ll K a n) (ZO m ws)).fn else .no
theorem y3z:RR B9 2 5 Lg:=rfl
theorem Oq:RR rX 1 3 Eu:=rfl
theorem zbk:RR Jy 1 1 JD:=rfl
theorem za8:RR Kb 2 2 Kf:=rfl
theorem za9:RR BZ 1 1 Kg:=rfl
theorem zbP:RR zy 1 1 Jl:=rfl
theorem zbQ:RR Jw 1 1 Jm:=rfl
theorem y7u:RR tI 3 3 LH:=rfl
theorem zaA:RR El 3 3 Jg:=rfl
theorem zbR:RR Es 1 2 Jn:=rfl
theorem zaf:RR BO 1 2 IV:=rfl
theorem z2i:RR Fx 2 2 L6:=rfl
theorem y30:RR Le 1 1 Lh:=rfl
theorem zbS:RR Ji 1 5 Jo:=rfl
theorem zbl:RR Jz 2 2 JE:=rfl
theorem zag:RR IP 1 1 IX:=rfl
theorem zah:RR zt 1 1 IF:=rfl
theorem zbT:RR x9 2 2 Jp:=rfl
theorem zaP:RR Iw 1 3 IB:=rfl
theorem zaW:RR Ig 1 4 Ik:=rfl
theorem zbm:RR ED 1 1 JF:=rfl
theorem zai:RR vR 2 2 IG:=rfl
theorem zaB:RR Jf 2 2 Jh:=rfl
theorem zaj:RR uL 1 6 IH:=rfl
theorem zaX:RR zo 1 6 Il:=rfl
theorem zaC:RR zu 1 1 IY:=rfl
theorem Kl:RR oX 3 8 Ce:=rfl
theorem y31:RR Lf 2 2 Li:=rfl
theorem y32:RR yb 2 2 Lj:=rfl
theorem zak:RR Ec 3 4 II:=rfl
theorem OT:RR zD 4 7 zG:=rfl
theorem Ot:RR zC 5 5 Ew:=rfl
theorem y0a:RR Kc 2 2 Kh:=rfl
theorem zaQ:RR Iy 1 6 IC:=rfl
theorem zbn:RR JA 2 2 JG:=rfl
theorem y0b:RR EJ 2 9 Ki:=rfl
theorem XS:RR H_ 1 3 Ic:=rfl
theorem zal:RR Ed 2 6 IJ:=rfl
theorem y7v:RR Fi 1 6 LJ:=rfl
theorem zaR:RR IA 3 3 ID:=rfl
theorem zaD:RR Em 1 5 IZ:=rfl
theorem Ou:RR vQ 1 2 EA:=rfl
theorem Y0:RR En 1 2 I_:=rfl
theorem zaY:RR uK 1 2 Io:=rfl
theorem zbU:RR x_ 1 2 JH:=rfl
theorem zbV:RR BR 1 3 JI:=rfl
theorem Y':RR Jj 3 5 JJ:=rfl
theorem zaZ:RR Ih 1 1 Ip:=rfl
theorem za0:RR BN 2 2 Iq:=rfl
theorem Y1:RR Eo 2 2 Ja:=rfl
theorem zq:RR zx 2 4 vS:=rfl
theorem zam:RR Ee 2 4 IL:=rfl
theorem XT:RR D4 1 11 Ie:=rfl
theorem za1:RR D9 1 5 Ir:=rfl
theorem Y2:RR BK 2 5 Jb:=rfl
theorem Y3:RR Ep 1 3 Js:=rfl
theorem zan:RR tG 1 1 IM:=rfl
theorem y0c:RR EK 2 2 Kj:=rfl
theorem zbB:RR Et 5 10 JK:=rfl
theorem zbC:RR BS 4 8 JL:=rfl
theorem XW:RR D5 1 1 HZ:=rfl
theorem R0:RR Mh 1 12 Mi:=rfl
theorem za2:ll K a (n+1) xZ ws=if ws.aO=2 then gS (D_ K a (ll K a n) (ws.a7 .fr))else .no:=rfl
theorem zat:ll K a (n+1) IQ ws=if ws.aO=3 then gS (Ef K a (ll K a n) (ws.a7 .fr))else .no:=rfl
theorem zau:ll K a (n+1) IT ws=if ws.aO=2 then gS (Eg K a (ll K a n) (ws.a7 .fr))else .no:=rfl
abbrev MP(K:Fg)(mg:fv->fy eT)(i:aT):Prop:=∀f oc od fd sl,mg (n8 i)=ai (.dI f)->K.hW f=ai ⟨oc,od,.Zf fd,sl⟩->l8 K (n8 i) fd.θ
def HK:aj aT:=[31,42]
structure pd(P:wW)(w:uG)(K:Fg)(mg:fv->fy eT)(kT:g6)(a:aI)(n:aT):Prop where
 c:∀i,i<66->sN P w K mg kT (n+lv i) (n8 i) (ps i) (n0 K (ll K a n i))
 lam:sP P w K mg kT (ee P w) n (zV K bS (ll K a n))
def OO(i:aT):Prop:=∀{P:wW}{w:uG}{K:Fg}{mg:fv->fy eT}{kT:g6}{a:aI}{n:aT},yR P w K mg->iG K mg a->pd P w K mg kT a n->_l kT mg->(Ns i).yr->∀(f:f')(eD:eT)(A:FZ)(qp:aj MO)(s:oi)(H:Hp)(E:XK)(Z:Zt),bA (n+lv i) (A.Zu (Ku.M4.Ze (n8 i) (ba (s8 i)) s.bj.g0.d3 f eD))->(Z.H=H/\Z.io=[])->((HK._c i)=true->l8 K (n8 i) eD)->mY Z (hV (ee P w) P w K mg kT (Ns i) (n8 i) (ba (s8 i)) f eD A qp s H E) (λ_=>E) (cK (s8 i)) (dd i K a (ll K a n))
def cc{P:wW}{w:uG}{x:fv}{q:aj fv}(C:pd P w K mg kT a n)(h:i<66)(hx:n8 i=x)(hp:ps i=q):sN P w K mg kT (n+lv i) x q (n0 K (ll K a n i)):=by
 subst hx;subst hp;exact C.c i h
theorem lz{b c:aT}(h:b<=c):n+b<=n+c:=aT.add_le_add_left h n
set_option hygiene false
local macro_rules | `(tactic| try?) => do
 let l:=(("%0|dv _|z4r ? ?|z93|z9t|y9u ? ?|z4t ?|Q0a @ ? ? ?|Q40 ? ?|z97 _ nd ?|z96 ?|Q4y ? ? ?|z4s|z94 ?|z9v|Q4x ?|z6y ? ?|Q0t B.Mw ?|Q4s|y1c|Q5c # ? ?|z95 ?|z9w ?|=z43 rfl ? ! ? ? ?|Q0n ? ?|Q5d # ? ?|z9z ?|z98 _ nd ?|Q0i _ ?|z4y _ nd PassesOwn.leaving rfl B.tX ? ?|z9u|Q45 # ? ?|z45 ? ?|z4v ?|Q5a ? ?|y94|Q4u ? ?|y6s ?|Q0m ? ?|z42 ?|z46|z47 ?|y92 ? ? ?|y6r ?|=z0r rfl ? ! ? ? ?|z99 _ nd PassesOwn.leaving rfl ? ?|y9w _ PassesOwn.leaving ? ?|z9x ?|z9y ? ?|z91 ? ?|y93 B.tY ?|Q48 ? ?|=y91 rfl B.tX ? ! ? ? ?|Q47 ? ?|Q2d rfl B.Mu ?|z92 ?|z4q ?|z0s ?|z49 _ B.Mw|Q0g _ ?|z4u ?|z6g _ _ nd PassesOwn.leaving rfl ? ?|%1|z4w _|Q2y B.Mz ?|Q4w ? ? ?|Q0r ? ?|Q5e ? ?|Q2c # ? ?|%2|Q0l ? ?|Q42 ? ?|Q0p ?|y6l ? ?|q9d M.tE M.sT|z58 B.Aw ?|z5a B.wL ?|Q4v ? ?|z6i B.vg ?|Q22 rfl B.Mv ?|z71 @ ? B.Ay ?|pv _|z68 rfl B.Mx ?|=y3c _ nd rfl ? ! ? ? ?|Q5b ? ?|Q46 # ? ?|%3|y51 rfl B.tY B.wM ?|Q3l B.E_ ?|z6b ? ?|q9d M.mG M.mm|q9d M.mF M.ml|Q0q ? ?|Q2f _ ?|z1u B.vg ?|%4|%5|%6|Q6s # ? ?|Q43 ? ?|z1o _ _ nd ?|%7|z7f # ? ?|z7h _ # ? ?|Q3c # ? ?|Q2t ? ?|%8|z63 M.nt # ? ?|z64 B.Mw ?|z66 _ M.nt # ? ?|Q25 M.nt # ? ?|%9|Q3f ? ?|%10|Q2g _ ? ?|y9y OH M.wX M.xN rfl ?|Q3n @ ? ?|%11|q9d M.uA M.ub|q9d M.rK M.qS|z6s ? ?|Q49 ? ?|Q0o ? ?|Q44 ? ?|y57 # ? ?|z7j ?|z74 M.xN ? ?|y7q _ nd @ ? ? ?|=x9z _ nd rfl B.tX ? ! ? ? ?|%12|V7 ?|z90 ?".splitOn "|").map fun s=>s.splitOn " ").reverse
 let q:=#[←`(tactic| refine y7n (hsc := rfl) (hN := rfl) ⟨rfl, λ_ _ => rfl, λ_ => rfl, by decide +kernel, by decide +kernel⟩ rfl B.tX ?_ (XC (by kernel_rfl)) ?_ ?_ ?_),←`(tactic| refine Fv (c0 := .ty _) rfl (Fe PyProof.Rows.Boot.«tuple» B.tY) B.dE ?_),←`(tactic| refine Fv (c0 := .ty _) rfl (Fe PyProof.Rows.Boot.«bool» B.wK) B.dE ?_),←`(tactic| refine Fv (c0 := .ty _) rfl (Fe PyProof.Rows.Boot.«list» B.wL) B.dE ?_),←`(tactic| refine Fv (c0 := .ty _) rfl (Fe PyProof.Rows.Boot.«int» B.Aw) B.dE ?_),←`(tactic| refine z13 _ hz.2 ?_),←`(tactic| refine z7w (hsc := rfl) (hN := rfl) _ EF (by exact C.lam) ?_ rfl B.Ax (by exact Mg (A7 rfl) BM) (λ_ => rfl) ?_ Zn (nj (by kernel_rfl))),←`(tactic| refine z1n _ (by exact C.lam) ?_ ?_ ?_ ?_),←`(tactic| refine z65 _ (.many (.tup [.many .bl, .int])) nd),←`(tactic| refine Pc (hsc := rfl) (hN := rfl) 67 zE (by exact cc C (by decide) (by rfl) (by rfl)) ?_ ?_ (by exact Mg (A7 rfl) BM) (λ_ => rfl) ?_ (nj (by kernel_rfl))),←`(tactic| refine Pc (hsc := rfl) (hN := rfl) 68 zF (by exact cc C (by decide) (by rfl) (by rfl)) ?_ ?_ (by exact Mg (A7 rfl) BM) (λ_ => rfl) ?_ (nj (by kernel_rfl))),←`(tactic| refine y7p (hsc := rfl) (hN := rfl) hz.2 rfl ?_ (nj (by kernel_rfl)) ?_ ?_),←`(tactic| refine z16 _ hz.1 (HX _ (HW _ (VL _))))]
 let mut x←`(tactic| first | exact uR 0 (Bw (by kernel_rfl)) | exact UP (Bw (by kernel_rfl)) rfl | exact BE | exact BF | exact hr | exact hr.mono (lz (by decide)) | exact hr.mono (Nat.le_add_right _ _) | assumption | decide)
 for r in l do
  let s:=r.head!
  let a←r.tail!.toArray.mapM λa=>match a with|"?"=>`(?_)|"_"=>`(_)|"!"=>`((nj (by kernel_rfl)))|"@"=>`((by exact cc C (by decide) (by rfl) (by rfl)))|"#"=>`((XN hr))|a=>pure ⟨Lean.mkIdent a.toName⟩
  let f:=Lean.mkIdent (s.dropWhile (·=='=')).toName
  let y:Lean.TSyntax `tactic←if s.startsWith "%" then pure q[(s.drop 1).toNat!]! else if s.startsWith "=" then `(tactic| refine $f:ident (hsc := rfl) (hN := rfl) $a*) else let z:=Lean.Syntax.mkApp f a; `(tactic| refine $z)
  x←`(tactic| first | $y:tactic | $x:tactic)
 `(tactic| (intros; $x:tactic) <;> try?)
local macro_rules | `(tactic| walk_at "o") => `(tactic| (intro P w K mg base a n B M C BM nd f eD A outer s H E Z hr hz A7; try?))
set_option hygiene true
seal hX fq eS gR bE a_ dC ak iJ br cX bU aa hZ nu bL i5 i6 iW cJ cY vk aL fK jD dR dList cj eU kB ag oC bR eE kC gB b7 ao kZ nv dU pB kD me jE kE aG dW h9 gD jF ah ay iK f9 cV mf nA jG aw cP jH bo nB af bB mO j5 j6 lQ bw
def z2j:OO 0:=by walk_at "o"
def y0d:OO 1:=by walk_at "o"
def y33:OO 2:=by walk_at "o"
def y7w:OO 3:=by walk_at "o"
def y7x:OO 4:=by walk_at "o"
def y0e:OO 5:=by walk_at "o"
def y0f:OO 6:=by walk_at "o"
def z75:OO 7:=by walk_at "o"
def zbo:OO 8:=by walk_at "o"
def z2k:OO 9:=by walk_at "o"
def y0g:OO 10:=by walk_at "o"
def zav:OO 11:=by walk_at "o"
def y0h:OO 12:=by walk_at "o"
def Y4:OO 13:=by walk_at "o"
def zbD:OO 14:=by walk_at "o"
def Vb:OO 15:=by walk_at "o"
def z2l:OO 16:=by walk_at "o"
def y0i:OO 17:=by walk_at "o"
def y34:OO 18:=by walk_at "o"
def zbE:OO 19:=by walk_at "o"
def zbF:OO 20:=by walk_at "o"
def y0j:OO 21:=by walk_at "o"
def zaw:OO 22:=by walk_at "o"
def zaa:OO 23:=by walk_at "o"
def y35:OO 24:=by walk_at "o"
def zbG:OO 25:=by walk_at "o"
def zbp:OO 26:=by walk_at "o"
def zbH:OO 27:=by walk_at "o"
def zab:OO 28:=by walk_at "o"
def zbq:OO 29:=by walk_at "o"
def z76:OO 30:=by walk_at "o"
def z2m:OO 31:=by walk_at "o"
def z2n:OO 32:=by walk_at "o"
def zbI:OO 33:=by walk_at "o"
def y7y:OO 34:=by walk_at "o"
def y0k:OO 35:=by walk_at "o"
def y7z:OO 36:=by walk_at "o"
def zax:OO 37:=by walk_at "o"
def y36:OO 38:=by walk_at "o"
def y70:OO 39:=by walk_at "o"
def zaS:OO 40:=by walk_at "o"
def zbJ:OO 41:=by walk_at "o"
def z77:OO 42:=by walk_at "o"
def zay:OO 43:=by walk_at "o"
def zbr:OO 44:=by walk_at "o"
def y0l:OO 45:=by walk_at "o"
def zbs:OO 46:=by walk_at "o"
def zac:OO 47:=by walk_at "o"
def y0m:OO 48:=by walk_at "o"
def y0n:OO 49:=by walk_at "o"
def y0o:OO 50:=by walk_at "o"
def zad:OO 51:=by walk_at "o"
def zae:OO 52:=by walk_at "o"
def zbt:OO 53:=by walk_at "o"
def zbu:OO 54:=by walk_at "o"
def zbX:OO 55:=by walk_at "o"
def zaT:OO 56:=by walk_at "o"
def zaE:OO 57:=by walk_at "o"
def zbv:OO 58:=by walk_at "o"
def zbw:OO 59:=by walk_at "o"
def zbY:OO 60:=by walk_at "o"
def y71:OO 61:=by walk_at "o"
def y0p:OO 62:=by walk_at "o"
def y0q:OO 63:=by walk_at "o"
def za3:OO 64:=by walk_at "o"
def VM:OO 65:=by walk_at "o"
theorem y0r{P:wW}{w:uG}(B:yR P w K mg)(M:iG K mg a)(C:pd P w K mg kT a n):l7 P w K mg kT n EF ["number"] (qL 2 (D_ K a (ll K a n))):=
 xI ⟨rfl,rfl,rfl,by decide +kernel,by decide +kernel,by decide +kernel,by decide +kernel⟩ (λcl pm c' eJ=>us1 λ_=>rfl) λZ f cd cl A qp s H hr=>by try?
theorem y37{P:wW}{w:uG}(B:yR P w K mg)(M:iG K mg a)(C:pd P w K mg kT a n):l7 P w K mg kT n zE ["kind"] (qL 3 (Ef K a (ll K a n))):=
 xI ⟨rfl,rfl,rfl,by decide +kernel,by decide +kernel,by decide +kernel,by decide +kernel⟩ (λcl pm c' eJ=>us1 λ_=>rfl) λZ f cd cl A qp s H hr=>by try?
theorem y38{P:wW}{w:uG}(B:yR P w K mg)(M:iG K mg a)(C:pd P w K mg kT a n):l7 P w K mg kT n zF ["place"] (qL 2 (Eg K a (ll K a n))):=
 xI ⟨rfl,rfl,rfl,by decide +kernel,by decide +kernel,by decide +kernel,by decide +kernel⟩ (λcl pm c' eJ=>us1 λ_=>rfl) λZ f cd cl A qp s H hr=>by try?
unseal hX fq eS gR bE a_ dC ak iJ br cX bU aa hZ nu bL i5 i6 iW cJ cY vk aL fK jD dR dList cj eU kB ag oC bR eE kC gB b7 ao kZ nv dU pB kD me jE kE aG dW h9 gD jF ah ay iK f9 cV mf nA jG aw cP jH bo nB af bB mO j5 j6 lQ bw
theorem zz:∀i,i<66->OO i
 |0,_=>z2j
 |1,_=>y0d
 |2,_=>y33
 |3,_=>y7w
 |4,_=>y7x
 |5,_=>y0e
 |6,_=>y0f
 |7,_=>z75
 |8,_=>zbo
 |9,_=>z2k
 |10,_=>y0g
 |11,_=>zav
 |12,_=>y0h
 |13,_=>Y4
 |14,_=>zbD
 |15,_=>Vb
 |16,_=>z2l
 |17,_=>y0i
 |18,_=>y34
 |19,_=>zbE
 |20,_=>zbF
 |21,_=>y0j
 |22,_=>zaw
 |23,_=>zaa
 |24,_=>y35
 |25,_=>zbG
 |26,_=>zbp
 |27,_=>zbH
 |28,_=>zab
 |29,_=>zbq
 |30,_=>z76
 |31,_=>z2m
 |32,_=>z2n
 |33,_=>zbI
 |34,_=>y7y
 |35,_=>y0k
 |36,_=>y7z
 |37,_=>zax
 |38,_=>y36
 |39,_=>y70
 |40,_=>zaS
 |41,_=>zbJ
 |42,_=>z77
 |43,_=>zay
 |44,_=>zbr
 |45,_=>y0l
 |46,_=>zbs
 |47,_=>zac
 |48,_=>y0m
 |49,_=>y0n
 |50,_=>y0o
 |51,_=>zad
 |52,_=>zae
 |53,_=>zbt
 |54,_=>zbu
 |55,_=>zbX
 |56,_=>zaT
 |57,_=>zaE
 |58,_=>zbv
 |59,_=>zbw
 |60,_=>zbY
 |61,_=>y71
 |62,_=>y0p
 |63,_=>y0q
 |64,_=>za3
 |65,_=>VM
 |_+66,h=>uv h (by omega)
section
variable{P:wW}{w:uG}
theorem rM(A:∀i,i<66->At K mg (n8 i) (s8 i) (ps i))(B:yR P w K mg)(M:iG K mg a)(BM:_l kT mg)(MK:∀i∈HK,MP K mg i):∀n,pd P w K mg kT a n
 |0=>⟨λi h=>AA (A i h),Gh⟩
 |n+1=>⟨λi h=>by
  rw[show n+1+lv i=n+lv i+1 from aT.add_right_comm n 1 (lv i),show ll K a (n+1) i=_ from mS h];exact F_ (A i h) (λz=>MK i (w5c.mp z)) (E7 h) (zz i h B M (rM A B M BM MK n) BM (E7 h).nd),U8 λi l h=>by
  unfold bS at h;split at h
  .cases h;exact⟨_,y0r B M (rM A B M BM MK n)⟩
  .cases h;exact⟨_,y37 B M (rM A B M BM MK n)⟩
  .cases h;exact⟨_,y38 B M (rM A B M BM MK n)⟩
  .cases h⟩
end
theorem at_k{h:g6}{x:fv}{st:Dn}{ps:aj fv}{f:f'}{od an:fy f'}{sl:yw (fy eT)}{oc kV dc pm cd ct:eT}(X:K.In h)(G:h.Ns Yd mg)(a:lU.W._y K Yd x=ai (ai (.dI f)))(l:K.hW f=ai ⟨oc,od,.Zf (lU.W._M x x (er st) (cK st) (ba st) .none kV dc pm an cd ct),sl⟩)(c:lU.W._s K cd x=true)(k:_x K (.dI f)=true)(hb:∀(kV Yn pm:eT)(an:fy f')(eD ct:eT)(us:aj eT),us.aO=ps.aO->γ (lU.W._M x x (er st) (cK st) (ba st) .none kV Yn pm an eD ct) ⟨us,[]⟩=uV (ps.wt us)):At K mg x st ps:=
 ⟨⟨_,_,SG l c k,lU.W.mg_of X G a,(SG l c k).ζ hb⟩⟩
theorem mk_k{h:g6}{x:fv}{st:Dn}{f:f'}{od an:fy f'}{sl:yw (fy eT)}{oc kV dc pm cd ct:eT}{cc PP:f'}(X:K.In h)(G:h.Ns Yd mg)(a:lU.W._y K Yd x=ai (ai (.dI f)))(l:K.hW f=ai ⟨oc,od,.Zf (lU.W._M x x (er st) (cK st) (ba st) .none kV dc pm an cd ct),sl⟩)(v:cd=.dI cc)(hh:Ø K cc PP=true)(m:(Yd,ip PP ((x++".<locals>.")++"<lambda>"))∈K):∀f oc od fd sl,mg x=ai (.dI f)->K.hW f=ai ⟨oc,od,.Zf fd,sl⟩->l8 K x fd.θ:=λf oc od fd sl e1 e2=>by
 have z:=(lU.W.mg_of X G a).symm.lb e1;cases z;rw[l]at e2;cases e2;exact⟨cc,PP,_,v,hh,m⟩
def mk{l:lU.W._Y}{w:uG}{fa:f'}{p0 p1 p2 p3 p4:f'}{zdn zdo zdp p8 zdq:eT}(WJ:mg "law"=ai (.dI fa))(A:∀i,i<66->At K mg (n8 i) (s8 i) (ps i))(B:yR l.jf w K mg)(M:iG K mg ⟨p0,p1,p2,p3,p4,zdn,zdo,zdp,p8,zdq⟩)(MK:∀i∈HK,MP K mg i)(n:aT)(hL:∀a:aI,iG K mg a->∀ns:aj dr,Dg ns->ll K a (n+1) Mh [.dS (ns.a7 .a6)]=.ok (.fr (.bl true))):
  ∃fd:Zo,(∀(s:oi)(v:eT),_C s fd ⟨[v],[]⟩ [("_law_script", v)])/\∀kT:g6,K.In kT->kT.Ns Yd mg->_l kT mg->eN l.jf w K mg kT (ee l.jf w) (n+3) fa fd ["_law_script"] (lP K):=by
 let⟨f,fd,F,m,_⟩:=(A 65 (by decide)).ex;cases WJ.symm.lb m;have F':=F;let⟨_,_,_,_,_,_,_,_,_,rfl,_⟩:=F.ex;exact⟨_,λs v=>.Á rfl,λkT _ _ BM=>(vj F' m (λz=>MK 65 (w5c.mp z)) (E7 (by decide)) (zz 65 (by decide) B M (rM A B M BM MK n) BM (E7 (by decide)).nd)).uX λvs H Q E q=>y7j (hL _ M) q⟩
open F1
local macro_rules | `(tactic| rw?) => do
 let l:=(("z14 z15 z72 y7r z17 y7s z19 z2a z1r y7c y3u NR z1s z1p z1q z7o z7k y7a z7l z7m z7n z1l z1m Q3d Q6z z69 z7a z7b Q28 z7d z1i y96 z6t z6u z6v z6w z09 y6x y6y y6t y3l y6u y6v y3m y3n y3o x91 z07 y6w z08 z6o z6p Q2z z02 z03 z04 z05 Q2k z0l z0m y59 z6e y6a y6b z0n Q2l z0o z0p y6c z6f Q2m Q2n Q2o z6j z0t z0u z0v z0w z0x z0y y6g Q2q z6k Q2r y3k z0z z00 Q0x Q0y Q0z Q00 Q01 Q02 Q03 z5f z5b z5c z5d y95 y5s Q0v Q0w z5e Q5f Q5g Q5h Q5i Q04 y3e y3f y5t Q05 Q06 z5g V6 Q5j Q5k z5h z5i Q07 Q08 Q5l Q09 z5j Q1a Q1b Q5m z5k Q1c Q5n Q1d z5l Q1e Q1f Q5o Q5p z5m Q5q Q5r z5n Q1g z5o z5p z5q Q1h Q1i Q1j z5r z5s z5t y98 z5u z5v y99 y5u z0a y5v Q1k z5w y5w zJ z5x z5y y1f z5z z50 z0b Q1l y5x Q5s Q1m Q1n Q1o z51 Q1p Q5u Q5v z0c Q5w y5y z52 z0d Q1q Q1r z53 z54 z0e y3g y3h Q1s z0f y5z z55 z0g Q1t Q1u Q1v Q1w Q1x z56 Q1y Q1z Q5x Q5y Q5z Q50 Q51 Q52 Q53 Q54 z3s Q55 Q56 Q57 Q58 Q59 Q6a Q6b Q6c Q6d Q10 Q11 Q12 Q13 Q14 Q15 Q16 Xs Xr Q6e Q6f Q6g Q6h Q6i Q6j Q6k Q6l Q6m Q6n Q6o Q6p Q6q X3 X2 X5 X4 X8 at0 Dp at2 Q18 cO XX init Option.map_some Option.bind_some List.map_cons List.map_nil List.length_cons List.length_nil List.replicate_succ List.replicate_zero List.cons_append List.nil_append List.getElem?_cons_zero List.getElem?_cons_succ List.set_cons_zero List.set_cons_succ if_true if_false decide_eq_true_eq reduceIte Bool.false_eq_true ite_true ite_false Nat.reduceSub Nat.reduceAdd Nat.reduceLeDiff Nat.zero_add Nat.le_refl Int.reduceLT Int.reduceLE Int.reduceNeg true_and and_true true_or or_true false_and and_false false_or or_false not_true_eq_false not_false_eq_true decide_true decide_false Bool.not_true Bool.not_false String.reduceEq Nat.reduceEqDiff z0h Q6t Q6u Int.reduceToNat Int.reducePow Nat.reduceLT MA MC Int.reduceEq Int.reduceMod Int.reduceDiv Int.reduceAdd Int.reduceSub Int.reduceMul Q61 z7q z1v Q62 z1w z7r z7s y97 z1z Q3j Q5t z7v z70".splitOn " ").map fun s=>Lean.mkIdent s.toName).toArray
 `(tactic| try simp only [$[$l:ident],*])
section
def Q2(n)(ns:aj dr)  (hk:0<=k):ll K a (n+1) BN [.dS (ns.a7 .a6),.a6 k]=.ok (.fr (.a6 (ns.jd k.sG 0))):=by
 rw[za0];unfold Iq;rw?
 by_cases h:k<ns.aO
 .rw[mS (by simpa using h),UA hk]
  have e:(ns.a7 W.a6)[k.sG]?=ai (.a6 (ns.jd k.sG 0)):=by
   have:k.sG<ns.aO:=by omega
   simp[aj.jd,this]
  rw[e];rw?
 grind
theorem Qk   (st:S->aj S)(p)(rt:W->S):∀(ws:aj W)(z:S),(∀w∈ws,∀z,(p w=true->∃e',b ((st z).ri i (.fr w))=.rt (rt w) e')/\(p w=false->∃z',b ((st z).ri i (.fr w))=.nx (st z'))) ->
  (∀w,ws.ϳ p=ai w->∃e',cL i b ws (st z)=.rt (rt w) e')/\(ws.ϳ p=none->∃z',cL i b ws (st z)=.nx (st z'))
 |[],z,h=>⟨λw q=>by simp at q,λ_=>⟨z,rfl⟩⟩
 |w::ws,z,h=>by
  let⟨h1,h2⟩:=h w (by simp) z;cases q:p w with
  |true=>
   grind [vU,y1f]
  |false=>
   let⟨z',h3⟩:=h2 q;have ih:=Qk st p rt ws z' λu hu=>h u (by simp[hu])
   rw[aj.find?_cons_of_neg (by simp[q]),vU,h3,zJ];exact ih
def Ov(n)(m)(h0:0<=m)(h1:m<1000):ll K a (n+1) rX [.a6 m]=.ok (.fr (.a6 (2^m.sG))):=by
 rw[Oq];unfold Eu;rw?;rw[mS (pP (by omega) (by omega))];rw?
 let⟨e',h2,z,rfl⟩:=qj (b:=BP K a (ll K a n)) (i:=2) (lo:=0) (hi:=m) m.sG (by omega) (λj e=>∃z,e=[.fr (.a6 m),.fr (.a6 (2^j)),z]) [.fr (.a6 m),.fr (.a6 1),.no] ⟨_,rfl⟩ (by
  rintro j e hj ⟨z,rfl⟩;unfold BP;rw?;exact⟨_,rfl,_,by rw[w4m,w5y]⟩)
 rw[h2];rw?
def lg(n:aT):fy aT:=(aj.u5 11).ϳ λm=>decide (2^m=n)
def lH(a:aI):fy aT->FR
 |ai m=>.ok (.fr (.a6 m))
 |none=>.no
def zbb(n)(ws):ll K a (n+2) Es [.dS ws]=lH a (lg ws.aO):=by
 rw[zbR];unfold Jn;rw?;rw[mS (pP (by omega) (by omega))];rw?;have e:bN 0 11=(aj.u5 11).a7 fun(k:aT)=>W.a6 (0+(k:dr)):=rfl
 have h:=Qk (i:=1) (b:=IU K a (ll K a (n+1))) (λz=>[.fr (.dS ws),z]) (λw=>match w with|.a6 k=>decide ((ws.aO:dr)=2^k.sG)|_=>false) (λw=>.fr w) (bN 0 11) .no (by
  intro w hw z;rw[e]at hw;let⟨k,hk,rfl⟩:=w0r.mp hw;rw[w0u]at hk;unfold IU;rw?;rw[Ov n _ (by omega) (by omega)];rw?
  simp_all)
 have e2:(bN 0 11).ϳ (λw=>match w with|.a6 k=>decide ((ws.aO:dr)=2^k.sG)|_=>false)=(lg ws.aO).a7 fun(k:aT)=>W.a6 (0+(k:dr)):=by
  rw[e,aj.find?_map];unfold lg;congr 2;funext k
  simp only[Function.comp];rw[show(0+(k:dr)).sG=k by omega]
  grind
 rw[e2]at h;cases q:lg ws.aO with
 |ai m=>
  rw[q]at h;let⟨e',h1⟩:=h.1 _ rfl;rw[h1];rw?;simp[lH]
 |none=>
  rw[q]at h;let⟨z',h1⟩:=h.2 rfl;rw[h1];rw?;rfl
def z78(n)(i m)(h0:0<=m)(h1:m<1000)(hi:i.υ<2^1000):ll K a (n+1) B9 [.a6 i,.a6 m]=if wV m.sG i=0 then .ok (.fr (.gw ((Y_ m.sG i).V3.a7 .bl)))else .no:=by
 rw[y3z];unfold Lg;rw?;rw[mS (pP (by omega) (by omega))];rw?
 let⟨e',h2,z,rfl⟩:=qj (b:=JC K a (ll K a n)) (i:=4) (lo:=0) (hi:=m) m.sG (by omega) (λj e=>∃z,e=[.fr (.a6 i),.fr (.a6 m),.ke none ((Y_ j i).a7 .bl),.fr (.a6 (wV j i)),z]) [.fr (.a6 i),.fr (.a6 m),.ke none [],.fr (.a6 i),.no] ⟨_,rfl⟩ (by
  rintro j e hj ⟨z,rfl⟩;unfold JC;rw?;rw[mS (by rw[w0a,B8];omega)];rw?;exact⟨_,rfl,_,by rw[Qh,Qi,w1b];rfl⟩)
 rw[h2];rw?
 simp_all
def zeT{i:dr}(h1:0<=i)(h2:i<100000):i.υ<2^1000:=by
 grind
def bP(m:aT)(k:aT):aj ie:=(Y_ m (k:dr)).V3
def nW(m k):(bP m k).aO=m:=by unfold bP;rw[w4d,B8]
def R1(n){k m:aT}(hk:k<2^m)(hm:m<=10):ll K a (n+1) B9 [.a6 (k:dr),.a6 (m:dr)]=.ok (.fr (.gw ((bP m k).a7 .bl))):=by
 have AJ:(2:aT)^m<=2^10:=w0s (by decide) hm;have AK:(2:aT)^10=1024:=by decide
 have Nb:(k:dr)<2^m:=by exact_mod_cast hk
 rw[z78 n k m (by omega) (by omega) (zeT (by omega) (by omega)),mS (Qj (by omega) (by simpa using Nb))];rw[w1v];rfl
def z79(m):(2:dr)^m=((2^m:aT):dr):=by exact_mod_cast rfl
def PB(q:aT):bN 0 (q:dr)=(aj.u5 q).a7 λk=>W.a6 ((k:aT):dr):=by
 simp_all [bN]
def zbx(n){m:aT}(hm:m<=10):ll K a (n+2) Jy [.a6 (m:dr)]=.ok (.ke none ((aj.u5 (2^m)).a7 λk=>W.gw ((bP m k).a7 .bl))):=by
 have AJ:(2:aT)^m<=2^10:=w0s (by decide) hm;have AK:(2:aT)^10=1024:=by decide
 have hp0:0<(2:aT)^m:=aT.pow_pos (by decide);rw[zbk];unfold JD;rw?;rw[Ov n m (by omega) (by omega)];rw?;rw[w1v,z79,mS (pP (by omega) (by omega))];rw?;rw[mS (by rw[J7];omega)];simp only[cM,iw,w0d,w0g];rw[PB,D.QA (g:=λw=>match w with|.a6 k=>W.gw ((bP m k.sG).a7 .bl)|w=>w)]
 .rw?;rw[w0z];rfl
 .intro w hw;let⟨k,hk,rfl⟩:=w0r.mp hw;rw[w0u]at hk;unfold OC;rw?;rw[R1 n hk hm];rw?;exact⟨_,rfl⟩
def eo:fy ie->W
 |none=>.aC
 |ai b=>.bl b
def mt:aj (fy ie)->aj ie->ie
 |o::c,b::r=>(o==none||o==ai b)&&mt c r
 |_,_=>true
def dJ(c:aj (fy ie)):aj aT:=(aj.u5 (2^c.aO)).DV λk=>mt c (bP c.aO k)
theorem v5{cc:j' ie}   {α:Type}{q:α->ie}{g:α->W}{en:α->W}:∀(xs:aj α),(∀x∈xs,∃e1,cc (.fr (en x)::pe)=.ok (q x) e1/\(q x=true->∃e2,d e1=.ok (g x) e2))->cS cc d pe (xs.a7 en)=ai ((xs.DV q).a7 g)
 |[],_=>rfl
 |x::xs,h=>by
  let⟨e1,h1,h2⟩:=h x (by simp);have ih:=v5 (cc:=cc) (d:=d) (pe:=pe) (q:=q) (g:=g) (en:=en) xs λu hu=>h u (by simp[hu])
  rw[w0n,P_,h1,ih]
  grind
def lJ   {g:α->W}{en:α->W}(xs:aj α)(h:∀x∈xs,∃e2,d (.fr (en x)::pe)=.ok (g x) e2):cS bB d pe (xs.a7 en)=ai (xs.a7 g):=by
 rw[v5 (cc:=bB) (q:=λ_=>true) (g:=g) xs λx hx=>⟨_,rfl,λ_=>h x hx⟩,w4e.uY λ_ _=>rfl]
theorem ä  (hm:m<=10):2^m<=1024:=w0q (w0s (by decide) hm) (by decide)
theorem OU(r0):∀(c:aj (fy ie))(r:aj ie),du bB (Jk K a r0) [] ((c.a7 eo).wt (r.a7 .bl))=ai (((c.wt r).a7 λp=>(p.1==none||p.1==ai p.2)).a7 .bl)
 |[],_=>rfl
 |_::_,[]=>rfl
 |o::c,b::r=>by
  have ih:=OU r0 c r;simp only[w0n,w3l];rw[BV,ih];unfold Jk;cases o with
  |none=>
   simp only[eo];rw?;rfl
  |ai d=>
   simp only[eo];rw?;cases d<;>cases b<;>rfl
theorem Tb:∀(c:aj (fy ie))(r:aj ie),((c.wt r).a7 λp=>(p.1==none||p.1==ai p.2)).rM id=mt c r
 |[],_=>by cases ‹aj ie›<;>rfl
 |_::_,[]=>rfl
 |o::c,b::r=>by
  simp only[w3l,w0n,w2v,id,mt];rw[Tb c r]
def y0s(n)   (h:c.aO=r.aO)(hl:r.aO<=1000):ll K a (n+1) Kb [.gw (c.a7 eo),.gw (r.a7 .bl)]=.ok (.fr (.bl (mt c r))):=by
 rw[za8];unfold Kf;rw?;simp only[w0a,h];rw?;rw[mS (by simp[w2t];omega),OU];rw?;rw[FG];rw?;rw[Tb]
theorem PD  : ∀(N j:aT),cn j ((aj.range' j N).a7 f)=(aj.range' j N).a7 fun(k:aT)=>(W.a6 ((k:aT):dr),f k)
 |0,_=>rfl
 |N+1,j=>by
  rw[aj.range'_succ,w0n,w0n,<- PD N (j+1)];rfl
def OV  (N):cn 0 ((aj.u5 N).a7 f)=(aj.u5 N).a7 fun(k:aT)=>(W.a6 ((k:aT):dr),f k):=by
 rw[aj.range_eq_range'];exact PD N 0
theorem Lk{cc:j' ie}{d:j' W}{pe:aj S}{α:Type}{q:α->ie}{g:α->W}{en:α->W×W}:∀(xs:aj α),(∀x∈xs,∃e1,cc (.fr (en x).1::.fr (en x).2::pe)=.ok (q x) e1/\(q x=true->∃e2,d e1=.ok (g x) e2))->du cc d pe (xs.a7 en)=ai ((xs.DV q).a7 g)
 |[],_=>rfl
 |x::xs,h=>by
  let⟨e1,h1,h2⟩:=h x (by simp);have ih:=Lk (cc:=cc) (d:=d) (pe:=pe) (q:=q) (g:=g) (en:=en) xs λu hu=>h u (by simp[hu])
  rw[w0n,BV,h1,ih];cases hq:q x with
  |true=>
   let⟨e2,h3⟩:=h2 hq;simp only[hq,h3,w2q,_N];rfl
  |false=>simp[hq,w2q]
def JM(n)  (hc:c.aO<=10):ll K a (n+3) BZ [.gw (c.a7 eo)]=.ok (.ke none ((dJ c).a7 fun(k:aT)=>W.a6 (k:dr))):=by
 have AJ:=ä hc;rw[za9];unfold Kg;rw?;rw[w0a,zbx n hc];rw?;rw[OV,mS (by rw[w0a,w1a];omega)];simp only[cM,iw,w0d,w0g];rw[Lk (q:=λk=>mt c (bP c.aO k)) (g:=fun(k:aT)=>W.a6 (k:dr))]
 .rw?;rfl
 .intro k hk;unfold O4 O2;rw?;rw[y0s (n+1) (by rw[nW]) (by rw[nW];omega)];rw?;exact⟨_,rfl,λ_=>⟨_,rfl⟩⟩
def gj   : k∈dJ c↔k<2^c.aO/\mt c (bP c.aO k)=true:=by
 unfold dJ;rw[w1l,w0u]
def R3(c):(dJ c).aO<=2^c.aO:=by
 unfold dJ
 grind
def Vc{m:aT}(h:m<=10):lg (2^m)=ai m:=by
 have:m=0\/m=1\/m=2\/m=3\/m=4\/m=5\/m=6\/m=7\/m=8\/m=9\/m=10:=by omega
 rcases this with h|h|h|h|h|h|h|h|h|h|h<;>(subst h;decide)
def LN(n)  {m:aT}(hw:ws.aO=2^m)(hm:m<=4):ll K a (n+3) BO [.dS ws]=.ok (.fr (.a6 m)):=by
 rw[zaf];unfold IV;rw?;rw[zbb n,hw,Vc (by omega)];unfold lH;rw?;rw[sF (by omega)]
def i8(c w:aj (fy ie)):ie:=(dJ c).rM λk=>w.jd k none != ai false
def y73(o):fR (eo o) (.bl false)=ai (.bl (o != ai false)):=by
 cases o with
 |none=>rfl
 |ai b=>cases b<;>rfl
def yl{w:aj (fy ie)}  (h:k<w.aO):d8 (w.a7 eo) (k:dr)=ai (eo (w.jd k none)):=by
 refine oW ?_;simp[aj.jd,h]
def Q3(n)  (hw:w.aO=2^c.aO)(hc:c.aO<=4):ll K a (n+4) Fx [.gw (c.a7 eo),.dS (w.a7 eo)]=.ok (.fr (.bl (i8 c w))):=by
 have AJ:=ä (show c.aO<=10 by omega);rw[z2i];unfold L6;rw?;rw[LN n (by rw[w0a];exact hw) hc];rw?;simp only[w0a];rw?;rw[JM n (by omega)];rw?;rw[mS (by rw[w0a];have:=R3 c;omega)];simp only[cM,iw,w0d,w0g];rw[lJ (g:=λk=>W.bl (w.jd k none != ai false))]
 .rw?;have e:(dJ c).a7 (λk=>W.bl (w.jd k none != ai false))=((dJ c).a7 λk=>w.jd k none != ai false).a7 .bl:=by rw[w0z];rfl
  rw[e,FG];rw?;unfold i8;rw[w4i];rfl
 .intro k hk;have h1:=gj.mp hk;unfold Q0;rw?;rw[yl (by omega)];rw?;rw[y73];exact⟨_,rfl⟩
def aB(c:aj (fy ie)):W:=.gw (c.a7 eo)
def mX(c:aj (fy ie)):aj (aj (fy ie)):=[c++[none],c++[ai false],c++[ai true]]
def bq:aT->aj (aj (fy ie))
 |0=>[[]]
 |m+1=>(bq m).ϴ mX
theorem BX:∀m,(bq m).aO=3^m
 |0=>rfl
 |m+1=>by
  show((bq m).ϴ mX).aO=_;rw[aj.length_flatMap]
  have:∀l:aj (aj (fy ie)),(l.a7 λc=>(mX c).aO).sum=3*l.aO:=by
   intro l
   induction l with
   |ro=>rfl
   |p9 c l ih=>rw[w0n,aj.sum_cons,ih,w0x];show 3+3*l.aO=_;omega
  rw[this,BX m,w5d,w4j]
theorem uJ:∀(m:aT)(c:aj (fy ie)),c∈bq m↔c.aO=m
 |0,c=>by
  show c∈[[]]↔_;rw[w1h];exact w4u.symm
 |m+1,c=>by
  show c∈(bq m).ϴ mX↔_;rw[aj.mem_flatMap];constructor
  .rintro⟨d,hd,h⟩;have:=(uJ m d).mp hd;simp only[mX,w0h,w1g,YX]at h;rcases h with rfl|rfl|rfl<;>simp[this]
  .intro h;rcases aj.eq_nil_or_concat c with rfl|⟨d,o,rfl⟩
   .simp at h
   .rw[aj.concat_eq_append]at h |-
    refine⟨d,(uJ m d).uY (by simpa using h),?_⟩;cases o with
    |none=>simp[mX]
    |ai b=>cases b<;>simp[mX]
def z2o  {p:fy ie}(h:c++[o]=d++[p]):c=d/\o=p:=by
 have:=aj.append_inj' h rfl;exact⟨this.1,by simpa using this.2⟩
theorem Oy:∀m,(bq m).yr
 |0=>by decide
 |m+1=>by
  show((bq m).ϴ mX).yr;rw[w4g,w5e];refine⟨λc _=>?_,(w4g.mp (Oy m)).uX λ{c d} gH x hx y hy e=>?_⟩
  .simp[mX]
  .simp only[mX,w0h,w1g,YX]at hx hy;subst e;rcases hx with rfl|rfl|rfl<;>rcases hy with h|h|h<;>exact gH (z2o h).1
theorem QM(r0:aT->aj W->FR)(x0 x1 x2:S):∀(cs tW:aj (aj (fy ie)))(z:S),(∀c∈cs,c.aO<=10)->tW.aO+3*cs.aO<=1000 ->
  ∃z',cL 4 (Eh K a r0) (cs.a7 aB) [x0,x1,x2,.ke none (tW.a7 aB),z]=.nx [x0,x1,x2,.ke none ((tW++cs.ϴ mX).a7 aB),z']
 |[],tW,z,_,_=>⟨z,by simp[cL]⟩
 |c::cs,tW,z,hc,hl=>by
  have h1:=hc c (by simp);rw[w0x]at hl;let⟨z',ih⟩:=QM r0 x0 x1 x2 cs (tW++mX c) (.fr (aB c)) (λd h=>hc d (by simp[h])) (by rw[w1k];show tW.aO+3+_<=_;omega)
  refine⟨z',?_⟩;rw[w0n,vU]
  have e1:Eh K a r0 [x0,x1,x2,.ke none (tW.a7 aB),.fr (aB c)]=.nx [x0,x1,x2,.ke none ((tW++mX c).a7 aB),.fr (aB c)]:=by
   unfold Eh aB;rw?;have l1:(c.a7 eo).aO<=16777215:=by rw[w0a];omega
   have l2:(tW.a7 λc=>W.gw (c.a7 eo)).aO<=16777213:=by rw[w0a];omega
   simp_all [mX,eo]
  simp_all [zJ]
theorem EM  (h:m<=4):3^m<=81:=w0q (w0s (by decide) h) (by decide)
def zbc(n){m:aT}(hm:m<=4):ll K a (n+1) Ji [.a6 (m:dr)]=.ok (.fr (.dS ((bq m).a7 aB))):=by
 rw[zbS];unfold Jo;rw?;rw[mS (pP (by omega) (by omega))];rw?
 let⟨e',h5,z2,z3,z4,rfl⟩:=qj (b:=IW K a (ll K a n)) (i:=2) (lo:=0) (hi:=(m:dr)) m (by omega) (λj e=>∃(z2 z3 z4:S),e=[.fr (.a6 (m:dr)),.fr (.dS ((bq j).a7 aB)),z2,z3,z4]) [.fr (.a6 (m:dr)),.fr (.dS [.gw []]),.no,.no,.no] ⟨_,_,_,rfl⟩ (by
  rintro j e hj ⟨z2,z3,z4,rfl⟩;unfold IW;rw?;let⟨z',h⟩:=QM (K:=K) (a:=a) (ll K a n) (.fr (.a6 (m:dr))) (.fr (.dS ((bq j).a7 aB))) (.fr (.a6 (0+(j:dr)))) (bq j) [] z4 (λc h=>by rw[(uJ j c).mp h];omega) (by rw[BX];have:=EM (show j<=4 by omega);simp only[aj.length_nil];omega)
  simp only[w2l,w3k]at h;rw[h];rw?;exact⟨_,rfl,_,_,_,rfl⟩)
 rw[h5];rw?
open F1
def pg(c:aj (fy ie))(k:aT):aj (fy ie):=c.yE k++none::c.zd (k+1)
def B_   (h:k<c.aO):(pg c k).aO=c.aO:=by
 unfold pg;simp;omega
def C4(c w:aj (fy ie)):ie:=(dJ c).tZ λk=>w.jd k none==ai true
def tM(c:aj (fy ie)):aj (aj (fy ie)):=((aj.u5 c.aO).DV λk=>c.jd k none != none).a7 (pg c)
def mJ(c w:aj (fy ie)):ie:=i8 c w&&(C4 c w&&!((tM c).tZ λd=>i8 d w))
def LO(o):fR (eo o) .aC=ai (.bl (o != none)):=by
 cases o with
 |none=>rfl
 |ai b=>rfl
def R4(o):Yz (eo o) (.bl true)=ai (.bl (o==ai true)):=by
 cases o with
 |none=>rfl
 |ai b=>cases b<;>rfl
def Tc  {k:aT}(h:k<=xs.aO):i4 xs none (ai (k:dr))=xs.yE k:=by
 unfold i4;rw[HT.mM,HT.jn,aT.min_eq_left h];simp
def EY  {k:aT}(h:k<=xs.aO):i4 xs (ai (k:dr)) none=xs.zd k:=by
 unfold i4;rw[HT.mM,HT.jn,aT.min_eq_left h];exact w4z (by simp)
def VN{c:aj (fy ie)}  (h:k<c.aO):zU (.gw (c.a7 eo)) none (ai (k:dr))=ai (.gw ((c.yE k).a7 eo)):=by
 show(if ¬(HT.cC (c.a7 eo).aO 0 none=0/\HT.cC (c.a7 eo).aO (c.a7 eo).aO (ai (k:dr))=(c.a7 eo).aO)then ai (W.gw (i4 (c.a7 eo) none (ai (k:dr))))else none)=_;rw[HT.jn,mS (by rw[w0a];omega),Tc (by rw[w0a];omega),aj.map_take]
def z8a{c:aj (fy ie)}  (h:k<c.aO):zU (.gw (c.a7 eo)) (ai ((k:dr)+1)) none=ai (.gw ((c.zd (k+1)).a7 eo)):=by
 rw[show(k:dr)+1=((k+1:aT):dr)from rfl];show(if ¬(HT.cC (c.a7 eo).aO 0 (ai ((k+1:aT):dr))=0/\HT.cC (c.a7 eo).aO (c.a7 eo).aO none=(c.a7 eo).aO)then ai (W.gw (i4 (c.a7 eo) (ai ((k+1:aT):dr)) none))else none)=_;rw[HT.jn,mS (by rw[w0a];omega),EY (by rw[w0a];omega),w5v]
def z2p(c)(k):(c.yE k).a7 eo++[W.aC]++(c.zd (k+1)).a7 eo=(pg c k).a7 eo:=by
 unfold pg;simp[eo]
def y75(n)  (hc:c.aO<=10):ll K a (n+1) IP [.gw (c.a7 eo)]=.ok (.ke none ((tM c).a7 aB)):=by
 rw[zag];unfold IX;rw?;rw[w0a,mS (pP (by omega) (by omega))];rw?;rw[mS (by rw[J7];omega)];simp only[cM,iw,w0d,w0g];rw[PB,v5 (q:=λk=>c.jd k none != none) (g:=λk=>aB (pg c k)) (en:=λk=>W.a6 ((k:aT):dr)) (aj.u5 c.aO)]
 .unfold tM;rw[w0z];rfl
 .intro k hk;rw[w0u]at hk;unfold NZ NY;rw?;rw[yl hk];rw?;rw[LO];rw?;refine⟨_,rfl,λ_=>?_⟩
  rw?;rw[VN hk];rw?;rw[mS (by rw[w0a,w2d];omega)];rw?;rw[z8a hk];rw?;rw[mS (by grind)];rw[z2p];exact⟨_,rfl⟩
def z8b  (h:d∈tM c):d.aO=c.aO:=by
 unfold tM at h;let⟨k,hk,rfl⟩:=w0r.mp h;have:=(w1l.mp hk).1;rw[w0u]at this;exact B_ this
theorem Td(bs:aj ie):nq [.dS (bs.a7 .bl)]=ai (.bl (bs.tZ id)):=VR
def z8c(c):(tM c).aO<=c.aO:=by
 unfold tM
 grind
def zbh(n)  (hw:w.aO=2^c.aO)(hc:c.aO<=4):ll K a (n+5) Jz [.gw (c.a7 eo),.dS (w.a7 eo)]=.ok (.fr (.bl (mJ c w))):=by
 have AJ:=ä (show c.aO<=10 by omega);have hr:=R3 c;have tq:=z8c c;rw[zbl];unfold JE;rw?;rw[Q3 n hw hc];unfold mJ;cases hf:i8 c w with
 |false=>rw?;rfl
 |true=>
  rw?;rw[JM (n+1) (by omega)];rw?;rw[mS (by rw[w0a];omega)];simp only[cM,iw,w0d,w0g];rw[lJ (g:=λk=>W.bl (w.jd k none==ai true))]
  .rw?;have e:(dJ c).a7 (λk=>W.bl (w.jd k none==ai true))=((dJ c).a7 λk=>w.jd k none==ai true).a7 .bl:=by rw[w0z];rfl
   rw[e,Td];rw?;have e2:((dJ c).a7 λk=>w.jd k none==ai true).tZ id=C4 c w:=by unfold C4;rw[w5b];rfl
   rw[e2];cases ht:C4 c w with
   |false=>rw?;rfl
   |true=>
    rw?;rw[y75 (n+3) (by omega)];rw?;rw[mS (by rw[w0a];omega)];simp only[cM,iw,w0d,w0g];rw[lJ (g:=λd=>W.bl (i8 d w)) (en:=aB)]
    .rw?;have e3:(tM c).a7 (λd=>W.bl (i8 d w))=((tM c).a7 λd=>i8 d w).a7 .bl:=by rw[w0z];rfl
     rw[e3,Td];rw?;rw[w5b];rfl
    .intro d hd;have hl:=z8b hd;unfold OD aB;rw?;rw[Q3 n (by rw[hl];exact hw) (by omega)];exact⟨_,rfl⟩
  .intro k hk;have h1:=gj.mp hk;unfold OE;rw?;rw[yl (by omega)];rw?;rw[R4];exact⟨_,rfl⟩
def y39(n)   (hw:w.aO=2^m)(hm:m<=4):ll K a (n+6) Le [.dS (w.a7 eo)]=.ok (.ke none (((bq m).DV λc=>mJ c w).a7 aB)):=by
 have h81:=EM hm;have hl:=BX m;rw[y30];unfold Lh;rw?;rw[LN (n+2) (by rw[w0a];exact hw) hm];rw?;rw[zbc (n+4) hm];rw?;rw[mS (by rw[w0a];omega)];simp only[cM,iw,w0d,w0g];rw[v5 (q:=λc=>mJ c w) (g:=aB) (en:=aB) (bq m)]
 .rfl
 .intro c hc;have h1:=(uJ m c).mp hc;unfold Pf Pe aB;rw?;rw[zbh n (by rw[h1];exact hw) (by omega)];rw?;exact⟨_,rfl,λ_=>⟨_,rfl⟩⟩
def nI(k:aT):W:=.a6 (k:dr)
def wr(w:aj (fy ie)):aj aT:=(aj.u5 w.aO).DV λk=>w.jd k none==ai true
theorem Fj:∀ts:aj aT,(ts.a7 nI).rM aV=true
 |[]=>rfl
 |_::ts=>by rw[w0n,w2v,Fj ts];rfl
theorem Te(k:aT):∀ts:aj aT,((ts.a7 nI).tZ λy=>mh y (.a6 (k:dr)))=ts._c k
 |[]=>rfl
 |t::ts=>by
  rw[w0n,w2w,Te k ts,aj.contains_cons];congr 1;show(((t:dr)==(k:dr)):ie)=(k==t);apply w1r.uY;simp only[ZD];omega
def Vd(k)(ts:aj aT):jX (nI k) (.dS (ts.a7 nI))=ai (.bl (!ts._c k)):=by
 show(if aV (.a6 (k:dr))=true/\(ts.a7 nI).rM aV=true then ai (W.bl (!(ts.a7 nI).tZ λy=>mh y (.a6 (k:dr))))else none)=_
 rw[mS ⟨rfl,Fj ts⟩,Te]
def Ow(n){ns ts:aj aT}(h:ns.aO<=2000):ll K a (n+1) x9 [.dS (ns.a7 nI),.dS (ts.a7 nI)]=.ok (.ke none ((ns.DV λk=>!ts._c k).a7 nI)):=by
 rw[zbT];unfold Jp;rw?;rw[mS (by rw[w0a];omega)];simp only[cM,iw,w0d,w0g];rw[v5 (q:=λk=>!ts._c k) (g:=nI) (en:=nI) ns]
 .rfl
 .intro k _;unfold N_ N9;rw?;rw[Vd];rw?;exact⟨_,rfl,λ_=>⟨_,rfl⟩⟩
def z8d(w:aj (fy ie)):cn 0 (w.a7 eo)=(aj.u5 w.aO).a7 fun(k:aT)=>(W.a6 ((k:aT):dr),eo (w.jd k none)):=by
 have e:w.a7 eo=(aj.u5 w.aO).a7 λk=>eo (w.jd k none):=by
  apply w2j;intro k
  by_cases h:k<w.aO
  .simp[w5p h,h,aj.jd]
  .simp[h,w4w h]
 rw[e,OV]
def Ph(n)   (hw:w.aO=2^m)(hm:m<=4):ll K a (n+4) zt [.dS (w.a7 eo)]=.ok (.ke none ((wr w).a7 nI)):=by
 have AJ:=ä (show m<=10 by omega);rw[zah];unfold IF;rw?;rw[LN n (by rw[w0a];exact hw) hm];rw?;rw[z8d,mS (by rw[w0a,w1a];omega)];rw[Lk (q:=λk=>w.jd k none==ai true) (g:=nI)]
 .rfl
 .intro k hk;unfold N1 N0;rw?;rw[R4];rw?;exact⟨_,rfl,λ_=>⟨_,rfl⟩⟩
def Tf(w):(wr w).aO<=w.aO:=by
 unfold wr
 grind
abbrev Cb:=aj (fy ie)
def nO(n:dr)(l:aj aT):ie:=l.tZ λk=>decide ((k:dr)=n)
def cD(c:Cb):W:=.gw [aB c,.dS ((dJ c).a7 nI)]
def hv(P:aj Cb)(n:dr):aj Cb:=P.DV λc=>nO n (dJ c)
def lf(l:aj aT)(c:Cb):aj aT:=l.DV λk=>!(dJ c)._c k
theorem LP(n):∀ts:aj aT,((ts.a7 nI).tZ λy=>mh y (.a6 n))=nO n ts
 |[]=>rfl
 |t::ts=>by
  show(mh (.a6 (t:dr)) (.a6 n)||(ts.a7 nI).tZ λy=>mh y (.a6 n))=(decide ((t:dr)=n)||nO n ts)
  rw[LP n ts];congr 1
def Ve(n)(ts):xB (.a6 n) (.dS (ts.a7 nI))=ai (.bl (nO n ts)):=by
 show(if aV (.a6 n)=true/\(ts.a7 nI).rM aV=true then ai (W.bl ((ts.a7 nI).tZ λy=>mh y (.a6 n)))else none)=_
 rw[mS ⟨rfl,Fj ts⟩,LP]
def EG(n)  (hP:P.aO<=1000)(x):ll K a (n+1) yb [.dS (P.a7 cD),.a6 x]=.ok (.ke none ((hv P x).a7 cD)):=by
 rw[y32];unfold Lj;rw?
 rw[w0a,mS (by omega),v5 (q:=λc=>nO x (dJ c)) (g:=cD) (en:=cD) P λc _=>by
  simp only[gf,aY,cM,iw,w0n,w2l,w1x,aj.foldl_nil,w0d,w0g];refine⟨[.fr (cD c),.fr (.a6 x)],?_,λ_=>⟨[.fr (cD c),.fr (.a6 x)],?_⟩⟩
  .unfold O6;rw?;rw[show aQ (cD c) (.a6 1)=ai (.dS ((dJ c).a7 nI))from rfl];rw?;rw[Ve];rw?
  .unfold Pg;rw?]
 rw?;rfl
def OW(n){w:Cb}  (hw:w.aO=2^m)(hm:m<=4):ll K a (n+7) zu [.dS (w.a7 eo)]=.ok (.ke none (((bq m).DV λc=>mJ c w).a7 cD)):=by
 have hl:((bq m).DV λc=>mJ c w).aO<=81:=by
  grind [BX,EM]
 have hc:∀c∈(bq m).DV λc=>mJ c w,c.aO=m:=λc h=>(uJ m c).mp (w1l.mp h).1
 have pr:=y39 (K:=K) (a:=a) n hw hm;rw[zaC];unfold IY;rw?;rw[pr];rw?;generalize (bq m).DV (λc=>mJ c w)=P at hl hc
 rw[w0a,mS (by omega),lJ (g:=cD) (en:=aB) P λc h=>by
  unfold N6 aB;rw?;rw[JM (n+3) (c:=c) (by rw[hc c h];omega)];rw?;exact⟨_,rfl⟩]
 rw?
theorem QN(l)(c):(lf l c).aO<=l.aO:=w2g _ _
def R5(k:aT)(l):nO (k:dr) l=l._c k:=by
 unfold nO
 grind
def Pm(w:Cb)(m:aT):aj Cb:=(bq m).DV λc=>mJ c w
def C'(w)  (hm:m<=4):(Pm w m).aO<=81/\∀c∈Pm w m,c.aO=m:=by
 refine⟨?_,λc h=>(uJ m c).mp (w1l.mp h).1⟩
 have:=w2g (λc=>mJ c w) (bq m)
 rw[BX]at this;have:=EM hm;exact w0q ‹_› this
def tx(cs:aj aT):fv:=⟨cs.lS⟩
def z8e(cs):(tx cs).Yj.vr=cs:=by simp[tx]
def Tg(as bs):tx as++tx bs=tx (as++bs):=by
 show fv.mk (as.lS++bs.lS)=_;simp[tx]
def z8f:("":fv)=tx []:=by decide +kernel
theorem Rx:∀cs:aj aT,fv._g "" (cs.a7 λc=>tx [c])=tx cs
 |[]=>rfl
 |[c]=>rfl
 |c::d::cs=>by
  show tx [c]++""++fv._g "" ((d::cs).a7 λc=>tx [c])=_
  rw[Rx (d::cs),z8f,Tg,Tg];rfl
theorem z2q(cs):ZZ._g "" (cs.a7 λc=>tx [c])=tx cs:=(StrLaws.glued_eq_join _ _).lb (Rx cs)
theorem Ry:∀xs:aj fv,iZ (xs.a7 .str)=ai xs
 |[]=>rfl
 |x::xs=>by
  show(iZ (xs.a7 W.str)).a7 (x::·)=_;rw[Ry xs];rfl
def z2r(c:aj (fy ie)):iZ (c.a7 λo=>.str (Yv o))=ai (c.a7 Yv):=by
 have:=Ry (c.a7 Yv)
 rwa [w0z]at this
def z8g(o):(Yv o).aO=1:=by
 cases o with
 |none=>rfl
 |ai b=>cases b<;>rfl
theorem Rz:∀c:aj (fy ie),((c.a7 Yv).a7 λx=>x.aO).sum=c.aO
 |[]=>rfl
 |o::c=>by
  rw[w0n,w0n,aj.sum_cons,Rz c,z8g];simp;omega
def z2s(c:aj (fy ie))(h:c.aO<=1000):my (.str "") [.dS (c.a7 λo=>.str (Yv o))]=ai (.str (ZZ._g "" (c.a7 Yv))):=by
 show(match iZ (c.a7 λo=>W.str (Yv o))with
   |ai ys=>if Ϲ "" ys=true then ai (W.str (ZZ._g "" ys))else none
   |none=>none)=_
 rw[z2r];show(if Ϲ "" (c.a7 Yv)=true then ai (W.str (ZZ._g "" (c.a7 Yv)))else none)=_;rw[mS];unfold Ϲ;rw[Rz,w0a];have:("":fv).aO=0:=rfl;rw[this,aT.mul_zero,aT.ble_eq];omega
def z2t(n){c:aj (fy ie)}(h:c.aO<=1000):ll K a (n+1) zy [.gw (c.a7 eo)]=.ok (.fr (.str (ZZ._g "" (c.a7 Yv)))):=by
 rw[zbP];unfold Jl;rw?
 rw[mS (by rw[w0a];omega),lJ (g:=λo=>W.str (Yv o)) c λo _=>⟨[.fr (eo o)],by
  unfold N8;rw?;rw[show uU (eo o)=ai (.str (Yv o))from by cases o<;>rfl];rw?⟩]
 rw?;rw[z2s c h];rw?
def gU(P:aj Cb)(k:aT):aT:=(hv P (k:dr)).aO
def lL(P:aj Cb):aT->aj aT->aT
 |b,[]=>b
 |b,k::l=>if gU P k<gU P b then lL P k l else lL P b l
def lK(P:aj Cb):aj aT->aT
 |[]=>0
 |k::l=>lL P k l
theorem KU(P):∀(l:aj aT)(b:aT),lL P b l=b\/lL P b l∈l
 |[],b=>.j9 rfl
 |k::l,b=>by
  unfold lL;split
  .rcases KU P l k with h|h
   all_goals grind
  .rcases KU P l b with h|h
   .exact .j9 h
   .exact .mW (w0o _ h)
def Fl(P)(k)(l):lK P (k::l)∈k::l:=by
 rcases KU P l k with h|h
 .exact w0h.uY (.j9 h)
 .exact w0o _ h
def qE(go:Cb->aj Cb ⊕ W)(num:aT):aj Cb->aj W->aj Cb ⊕ W
 |[],tW=>.mW (.gw [nI num,.gw tW])
 |c::cs,tW=>match go c with
  |.j9 d=>.j9 (c::d)
  |.mW t=>qE go num cs (tW++[.gw [aB c,t]])
def cb(P:aj Cb):aT->aj aT->aj Cb ⊕ W
 |_,[]=>.j9 []
 |0,k::l=>.mW (.gw [nI (lK P (k::l)),.gw []])
 |n+1,k::l=>qE (λc=>cb P n (lf (k::l) c)) (lK P (k::l)) (hv P (lK P (k::l):dr)) []
def bM:aj Cb ⊕ W->W
 |.j9 cs=>.gw [.str "cover", .dS (cs.a7 aB)]
 |.mW t=>.gw [.str "tree", t]
def FQ(cs:aj Cb)(l:aj aT):Prop:=∀k∈l,∃c∈cs,k∈dJ c
def lD    : k∈lf l c↔k∈l/\k∉dJ c:=by
 unfold lf;rw[w1l];simp
def lq  {k:aT}  : c∈hv P (k:dr)↔c∈P/\k∈dJ c:=by
 unfold hv;rw[w1l,R5];simp
theorem RA{go:Cb->aj Cb ⊕ W}{num:aT}:∀{cs:aj Cb}{tW:aj W}{t:W},qE go num cs tW=.mW t->∀c∈cs,∃u,go c=.mW u
 |[],_,_,_,_,h=>nomatch h
 |c::cs,tW,t,e,d,h=>by
  unfold qE at e;cases q:go c with
  |j9 x=>rw[q]at e;cases e
  |mW u=>
   rw[q]at e;rcases w0h.mp h with rfl|h
   .exact⟨u,q⟩
   .exact RA e d h
theorem RB  {num:aT}:∀{cs:aj Cb}{tW:aj W}{x:aj Cb},qE go num cs tW=.j9 x->∃c∈cs,∃d,go c=.j9 d/\x=c::d
 |[],_,_,e=>by cases e
 |c::cs,tW,x,e=>by
  unfold qE at e;cases q:go c with
  |j9 d=>rw[q]at e;exact⟨c,w1e,d,q,(Y8.j9.yB e).symm⟩
  |mW u=>
   rw[q]at e;let⟨c',h,r⟩:=RB e;exact⟨c',w0o _ h,r⟩
theorem JY(P:aj Cb):∀(n:aT)(l:aj aT)(t:W),cb P n l=.mW t->∀cs:aj Cb,(∀c∈cs,c∈P)->cs.aO<=n->¬FQ cs l
 |n,[],t,e=>by unfold cb at e;cases e
 |0,k::l,t,_=>λcs _ hl hc=>by
  let⟨c,h,_⟩:=hc k w1e;cases cs with
  |ro=>cases h
  |p9 x y=>simp at hl
 |n+1,k::l,t,e=>λcs hP hl hc=>by
  unfold cb at e;let⟨c,h1,h2⟩:=hc _ (Fl P k l);let⟨u,hu⟩:=RA e c (lq.uY ⟨hP c h1,h2⟩);refine JY P n _ u hu (cs.erase c) (λd hd=>hP d (aj.mem_of_mem_erase hd)) (by rw[w4q h1];omega) λj hj=>?_
  let⟨h3,h4⟩:=lD.mp hj;let⟨d,h5,h6⟩:=hc j h3
  grind
theorem zL(P):∀(n:aT)(l:aj aT)(cs:aj Cb),cb P n l=.j9 cs->(∀c∈cs,c∈P/\∃k∈l,k∈dJ c)/\cs.aO<=n/\FQ cs l/\cs.yr
 |n,[],cs,e=>by
  unfold cb at e;cases Y8.j9.yB e;exact⟨λ_ h=>(by cases h),w1c _,λ_ h=>(by cases h),aj.nodup_nil⟩
 |0,k::l,cs,e=>by unfold cb at e;cases e
 |n+1,k::l,cs,e=>by
  unfold cb at e;let⟨c,h1,d,h2,rfl⟩:=RB e;let⟨Dx,cQ⟩:=lq.mp h1;let⟨a1,a2,a3,a4⟩:=zL P n _ d h2;refine⟨λx hx=>?_,by rw[w0x];omega,λj hj=>?_,w1m.uY ⟨λz=>?_,a4⟩⟩
  .rcases w0h.mp hx with rfl|hx
   .exact⟨Dx,_,Fl P k l,cQ⟩
   .let⟨b1,i,b2,b3⟩:=a1 x hx;exact⟨b1,i,(lD.mp b2).1,b3⟩
  .by_cases h:j∈dJ c
   .exact⟨c,w1e,h⟩
   .let⟨x,b1,b2⟩:=a3 j (lD.uY ⟨hj,h⟩);exact⟨x,w0o _ b1,b2⟩
  .let⟨_,i,b2,b3⟩:=a1 c z;exact(lD.mp b2).2 b3
theorem QO(P:aj Cb):∀(l:aj aT),(∀k∈l,∃c∈P,k∈dJ c)->∃cs:aj Cb,(∀c∈cs,c∈P)/\cs.aO<=l.aO/\FQ cs l
 |[],_=>⟨[],λ_ h=>(by cases h),w0f _,λ_ h=>(by cases h)⟩
 |k::l,h=>by
  let⟨cs,h1,h2,h3⟩:=QO P l λj hj=>h j (w0o _ hj)
  let⟨c,hc,hk⟩:=h k w1e;refine⟨c::cs,λd hd=>?_,by simp;omega,λj hj=>?_⟩
  .rcases w0h.mp hd with rfl|hd
   .exact hc
   .exact h1 d hd
  .rcases w0h.mp hj with rfl|hj
   .exact⟨c,w1e,hk⟩
   .let⟨d,d1,d2⟩:=h3 j hj;exact⟨d,w0o _ d1,d2⟩
theorem PH{β:Type}(f:aT->α ⊕ β):∀(n:aT),(∃x,f n=.j9 x)->∃d,d<=n/\(∃x,f d=.j9 x)/\∀i,i<d->∃t,f i=.mW t
 |0,h=>⟨0,w0f _,h,λi hi=>uv hi (aT.not_lt_zero _)⟩
 |n+1,h=>by
  by_cases z:∃i,i<=n/\∃x,f i=.j9 x
  .let⟨i,h1,h2⟩:=z;let⟨d,d1,d2,zch⟩:=PH f i h2;exact⟨d,by omega,d2,zch⟩
  .refine⟨n+1,w0f _,h,λi hi=>?_⟩
   cases q:f i with
   |j9 x=>exact(z ⟨i,by omega,x,q⟩).nU
   |mW t=>exact⟨t,rfl⟩
termination_by n=>n
structure LC(P:aj Cb)(l:aj aT)(N:aT)(cs:aj Cb)(T:W):Prop where
 AB:cb P N l=.j9 cs
 aC:N=0->T=.aC
 tree:∀n,N=n+1->cb P n l=.mW T
def z8h{P:aj Cb}  (h:∀k∈l,∃c∈P,k∈dJ c):∃d,d<=l.aO/\(∃x,cb P d l=.j9 x)/\∀i,i<d->∃t,cb P i l=.mW t:=by
 refine PH (λn=>cb P n l) l.aO ?_
 let⟨cs,h1,h2,h3⟩:=QO P l h;cases q:cb P l.aO l with
 |j9 x=>exact⟨x,rfl⟩
 |mW t=>exact(JY P _ l t q cs h1 h2 h3).nU
def nn(c:Cb):aT:=(c.DV λo=>o==none).aO
theorem RC:∀{c:Cb}{r:aj ie}{j:aT},mt c r=true->mt (pg c j) r=true\/c.aO<=j
 |[],r,j,_=>.mW (w1c _)
 |o::c,[],j,_=>.j9 (by cases j<;>rfl)
 |o::c,b::r,0,h=>by
  have h:((o==none||o==ai b)&&mt c r)=true:=h;rw[w0l]at h;refine .j9 ?_;show((none==(none:fy ie)||none==ai b)&&mt c r)=true;rw[h.2];rfl
 |o::c,b::r,j+1,h=>by
  have h:((o==none||o==ai b)&&mt c r)=true:=h;rw[w0l]at h;rcases RC (j:=j) h.2 with z|z
  .refine .j9 ?_;show((o==none||o==ai b)&&mt (pg c j) r)=true;rw[h.1,z];rfl
  .exact .mW (by simp;exact z)
end
theorem RD:∀{c:Cb}{j:aT},(c.jd j none != none)=true->nn (pg c j)=nn c+1
 |[],j,h=>by simp at h
 |o::c,0,h=>by
  have h:(o != none)=true:=h;cases o with
  |none=>cases h
  |ai b=>rfl
 |o::c,j+1,h=>by
  have ih:=RD (c:=c) (j:=j) h;show((o::pg c j).DV λo=>o==none).aO=((o::c).DV λo=>o==none).aO+1
  rw[w2q,w2q];unfold nn at ih;split
  .rw[w0x,w0x,ih]
  .exact ih
theorem VO(c):nn c<=c.aO:=w2g _ _
theorem Pj{w:Cb}{k:aT}(hk:w.jd k none=ai true):∀(f:aT)(c:Cb),c.aO<=nn c+f->i8 c w=true->k∈dJ c->∃d:Cb,d.aO=c.aO/\mJ d w=true/\k∈dJ d/\∀i∈dJ c,i∈dJ d
 |f,c,hf,h1,h2=>by
  by_cases ha:(tM c).tZ (λd=>i8 d w)=true
  .let⟨d,d1,d2⟩:=w2e.mp ha;let⟨j,j1,rfl⟩:=w0r.mp d1;let⟨j2,zcN⟩:=w1l.mp j1;have y0:=w0u.mp j2;have hnn:=RD zcN;have hle:=VO (pg c j);rw[B_ y0]at hle
   have rj:∀i∈dJ c,i∈dJ (pg c j):=λi hi=>by
    grind [gj,B_,RC]
   cases f with
   |TL=>omega
   |OK f=>
    let⟨d,e1,e2,e3,e4⟩:=Pj hk f (pg c j) (by rw[B_ y0];omega) d2 (rj k h2);exact⟨d,by rw[e1,B_ y0],e2,e3,λi hi=>e4 i (rj i hi)⟩
  .refine⟨c,rfl,?_,h2,λi hi=>hi⟩
   have ht:C4 c w=true:=w2e.uY ⟨k,h2,by rw[hk];rfl⟩;unfold mJ;rw[h1,ht,w2i.uY ha];rfl
theorem RE:∀r s:aj ie,r.aO=s.aO->(mt (r.a7 ai) s=true↔r=s)
 |[],[],_=>⟨λ_=>rfl,λ_=>rfl⟩
 |a::r,b::s,h=>by
  have ih:=RE r s (by simpa using h)
  simp_all [mt]
def z8i  (hk:k<2^m)(hj:j<2^m)(h:bP m k=bP m j):k=j:=by
 grind [bP,z2f]
def y8a{w:Cb}  (hw:w.aO=2^m)  (hk:k∈wr w):∃c∈Pm w m,k∈dJ c:=by
 let⟨h1,h2⟩:=w1l.mp hk;have b8:k<2^m:=by rw[<- hw];exact w0u.mp h1
 have h2:w.jd k none=ai true:=by simpa using h2
 have hl:((bP m k).a7 ai).aO=m:=by rw[w0a,nW]
 have kF:∀i,i∈dJ ((bP m k).a7 ai)↔i=k:=λi=>by
  rw[gj,hl,RE _ _ (by rw[nW,nW])];exact⟨fun⟨a1,a2⟩=>(z8i b8 a1 a2).symm,λe=>by subst e;exact⟨b8,rfl⟩⟩
 have hf:i8 ((bP m k).a7 ai) w=true:=w1d.uY λi hi=>by
  rw[(kF i).mp hi,h2];rfl
 let⟨d,e1,e2,e3,_⟩:=Pj h2 m _ (by rw[hl];omega) hf ((kF k).uY rfl);exact⟨d,w1l.uY ⟨(uJ m d).uY (by rw[e1,hl]),e2⟩,e3⟩
theorem PJ:∀l:aj aT,bH (l.a7 nI)=true
 |[]=>rfl
 |_::l=>PJ l
theorem KW:∀c:Cb,bH (c.a7 eo)=true
 |[]=>rfl
 |none::c=>KW c
 |ai _::c=>KW c
theorem PK:∀P:aj Cb,bH (P.a7 cD)=true
 |[]=>rfl
 |c::P=>by
  show((bH (c.a7 eo)&&(bH ((dJ c).a7 nI)&&true))&&bH (P.a7 cD))=true;rw[KW,PJ,PK P];rfl
def z2u(n)  (hP:P.aO<=1000)(k:aT):ll K a (n+2) xZ [.a6 (k:dr),.dS (P.a7 cD)]=.ok (.fr (.a6 (gU P k:dr))):=by
 have hh:=EG (K:=K) (a:=a) n hP (k:dr);rw[za2,mS (show[W.a6 (k:dr),.dS (P.a7 cD)].aO=2 from rfl)];unfold D_;generalize ll K a (n+1)=r at hh |-
 simp only[w0n,w2l];rw?;rw[hh];rw?;rw[w0a];rfl
theorem RF:∀l:aj aT,d5 (l.a7 nI)=ai (l.a7 fun(k:aT)=>(k:dr))
 |[]=>rfl
 |k::l=>by
  show(d5 (l.a7 nI)).a7 ((k:dr)::·)=_;rw[RF l];rfl
theorem JZ   (hF:∀k:aT,F (k:dr)=ai (gU P k:dr)):∀(l:aj aT)(b:aT),fQ F (l.a7 fun(k:aT)=>(k:dr)) (ai ((b:dr),(gU P b:dr)))=ai (lL P b l:dr)
 |[],b=>rfl
 |k::l,b=>by
  show(match F (k:dr)with
   |ai n=>fQ F (l.a7 fun(k:aT)=>(k:dr)) (fJ (ai ((b:dr),(gU P b:dr))) (k:dr) n)
   |none=>none)=_
  rw[hF];show fQ F (l.a7 fun(k:aT)=>(k:dr)) (if(gU P k:dr)<(gU P b:dr)then ai ((k:dr),(gU P k:dr))else ai ((b:dr),(gU P b:dr)))=ai ((if gU P k<gU P b then lL P k l else lL P b l:aT):dr)
  by_cases h:gU P k<gU P b
  .rw[mS (by omega),mS h,JZ hF l k]
  .rw[sF (by omega),sF h,JZ hF l b]
def Pk(n)  (hP:P.aO<=1000)(k)(l):ll K a (n+3) Lf [.dS (P.a7 cD),.dS ((k::l).a7 nI)]=.ok (.fr (nI (lK P (k::l)))):=by
 have lr:=λk=>z2u (K:=K) (a:=a) n hP k
 rw[y31];unfold Li;generalize ll K a (n+2)=r at lr |-
 rw?;show SR.fn (R.cR (rL r xZ _ (.dS ((k::l).a7 nI)) (ai [.dS (P.a7 cD)])) _)=_;unfold rL;simp only[RF];rw[mS (show bH [W.dS (P.a7 cD)]=true by show(bH (P.a7 cD)&&true)=true;rw[PK];rfl)];have hF:∀j:aT,gJ (r xZ [.a6 (j:dr),.dS (P.a7 cD)])=ai (gU P j:dr):=λj=>by rw[lr j];rfl
 have e:fQ (λi=>gJ (r xZ [.a6 i,.dS (P.a7 cD)])) ((k::l).a7 fun(k:aT)=>(k:dr)) none=ai (lK P (k::l):dr):=by
  show(match gJ (r xZ [.a6 (k:dr),.dS (P.a7 cD)])with
   |ai n=>fQ (λi=>gJ (r xZ [.a6 i,.dS (P.a7 cD)])) (l.a7 fun(k:aT)=>(k:dr)) (fJ none (k:dr) n)
   |none=>none)=_
  rw[hF k];exact JZ hF l k
 rw[e];rfl
def i7(P:aj Cb)(l:aj aT)(uw num:aT)(tW:aj W)(z5 z6 z7:S):aj S:=[.fr (.dS (P.a7 cD)),.fr (.dS (l.a7 nI)),.fr (.a6 ((uw+1:aT):dr)),.fr (nI num),.ke none tW,z5,z6,z7]
def KI(P:aj Cb)(l:aj aT)(uw num:aT)(tW:aj W)(c:Cb):aj Cb ⊕ W->SR
 |.j9 d=>.rt (.fr (bM (.j9 (c::d)))) (i7 P l uw num tW (.fr (aB c)) (.fr (.dS ((dJ c).a7 nI))) (.fr (bM (.j9 d))))
 |.mW t=>.nx (i7 P l uw num (tW++[.gw [aB c,t]]) (.fr (aB c)) (.fr (.dS ((dJ c).a7 nI))) (.fr (bM (.mW t))))
def y4a(r)   {uw num:aT}  {c:Cb}(h1:r x9 [.dS (l.a7 nI),.dS ((dJ c).a7 nI)]=.ok (.ke none ((lf l c).a7 nI)))
  (h2:r oX [.dS (P.a7 cD),.dS ((lf l c).a7 nI),.a6 (uw:dr)]=.ok (.fr (bM g)))(hg:∀d,g=.j9 d->d.aO<=1000)(tW)(ha:tW.aO<=1000)(z7):
  vX K a r (i7 P l uw num tW (.fr (aB c)) (.fr (.dS ((dJ c).a7 nI))) z7)=KI P l uw num tW c g:=by
 unfold vX i7;rw?;rw[h1];rw?;rw[show((uw+1:aT):dr)-1=(uw:dr) by omega,h2];rw?;cases g with
 |j9 d=>
  have:=hg d rfl;unfold KI i7 bM;rw?;rw[w0a,mS (by omega)];rw?
  first|done|rfl
 |mW t=>
  unfold KI i7 bM;rw?;rw[mS (by omega)]
theorem Pl(r:aT->aj W->FR){P:aj Cb}{l:aj aT}{uw num:aT}{go:Cb->aj Cb ⊕ W}(h1:∀c∈P,r x9 [.dS (l.a7 nI),.dS ((dJ c).a7 nI)]=.ok (.ke none ((lf l c).a7 nI)))
  (h2:∀c∈P,r oX [.dS (P.a7 cD),.dS ((lf l c).a7 nI),.a6 (uw:dr)]=.ok (.fr (bM (go c))))(hg:∀c d,go c=.j9 d->d.aO<=1000):∀(cs:aj Cb)(tW:aj W)(z5 z6 z7:S),(∀c∈cs,c∈P)->tW.aO+cs.aO<=1000 ->
  (∃d e,qE go num cs tW=.j9 d/\ed 5 6 (vX K a r) (cs.a7 λc=>(aB c,.dS ((dJ c).a7 nI))) (i7 P l uw num tW z5 z6 z7)=.rt (.fr (bM (.j9 d))) e) \/
  ∃pq yP Mo pb,pq.aO<=1000/\qE go num cs tW=.mW (.gw [nI num,.gw pq])/\ed 5 6 (vX K a r) (cs.a7 λc=>(aB c,.dS ((dJ c).a7 nI))) (i7 P l uw num tW z5 z6 z7)=.nx (i7 P l uw num pq yP Mo pb)
 |[],tW,z5,z6,z7,_,hl=>.mW ⟨tW,z5,z6,z7,by simpa using hl,rfl,rfl⟩
 |c::cs,tW,z5,z6,z7,hc,hl=>by
  simp only[w0x]at hl;have yZ:=hc c w1e;have e:=y4a (K:=K) (a:=a) r (num:=num) (h1 c yZ) (h2 c yZ) (hg c) tW (by omega) z7;have u:∀x,vX K a r (i7 P l uw num tW (.fr (aB c)) (.fr (.dS ((dJ c).a7 nI))) z7)=x->ed 5 6 (vX K a r) ((c::cs).a7 λc=>(aB c,.dS ((dJ c).a7 nI))) (i7 P l uw num tW z5 z6 z7)=x.ez (ed 5 6 (vX K a r) (cs.a7 λc=>(aB c,.dS ((dJ c).a7 nI)))):=λx h=>by rw[<- h];rfl
  rw[u _ e];unfold qE;cases q:go c with
  |j9 d=>exact .j9 ⟨_,_,rfl,rfl⟩
  |mW t=>exact Pl r h1 h2 hg cs (tW++[.gw [aB c,t]]) _ _ _ (λd hd=>hc d (w0o _ hd)) (by rw[w1k];simp;omega)
theorem QP:∀cs:aj Cb,d7 (cs.a7 cD)=ai (cs.a7 λc=>(aB c,.dS ((dJ c).a7 nI)))
 |[]=>rfl
 |c::cs=>by
  show(d7 (cs.a7 cD)).a7 ((aB c,.dS ((dJ c).a7 nI))::·)=_;rw[QP cs];rfl
theorem y4b     (hn:n<=1000)(h:cb P n l=.j9 d):d.aO<=1000:=w0q (zL P n l d h).2.1 hn
theorem PL{P:aj Cb}(hP:P.aO<=81):∀(uw n:aT)(l:aj aT),l.aO<=100->uw<=100->ll K a (n+uw+4) oX [.dS (P.a7 cD),.dS (l.a7 nI),.a6 (uw:dr)]=.ok (.fr (bM (cb P uw l)))
 |uw,n,[],_,_=>by
  rw[Kl];unfold Ce cb bM;rw?
 |0,n,k::l,_,_=>by
  have rr:=Pk (K:=K) (a:=a) n (P:=P) (by omega) k l;rw[Kl];unfold Ce cb bM;generalize ll K a (n+0+3)=r at rr |-
  have e1:bL bg (aa (af 1) ag) (ZO 8 [.dS (P.a7 cD),.dS ((k::l).a7 nI),.a6 ((0:aT):dr)])=.ok (.a6 ((l.aO+1:aT):dr)) (ZO 8 [.dS (P.a7 cD),.dS ((k::l).a7 nI),.a6 ((0:aT):dr)]):=by
   unfold ZO;rw?;rw[w0a]
  rw?;rw[w0a,sF (by omega)];rw[w0n]at rr;rw[rr];rw?
 |uw+1,n,k::l,hl,zfo=>by
  have rr:=Pk (K:=K) (a:=a) (n+uw+1) (P:=P) (by omega) k l;have hh:=EG (K:=K) (a:=a) (n+uw+3) (P:=P) (by omega) (lK P (k::l):dr);have h1:∀c∈P,ll K a (n+uw+4) x9 [.dS ((k::l).a7 nI),.dS ((dJ c).a7 nI)]=.ok (.ke none ((lf (k::l) c).a7 nI)):=λc _=>Ow (K:=K) (a:=a) (n+uw+3) (by omega)
  have h2:∀c∈P,ll K a (n+uw+4) oX [.dS (P.a7 cD),.dS ((lf (k::l) c).a7 nI),.a6 (uw:dr)]=.ok (.fr (bM (cb P uw (lf (k::l) c)))):=λc _=>PL hP uw n _ (w0q (QN _ c) hl) (by omega)
  have lp:=Pl (K:=K) (a:=a) (ll K a (n+uw+4)) (num:=lK P (k::l)) h1 h2 (λc d h=>y4b (by omega) h) (hv P (lK P (k::l):dr)) [] .no .no .no (λc hc=>(lq.mp hc).1) (by
   grind [hv])
  rw[show n+(uw+1)+4=n+uw+4+1 by omega,Kl];unfold Ce cb;rw[show n+uw+1+3=n+uw+4 by omega]at rr;generalize ll K a (n+uw+4)=r at rr hh lp |-
  unfold i7 at lp;rw[w0n]at rr lp |-
  rw?;rw[w0a,sF (by omega),rr];rw?;rw[sF (show ¬(((uw+1:aT):dr)=0) by omega)];rw[show r yb [.dS (P.a7 cD),nI (lK P (k::l))]=_ from hh];rw?;rw[QP];rw?;rcases lp with⟨d,e,b1,b2⟩|⟨pq,z5,z6,z7,b0,b1,b2⟩
  .rw[b2,b1];rfl
  .rw[b2,b1];unfold bM;rw?
def sc:fy ie->aT
 |none=>45
 |ai false=>48
 |ai true=>49
def Vf(o):Yv o=tx [sc o]:=by
 cases o with
 |none=>decide +kernel
 |ai b=>cases b<;>decide +kernel
def Č(c:Cb):(ZZ._g "" (c.a7 Yv)).Yj.vr=c.a7 sc:=by
 rw[show c.a7 Yv=(c.a7 sc).a7 λc=>tx [c] by rw[w0z];exact w1n λo _=>Vf o,z2q,z8e]
theorem L5  (h:u<v):∀x:aj aT,x++u<x++v
 |[]=>h
 |a::x=>w2u.uY (.mW ⟨rfl,L5 h x⟩)
theorem Tq:∀{x y:aj aT}(u v:aj aT),x.aO=y.aO->x<y->x++u<y++v
 |[],[],_,_,_,h=>(aj.lt_irrefl _ h).nU
 |a::x,b::y,u,v,hl,h=>by
  rcases w2u.mp h with h|⟨e,h⟩
  .exact w2u.uY (.j9 h)
  .exact w2u.uY (.mW ⟨e,Tq u v (by simpa using hl) h⟩)
theorem PM:∀m,(bq m).Y7 λc d=>c.a7 sc<d.a7 sc
 |0=>aj.pairwise_singleton _ _
 |m+1=>by
  show((bq m).ϴ mX).Y7 _;rw[w5e];refine⟨λc _=>?_,?_⟩
  .unfold mX;simp only[w4l,w0h,w1g,YX,w1b,aj.Y7.ro,and_true];refine⟨λx hx=>?_,λx hx=>?_,λ_ h=>(by cases h)⟩
   .rcases hx with rfl|rfl<;>(rw[w1b];exact L5 (by decide) _)
   .subst hx;rw[w1b];exact L5 (by decide) _
  .refine aj.Y7.imp_of_mem (λ{c d} hc hd h x hx y hy=>?_) (PM m)
   have lc:=(uJ m c).mp hc;have ld:=(uJ m d).mp hd;simp only[mX,w0h,w1g,YX]at hx hy
   grind [Tq]
def kc(c:Cb):fv:=ZZ._g "" (c.a7 Yv)
theorem Ts  (hF:∀c:Cb,c.aO<=1000->F [aB c]=.ok (.fr (.str (kc c)))):∀cs:aj Cb,(∀c∈cs,c.aO<=1000)->iX F (cs.a7 aB)=ai (cs.a7 kc)
 |[],_=>rfl
 |c::cs,h=>by
  show(match o8 (F [aB c]),iX F (cs.a7 aB)with
   |ai n,ai ns=>ai (n::ns)
   |_,_=>none)=_
  rw[hF c (h c w1e),Ts hF cs λd hd=>h d (w0o _ hd)]
  rfl
def eI(P cs:aj Cb):aj Cb:=P.DV λc=>cs._c c
theorem y4c(w)(m)(cs):(eI (Pm w m) cs).yr:=aj.Y7.DV _ (aj.Y7.DV _ (Oy m))
def fT   : c∈eI P cs↔c∈P/\c∈cs:=by
 unfold eI;rw[w1l];simp
theorem J0    (h1:∀c∈cs,c∈Pm w m)(h2:cs.yr):(eI (Pm w m) cs).Zk cs:=
 (aj.perm_ext_iff_of_nodup (y4c w m cs) h2).uY λc=>fT.lb ⟨λh=>h.2,λh=>⟨h1 c h,h⟩⟩
def z8j  (hF:∀c:Cb,c.aO<=1000->F [aB c]=.ok (.fr (.str (kc c))))   (hm:m<=4)  (h1:∀c∈cs,c∈Pm w m)(h2:cs.yr)(h3:cs.aO<64):uW F (.dS (cs.a7 aB))=ai ((eI (Pm w m) cs).a7 aB):=by
 have wR:∀c∈cs,c.aO<=1000:=λc hc=>by rw[(C' w hm).2 c (h1 c hc)];omega
 show(if(cs.a7 aB).aO<64 then(iX F (cs.a7 aB)).qK λns=>n5 ns (cs.a7 aB)else none)=_
 rw[w0a,mS h3,Ts hF cs wR];show n5 (cs.a7 kc) (cs.a7 aB)=_
 have hz:(cs.a7 kc).wt (cs.a7 aB)=cs.a7 λc=>(kc c,aB c):=by
  rw[aj.zip_map',]
 have pm:=J0 h1 h2;rw[z7y (zs:=(eI (Pm w m) cs).a7 λc=>(kc c,aB c)) (by rw[w0a,w0a]) (by rw[hz];exact pm.a7 _) ?_,w0z]
 .rfl
 .refine w3t.uY (aj.Y7.uX (λ{c d} h=>?_) (aj.Y7.DV _ (aj.Y7.DV _ (PM m))))
  show(kc c).Yj.vr<(kc d).Yj.vr;unfold kc;rw[Č,Č];exact h
theorem QQ(R:aT->aj W->FR){P:aj Cb}{l:aj aT}(A:W)(hR:∀uw:aT,uw<=100->R oX [.dS (P.a7 cD),.dS (l.a7 nI),.a6 (uw:dr)]=.ok (.fr (bM (cb P uw l)))):∀(d j N':aT)(T:W),(∃x,cb P (j+d) l=.j9 x)->(∀i,i<d->∃t,cb P (j+i) l=.mW t)->j+d<=100->d<N' ->
  ∃T',(d=0->T'=T)/\(∀e,d=e+1->cb P (j+e) l=.mW T')/\bw (zm K a R) (BL K a R) N' [.fr A,.fr (.dS (P.a7 cD)),.fr (.dS (l.a7 nI)),.fr (.a6 (j:dr)),.fr T,.fr (bM (cb P j l))]=.nx [.fr A,.fr (.dS (P.a7 cD)),.fr (.dS (l.a7 nI)),.fr (.a6 ((j+d:aT):dr)),.fr T',.fr (bM (cb P (j+d) l))]
 |0,j,N'+1,T,h1,_,_,_=>by
  let⟨x,hx⟩:=h1;refine⟨T,λ_=>rfl,λe he=>by omega,?_⟩
  simp only[w4k]at hx |-
  rw[vZ,hx,show bM (.j9 x)=.gw [.str "cover", .dS (x.a7 aB)]from rfl];unfold zm;rw?
 |d+1,j,N'+1,T,h1,h2,h3,h4=>by
  let⟨t,ht⟩:=h2 0 (by omega);rw[w4k]at ht;have e1:j+(d+1)=j+1+d:=by omega
  rw[e1]at h1 |-
  let⟨T',a1,a2,a3⟩:=QQ R A hR d (j+1) N' t h1 (λi hi=>by
   grind) (by omega) (by omega)
  refine⟨T',λz=>by omega,λe he=>?_,?_⟩
  .cases e with
   |TL=>
    have:d=0:=by omega
    rw[a1 this,w4k];exact ht
   |OK e=>
    grind
  .rw[<- a3,vZ,ht];have hr:=hR (j+1) (by omega)
   have ew:zm K a R [.fr A,.fr (.dS (P.a7 cD)),.fr (.dS (l.a7 nI)),.fr (.a6 (j:dr)),.fr T,.fr (bM (.mW t))]=.ok true [.fr A,.fr (.dS (P.a7 cD)),.fr (.dS (l.a7 nI)),.fr (.a6 (j:dr)),.fr T,.fr (bM (.mW t))]:=by
    unfold zm bM;rw?
   have el:BL K a R [.fr A,.fr (.dS (P.a7 cD)),.fr (.dS (l.a7 nI)),.fr (.a6 (j:dr)),.fr T,.fr (bM (.mW t))]=.nx [.fr A,.fr (.dS (P.a7 cD)),.fr (.dS (l.a7 nI)),.fr (.a6 ((j+1:aT):dr)),.fr t,.fr (bM (cb P (j+1) l))]:=by
    unfold BL;rw[show bM (.mW t)=.gw [.str "tree", t]from rfl];rw?;rw[show(j:dr)+1=((j+1:aT):dr) by omega,hr];rw?
   rw[ew,y5s,mS rfl,el];rfl
set_option genInjectivity true in
inductive Fm where
 |is (b:ie)|at (p:aT)|not (f:Fm)|and (f g:Fm)|or (f g:Fm)|_h (f g:Fm)
def wJ:Fm->W
 |.is b=>.gw [.str "is", .bl b]
 |.at p=>.gw [.str "at", .a6 p]
 |.not f=>.gw [.str "not", wJ f]
 |.and f g=>.gw [.str "and", wJ f,wJ g]
 |.or f g=>.gw [.str "or", wJ f,wJ g]
 |._h f g=>.gw [.str "odd", wJ f,wJ g]
def Fm.w8:Fm->aT
 |.is _=>1
 |.at _=>1
 |.not f=>f.w8+1
 |.and f g=>max f.w8 g.w8+1
 |.or f g=>max f.w8 g.w8+1
 |._h f g=>max f.w8 g.w8+1
inductive O3 where
 |a|o|d
def wd:O3->fv
 |.a=>"and"
 |.o=>"or"
 |.d=>"odd"
def HJ:O3->Fm->Fm->Fm
 |.a=>.and
 |.o=>.or
 |.d=>._h
def Fm.qO:Fm->Fm
 |.is b=>.is (!b)
 |f=>.not f
def kf:O3->ie->Fm->Fm
 |.a,true,f=>f
 |.a,false,_=>.is false
 |.o,true,_=>.is true
 |.o,false,f=>f
 |.d,true,f=>f.qO
 |.d,false,f=>f
def Fm.fA(o:O3)(f g:Fm):Fm:=match f with
 |.is b=>kf o b g
 |f=>match g with
  |.is b=>kf o b f
  |g=>HJ o f g
def z2v(n)(f):ll K a (n+1) Jw [wJ f]=.ok (.fr (wJ f.qO)):=by
 rw[zbQ];unfold Jm;cases f<;>simp only[wJ,Fm.qO]<;>rw?
def QR(n)(o)(b)(f):ll K a (n+2) El [.str (wd o),.bl b,wJ f]=.ok (.fr (wJ (kf o b f))):=by
 rw[zaA];unfold Jg;have h:=z2v (K:=K) (a:=a) n f;cases o<;>cases b<;>simp only[wd,kf]<;>rw?<;>first|rfl|(rw[h];rw?)
def Fm.hd:Fm->fv
 |.is _=>"is"
 |.at _=>"at"
 |.not _=>"not"
 |.and _ _=>"and"
 |.or _ _=>"or"
 |._h _ _=>"odd"
def R6(f):aQ (wJ f) (.a6 0)=ai (.str f.hd):=by cases f<;>rfl
def FJ(f:Fm):f.hd="is"↔∃b,f=.is b:=by
 cases f with
 |is b=>exact⟨λ_=>⟨b,rfl⟩,λ_=>rfl⟩
 |_=>exact⟨λh=>uv h (by simp only[Fm.hd];decide),fun⟨b,h⟩=>by cases h⟩
theorem z8k    : Fm.fA o (.is b) g=kf o b g:=rfl
def KY    (hf:¬∃b,f=.is b):Fm.fA o f (.is b)=kf o b f:=by
 cases f with
 |is b=>exact uv ⟨b,rfl⟩ hf
 |_=>rfl
def Fn   (hf:¬∃b,f=.is b)(hg:¬∃b,g=.is b):Fm.fA o f g=HJ o f g:=by
 cases f with
 |is b=>exact uv ⟨b,rfl⟩ hf
 |_=>cases g with
  |is b=>exact uv ⟨b,rfl⟩ hg
  |_=>rfl
def z8l   : wJ (HJ o f g)=.gw [.str (wd o),wJ f,wJ g]:=by cases o<;>rfl
def QS(n)(o)(f g):ll K a (n+3) tI [.str (wd o),wJ f,wJ g]=.ok (.fr (wJ (f.fA o g))):=by
 rw[y7u];unfold LH;rw?;rw[R6];rw?
 by_cases hf:∃b,f=.is b
 .let⟨b,rfl⟩:=hf;rw[mS ((FJ (.is b)).uY ⟨b,rfl⟩),z8k];simp only[wJ];rw?;rw[QR n o b g];rw?
 .rw[sF (by rw[FJ];exact hf),R6];rw?
  by_cases hg:∃b,g=.is b
  .let⟨b,rfl⟩:=hg;rw[mS ((FJ (.is b)).uY ⟨b,rfl⟩),KY hf];simp only[wJ];rw?;rw[QR n o b f];rw?
  .rw[sF (by rw[FJ];exact hg),Fn hf hg,z8l]
def Fm.d3:Fm->aT
 |.is _=>1
 |.at _=>1
 |.not f=>f.d3+1
 |.and f g=>f.d3+g.d3+1
 |.or f g=>f.d3+g.d3+1
 |._h f g=>f.d3+g.d3+1
def cst(bs:aj ie):ie:=bs.rM λb=>b==bs.jd 0 false
def Fm.tD:Fm->ie
 |.is true=>true
 |_=>false
def F9(p:aT)(l h:Fm):Fm:=
 if l.tD=true then Fm.fA .o (.not (.at p)) h
 else if h.tD=true then Fm.fA .o (.at p) l
 else Fm.fA .o (Fm.fA .a (.not (.at p)) l) (Fm.fA .a (.at p) h)
def ff:aT->aT->aj ie->Fm
 |0,_,bs=>.is (bs.jd 0 false)
 |m+1,p,bs=>
  if cst bs=true then .is (bs.jd 0 false)
  else if bs.yE (2^m)=bs.zd (2^m)then ff m (p+1) (bs.yE (2^m))
  else if cst (bs.yE (2^m))=false/\bs.zd (2^m)=(bs.yE (2^m)).a7 not then ._h (ff m (p+1) (bs.yE (2^m))) (.at p)
  else F9 p (ff m (p+1) (bs.yE (2^m))) (ff m (p+1) (bs.zd (2^m)))
def Fm.nV:Fm->aT->aT
 |.is _,_=>0
 |.at _,_=>0
 |.not f,l=>f.nV 3+(if 3<l then 1 else 0)
 |.and f g,l=>max (f.nV 2) (g.nV 3)+(if 2<l then 1 else 0)
 |.or f g,l=>max (f.nV 0) (g.nV 1)+(if 0<l then 1 else 0)
 |._h f g,l=>max (f.nV 1) (g.nV 2)+(if 1<l then 1 else 0)
theorem Tt   (g):∀(ws:aj W),(∀w∈ws,∃e,d (.fr w::pe)=.ok (g w) e)->cS bB d pe ws=ai (ws.a7 g)
 |[],_=>rfl
 |w::ws,h=>by
  let⟨e,h1⟩:=h w (by simp);rw[P_];show(match d (.fr w::pe)with|.ok y _=>(cS bB d pe ws).a7 (y::·)|_=>none)=_;rw[h1,Tt g ws λu hu=>h u (by simp[hu])]
  rfl
def m6:aT->Fm->aj (fy ie)->Fm
 |_,f,[]=>f
 |p,f,none::c=>m6 (p+1) f c
 |p,f,ai true::c=>m6 (p+1) (Fm.fA .a f (.at p)) c
 |p,f,ai false::c=>m6 (p+1) (Fm.fA .a f (.not (.at p))) c
def jj:Fm->aj (aj (fy ie))->Fm
 |f,[]=>f
 |f,c::cs=>jj (Fm.fA .o f (m6 0 (.is true) c)) cs
def Vg(o):Yz (eo o) (.bl true)=ai (.bl (o==ai true)):=by
 cases o with
 |none=>rfl
 |ai b=>cases b<;>rfl
def Tu(o):Yz (eo o) (.bl false)=ai (.bl (o==ai false)):=by
 cases o with
 |none=>rfl
 |ai b=>cases b<;>rfl
theorem Pn(n)(cu):∀(c:aj (fy ie))(p:aT)(f:Fm)(z2 z3:S),∃y2 y3,ed 2 3 (xY K a (ll K a (n+3))) (cn p (c.a7 eo)) [.fr cu,.fr (wJ f),z2,z3]=.nx [.fr cu,.fr (wJ (m6 p f c)),y2,y3]
 |[],p,f,z2,z3=>⟨_,_,rfl⟩
 |o::c,p,f,z2,z3=>by
  have ea:=λf g=>QS (K:=K) (a:=a) n .a f g
  simp only[wd]at ea
  have e1:xY K a (ll K a (n+3)) [.fr cu,.fr (wJ f),.fr (.a6 p),.fr (eo o)]=.nx [.fr cu,.fr (wJ (m6 p f [o])),.fr (.a6 p),.fr (eo o)]:=by
   unfold xY;rw?;rw[Vg];rw?;cases o with
   |none=>
    rw[sF (by decide)];rw[Tu];rw?;rfl
   |ai b=>
    cases b with
    |true=>
     rw[mS (by decide)];rw[show W.gw [W.str "at", W.a6 (p:dr)]=wJ (.at p)from rfl,ea];rw?;rfl
    |false=>
     rw[sF (by decide),Tu];rw?;rw[mS (by decide),show W.gw [W.str "not", W.gw [W.str "at", W.a6 (p:dr)]]=wJ (.not (.at p))from rfl,ea];rw?;rfl
  let⟨y2,y3,ih⟩:=Pn n cu c (p+1) (m6 p f [o]) (.fr (.a6 p)) (.fr (eo o));refine⟨y2,y3,?_⟩;rw[w0n];show ed 2 3 (xY K a (ll K a (n+3))) ((W.a6 (p:dr),eo o)::cn (p+1) (c.a7 eo)) _=_;rw[y6f];simp only[w0v,w0w];rw[e1];show ed 2 3 (xY K a (ll K a (n+3))) (cn (p+1) (c.a7 eo)) _=_;rw[ih];cases o with
  |none=>rfl
  |ai b=>cases b<;>rfl
def y8f(n)(c):ll K a (n+4) Ig [.gw (c.a7 eo)]=.ok (.fr (wJ (m6 0 (.is true) c))):=by
 rw[zaW];unfold Ik;rw?;let⟨y2,y3,h⟩:=Pn (K:=K) (a:=a) n (.gw (c.a7 eo)) c 0 (.is true) .no .no;rw[show ed 2 3 (xY K a (ll K a (n+3))) (cn 0 (c.a7 eo)) [S.fr (W.gw (c.a7 eo)),S.fr (W.gw [W.str "is", W.bl true]),S.no,S.no]=_ from h];rw?
theorem OX(n)(co):∀(cs:aj (aj (fy ie)))(f:Fm)(z:S),∃z',cL 2 (BH K a (ll K a (n+4))) (cs.a7 aB) [co,.fr (wJ f),z]=.nx [co,.fr (wJ (jj f cs)),z']
 |[],f,z=>⟨_,rfl⟩
 |c::cs,f,z=>by
  have MG:=λf g=>QS (K:=K) (a:=a) (n+1) .o f g
  simp only[wd]at MG
  have e1:BH K a (ll K a (n+4)) [co,.fr (wJ f),.fr (aB c)]=.nx [co,.fr (wJ (Fm.fA .o f (m6 0 (.is true) c))),.fr (aB c)]:=by
   unfold BH aB;rw?;rw[y8f n];rw?;rw[MG];rw?
  let⟨z',ih⟩:=OX n co cs (Fm.fA .o f (m6 0 (.is true) c)) (.fr (aB c));refine⟨z',?_⟩;rw[w0n,vU];simp only[w0v,w0w];rw[e1,zJ];exact ih
def y4d(n)(cs):ll K a (n+5) Iw [.dS (cs.a7 aB)]=.ok (.fr (wJ (jj (.is false) cs))):=by
 rw[zaP];unfold IB;rw?;let⟨z',h⟩:=OX (K:=K) (a:=a) n (.fr (.dS (cs.a7 aB))) cs (.is false) .no;rw[show cL 2 (BH K a (ll K a (n+4))) (cs.a7 aB) [S.fr (W.dS (cs.a7 aB)),S.fr (W.gw [W.str "is", W.bl false]),S.no]=_ from h];rw?
theorem LQ{i:aT}{b:aj S->SR}(I:aT->aj S->Prop):∀(ws:aj W)(k:aT)(e:aj S),I k e->(∀(j:aT)(w:W)(e:aj S),w∈ws->I j e->∃e',b (e.ri i (.fr w))=.nx e'/\I (j+1) e')->∃e',cL i b ws e=.nx e'/\I (k+ws.aO) e'
 |[],k,e,h0,_=>⟨e,rfl,h0⟩
 |w::ws,k,e,h0,h=>by
  let⟨e1,h1,h2⟩:=h k w e (by simp) h0;let⟨e2,h3,h4⟩:=LQ I ws (k+1) e1 h2 λj u e hu=>h j u e (by simp[hu])
  grind [vU,zJ]
def eV(bs:aj ie):W:=.gw (bs.a7 .bl)
abbrev Pr:=aj ie×aT
structure Mc where
 m:aT
 pg:aT
 ae:aj (aj Pr)
structure Mc.Og(c:Mc):Prop where
 iL:c.m<=3
 wg:c.pg<=40
 ia:0<c.ae.aO
 mo:c.ae.aO<=700
 st:∀s∈c.ae,s.aO=2^c.m
 pr:∀s∈c.ae,∀p∈s,p.1.aO=c.pg/\p.2<c.ae.aO
def PN{l:aj α}(h):l.yE (j+1)=l.yE j++[l[j]]:=by
 simp_all
def bt(p:Pr):W:=.gw [eV p.1,.a6 (p.2:dr)]
def aA(s:aj Pr):W:=.dS (s.a7 bt)
def aD(c:Mc):W:=.gw [.a6 (c.m:dr),.a6 (c.pg:dr),.dS (c.ae.a7 aA)]
def zN(n m:aT)(hm:m<=100):ll K a (n+1) rX [.a6 (m:dr)]=.ok (.fr (.a6 ((2^m:aT):dr))):=by
 rw[Oq];unfold Eu;rw?;rw[mS (pP (by omega) (by omega))];rw?
 let⟨e',h2,z,rfl⟩:=qj (b:=BP K a (ll K a n)) (i:=2) (lo:=0) (hi:=(m:dr)) m (by omega) (λj e=>∃z,e=[.fr (.a6 (m:dr)),.fr (.a6 ((2^j:aT):dr)),z]) [.fr (.a6 (m:dr)),.fr (.a6 1),.no] ⟨.no,rfl⟩ (by
  rintro j e hj ⟨z,rfl⟩;unfold BP;rw?
  simp_all [w5d,w5y])
 rw[h2];rw?
def y0t(n)(c:Mc)(h:s<c.ae.aO):ll K a (n+1) JA [aD c,.a6 (s:dr)]=.ok (.fr (.bl true)):=by
 rw[zbn];unfold JG aD;rw?
 grind
def EB(l:aj Pr):d7 (l.a7 bt)=ai (l.a7 λp=>(eV p.1,W.a6 (p.2:dr))):=by
 induction l with
 |ro=>rfl
 |p9 p l ih=>
  grind [d7,bt]
theorem QT{i:aT}{b:aj S->SR}(I:aj S->Prop):∀(ps:aj (W×W))(e:aj S),I e->(∀p∈ps,∀e,I e->∃e',b ((e.ri i (.fr p.1)).ri j (.fr p.2))=.nx e'/\I e')->∃e',ed i j b ps e=.nx e'/\I e'
 |[],e,h,_=>⟨e,rfl,h⟩
 |p::ps,e,h,st=>by
  let⟨e1,h1,h2⟩:=st p (by simp) e h;let⟨e2,h3,h4⟩:=QT I ps e1 h2 (λq hq=>st q (by simp[hq]))
  refine⟨e2,?_,h4⟩;show(b ((e.ri i (.fr p.1)).ri j (.fr p.2))).ez (ed i j b ps)=_;rw[h1];exact h3
theorem rZ(c):aQ (aD c) (.a6 0)=ai (.a6 (c.m:dr)):=rfl
theorem yi(c):aQ (aD c) (.a6 1)=ai (.a6 (c.pg:dr)):=rfl
theorem uO(c):aQ (aD c) (.a6 2)=ai (.dS (c.ae.a7 aA)):=rfl
def y8g(n)(c)(hc:c.Og):ll K a (n+2) Iy [aD c]=.ok (.fr .aC):=by
 rw[zaQ];unfold IC;rw?;rw[uO];rw?;rw[rZ];rw?;rw[zN n c.m (by have:=hc.iL;omega)];rw?;rw[w0a,sF (by have:=hc.ia;omega)];rw?
 let⟨e',k1,z3,z4,z5,k2⟩:=LQ (i:=3) (b:=Ib K a (ll K a (n+1))) (λ_ e=>∃z3 z4 z5,e=[.fr (aD c),.fr (.dS (c.ae.a7 aA)),.fr (.a6 ((2^c.m:aT):dr)),z3,z4,z5]) (c.ae.a7 aA) 0 [.fr (aD c),.fr (.dS (c.ae.a7 aA)),.fr (.a6 ((2^c.m:aT):dr)),.no,.no,.no] ⟨_,_,_,rfl⟩ (by
  rintro j w e hw ⟨z3,z4,z5,rfl⟩;let⟨s,hs,rfl⟩:=w0r.mp hw;unfold Ib;simp only[aA];rw?;rw[w0a,hc.st s hs,sF (by simp)];rw?;rw[EB];rw?
  let⟨e1,h1,z4,z5,rfl⟩:=QT (i:=4) (j:=5) (b:=Ia K a (ll K a (n+1))) (λe=>∃z4 z5,e=[.fr (aD c),.fr (.dS (c.ae.a7 aA)),.fr (.a6 ((2^c.m:aT):dr)),.fr (.dS (s.a7 bt)),z4,z5]) (s.a7 λp=>(eV p.1,W.a6 (p.2:dr))) [.fr (aD c),.fr (.dS (c.ae.a7 aA)),.fr (.a6 ((2^c.m:aT):dr)),.fr (.dS (s.a7 bt)),z4,z5] ⟨_,_,rfl⟩ (by
   rintro q hq e ⟨z4,z5,rfl⟩;let⟨p,hp,rfl⟩:=w0r.mp hq;let⟨p1,p2⟩:=hc.pr s hs p hp;unfold Ia;simp only[eV];rw?;rw[yi];rw?;rw[w0a,p1,sF (by simp)];rw?;rw[y0t n c p2];rw?;exact⟨_,rfl,_,_,rfl⟩)
  rw[h1];exact⟨_,rfl,_,_,_,rfl⟩)
 rw[k1,k2];rfl
def Dc{c:Mc}(hs:s<c.ae.aO):d8 (c.ae.a7 aA) (s:dr)=ai (aA (c.ae.jd s [])):=by
 grind [oW]
def YA:aj Kx->Kx->aT
 |[],_=>0
 |k::l,x=>if k=x then 0 else YA l x+1
theorem KZ:∀{l:aj Kx},x∈l->l[YA l x]?=ai x
 |[],h=>nomatch h
 |k::l,h=>by
  unfold YA
  by_cases e:k=x
  .rw[mS e,e];rfl
  .rw[sF e,w0d];exact KZ ((w0h.mp h).æ λz=>e z.symm)
theorem R7(h:x∈l):YA l x<l.aO:=(w0c.mp (KZ h)).1
theorem K0:∀{l:aj Kx},x∈l->YA (l++m) x=YA l x
 |[],h=>nomatch h
 |k::l,h=>by
  show(if k=x then 0 else YA (l++m) x+1)=(if k=x then 0 else YA l x+1)
  by_cases e:k=x
  .rw[mS e,mS e]
  .rw[sF e,sF e,K0 ((w0h.mp h).æ λz=>e z.symm)]
theorem Q4:∀{l:aj Kx},x∉l->YA (l++[x]) x=l.aO
 |[],_=>by show(if x=x then 0 else _)=0;rw[mS rfl]
 |k::l,h=>by
  show(if k=x then 0 else YA (l++[x]) x+1)=l.aO+1;rw[sF (λe=>h (by simp[e])),Q4 (λz=>h (by simp[z]))]
def z2w(hx:x∈l)(hy:y∈l)(h:YA l x=YA l y):x=y:=by
 grind [KZ]
def et(o:aT):aT->aj W
 |0=>[]
 |n+1=>.a6 (o:dr)::et (o+1) n
theorem PQ:∀(n o:aT),et o n++[.a6 ((o+n:aT):dr)]=et o (n+1)
 |0,o=>rfl
 |n+1,o=>by
  show W.a6 (o:dr)::(et (o+1) n++[W.a6 ((o+(n+1):aT):dr)])=W.a6 (o:dr)::et (o+1) (n+1);rw[show o+(n+1)=(o+1)+n by omega,PQ n (o+1)]
theorem Fo:∀(l:aj Kx)(o:aT),mD l (et o l.aO) x=if x∈l then ai (.a6 ((o+YA l x:aT):dr))else none
 |[],o=>by rw[sF (by simp)];rfl
 |k::l,o=>by
  show(if k=x then ai (W.a6 (o:dr))else mD l (et (o+1) l.aO) x)=_
  by_cases e:k=x
  .simp_all [YA]
  .rw[sF e,Fo l (o+1),show YA (k::l) x=YA l x+1 from sF e]
   grind
def cw(l:aj Kx)(x:Kx):aj Kx:=if x∈l then l else l++[x]
def z2x(l)(x):∃m,cw l x=l++m:=by
 unfold cw;split
 all_goals simp_all
def R8(l)(x):x∈cw l x:=by
 grind [cw]
def z2y(l)(x):(cw l x).aO<=l.aO+1:=by
 unfold cw;split<;>simp
theorem K1:∀(xs l:aj Kx),∃m,xs.yW cw l=l++m
 |[],l=>⟨[],by simp⟩
 |x::xs,l=>by
  let⟨m1,h1⟩:=z2x l x;let⟨m2,h2⟩:=K1 xs (cw l x)
  grind
theorem Cg:∀(xs l:aj Kx),∀x∈xs,x∈xs.yW cw l
 |[],_,_,h=>nomatch h
 |y::xs,l,x,h=>by
  rw[w1x];rcases w0h.mp h with rfl|h
  .let⟨m,e⟩:=K1 xs (cw l x)
   grind [R8]
  .exact Cg xs _ x h
theorem fL:∀(xs l:aj Kx),(xs.yW cw l).aO<=l.aO+xs.aO
 |[],l=>by simp
 |x::xs,l=>by
  rw[w1x];have:=fL xs (cw l x)
  grind [z2y]
def oS(ks:aj aT)(p:Pr):Kx:=.gw [.gw (p.1.a7 .bl),.a6 ((ks.jd p.2 0:aT):dr)]
def Yf(ks:aj aT)(s:aj Pr):Kx:=.gw (s.a7 (oS ks))
def xg(c:Mc)(ks:aj aT):aj aT:=c.ae.a7 λs=>YA ((c.ae.a7 (Yf ks)).yW cw []) (Yf ks s)
def z8m(c)(ks):(xg c ks).aO=c.ae.aO:=by simp[xg]
def R9    (h:i<c.ae.aO):(xg c ks).jd i 0=YA ((c.ae.a7 (Yf ks)).yW cw []) (Yf ks (c.ae.jd i [])):=by
 unfold xg;simp[aj.jd,h]
def jm{c:Mc}(h:i<c.ae.aO):c.ae.jd i []∈c.ae:=by
 grind
def Vh(hi:i<c.ae.aO)(hj:j<c.ae.aO):(xg c ks).jd i 0=(xg c ks).jd j 0↔Yf ks (c.ae.jd i [])=Yf ks (c.ae.jd j []):=by
 rw[R9 hi,R9 hj];refine⟨λh=>z2w (Cg _ _ _ (w2n (jm hi))) (Cg _ _ _ (w2n (jm hj))) h,λh=>by rw[h]⟩
def Vi:∀k∈xg c ks,k<c.ae.aO:=by
 intro k hk;unfold xg at hk;let⟨s,hs,rfl⟩:=w0r.mp hk;have h1:=R7 (Cg (c.ae.a7 (Yf ks)) [] _ (w2n hs))
 grind [fL]
def bZ(c:Mc):aT->aj aT
 |0=>aj.w4 c.ae.aO 0
 |t+1=>xg c (bZ c t)
theorem qk(c):∀t,(bZ c t).aO=c.ae.aO
 |0=>w2f
 |t+1=>z8m c _
theorem Fy(h:0<c.ae.aO):∀t,∀k∈bZ c t,k<c.ae.aO
 |0,k,hk=>by
  have:=w4r hk;omega
 |t+1,k,hk=>Vi k hk
def kd(c:Mc)(t i:aT):aT:=(bZ c t).jd i 0
def V5(c:Mc)(i r:aT):aj ie:=((c.ae.jd i []).jd r ([],0)).1
def eM(c:Mc)(i r:aT):aT:=((c.ae.jd i []).jd r ([],0)).2
def oY(hc:c.Og)(hi:i<c.ae.aO)(hr:r<2^c.m):eM c i r<c.ae.aO:=by
 have hs:=jm hi;have hl:=hc.st _ hs;unfold eM;have vA:r<(c.ae.jd i []).aO:=by omega
 have e:(c.ae.jd i []).jd r ([],0)=(c.ae.jd i [])[r]:=by grind
 rw[e];exact(hc.pr _ hs _ (w1o vA)).2
def uN(c)(i):kd c 0 i=0:=by
 grind [kd,bZ]
def z8n{p:Q.Pr}:oS ks p=oS ks q↔p.1=q.1/\ks.jd p.2 0=ks.jd q.2 0:=by
 grind [oS,aj.map_inj_right]
def zP(hc:c.Og)(hi:i<c.ae.aO)(hj:j<c.ae.aO):kd c (t+1) i=kd c (t+1) j↔∀r,r<2^c.m->V5 c i r=V5 c j r/\kd c t (eM c i r)=kd c t (eM c j r):=by
 show(xg c (bZ c t)).jd i 0=(xg c (bZ c t)).jd j 0↔_;rw[Vh hi hj];have l1:=hc.st _ (jm hi);have l2:=hc.st _ (jm hj);unfold Yf V5 eM kd;generalize c.ae.jd i []=s at l1;generalize c.ae.jd j []=s' at l2
 have YL:∀(s s':aj Pr),s.aO=s'.aO->(s.a7 (oS (bZ c t))=s'.a7 (oS (bZ c t))↔∀r,r<s.aO->oS (bZ c t) (s.jd r ([],0))=oS (bZ c t) (s'.jd r ([],0))):=by
  intro s s' hl;constructor
  .intro h r hr;have z:=Zd (λl=>l[r]?) h
   grind
  .intro h;apply w2j
   grind
 grind [z8n]
theorem EN{c:Mc}(hc:c.Og):∀(t:aT){i j:aT},i<c.ae.aO->j<c.ae.aO->kd c (t+1) i=kd c (t+1) j->kd c t i=kd c t j
 |0,i,j,_,_,_=>by rw[uN,uN]
 |t+1,i,j,hi,hj,h=>by
  rw[zP hc hi hj]at h |-
  exact λr hr=>⟨(h r hr).1,EN hc t (oY hc hi hr) (oY hc hj hr) (h r hr).2⟩
theorem v7:∀(n:aT){l:aj aT},l.yr->(∀x∈l,x<n)->l.aO<=n
 |0,l,_,h=>by
  cases l with
  |ro=>simp
  |p9 x l=>exact uv (h x (by simp)) (by omega)
 |n+1,l,hn,h=>by
  by_cases m:n∈l
  .have e:=w4q m
   have:=v7 n (hn.erase n) (λx hx=>by
    grind)
   grind
  .have:=v7 n hn (λx hx=>by
    grind)
   omega
theorem Vj{l:aj aT}(hn:l.yr)(h:∀x∈l,x<n)(hl:n<=l.aO)(hy:y<n):y∈l:=_o.byContradiction λz=>by
 have:=v7 n (l:=y::l) (w1m.uY ⟨z,hn⟩) (λx hx=>by
  grind)
 simp at this;omega
def aW(l:aj aT)(x:aT):aj aT:=if x∈l then l else l++[x]
def z2z(l)(x):∃m,aW l x=l++m:=by
 unfold aW;split
 all_goals simp_all
def R_(l)(x):x∈aW l x:=by
 grind [aW]
def z8o(h:l.yr)(x):(aW l x).yr:=by
 grind [aW]
theorem EO:∀(xs l:aj aT),∃m,xs.yW aW l=l++m
 |[],l=>⟨[],by simp⟩
 |x::xs,l=>by
  let⟨m1,h1⟩:=z2z l x;let⟨m2,h2⟩:=EO xs (aW l x)
  grind
theorem Q5:∀(xs l:aj aT),∀x∈xs,x∈xs.yW aW l
 |[],_,_,h=>nomatch h
 |y::xs,l,x,h=>by
  rw[w1x];rcases w0h.mp h with rfl|h
  .let⟨m,e⟩:=EO xs (aW l x)
   grind [R_]
  .exact Q5 xs _ x h
theorem Q6:∀(xs:aj aT){l:aj aT},l.yr->(xs.yW aW l).yr
 |[],_,h=>h
 |x::xs,l,h=>Q6 xs (z8o h x)
theorem PR:∀(xs l:aj aT),(∀x∈l,B x)->(∀x∈xs,B x)->∀x∈xs.yW aW l,B x
 |[],_,h,_=>h
 |y::xs,l,h,g=>PR xs (aW l y) (λx hx=>by
   grind [aW]) λx hx=>g x (by simp[hx])
def Vk{m:aj aT}(h:x∈l):(l++m).Ue x=l.Ue x:=by
 grind
theorem VP{l:aj aT}(h:x∈l):l.Ue x<l.aO:=w2k.uY h
def Vl{l:aj aT}(h:x∈l):l.jd (l.Ue x) 0=x:=by
 grind
def bf(g:aT->aj Pr)(b:aT):aT->aj aT
 |0=>[b]
 |i+1=>if i<(bf g b i).aO then((g ((bf g b i).jd i 0)).a7 (·.2)).yW aW (bf g b i)else bf g b i
def Co(g)(b i):∃m,bf g b (i+1)=bf g b i++m:=by
 show ∃m,(if i<(bf g b i).aO then((g ((bf g b i).jd i 0)).a7 (·.2)).yW aW (bf g b i)else bf g b i)=_;split
 all_goals simp_all [EO]
theorem Sa(g)(b i):∀d,∃m,bf g b (i+d)=bf g b i++m
 |0=>⟨[],by simp⟩
 |d+1=>by
  let⟨m1,h1⟩:=Sa g b i d;let⟨m2,h2⟩:=Co g b (i+d)
  grind
theorem ym(g)(b):∀i,(bf g b i).yr
 |0=>by simp[bf]
 |i+1=>by
  unfold bf;split
  .exact Q6 _ (ym g b i)
  .exact ym g b i
theorem uP{B:aT->Prop}(h0:B b)(hs:∀x,B x->∀p∈g x,B p.2):∀i,∀x∈bf g b i,B x
 |0=>λx hx=>by
  grind [bf]
 |i+1=>by
  unfold bf;split
  .rename_i hi;refine PR _ _ (uP h0 hs i) λx hx=>?_
   let⟨p,hp,rfl⟩:=w0r.mp hx;refine hs _ (uP h0 hs i _ ?_) p hp
   grind
  .exact uP h0 hs i
def Sb(g)(b i):∃m,bf g b i=b::m:=by
 let⟨m,h⟩:=Sa g b 0 i;rw[w2a]at h;exact⟨m,by rw[h];rfl⟩
def bK(T:aj aT)(s:aj Pr):aj Pr:=s.a7 λp=>(p.1,T.Ue p.2)
def y8h(h:∀p∈s,p.2∈T):bK (T++m) s=bK T s:=by
 grind [bK,aj.zc']
theorem Mj{g:aT->aj Pr}{b:aT}:∀i,i<=(bf g b i).aO->∀x∈(bf g b i).yE i,∀p∈g x,p.2∈bf g b i
 |0,_,x,hx=>by simp at hx
 |i+1,hl,x,hx=>by
  let⟨m,hm⟩:=Co g b i;intro p hp
  by_cases hi:i<(bf g b i).aO
  .have vC:x∈(bf g b i).yE (i+1):=by
    grind
   rw[w3n hi]at vC;rcases w3g.mp vC with z|z
   .rw[hm];exact w1y _ (Mj i (by omega) x z p hp)
   .rw[w1h]at z;subst z;unfold bf;rw[mS hi]
    grind [Q5]
  .have e:bf g b (i+1)=bf g b i:=by
    simp_all [bf,sF]
   rw[e]at hl;omega
def VV(hi:i<(bf g b i).aO):((bf g b (i+1)).yE (i+1)).a7 (λx=>bK (bf g b (i+1)) (g x))=((bf g b i).yE i).a7 (λx=>bK (bf g b i) (g x))++[bK (bf g b (i+1)) (g ((bf g b i).jd i 0))]:=by
 let⟨m,hm⟩:=Co g b i;have e:(bf g b i).jd i 0=(bf g b i)[i]:=by simp[aj.jd,hi]
 have h1:(bf g b (i+1)).yE (i+1)=(bf g b i).yE i++[(bf g b i)[i]]:=by
  grind [aj.take_succ_eq_append_getElem]
 rw[h1,w1b,e];congr 1;refine w1n λx hx=>?_
 rw[hm];exact y8h (Mj i (by omega) x hx)
theorem Q7:∀{ks:aj aT},k∈ks->mw (k:dr) (ks.a7 λk:aT=>(k:dr))=ai (ks.Ue k)
 |[],h=>nomatch h
 |y::ks,h=>by
  show(if(y:dr)=(k:dr)then ai 0 else(mw (k:dr) (ks.a7 λk:aT=>(k:dr))).a7 (·+1))=_
  by_cases e:y=k
  .grind
  .rw[sF (by omega),Q7 ((w0h.mp h).æ λz=>e z.symm),w5f,beq_false_of_ne e]
   rfl
def aK(k:aT):W:=.a6 (k:dr)
def aF(ks:aj aT):W:=.dS (ks.a7 aK)
theorem T_:∀bs:aj ie,gW (bs.a7 .bl)=ai (bs.a7 .bl)
 |[]=>rfl
 |b::bs=>by
  show(match xH (.bl b),gW (bs.a7 .bl)with|ai k,ai ks=>ai (k::ks)|_,_=>none)=_;rw[T_ bs];rfl
def gL(ks:aj aT)(p:Pr):W:=.gw [eV p.1,aK (ks.jd p.2 0)]
def VW(ks)(p):xH (gL ks p)=ai (oS ks p):=by
 show(gW [eV p.1,aK (ks.jd p.2 0)]).a7 Kx.gw=_
 have e:gW [eV p.1,aK (ks.jd p.2 0)]=ai [.gw (p.1.a7 .bl),.a6 ((ks.jd p.2 0:aT):dr)]:=by
  show(match(gW (p.1.a7 .bl)).a7 Kx.gw,(ai [Kx.a6 ((ks.jd p.2 0:aT):dr)]:fy (aj Kx))with|ai k,ai ks=>ai (k::ks)|_,_=>none)=_;rw[T_];rfl
 rw[e];rfl
theorem Tv(ks):∀s:aj Pr,gW (s.a7 (gL ks))=ai (s.a7 (oS ks))
 |[]=>rfl
 |p::s=>by
  show(match xH (gL ks p),gW (s.a7 (gL ks))with|ai k,ai ks=>ai (k::ks)|_,_=>none)=_;rw[VW,Tv ks s];rfl
def L7(ks)(s):kx (.gw (s.a7 (gL ks)))=ai (Yf ks s):=by
 show(gW (s.a7 (gL ks))).a7 Kx.gw=_;rw[Tv];rfl
theorem Sd:∀bs:aj ie,l4 (bs.a7 .bl) .bl
 |[]=>trivial
 |_::bs=>⟨trivial,Sd bs⟩
theorem Tw:∀bs:aj ie,Kx.dn (bs.a7 .bl)=0
 |[]=>rfl
 |b::bs=>by show max 0 (Kx.dn (bs.a7 .bl))=0;rw[Tw bs];rfl
def LR(ks)(s):Z6 (Yf ks s) (.YW (.gw [.YW .bl,.a6])):=by
 have h1:∀s:aj Pr,l4 (s.a7 (oS ks)) (.gw [.YW .bl,.a6]):=λs=>by
  induction s with
  |ro=>trivial
  |p9 p s ih=>exact⟨⟨Sd p.1,trivial,trivial⟩,ih⟩
 have h2:∀s:aj Pr,Kx.dn (s.a7 (oS ks))<=2:=λs=>by
  induction s with
  |ro=>exact w1c _
  |p9 p s ih=>
   show max (max (Kx.dn (p.1.a7 .bl)+1) (max 0 0)+1) (Kx.dn (s.a7 (oS ks)))<=2;rw[Tw];omega
 refine⟨h1 s,?_⟩;show Kx.dn (s.a7 (oS ks))+1<=7;have:=h2 s;omega
def Dj(c:Mc)(ks:aj aT)(j:aT):aj Kx:=((c.ae.yE j).a7 (Yf ks)).yW cw []
def Se(h):Dj c ks (j+1)=cw (Dj c ks j) (Yf ks c.ae[j]):=by
 grind [Dj,PN]
def UW(j):(Dj c ks j).aO<=j:=by
 grind [fL,Dj]
def UX(h:x∈Dj c ks j):YA ((c.ae.a7 (Yf ks)).yW cw []) x=YA (Dj c ks j) x:=by
 have e:(c.ae.a7 (Yf ks)).yW cw []=(((c.ae.zd j).a7 (Yf ks)).yW cw (Dj c ks j)):=by
  grind [Dj,aj.take_append_drop]
 rw[e];let⟨m,hm⟩:=K1 ((c.ae.zd j).a7 (Yf ks)) (Dj c ks j)
 grind [K0]
def qR(c:Mc)(ks:aj aT)(s:aj Pr):aT:=YA ((c.ae.a7 (Yf ks)).yW cw []) (Yf ks s)
def qm{ks:aj aT}(h:i<ks.aO):d8 (ks.a7 aK) (i:dr)=ai (aK (ks.jd i 0)):=by
 grind [oW]
def y8k{c:Mc}(h:(c.ae.a7 aA)[j]?=ai w):∃hj:j<c.ae.aO,w=aA c.ae[j]:=by
 grind
def y8l(n)(c)(hc:c.Og)(ks)(hk:ks.aO=c.ae.aO)(j)(hj)(uZ)(ho:uZ.aO<=1000)(w0)(z5):
  ∃yP,D3 K a (ll K a n) [.fr w0,.fr (aF ks),.dw (.YW (.gw [.YW .bl,.a6])) (Dj c ks j) (et 0 (Dj c ks j).aO),.ke none (uZ.a7 aK),.fr (aA c.ae[j]),z5] =
   .nx [.fr w0,.fr (aF ks),.dw (.YW (.gw [.YW .bl,.a6])) (Dj c ks (j+1)) (et 0 (Dj c ks (j+1)).aO),.ke none ((uZ++[qR c ks c.ae[j]]).a7 aK),.fr (aA c.ae[j]),yP]:=by
 have oJ:=hc.mo;have hs:=hc.st _ (w1o hj);have Hf:=hc.pr _ (w1o hj);have p8:2^c.m<=8:=w0q (w0s (by decide) hc.iL) (by decide);have kF:=R8 (Dj c ks j) (Yf ks c.ae[j]);have _d:=UX (c:=c) (ks:=ks) (j:=j+1) (x:=Yf ks c.ae[j]) (by grind [Se]);have M5:=UW (c:=c) (ks:=ks) j;have vB:=Se (c:=c) (ks:=ks) hj;generalize ko:c.ae[j]=s at *
 have A_:aj.a7 (λp:W×W=>W.gw [p.1,(aQ (aF ks) p.2).jd .aC]) (aj.DV (λ_=>true) (s.a7 λp=>(eV p.1,W.a6 (p.2:dr))))=s.a7 (gL ks):=by
  rw[w4e.uY (λ_ _=>rfl),w0z]
  refine w1n λp hp=>?_
  show W.gw [eV p.1,(d8 (ks.a7 aK) (p.2:dr)).jd .aC]=gL ks p;rw[qm (by grind)];rfl
 unfold D3;unfold aA;rw?;rw[EB];rw?;rw[mS (by grind)];simp only[cM,iw,w0d,w0g];rw[J' (q:=λ_=>true) (g:=λp=>.gw [p.1,(aQ (aF ks) p.2).jd .aC])]
 .rw?;rw[A_,UH (L7 ks s) (LR ks s),Fo]
  have app:∀D:aj Kx,D=cw (Dj c ks j) (Yf ks s)->∃yP,(eS 3 (aa (bE (ao xD (af 2) (af 5))) ag)) [.fr w0,.fr (aF ks),.dw (.YW (.gw [.YW .bl,.a6])) D (et 0 D.aO),.ke none (uZ.a7 aK),.fr (.dS (s.a7 bt)),.fr (.gw (s.a7 (gL ks)))] =
    .nx [.fr w0,.fr (aF ks),.dw (.YW (.gw [.YW .bl,.a6])) (Dj c ks (j+1)) (et 0 (Dj c ks (j+1)).aO),.ke none ((uZ++[qR c ks s]).a7 aK),.fr (.dS (s.a7 bt)),yP]:=by
   rintro D rfl;rw?;rw[VU (L7 ks s) (LR ks s),Fo,mS kF];rw?;rw[mS (by grind),vB];refine⟨.fr (.gw (s.a7 (gL ks))),?_⟩;rw[vB]at _d;rw[<- _d,w1b];rfl
  by_cases hm:Yf ks s∈Dj c ks j
  .rw[mS hm];have e:cw (Dj c ks j) (Yf ks s)=Dj c ks j:=mS hm;have q:=app (Dj c ks j) e.symm;revert q;rw?;exact id
  .rw[sF hm];have e:cw (Dj c ks j) (Yf ks s)=Dj c ks j++[Yf ks s]:=sF hm;have q:=app _ e.symm;revert q;rw?;intro q;rw[z7c (L7 ks s) (by omega) (by rfl) (LR ks s) (by rw[Fo,sF hm])];rw?;rw[show et 0 (Dj c ks j).aO++[W.a6 ((Dj c ks j).aO:dr)]=et 0 (Dj c ks j++[Yf ks s]).aO by rw[w1k];have:=PQ (Dj c ks j).aO 0;grind];exact q
 .intro q hq;let⟨p,hp,rfl⟩:=w0r.mp hq;refine⟨_,rfl,λ_=>?_⟩
  unfold N2 aF;rw?;rw[qm (by grind)];rw?;exact⟨_,rfl⟩
def Ql(n)(c)(hc:c.Og)(ks)(hk:ks.aO=c.ae.aO):ll K a (n+1) Ed [.dS (c.ae.a7 aA),aF ks]=.ok (.ke none ((xg c ks).a7 aK)):=by
 have oJ:=hc.mo;rw[zal];unfold IJ;rw?
 let⟨e',h1,z4,z5,h2⟩:=LS (b:=D3 K a (ll K a n)) (i:=4) (λj e=>∃z4 z5,e=[.fr (.dS (c.ae.a7 aA)),.fr (aF ks),.dw (.YW (.gw [.YW .bl,.a6])) (Dj c ks j) (et 0 (Dj c ks j).aO),.ke none (((c.ae.yE j).a7 (qR c ks)).a7 aK),z4,z5]) (c.ae.a7 aA) 0 [.fr (.dS (c.ae.a7 aA)),.fr (aF ks),.dw (.YW (.gw [.YW .bl,.a6])) [] [],.ke none [],.no,.no] ⟨_,_,rfl⟩ (by
  rintro j w e hw ⟨z4,z5,rfl⟩;let⟨hj,rfl⟩:=y8k hw;rw[w2a]at *;let⟨yP,q⟩:=y8l (K:=K) (a:=a) n c hc ks hk j hj ((c.ae.yE j).a7 (qR c ks)) (by simp;omega) _ z5;refine⟨_,q,.fr (aA c.ae[j]),yP,?_⟩;rw[PN hj,w1b (f:=qR c ks)];rfl)
 rw[h1,h2];rw?;rw[w0a,w4z (by omega)];rfl
def jc(c:Mc)(t:aT):aj W:=(aj.u5 (t+1)).a7 λs=>aF (bZ c s)
def Qm(c)(t):jc c (t+1)=jc c t++[aF (bZ c (t+1))]:=by
 grind [jc,aj.range_succ]
def z20(c)(t):(jc c t).aO=t+1:=by unfold jc;simp
def Lz{x:α}:d8 (l++[x]) (-1)=ai x:=by
 unfold d8 oO;rw[sF (by decide),mS (by simp;omega)];have e:(-1+((l++[x]).aO:dr)).sG=l.aO:=by simp;omega
 simp_all
def Qn(c)(t):d8 (jc c t) (-1)=ai (aF (bZ c t)):=by
 cases t with
 |TL=>exact Lz (l:=[])
 |OK t=>rw[Qm];exact Lz
def VX(m:aT)(h:m<=1000):pR (.dS [.a6 0]) (.a6 (m:dr))=ai (aF (aj.w4 m 0)):=by
 rw[UR,mS ⟨pP (by omega) (by omega),by simp;omega⟩,w1v]
 simp_all [aF,aK]
theorem Tx(hc:c.Og)(t):bZ c t≠[]:=λh=>by
 grind [qk,Mc.Og.ia]
def d9(c:Mc)(L:aT):Prop:=∀i j,i<c.ae.aO->j<c.ae.aO->kd c L i=kd c L j->kd c (L+1) i=kd c (L+1) j
theorem K2{c:Mc}(hc:c.Og)(h:d9 c L):∀(t i j:aT),i<c.ae.aO->j<c.ae.aO->kd c L i=kd c L j->kd c t i=kd c t j
 |0,i,j,_,_,_=>by rw[uN,uN]
 |t+1,i,j,hi,hj,e=>by
  have e1:=(zP hc hi hj).mp (h i j hi hj e);exact(zP hc hi hj).uY λr hr=>⟨(e1 r hr).1,K2 hc h t _ _ (oY hc hi hr) (oY hc hj hr) (e1 r hr).2⟩
theorem Qo:∀(xs D:aj Kx),(∀k,k<D.aO->∃x∈D,YA D x=k)->∀k,k<(xs.yW cw D).aO->∃x∈xs.yW cw D,YA (xs.yW cw D) x=k
 |[],D,h=>h
 |y::xs,D,h=>by
  rw[w1x];refine Qo xs (cw D y) λk hk=>?_
  unfold cw at hk |-
  by_cases hy:y∈D
  .grind
  .rw[sF hy]at hk |-
   by_cases lj:k<D.aO
   .let⟨x,hx,e⟩:=h k lj;exact⟨x,w1y _ hx,by rw[K0 hx,e]⟩
   grind [Q4]
theorem Qp:∀(xs D:aj Kx),∀x∈xs.yW cw D,x∈D\/x∈xs
 |[],D,x,h=>.j9 h
 |y::xs,D,x,h=>by
  rw[w1x]at h;rcases Qp xs (cw D y) x h with z|z
  all_goals grind [cw]
def uQ(h:i<c.ae.aO):kd c t i∈bZ c t:=by
 grind [qk,kd]
def UY(h:k∈bZ c t):∃i,i<c.ae.aO/\kd c t i=k:=by
 let⟨i,hi,e⟩:=w3d h;refine⟨i,by grind [qk],?_⟩
 grind [kd]
theorem z21{c:Mc}(hc:c.Og):∀(t:aT){M k:aT},M∈bZ c t->k<=M->∃i,i<c.ae.aO/\kd c t i=k
 |0,M,k,hM,hk=>by
  have e:M=0:=w4r hM;exact⟨0,hc.ia,by rw[uN];omega⟩
 |t+1,M,k,hM,hk=>by
  have Dv:M∈xg c (bZ c t):=hM;unfold xg at Dv;let⟨s,hs,e⟩:=w0r.mp Dv;have h1:=R7 (Cg (c.ae.a7 (Yf (bZ c t))) [] _ (w2n hs));let⟨x,hx,e2⟩:=Qo (c.ae.a7 (Yf (bZ c t))) [] (λk hk=>by simp at hk) k (by omega)
  rcases Qp _ _ x hx with z|z
  .simp at z
  .let⟨s',i_,rfl⟩:=w0r.mp z;refine UY (t:=t+1) ?_
   grind [xg,bZ]
def z8p  (hc:c.Og)  (hM:M∈bZ c L)(MT:∀k∈bZ c L,k<=M)(MU:∀k∈bZ c (L+1),k<=M')(hle:M'<=M):d9 c L:=by
 have X_:=λk (hk:k<=M)=>z21 hc L hM hk
 let yM:aT->aT:=λk=>_o.epsilon λi=>i<c.ae.aO/\kd c L i=k
 have um:∀k,k<=M->yM k<c.ae.aO/\kd c L (yM k)=k:=λk hk=>_o.epsilon_spec (p:=λi=>i<c.ae.aO/\kd c L i=k) (X_ k hk)
 have DJ:((aj.u5 (M+1)).a7 λk=>kd c (L+1) (yM k)).yr:=by
  refine w3t.uY (aj.Y7.imp_of_mem (R:=(·≠·)) ?_ aj.nodup_range);intro x y hx hy gH e;refine gH ?_;have hx:=um x (by have:=w0u.mp hx;omega);have hy:=um y (by have:=w0u.mp hy;omega);have:=EN hc L hx.1 hy.1 e;rw[hx.2,hy.2]at this;exact this
 have YL:∀i,i<c.ae.aO->kd c (L+1) i=kd c (L+1) (yM (kd c L i)):=λi hi=>by
  have hm:=Vj (n:=M+1) DJ (λx hx=>by
   let⟨k,hk,rfl⟩:=w0r.mp hx;have hk:=um k (by have:=w0u.mp hk;omega);have:=MU _ (uQ (t:=L+1) hk.1);omega) (by simp) (y:=kd c (L+1) i) (by have:=MU _ (uQ (t:=L+1) hi);omega)
  let⟨k,hk,e⟩:=w0r.mp hm;have hk:=um k (by have:=w0u.mp hk;omega);have:=EN hc L hk.1 hi e;rw[hk.2]at this;rw[<- this];exact e.symm
 intro i j hi hj e;rw[YL i hi,YL j hj,e]
def Tz(h:ks≠[]):∃M:aT,lE [aF ks]=ai (.a6 (M:dr))/\M∈ks/\∀k∈ks,k<=M:=by
 cases ks with
 |ro=>exact uv rfl h
 |p9 k ks=>
  have e:lE [aF (k::ks)]=ai (.a6 (fh (k:dr) (ks.a7 λx:aT=>(x:dr)))):=by
   have:=UG (n:=(k:dr)) (ns:=ks.a7 λx:aT=>(x:dr))
   rw[w0n,w0z]at this;exact this
  let⟨h1,h2,h3⟩:=Ls (ks.a7 λx:aT=>(x:dr)) (k:dr)
  have qT:∀M:aT,fh (k:dr) (ks.a7 λx:aT=>(x:dr))=(M:dr)->∀x∈k::ks,x<=M:=λM hM x hx=>by
   rcases w0h.mp hx with rfl|hx
   all_goals simp_all
  grind
def yM(c:Mc)(L k:aT):aT:=(bZ c L).Ue k
def kj(h:k∈bZ c L):yM c L k<c.ae.aO:=by
 rw[<- qk c L];exact VP h
theorem r8(h:k∈bZ c L):kd c L (yM c L k)=k:=Vl h
def cf(c:Mc)(L k:aT):aj Pr:=(c.ae.jd (yM c L k) []).a7 λp=>(p.1,kd c L p.2)
theorem Fp(hc:c.Og)(h:k∈bZ c L):∀p∈cf c L k,p.2∈bZ c L:=λp hp=>by
 unfold cf at hp;let⟨q,hq,rfl⟩:=w0r.mp hp;exact uQ (hc.pr _ (jm (kj h)) q hq).2
def fP(c:Mc)(L:aT)(T:aj aT):Mc:=⟨c.m,c.pg,T.a7 λk=>bK T (cf c L k)⟩
structure Cl(c:Mc)(L:aT)(T:aj aT):Prop where
 nd:T.yr
 Xt:∀k∈T,k∈bZ c L
 ia:0<T.aO
 cl:∀k∈T,∀p∈cf c L k,p.2∈T
theorem Cl.uz(hc:c.Og)(h:Cl c L T):T.aO<=c.ae.aO:=v7 _ h.nd λk hk=>Fy hc.ia L k (h.Xt k hk)
theorem Cl.ok(hc:c.Og)(h:Cl c L T):(fP c L T).Og where
 iL:=hc.iL
 wg:=hc.wg
 ia:=by show 0<(T.a7 _).aO;grind [ia]
 mo:=by
  show(T.a7 _).aO<=700;rw[w0a];have:=h.uz hc;have:=hc.mo;omega
 st:=λs hs=>by
  let⟨k,hk,rfl⟩:=w0r.mp hs;unfold bK cf;rw[w0a,w0a];exact hc.st _ (jm (kj (h.Xt k hk)))
 pr:=λs hs p hp=>by
  let⟨k,hk,rfl⟩:=w0r.mp hs;have Nm:=hp;unfold bK at hp;let⟨q,hq,rfl⟩:=w0r.mp hp;have h2:=h.cl k hk q hq;unfold cf at hq;let⟨q',Hg,rfl⟩:=w0r.mp hq;refine⟨(hc.pr _ (jm (kj (h.Xt k hk))) q' Hg).1,?_⟩;show _<(T.a7 _).aO
  grind
def nD:aT->aj aT->aj (Xx×Sv)
 |_,[]=>[]
 |o,x::T=>(.j9 (x:dr),.j9 (o:dr))::nD (o+1) T
theorem Sf:∀(T:aj aT)(o:aT),nD o (T++[x])=nD o T++[(.j9 (x:dr),.j9 ((o+T.aO:aT):dr))]
 |[],o=>rfl
 |y::T,o=>by
  show _::nD (o+1) (T++[x])=_::(nD (o+1) T++_);rw[Sf T (o+1),show o+1+T.aO=o+(y::T).aO by simp;omega]
theorem TB:∀(T:aj aT)(o:aT),(nD o T).aO=T.aO
 |[],_=>rfl
 |_::T,o=>by show(nD (o+1) T).aO+1=_;rw[TB T];rfl
theorem Ml{x:aT}:∀(T:aj aT)(o:aT),lk (nD o T) (.j9 (x:dr))=if x∈T then ai (.j9 ((o+T.Ue x:aT):dr))else none
 |[],o=>by rw[sF (by simp)];rfl
 |y::T,o=>by
  unfold lk;rw[nD,w2b]
  by_cases e:y=x
  .subst e;simp
  .rw[Yu (λz=>e (by grind))]
   show lk (nD (o+1) T) (.j9 (x:dr))=_;rw[Ml T (o+1)]
   grind
def UZ{T:aj aT}(h:x∉T):_R (nD 0 T) (.j9 (x:dr)) (.j9 (T.aO:dr))=nD 0 (T++[x]):=by
 have e:∀(T:aj aT)(o:aT),x∉T->((nD o T).tZ λp=>decide (p.1=.j9 (x:dr)))=false:=λT=>by
  induction T with
  |ro=>intro _ _;rfl
  |p9 y T ih=>
   intro o h;show(decide ((Y8.j9 (y:dr):Xx)=.j9 (x:dr))||(nD (o+1) T).tZ _)=false
   grind
 unfold _R;rw[sF (by grind),Sf,w2a]
theorem z22{n:dr}:j0 i (.a6 m) (.a6 n) e (ai (.aZ (.k kvs)))=if kvs.aO<16777216/\mI i e=true then .nx (e.ri i (.aZ (.k (_R kvs (.j9 n) (.j9 m)))))else .no:=rfl
def y8p(r)(w0 w1)(T)(hT:T.aO<=1000)(gM)(z5)(st:aj Pr)(ko:st.aO<=1000)(t)(f:aT):
  zr K a r [.fr w0,.fr w1,.ke none (T.a7 aK),.aZ (.k (nD 0 T)),.ke none gM,.fr z5,.ke none (st.a7 bt),.fr (eV t),.fr (.a6 (f:dr))] =
   .nx [.fr w0,.fr w1,.ke none ((aW T f).a7 aK),.aZ (.k (nD 0 (aW T f))),.ke none gM,.fr z5,.ke none ((st++[(t,(aW T f).Ue f)]).a7 bt),.fr (eV t),.fr (.a6 (f:dr))]:=by
 unfold zr;rw?;rw[Ml]
 by_cases h:f∈T
 .have e:aW T f=T:=mS h;rw[mS h,sF (by simp)];rw?;rw[mS (by rfl),mS (by grind),w1b,e];rfl
 .have e:aW T f=T++[f]:=sF h;rw[sF h,mS (by rfl),z22,mS ⟨by rw[TB];omega,by rfl⟩,w0a,UZ h];rw?;rw[mS (by grind)];rw?;rw[Ml,mS (by simp)];rw?;rw[mS (by rfl),mS (by grind),w1b,e,w1b];rfl
theorem Q8(r:aT->aj W->FR)(w0 w1:W)(gM:aj W)(z5:W):∀(ps:aj Pr)(T:aj aT)(st:aj Pr)(z7 z8:S),T.aO+ps.aO<=1000->st.aO+ps.aO<=100 ->
  ∃pb pY,ed 7 8 (zr K a r) (ps.a7 λp=>(eV p.1,W.a6 (p.2:dr))) [.fr w0,.fr w1,.ke none (T.a7 aK),.aZ (.k (nD 0 T)),.ke none gM,.fr z5,.ke none (st.a7 bt),z7,z8] =
   .nx [.fr w0,.fr w1,.ke none (((ps.a7 (·.2)).yW aW T).a7 aK),.aZ (.k (nD 0 ((ps.a7 (·.2)).yW aW T))),.ke none gM,.fr z5,.ke none ((st++bK ((ps.a7 (·.2)).yW aW T) ps).a7 bt),pb,pY]
 |[],T,st,z7,z8,_,_=>⟨z7,z8,by show SR.nx _=_;simp[bK]⟩
 |p::ps,T,st,z7,z8,h1,h2=>by
  have q:=y8p (K:=K) (a:=a) r w0 w1 T (by simp at h1;omega) gM z5 st (by simp at h2;omega) p.1 p.2;have hl:(aW T p.2).aO<=T.aO+1:=by unfold aW;split<;>simp
  let⟨pb,pY,g⟩:=Q8 r w0 w1 gM z5 ps (aW T p.2) (st++[(p.1,(aW T p.2).Ue p.2)]) (.fr (eV p.1)) (.fr (.a6 (p.2:dr))) (by simp at h1;omega) (by simp at h2 |-;omega);refine⟨pb,pY,?_⟩;show(zr K a r [.fr w0,.fr w1,.ke none (T.a7 aK),.aZ (.k (nD 0 T)),.ke none gM,.fr z5,.ke none (st.a7 bt),.fr (eV p.1),.fr (.a6 (p.2:dr))]).ez (ed 7 8 (zr K a r) (ps.a7 λp=>(eV p.1,W.a6 (p.2:dr))))=_
  rw[q];rw?;rw[g];show _=SR.nx [.fr w0,.fr w1,.ke none (((ps.a7 (·.2)).yW aW (aW T p.2)).a7 aK),.aZ (.k (nD 0 ((ps.a7 (·.2)).yW aW (aW T p.2)))),.ke none gM,.fr z5,.ke none ((st++bK ((ps.a7 (·.2)).yW aW (aW T p.2)) (p::ps)).a7 bt),pb,pY];let⟨m,hm⟩:=EO (ps.a7 (·.2)) (aW T p.2)
  have e:(st++[(p.1,(aW T p.2).Ue p.2)])++bK ((ps.a7 (·.2)).yW aW (aW T p.2)) ps=st++bK ((ps.a7 (·.2)).yW aW (aW T p.2)) (p::ps):=by
   simp_all [bK,Vk,R_]
  rw[e]
structure kS(K:Fg)(a:aI)(n:aT)(j:aT)(l:Lm)(aP:aj W)(g:aT->aj Pr)(B:aT->Prop):Prop where
 yG:∀x,B x->∀e,iI bS (ll K a n) j l aP [.a6 (x:dr)] e=.ok (aA (g x)) e
 next:∀x,B x->∀p∈g x,B p.2
 iL:∀x,B x->x<700
 uz:∀x,B x->(g x).aO<=8
def km(w0 w1:W)(g:aT->aj Pr)(b i:aT)(z5 z6 z7 z8:S):aj S:=[.fr w0,.fr w1,.ke none ((bf g b i).a7 aK),.aZ (.k (nD 0 (bf g b i))),.ke none ((((bf g b i).yE i).a7 λx=>bK (bf g b i) (g x)).a7 aA),z5,z6,z7,z8]
theorem Qq(n:aT){l:Lm}{aP:aj W}{g:aT->aj Pr}(H:kS K a n j l aP g B)(w0:W)(b:aT)(hb:B b):∀(N' i:aT)(z5 z6 z7 z8:S),i<=(bf g b i).aO->701<=i+N' ->
  ∃(I:aT)(y5 y6 y7 y8:S),(bf g b I).aO=I/\bw (Ey K a (ll K a n)) (Ez K a (ll K a n)) (N'+1) (km w0 (.fn j l aP) g b i z5 z6 z7 z8)=.nx (km w0 (.fn j l aP) g b I y5 y6 y7 y8)
 |0,i,z5,z6,z7,z8,hi,hf=>by
  have:=v7 700 (ym g b i) (λx hx=>H.iL x (uP hb H.next i x hx))
  omega
 |N'+1,i,z5,z6,z7,z8,hi,hf=>by
  have hl:=v7 700 (ym g b i) (λx hx=>H.iL x (uP hb H.next i x hx))
  have ht:(((bf g b i).yE i).a7 λx=>bK (bf g b i) (g x)).aO=i:=by grind
  have hw:Ey K a (ll K a n) (km w0 (.fn j l aP) g b i z5 z6 z7 z8)=.ok (decide (i<(bf g b i).aO)) (km w0 (.fn j l aP) g b i z5 z6 z7 z8):=by
   unfold Ey km;rw?
   simp_all
  rw[vZ,hw]
  by_cases h:i<(bf g b i).aO
  .have hB:B ((bf g b i).jd i 0):=uP hb H.next i _ (by grind);have hgl:=H.uz _ hB
   have he:bf g b (i+1)=((g ((bf g b i).jd i 0)).a7 (·.2)).yW aW (bf g b i):=by
    simp_all [bf]
   let⟨y7,y8,q⟩:=Q8 (K:=K) (a:=a) (ll K a n) w0 (.fn j l aP) ((((bf g b i).yE i).a7 λx=>bK (bf g b i) (g x)).a7 aA) (.a6 ((bf g b i).jd i 0:dr)) (g ((bf g b i).jd i 0)) (bf g b i) [] z7 z8 (by omega) (by grind)
   rw[<- he]at q
   have WB:Ez K a (ll K a n) (km w0 (.fn j l aP) g b i z5 z6 z7 z8)=.nx (km w0 (.fn j l aP) g b (i+1) (.fr (.a6 ((bf g b i).jd i 0:dr))) (.fr (aA (bK (bf g b (i+1)) (g ((bf g b i).jd i 0))))) y7 y8):=by
    unfold Ez km;rw?;rw[w0a,ht,qm h];unfold aK at q |-
    rw?;rw[H.yG _ hB];unfold aA at q |-
    rw?;rw[EB];rw?;rw[show([]:aj W)=([]:aj Pr).a7 bt from rfl,q];rw?;rw[mS (by grind),VV h,w1b];rfl
   rw[Z4 h];rw?;rw[WB];rw?;let⟨m,hm⟩:=Co g b i
   exact Qq n H w0 b hb N' (i+1) _ _ _ _ (by
    grind) (by omega)
  .rw[Yu h];rw?
   grind
def Q9(n)(H:kS K a n j l aP g B)(b)(hb:B b):∃I:aT,(bf g b I).aO=I /\
  ll K a (n+1) EJ [.a6 (b:dr),.fn j l aP]=.ok (.fr (.gw [.dS (((bf g b I).a7 λx=>bK (bf g b I) (g x)).a7 aA),.dS ((bf g b I).a7 aK)])):=by
 rw[y0b];unfold Ki;rw?;let⟨I,y5,y6,y7,y8,h1,h2⟩:=Qq (K:=K) (a:=a) n H (.a6 (b:dr)) b hb 999999 0 .no .no .no .no (by simp) (by omega);rw[show(1000000:aT)=999999+1 from rfl];have e:([S.fr (W.a6 (b:dr)),.fr (.fn j l aP),.ke none [W.a6 (b:dr)],.aZ (.k [(.j9 (b:dr),.j9 0)]),.ke none [],.no,.no,.no,.no]:aj S)=km (.a6 (b:dr)) (.fn j l aP) g b 0 .no .no .no .no:=rfl;rw[e,h2];unfold km;rw?
 grind
theorem U0(t)(hi:i<c.ae.aO):d8 ((bZ c t).a7 aK) (i:dr)=ai (.a6 ((kd c t i:aT):dr)):=qm (by rw[qk];exact hi)
def y4g(n:aT)(c:Mc)(hc:c.Og):∀(N' t M:aT),lE [aF (bZ c t)]=ai (.a6 (M:dr))->M∈bZ c t->(∀k∈bZ c t,k<=M)->t<=M->M<c.ae.aO->c.ae.aO<=t+N' ->
  ∃(L:aT)(z:S),d9 c L/\L<c.ae.aO/\bw (D2 K a (ll K a (n+1))) (HY K a (ll K a (n+1))) (N'+1) [.fr (.dS (c.ae.a7 aA)),.ke none (jc c t),.fr (aF (bZ c (t+1)))]=.nx [.fr (.dS (c.ae.a7 aA)),.ke none (jc c L),z]:=by
 intro N'
 induction N' with
 |TL=>grind
 |OK N' ih=>
  intro t M h1 Wr MT h2 h3 h4;have oJ:=hc.mo;let⟨M',m1,m2,m3⟩:=Tz (Tx hc (t+1));have Dv:=Fy hc.ia (t+1) M' m2
  have hw:D2 K a (ll K a (n+1)) [.fr (.dS (c.ae.a7 aA)),.ke none (jc c t),.fr (aF (bZ c (t+1)))]=.ok (decide ((M:dr)<(M':dr))) [.fr (.dS (c.ae.a7 aA)),.ke none (jc c t),.fr (aF (bZ c (t+1)))]:=by
   unfold D2;rw?;rw[m1];rw?;rw[Qn];rw?;rw[h1];rw?
  rw[vZ,hw];rw?
  by_cases b8:(M:dr)<(M':dr)
  .rw[mS b8];unfold HY;rw?;rw[mS (by rw[z20];omega)];rw?;rw[Ql n c hc (bZ c (t+1)) (qk c (t+1))];rw?;have q:=ih (t+1) M' m1 m2 m3 (by omega) Dv (by omega);rw[Qm]at q;exact q
  .rw[sF b8];exact⟨t,_,z8p hc Wr MT m3 (by omega),by omega,rfl⟩
def z23(n)(c)(hc:c.Og):∃L:aT,d9 c L/\L<c.ae.aO/\ll K a (n+2) H_ [.dS (c.ae.a7 aA)]=.ok (.ke none (jc c L)):=by
 have oJ:=hc.mo;have _d:=hc.ia;rw[XS];unfold Ic;rw?;rw[w0a,VX _ (by omega)];rw?;rw[show d8 [aF (aj.w4 c.ae.aO 0)] (-1)=ai (aF (bZ c 0)) by exact Lz (l:=[])];rw?;rw[Ql n c hc (bZ c 0) (qk c 0)];rw?;let⟨M,m1,m2,m3⟩:=Tz (Tx hc 0);have hM:=Fy hc.ia 0 M m2;let⟨L,z,q0,q1,q2⟩:=y4g (K:=K) (a:=a) n c hc 999999 0 M m1 m2 m3 (by omega) hM (by omega);have e:([aF (aj.w4 c.ae.aO 0)]:aj W)=jc c 0:=rfl;rw[e];rw[show(W.dS (aj.a7 aK (xg c (bZ c 0))))=aF (bZ c 1)from rfl];rw[show(1000000:aT)=999999+1 from rfl];rw[q2];rw?
 grind
theorem Sg:∀ks:aj aT,d5 (ks.a7 aK)=ai (ks.a7 λk:aT=>(k:dr))
 |[]=>rfl
 |k::ks=>by
  show(d5 (ks.a7 aK)).a7 _=_;rw[Sg ks];rfl
def J1{ks:aj aT}(h:k∈ks):fN (.dS (ks.a7 aK)) [.a6 (k:dr)]=ai (.a6 ((ks.Ue k:aT):dr)):=by
 show(match d5 (ks.a7 aK)with
  |ai ys=>match mw (k:dr) ys with
   |ai j=>ai (W.a6 (j:dr))
   |none=>none
  |none=>none)=_
 grind [Sg,Q7]
theorem Ua:∀bs:aj ie,bH (bs.a7 .bl)=true
 |[]=>rfl
 |b::bs=>by show(true&&bH (bs.a7 .bl))=true;rw[Ua bs];rfl
def VY(p):ZG (bt p)=true:=by
 show(bH (p.1.a7 .bl)&&(true&&true))=true;rw[Ua];rfl
theorem Fz{f:α->W}(h:∀x,ZG (f x)=true):∀l:aj α,bH (l.a7 f)=true
 |[]=>rfl
 |x::l=>by show(ZG (f x)&&bH (l.a7 f))=true;rw[h x,Fz h l];rfl
theorem VZ(s):ZG (aA s)=true:=Fz VY s
theorem FA(l:aj (aj Pr)):ZG (.dS (l.a7 aA))=true:=Fz VZ l
theorem xR(ks:aj aT):ZG (.dS (ks.a7 aK))=true:=Fz (λ_=>rfl) ks
def U1(n)(c)(hc:c.Og)(L k)(hk:k∈bZ c L):ll K a (n+1) IA [.dS (c.ae.a7 aA),aF (bZ c L),.a6 (k:dr)]=.ok (.ke none ((cf c L k).a7 bt)):=by
 have hr:=kj hk;have hs:=jm hr;have Hf:=hc.pr _ hs;have hl:=hc.st _ hs;have p8:2^c.m<=8:=w0q (w0s (by decide) hc.iL) (by decide);rw[zaR];unfold ID aF;rw?;rw[J1 hk];rw?;rw[show(((bZ c L).Ue k:aT):dr)=((yM c L k:aT):dr)from rfl,Dc hr];unfold cf;generalize c.ae.jd (yM c L k) []=s at *;unfold aA;rw?;rw[EB];rw?;rw[mS (by grind)];simp only[cM,iw,w0d,w0g];rw[J' (q:=λ_=>true) (g:=λp=>.gw [p.1,(aQ (aF (bZ c L)) p.2).jd .aC])]
 .rw?;rw[w4e.uY (λ_ _=>rfl),w0z,w0z]
  congr 2;refine w1n λp hp=>?_
  show W.gw [eV p.1,(d8 ((bZ c L).a7 aK) (p.2:dr)).jd .aC]=_;rw[qm (by rw[qk];exact(Hf p hp).2)];rfl
 .intro q hq;let⟨p,hp,rfl⟩:=w0r.mp hq;refine⟨_,rfl,λ_=>?_⟩
  unfold NQ aF;rw?;rw[qm (by rw[qk];exact(Hf p hp).2)];rw?;exact⟨_,rfl⟩
theorem U2(n)(c)(hc:c.Og)(L):kS K a (n+2) IQ zE [.dS (c.ae.a7 aA),aF (bZ c L)] (cf c L) (·∈bZ c L) where
 yG:=λx hx e=>by
  refine Qd zbi rfl (by show(ZG (.dS (c.ae.a7 aA))&&(ZG (aF (bZ c L))&&true))=true;grind [FA,aF,xR]) ?_;show ll K a (n+2) IQ [.a6 (x:dr),.dS (c.ae.a7 aA),aF (bZ c L)]=_;rw[zat];unfold Ef;rw?;rw[U1 n c hc L x hx];rw?;rfl
 next:=λx hx=>Fp hc hx
 iL:=λx hx=>by
  have:=Fy hc.ia L x hx;have:=hc.mo;omega
 uz:=λx hx=>by
  have p8:2^c.m<=8:=w0q (w0s (by decide) hc.iL) (by decide);unfold cf;rw[w0a,hc.st _ (jm (kj hx))];exact p8
theorem U3(n)(c:Mc)(hc:c.Og):kS K a (n+1) IT zF [.dS (c.ae.a7 aA)] (λx=>c.ae.jd x []) (·<c.ae.aO) where
 yG:=λx hx e=>by
  refine Qd zbj rfl (by show(ZG (.dS (c.ae.a7 aA))&&true)=true;rw[FA];rfl) ?_;show ll K a (n+1) IT [.a6 (x:dr),.dS (c.ae.a7 aA)]=_;rw[zau];unfold Eg;rw?;rw[Dc hx];rw?;rfl
 next:=λx hx p hp=>(hc.pr _ (jm hx) p hp).2
 iL:=λx hx=>by
  have:=hc.mo;omega
 uz:=λx hx=>by
  have p8:2^c.m<=8:=w0q (w0s (by decide) hc.iL) (by decide);rw[hc.st _ (jm hx)];exact p8
theorem Mm(hc:c.Og)(h:(bf (cf c L) (kd c L 0) I).aO=I):Cl c L (bf (cf c L) (kd c L 0) I) where
 nd:=ym _ _ _
 Xt:=uP (B:=(·∈bZ c L)) (uQ hc.ia) (λx hx=>Fp hc hx) I
 ia:=by
  let⟨m,e⟩:=Sb (cf c L) (kd c L 0) I;rw[e];simp
 cl:=λk hk=>Mj I (by omega) k (by grind)
theorem z8q(hc:c.Og)(hs:d9 c L)(h:Cl c L T)(h0:kd c L 0∈T)(i):∀x∈bf (λx=>c.ae.jd x []) 0 i,x<c.ae.aO/\kd c L x∈T:=
 uP (B:=λx=>x<c.ae.aO/\kd c L x∈T) ⟨hc.ia,h0⟩ (λx hx p hp=>by
  have hl:=hc.st _ (jm hx.1);have vz:=(hc.pr _ (jm hx.1) p hp).2;refine⟨vz,?_⟩;let⟨r,hr,e⟩:=w3d hp;have hk:=uQ (t:=L) hx.1
  have e1:eM c x r=p.2:=by
   grind [eM]
  have q:=((zP hc (kj hk) hx.1).mp (hs _ _ (kj hk) hx.1 (r8 hk)) r (by omega)).2;rw[e1]at q;rw[<- q];have WV:=hc.st _ (jm (kj hk));refine h.cl _ hx.2 (((c.ae.jd (yM c L (kd c L x)) []).jd r ([],0)).1,kd c L (eM c (yM c L (kd c L x)) r)) ?_
  grind [cf,eM]) i
def z8r(m:aT)(h:m<=1000):uS (.dS [.aC]) (.a6 (m:dr))=ai (aj.w4 m .aC):=by
 show(if qi (m:dr)=true/\([W.aC]:aj W).aO*(m:dr).sG<=16777216 then ai (aj.w4 (m:dr).sG [W.aC]).Yo else none)=_;rw[mS ⟨pP (by omega) (by omega),by rw[w1v];simp;omega⟩,w1v,aj.flatten_replicate_singleton]
def y8q(n)(c)(L)(T:aj aT)(w0 w1 w3)(x)(hx:x<c.ae.aO)(hk:kd c L x∈T)(ws)(hw:ws.aO=c.ae.aO):
  ∃ws':aj W,ws'.aO=c.ae.aO/\EL K a (ll K a n) [.fr w0,.fr w1,.fr (aF (bZ c L)),.fr (.gw [w3,.dS (T.a7 aK)]),.ke none ws,.fr (.a6 (x:dr))]=.nx [.fr w0,.fr w1,.fr (aF (bZ c L)),.fr (.gw [w3,.dS (T.a7 aK)]),.ke none ws',.fr (.a6 (x:dr))]:=by
 unfold EL aF;rw?;rw[U0 L hx];rw?;rw[J1 hk];rw?;rw[show oO ws.aO (x:dr)=ai x by simp_all [oO]];rw?
 grind
def Qr(n)(c)(hc:c.Og):∃(L I:aT)(ws:aj W),d9 c L/\L<c.ae.aO/\(bf (cf c L) (kd c L 0) I).aO=I/\ll K a (n+4) Fi [aD c]=.ok (.fr (.gw [aD (fP c L (bf (cf c L) (kd c L 0) I)),.dS ws])):=by
 have oJ:=hc.mo;have _d:=hc.ia;let⟨L,hS,hL,k1⟩:=z23 (K:=K) (a:=a) (n+1) c hc;let⟨I,hI,c1⟩:=Q9 (K:=K) (a:=a) (n+2) (U2 n c hc L) (kd c L 0) (uQ hc.ia);let⟨J,hJ,c2⟩:=Q9 (K:=K) (a:=a) (n+2) (U3 (n+1) c hc) 0 hc.ia;have eL:=Mm hc hI
 have h0:kd c L 0∈bf (cf c L) (kd c L 0) I:=by
  let⟨m,e⟩:=Sb (cf c L) (kd c L 0) I;rw[e];simp
 have WC:=z8q hc hS eL h0 J;rw[y7v];unfold LJ;rw?;rw[y8g (n+1) c hc];rw?;rw[uO];rw?;rw[k1];rw?;rw[Qn];rw?;rw[show aQ (aF (bZ c L)) (.a6 0)=ai (.a6 ((kd c L 0:aT):dr))from qm (i:=0) (by rw[qk];exact _d)];rw?;generalize hT:bf (cf c L) (kd c L 0) I=T at *;rw[show dj [1,2] [S.fr (aD c),S.fr (W.dS (aj.a7 aA c.ae)),S.fr (aF (bZ c L)),S.no,S.no,S.no]=ai [.dS (c.ae.a7 aA),aF (bZ c L)]from rfl,NR,c1,Qe (by show(ZG (.dS ((T.a7 λx=>bK T (cf c L x)).a7 aA))&&(ZG (.dS (T.a7 aK))&&true))=true;rw[FA,xR];rfl)]
 rw?;rw[w0a,z8r _ (by omega)];rw?;rw[show ∀s3 s4:S,dj [1] [S.fr (aD c),S.fr (W.dS (aj.a7 aA c.ae)),S.fr (aF (bZ c L)),s3,s4,S.no]=ai [.dS (c.ae.a7 aA)]from λ_ _=>rfl,NR]
 rw[show(W.a6 0)=W.a6 ((0:aT):dr)from rfl,c2,Qe (by show(ZG (.dS _)&&(ZG (.dS _)&&true))=true;rw[FA,xR];rfl)];rw?
 let⟨e',f1,ws,z5,f2,rfl⟩:=LQ (b:=EL K a (ll K a (n+3))) (i:=5) (λ_ e=>∃(ws:aj W)(z5:S),ws.aO=c.ae.aO/\e=[S.fr (aD c),S.fr (W.dS (aj.a7 aA c.ae)),S.fr (aF (bZ c L)),S.fr (W.gw [W.dS (aj.a7 aA (aj.a7 (λx=>bK T (cf c L x)) T)),W.dS (aj.a7 aK T)]),S.ke none ws,z5])
  (aj.a7 aK (bf (λx=>c.ae.jd x []) 0 J)) 0 [S.fr (aD c),S.fr (W.dS (aj.a7 aA c.ae)),S.fr (aF (bZ c L)),S.fr (W.gw [W.dS (aj.a7 aA (aj.a7 (λx=>bK T (cf c L x)) T)),W.dS (aj.a7 aK T)]),S.ke none (aj.w4 c.ae.aO W.aC),S.no] ⟨_,_,w2f,rfl⟩ (by
  rintro j w e hw ⟨ws,z5,h1,rfl⟩;let⟨x,hx,rfl⟩:=w0r.mp hw;let⟨x1,x2⟩:=WC x hx;let⟨ws',w1,w2⟩:=y8q (K:=K) (a:=a) (n+3) c L T (aD c) (W.dS (aj.a7 aA c.ae)) (W.dS (aj.a7 aA (aj.a7 (λx=>bK T (cf c L x)) T))) x x1 x2 ws h1
  exact⟨_,w2,ws',_,w1,rfl⟩)
 rw[f1];rw?;rw[rZ];rw?;rw[yi];rw?;refine⟨L,I,ws,hS,hL,by rw[hT];exact hI,?_⟩;rw[hT];rfl
def cG(s:aT):aT->aT->aT
 |k,0=>k
 |k,f+1=>if s<=2^k then k else cG s (k+1) f
def cN(s:aT):aT:=cG s 0 12
theorem Si(s):∀(f k:aT),s<=2^(k+f)->s<=2^cG s k f/\cG s k f<=k+f/\∀j,k<=j->j<cG s k f->2^j<s
 |0,k,h=>⟨h,w0f _,λj h1 h2=>uv h2 (by simp only[cG];omega)⟩
 |f+1,k,h=>by
  unfold cG;split
  .rename_i q;exact⟨q,by omega,λj h1 h2=>by omega⟩
  .rename_i q;let⟨a1,a2,a3⟩:=Si s f (k+1) (by rw[show k+1+f=k+(f+1) by omega];exact h)
   grind
theorem su  (h:s<=700):s<=2^(0+12):=w0q h (by decide)
def LA  (h:s<=700):s<=2^cN s/\cN s<=12/\∀j,j<cN s->2^j<s:=by
 let⟨a1,a2,a3⟩:=Si s 12 0 (su h);exact⟨a1,by unfold cN;omega,λj hj=>a3 j (w1c _) hj⟩
theorem Po(n:aT)(c:Mc):∀(f k N':aT),c.ae.aO<=2^(k+f)->f<N'->k+f<=50 ->
  bw (Ei K a (ll K a (n+1))) (IK K a (ll K a (n+1))) N' [.fr (aD c),.fr (.a6 (k:dr))]=.nx [.fr (aD c),.fr (.a6 ((cG c.ae.aO k f:aT):dr))]
 |f,k,0,_,h,_=>by omega
 |f,k,N'+1,h1,h2,h3=>by
  have e:Ei K a (ll K a (n+1)) [.fr (aD c),.fr (.a6 (k:dr))]=.ok (decide (2^k<c.ae.aO)) [.fr (aD c),.fr (.a6 (k:dr))]:=by
   unfold Ei;rw?;rw[zN n k (by omega)];rw?;rw[uO];rw?;simp only[w0a,w5z]
  rw[vZ,e]
  by_cases q:c.ae.aO<=2^k
  .rw[Yu (by omega)];rw?;cases f with
   |TL=>rfl
   |OK f=>unfold cG;rw[mS q]
  .cases f with
   |TL=>exact uv (by simpa using h1) q
   |OK f=>
    rw[Z4 (by omega)];rw?;unfold IK;rw?;unfold cG;rw[sF q];exact Po n c f (k+1) N' (by rw[show k+1+f=k+(f+1) by omega];exact h1) (by omega) (by omega)
def B0(n)(c)(h:c.ae.aO<=700):ll K a (n+2) x_ [aD c]=.ok (.fr (.a6 ((cN c.ae.aO:aT):dr))):=by
 rw[zbU];unfold JH;rw?;rw[show S.fr (W.a6 0)=S.fr (W.a6 ((0:aT):dr))from rfl,Po n c 12 0 1000000 (su h) (by omega) (by omega)];rw?;rfl
def tr(c:Mc)(k q:aT):aj (fy ie):=if q%2^k<c.ae.aO then(bP k (eM c (q%2^k) (q / 2^k))++V5 c (q%2^k) (q / 2^k)).a7 ai else aj.w4 (k+c.pg) none
def EZ  (hc:c.Og)(hi:i<c.ae.aO)(hr:r<2^c.m):(V5 c i r).aO=c.pg:=by
 have hs:=jm hi;have hl:=hc.st _ hs;unfold V5;have vA:r<(c.ae.jd i []).aO:=by omega
 rw[show(c.ae.jd i []).jd r ([],0)=(c.ae.jd i [])[r] by grind];exact(hc.pr _ hs _ (w1o vA)).1
def Cq  (h:q<2^(m+k)):q / 2^k<2^m:=by
 rw[w6a]at h;exact aT.div_lt_of_lt_mul (by rwa [w4j]at h)
def U4  (hc:c.Og)  (hq:q<2^(c.m+k)):(tr c k q).aO=k+c.pg:=by
 grind [tr,nW,EZ,Cq]
def zeO(m:aT)(h:m<=1000):sm (.gw [.aC]) (.a6 (m:dr))=ai (.gw ((aj.w4 m none).a7 eo)):=by
 show(if qi (m:dr)=true/\[W.aC]≠[]/\[W.aC].aO*(m:dr).sG<=16777216 then ai (W.gw (aj.w4 (m:dr).sG [W.aC]).Yo)else none)=_;rw[mS ⟨pP (by omega) (by omega),by simp,by simp;omega⟩];simp[eo]
def z8s(l:aj ie):(l.a7 ai).a7 eo=l.a7 .bl:=by
 rw[w0z];rfl
def V0{c:Mc}{r:aT}(hc:c.Og)(hi:i<c.ae.aO)(hr:r<2^c.m):d8 ((c.ae.jd i []).a7 bt) (r:dr)=ai (.gw [.gw ((V5 c i r).a7 .bl),.a6 (eM c i r:dr)]):=by
 have hs:=jm hi;have hl:=hc.st _ hs;have vA:r<(c.ae.jd i []).aO:=by omega
 refine oW ?_;rw[w0t,w0b vA];unfold V5 eM;rw[show(c.ae.jd i []).jd r ([],0)=(c.ae.jd i [])[r] by grind];rfl
def U5{x:aT}(h:x<=2^5):(x:dr)<1073741824:=by
 have:(2:aT)^5=32:=by decide
 omega
theorem r_{x:aT}(h:x<=1000000000):qi (x:dr)=true:=pP (by omega) (by omega)
def y4i(n)(c:Mc)(hc:c.Og){q:aT}(hk:k<=5)(hs:c.ae.aO<=2^k)(hq:q<2^(c.m+k)):ll K a (n+2) Jj [aD c,.a6 (k:dr),.a6 (q:dr)]=.ok (.fr (.gw ((tr c k q).a7 eo))):=by
 have hw:=hc.wg;have hm:=hc.iL;have hp:0<2^k:=w5h k;have h1:2^(c.m+k)<=2^8:=w0s (by decide) (by omega);have h2:2^k<=2^5:=w0s (by decide) hk;rw[Y'];unfold JJ;rw?;rw[zN n k (by omega)];rw?;rw[uO];rw?;rw[mS (dr.natCast_pos.uY hp),w0a];have hb:q%2^k<2^k:=aT.mod_lt _ hp
 by_cases h:q%2^k<c.ae.aO
 .have hd:=Cq hq;have tl:=EZ hc h hd;have nl:=oY hc h hd;rw[sF (by rw[<- w4a];omega),uO];rw?;rw[<- w4a,Dc h];rw?;rw[zN n k (by omega)];unfold aA;rw?;rw[mS ⟨dr.natCast_pos.uY hp,U5 h2⟩];rw?;rw[<- dr.natCast_ediv,V0 hc h hd];rw?;rw[R1 n (by omega) (by omega)];rw?;rw[mS (by rw[w0a,w0a,nW,tl];omega),<- w1b];unfold tr;rw[mS h,z8s]
 .rw[mS (by rw[<- w4a];omega),yi];rw?;rw[show((k:dr)+(c.pg:dr))=((k+c.pg:aT):dr)from rfl,zeO _ (by omega)];rw?;unfold tr;rw[sF h]
def jh(c:Mc)(k p:aT):aj (fy ie):=(aj.u5 (2^(c.m+k))).a7 λq=>(tr c k q).jd p none
def LB(c)(k p):(jh c k p).aO=2^(c.m+k):=by unfold jh;rw[w0a,w1a]
def B1(m:aT):bN 0 (m:dr)=(aj.u5 m).a7 fun(q:aT)=>W.a6 (q:dr):=by
 unfold bN;simp
def z8t{l:aj (fy ie)}  (h:p<l.aO):d8 (l.a7 eo) (p:dr)=ai (eo (l.jd p none)):=by
 refine oW ?_;rw[w0t,w0b h]
 grind
def Pp(n)(c)(hc:c.Og)(hk:cN c.ae.aO<=4)(hs:c.ae.aO<=700):
  ll K a (n+3) BR [aD c]=.ok (.ke none ((aj.u5 (cN c.ae.aO+c.pg)).a7 λp=>W.dS ((jh c (cN c.ae.aO) p).a7 eo))):=by
 have hw:=hc.wg;have hm:=hc.iL;have i_:=(LA hs).1;have ck:=B0 (K:=K) (a:=a) n c hs;generalize cN c.ae.aO=k at hk i_ ck |-
 have h8:2^(c.m+k)<=2^7:=w0s (by decide) (by omega);rw[zbV];unfold JI;rw?;rw[ck];rw?;rw[rZ];rw?;rw[show((c.m:dr)+(k:dr))=((c.m+k:aT):dr)from rfl,zN (n+1) (c.m+k) (by omega)];rw?;have h7:(2:aT)^7=128:=by decide
 rw[mS (r_ (by omega)),B1];rw?
 rw[mS (by rw[w0a,w1a];omega),lJ (g:=λq=>W.gw ((tr c k q).a7 eo)) (aj.u5 (2^(c.m+k))) (λq hq=>⟨_,by
  unfold Ol;rw?;simp only[cM,iw,w0d,w0g,w0w,w0v];rw?;rw[y4i n c hc (by omega) i_ (w0u.mp hq)];rw?;rfl⟩)]
 rw?;simp only[cM,iw,w0d,w0g,w0w,w0v];rw?;rw[yi];rw?;rw[show((k:dr)+(c.pg:dr))=((k+c.pg:aT):dr)from rfl,mS (pP (by omega) (by omega)),B1];rw?
 rw[mS (by rw[w0a,w1a];omega),lJ (g:=λp=>W.dS ((jh c k p).a7 eo)) (aj.u5 (k+c.pg)) (λp hp=>⟨_,by
  unfold Oh;rw?;simp only[cM,iw,w0d,w0g,w0w,w0v];rw?
  rw[mS (by rw[w0a,w1a];omega),lJ (g:=λq=>eo ((tr c k q).jd p none)) (aj.u5 (2^(c.m+k))) (λq hq=>⟨_,by
   unfold Of;rw?;simp only[cM,iw,w0d,w0g,w0w,w0v];rw?;rw[z8t (by rw[U4 hc (w0u.mp hq)];exact w0u.mp hp)];rfl⟩)]
  rw?;unfold jh;rw[w0z];rfl⟩)]
 rw?
def mx(c k:dr):dr:=((c*48271+(k+1)*1299721)%2147483647)^5%2147483647
theorem V'(x):-18446744073709551616<x%2147483647/\x%2147483647<18446744073709551616:=⟨by omega,by omega⟩
def Qs(n)(c k):ll K a (n+1) Eo [.a6 c,.a6 k]=.ok (.fr (.a6 (mx c k))):=by
 rw[Y1];unfold Ja;rw?;rw[mS (V' _)];rfl
def DY:=
 (ah (cV 5 (cj ag))
  (ah (cJ 6 cO (aa (af 4) ag)
  (BJ K a r))
  (aG (bo (aa (af 2) (aa (af 3) (aa (af 5) ag)))))))
def HI:=
 (ah (aL (kZ (hX (aw (ao yn (af 2) (dC (.a6 2)))) (hX (aw (ao kh (af 4) (dC (.a6 4)))) (aw (ao kh (ao b_ (ao cq (af 1) (dC (.a6 768))) (dC (.a6 4))) (dC (.a6 0)))))) (aw (ao kh (af 4) (dC (.a6 8)))))
  (ay 2 (ao b_ (af 2) (dC (.a6 2))))
  b7)
  (DY K a r))
def HH:=
 (ah (aL (aw (ao yn (ao b_ (ao cq (af 1) (dC (.a6 96))) (dC (.a6 8))) (dC (.a6 6))))
  (ah (ay 2 (dC (.a6 3)))
  (ah (ay 4 (ao bh (dC (.a6 1)) (ao b_ (af 4) (dC (.a6 4)))))
  (ay 3 (ao b_ (af 3) (ao bh (ao bh (dC (.a6 1)) (ao iq (bL _e (aa (ao nR (af 4) (dC (.a6 3))) ag)) (dC (.a6 6)))) (bL _e (aa (ao kh (af 4) (dC (.a6 2))) ag)))))))
  b7)
  (HI K a r))
def DX:=
 (ah (aL (aw (ao yn (ao b_ (ao cq (af 1) (dC (.a6 96))) (dC (.a6 8))) (dC (.a6 5))))
  (ay 4 (ao bh (af 4) (dC (.a6 8))))
  b7)
  (HH K a r))
theorem XR(K:Fg)(a:aI)(r:aT->aj W->FR):Ie K a r =
 (ah (ay 1 (ak (r BN) (aa (af 0) (aa (dC (.a6 0)) ag))))
  (ah (ay 2 (ao b_ (af 1) (dC (.a6 3))))
  (ah (ay 3 (ao bh (ao b_ (ao cq (af 1) (dC (.a6 3))) (dC (.a6 4))) (ao iq (dC (.a6 3)) (bL _e (aa (ao yn (ao b_ (ao cq (af 1) (dC (.a6 768))) (dC (.a6 5))) (dC (.a6 1))) ag)))))
  (ah (ay 4 (ao bh (dC (.a6 1)) (ao b_ (ao cq (af 1) (dC (.a6 12))) (dC (.a6 8)))))
  (DX K a r))))):=rfl
def mE(cz:dr)(pg r:aT):aj ie:=(aj.u5 pg).a7 fun(q:aT)=>decide (mx cz (9*(r:dr)+(q:dr))%5<2)
def rH(cz:dr)(pg w5 r:aT):Pr:=(mE cz pg r,(mx cz (70+(r:dr))%(w5:dr)).sG)
def z24(n)(cz:dr){pg w5 r:aT}(hw:pg<=12)(h0:0<w5)(z0 z1 z2 z5 z6 sI)(st:aj Pr)(hl:st.aO<=100):
  BI K a (ll K a (n+1)) [z0,z1,z2,.fr (.a6 (pg:dr)),.fr (.a6 (w5:dr)),z5,z6,.fr (.a6 cz),.ke none (st.a7 bt),.fr (.a6 (r:dr)),sI]=.nx [z0,z1,z2,.fr (.a6 (pg:dr)),.fr (.a6 (w5:dr)),z5,z6,.fr (.a6 cz),.ke none ((st++[rH cz pg w5 r]).a7 bt),.fr (.a6 (r:dr)),.fr (eV (mE cz pg r))]:=by
 unfold BI;rw?;rw[mS (r_ (by omega)),B1];rw?
 rw[mS (by rw[w0a,w1a];omega),lJ (g:=fun(q:aT)=>W.bl (decide (mx cz (9*(r:dr)+(q:dr))%5<2))) (aj.u5 pg) (λq _=>⟨_,by
  unfold NP;simp only[gf,aY,cM,iw,w0d,w0g,w0w,w0v,w0n,w2l];rw?;rw[Qs n];rw?;rfl⟩)]
 rw?;simp only[cM,iw,w0d,w0g,w0w,w0v];rw?;rw[Qs n];rw?;rw[mS (show(0:dr)<(w5:dr) by omega)];rw?;rw[mS (by rw[w0a];omega),w1b];have h1:=w5i (mx cz (70+(r:dr))) (show(w5:dr)≠0 by omega);unfold eV mE rH bt eV mE;simp only[w2o h1,w0z,aj.map_singleton];rfl
structure Dm(m pg w5:aT)(s:aj Pr):Prop where
 l:s.aO=2^m
 p:∀q∈s,q.1.aO=pg/\q.2<w5
def z8u(cz){pg w5:aT}(h0:0<w5)(r):(rH cz pg w5 r).1.aO=pg/\(rH cz pg w5 r).2<w5:=by
 have h1:=w5i (mx cz (70+(r:dr))) (show(w5:dr)≠0 by omega);have h2:=w5w (mx cz (70+(r:dr))) (show(0:dr)<(w5:dr) by omega)
 grind [rH,mE]
def Ub{m:aT}(hm:m<=3):d8 [W.a6 1,W.a6 2,W.a6 4,W.a6 8] (m:dr)=ai (.a6 ((2^m:aT):dr)):=by
 rcases(show m=0\/m=1\/m=2\/m=3 by omega)with rfl|rfl|rfl|rfl<;>rfl
theorem p8{m:aT}(hm:m<=3):2^m<=8:=w0s (by decide) hm
def y8r(n)(cz:dr){m pg w5:aT}(hm:m<=3)(hw:pg<=12)(h0:0<w5)(z0 z1 z5 z6 z9 sI):
  ∃st sL sJ,Dm m pg w5 st/\cL 9 (BI K a (ll K a (n+1))) (bN 0 ((2^m:aT):dr)) [z0,z1,.fr (.a6 (m:dr)),.fr (.a6 (pg:dr)),.fr (.a6 (w5:dr)),z5,z6,.fr (.a6 cz),.ke none [],z9,sI]=.nx [z0,z1,.fr (.a6 (m:dr)),.fr (.a6 (pg:dr)),.fr (.a6 (w5:dr)),z5,z6,.fr (.a6 cz),.ke none (st.a7 bt),sL,sJ]:=by
 have h8:=p8 hm;obtain⟨N,hN⟩:∃N,N=2^m:=⟨_,rfl⟩;rw[<- hN]at h8 |-
 let⟨e',h2,st,y9,qq,g1,g2,rfl⟩:=qj (b:=BI K a (ll K a (n+1))) (i:=9) (lo:=0) (hi:=(N:dr)) N (by omega) (λj e=>∃(st:aj Pr)(y9 qq:S),st.aO=j/\(∀q∈st,q.1.aO=pg/\q.2<w5)/\e=[z0,z1,.fr (.a6 (m:dr)),.fr (.a6 (pg:dr)),.fr (.a6 (w5:dr)),z5,z6,.fr (.a6 cz),.ke none (st.a7 bt),y9,qq]) [z0,z1,.fr (.a6 (m:dr)),.fr (.a6 (pg:dr)),.fr (.a6 (w5:dr)),z5,z6,.fr (.a6 cz),.ke none [],z9,sI] ⟨[],z9,sI,rfl,by simp,rfl⟩ (by
  rintro j e hj ⟨st,y9,qq,g1,g2,rfl⟩;simp only[w0w,w0v,w3e];rw[z24 n cz hw h0 _ _ _ _ _ _ _ (by omega)]
  grind [z8u])
 exact⟨st,y9,qq,⟨g1.lb hN,g2⟩,h2⟩
def y8s(n)(ns:aj dr){m pg w5:aT}(hm:m<=3)(hw:pg<=12)(h0:0<w5)(gM:aj (aj Pr))(hs:gM.aO=j)(hj:j<=100)(ho:∀s∈gM,Dm m pg w5 s)(z1 pb pY sL sJ):
  ∃s z7 z8 z9 sI,Dm m pg w5 s/\BJ K a (ll K a (n+1)) [.fr (.dS (ns.a7 .a6)),z1,.fr (.a6 (m:dr)),.fr (.a6 (pg:dr)),.fr (.a6 (w5:dr)),.ke none (gM.a7 aA),.fr (.a6 (j:dr)),pb,pY,sL,sJ]=.nx [.fr (.dS (ns.a7 .a6)),z1,.fr (.a6 (m:dr)),.fr (.a6 (pg:dr)),.fr (.a6 (w5:dr)),.ke none ((gM++[s]).a7 aA),.fr (.a6 (j:dr)),z7,z8,z9,sI]:=by
 unfold BJ;rw?;rw[Q2 n ns (show(0:dr)<=2+(j:dr) by omega)];rw?;generalize ns.jd (2+(j:dr)).sG 0+13*(j:dr)=cz
 by_cases h:cz%4=3/\0<(j:dr)
 .rw[mS h.1];rw?;rw[mS h.2];rw?;have Na:(0:dr)<(j:dr):=h.2;have h1:=w5i (cz / 4) (show(j:dr)≠0 by omega);have h2:=w5w (cz / 4) Na;obtain⟨k,hk⟩:∃k:aT,cz / 4%(j:dr)=(k:dr):=⟨_,(w2o h1).symm⟩;rw[mS Na,hk];have lj:k<gM.aO:=by omega
  have e:d8 (gM.a7 aA) (k:dr)=ai (aA gM[k]):=oW (by rw[w0t,w0b lj];rfl);rw[e];unfold aA;rw?;rw[mS (by rw[w0a];omega)];refine⟨gM[k],.fr (.a6 cz),pY,sL,sJ,ho _ (w1o lj),?_⟩;rw[w1b];rfl
 .have h8:=p8 hm;let⟨st,y9,qq,g,hf⟩:=y8r (K:=K) (a:=a) n cz hm hw h0 (.fr (.dS (ns.a7 .a6))) z1 (.ke none (gM.a7 aA)) (.fr (.a6 (j:dr))) sL sJ
  by_cases h3:cz%4=3
  all_goals
   first|rw[sF h3]|(rw[mS h3];rw?;rw[sF λz=>h ⟨h3,z⟩])
   rw?;rw[Ub hm];rw?;rw[mS (r_ (by omega))];rw?;rw[hf];rw?;rw[mS (by rw[w0a];omega)];refine⟨st,.fr (.a6 cz),.fr (.dS (st.a7 bt)),y9,qq,g,?_⟩;rw[w1b];rfl
def y0u(n)(ns:aj dr){m pg w5:aT}(hm:m<=3)(hw:pg<=12)(h0:0<w5)(hc:w5<=100)(z1):
  ∃c:Mc,c.Og/\c.m=m/\c.pg=pg/\c.ae.aO=w5/\(DY K a (ll K a (n+1)) [.fr (.dS (ns.a7 .a6)),z1,.fr (.a6 (m:dr)),.fr (.a6 (pg:dr)),.fr (.a6 (w5:dr)),.no,.no,.no,.no,.no,.no]).fn=.ok (.fr (aD c)):=by
 unfold DY;rw?;rw[mS (r_ (by omega))];rw?
 let⟨e',h2,gM,y6,y7,y8,y9,qq,g1,g2,rfl⟩:=qj (b:=BJ K a (ll K a (n+1))) (i:=6) (lo:=0) (hi:=(w5:dr)) w5 (by omega) (λj e=>∃(gM:aj (aj Pr))(y6 y7 y8 y9 qq:S),gM.aO=j/\(∀s∈gM,Dm m pg w5 s)/\e=[.fr (.dS (ns.a7 .a6)),z1,.fr (.a6 (m:dr)),.fr (.a6 (pg:dr)),.fr (.a6 (w5:dr)),.ke none (gM.a7 aA),y6,y7,y8,y9,qq]) [.fr (.dS (ns.a7 .a6)),z1,.fr (.a6 (m:dr)),.fr (.a6 (pg:dr)),.fr (.a6 (w5:dr)),.ke none [],.no,.no,.no,.no,.no] ⟨[],_,_,_,_,_,rfl,by simp,rfl⟩ (by
  rintro j e hj ⟨gM,y6,y7,y8,y9,qq,g1,g2,rfl⟩;simp only[w0w,w0v,w3e];let⟨s,q7,q8,q9,q10,g3,h⟩:=y8s (K:=K) (a:=a) n ns hm hw h0 gM g1 (by omega) g2 z1 y7 y8 y9 qq
  grind)
 rw[h2];rw?;exact⟨⟨m,pg,gM⟩,⟨hm,by show pg<=40;omega,by show 0<gM.aO;omega,by show gM.aO<=700;omega,λs hs=>(g2 s hs).l,λs hs p hp=>by show _/\_<gM.aO;rw[g1];exact(g2 s hs).p p hp⟩,rfl,rfl,g1,rfl⟩
structure va(c:Mc):Prop where
 og:c.Og
 wd:c.pg<=6
 iL:c.ae.aO<=16
def MB(K:Fg)(a:aI)(R:FR):Prop:=∃c,va c/\R=.ok (.fr (aD c))
def Sj(n)(ns:aj dr){m pg w5:aT}(hm:m<=3)(hw:pg<=6)(h0:0<w5)(hc:w5<=16)(z1):
  MB K a (DY K a (ll K a (n+1)) [.fr (.dS (ns.a7 .a6)),z1,.fr (.a6 (m:dr)),.fr (.a6 (pg:dr)),.fr (.a6 (w5:dr)),.no,.no,.no,.no,.no,.no]).fn:=by
 let⟨c,h1,h2,h3,h4,h5⟩:=y0u (K:=K) (a:=a) n ns hm (w0q hw (by decide)) h0 (by omega) z1;exact⟨c,⟨h1,by rw[h3];exact hw,by rw[h4];exact hc⟩,h5⟩
def LD(n)(ns:aj dr){m pg w5:aT}(hm:m<=3)(hw:pg<=6)(h0:0<w5)(hc:w5<=16)(c:dr):
  MB K a (HI K a (ll K a (n+1)) [.fr (.dS (ns.a7 .a6)),.fr (.a6 c),.fr (.a6 (m:dr)),.fr (.a6 (pg:dr)),.fr (.a6 (w5:dr)),.no,.no,.no,.no,.no,.no]).fn:=by
 have A:=Sj (K:=K) (a:=a) n ns hm hw h0 hc (.fr (.a6 c));have B:=Sj (K:=K) (a:=a) n ns (show m%2<=3 by omega) hw h0 hc (.fr (.a6 c));rw[w4a]at B;unfold HI;rw?
 repeat' split
 all_goals first|exact A|exact B
def Sk(n)(ns:aj dr){m pg w5:aT}(hm:m<=3)(hw:pg<=6)(h0:0<w5)(hc:w5<=16)(c:dr):
  MB K a (HH K a (ll K a (n+1)) [.fr (.dS (ns.a7 .a6)),.fr (.a6 c),.fr (.a6 (m:dr)),.fr (.a6 (pg:dr)),.fr (.a6 (w5:dr)),.no,.no,.no,.no,.no,.no]).fn:=by
 have A:=LD (K:=K) (a:=a) n ns hm hw h0 hc c;unfold HH;rw?;split
 .by_cases q:w5%4<2
  .have B:=LD (K:=K) (a:=a) n ns (show 3<=3 by decide) (show pg%7<=6 by omega) (show 0<1+w5%4 by omega) (by omega) c
   grind
  .have B:=LD (K:=K) (a:=a) n ns (show 3<=3 by decide) (show pg%2<=6 by omega) (show 0<1+w5%4 by omega) (by omega) c
   grind
 .exact A
def z8v(n)(ns:aj dr){m pg w5:aT}(hm:m<=3)(hw:pg<=6)(h0:0<w5)(hc:w5<=8)(c:dr):
  MB K a (DX K a (ll K a (n+1)) [.fr (.dS (ns.a7 .a6)),.fr (.a6 c),.fr (.a6 (m:dr)),.fr (.a6 (pg:dr)),.fr (.a6 (w5:dr)),.no,.no,.no,.no,.no,.no]).fn:=by
 have A:=Sk (K:=K) (a:=a) n ns hm hw h0 (by omega) c;have B:=Sk (K:=K) (a:=a) n ns hm hw (show 0<w5+8 by omega) (by omega) c;unfold DX;rw?
 grind
def zbd(n)(ns:aj dr):MB K a (ll K a (n+2) D4 [.dS (ns.a7 .a6)]):=by
 rw[XT,XR];rw?;rw[Q2 n ns (by decide)];rw?;show MB K a (DX K a (ll K a (n+1)) [.fr (.dS (ns.a7 .a6)),.fr (.a6 (ns.jd 0 0)),.fr (.a6 (ns.jd 0 0%3)),.fr (.a6 (ns.jd 0 0 / 3%4+3*if ns.jd 0 0 / 768%5=1 then 1 else 0)),.fr (.a6 (1+ns.jd 0 0 / 12%8)),.no,.no,.no,.no,.no,.no]).fn;generalize ns.jd 0 0=c;obtain⟨m,hm⟩:∃m:aT,c%3=(m:dr):=⟨_,(w2o (by omega)).symm⟩;obtain⟨pg,hw⟩:∃m:aT,(c / 3%4+3*if c / 768%5=1 then 1 else 0)=(m:dr):=⟨_,(w2o (by split<;>omega)).symm⟩;obtain⟨w5,hc⟩:∃m:aT,1+c / 12%8=(m:dr):=⟨_,(w2o (by omega)).symm⟩
 grind [z8v]
def y0v(n s:aT):∀(f k N':aT)(P:dr),P=((2^k:aT):dr)->s<=2^(k+f)->f<N'->k+f<=50 ->
  ∃z,bw (zp K a (ll K a n)) (Iu K a (ll K a n)) N' [.fr (.a6 (s:dr)),.fr (.a6 (k:dr)),.fr (.a6 P)]=.nx [.fr (.a6 (s:dr)),.fr (.a6 ((cG s k f:aT):dr)),z]:=by
 intro f
 induction f with
 |TL=>
  intro k N' P hP h1 h2 h3;cases N' with
  |TL=>omega
  |OK N'=>
   have e:zp K a (ll K a n) [.fr (.a6 (s:dr)),.fr (.a6 (k:dr)),.fr (.a6 P)]=.ok (decide (P<(s:dr))) [.fr (.a6 (s:dr)),.fr (.a6 (k:dr)),.fr (.a6 P)]:=by
    unfold zp;rw?
   rw[vZ,e,Yu (by rw[hP];exact dr.ď.uY (dr.ofNat_le.uY h1))];rw?;exact⟨_,rfl⟩
 |OK f ih=>
  intro k N' P hP h1 h2 h3;cases N' with
  |TL=>omega
  |OK N'=>
   have e:zp K a (ll K a n) [.fr (.a6 (s:dr)),.fr (.a6 (k:dr)),.fr (.a6 P)]=.ok (decide (P<(s:dr))) [.fr (.a6 (s:dr)),.fr (.a6 (k:dr)),.fr (.a6 P)]:=by
    unfold zp;rw?
   rw[vZ,e];unfold cG
   by_cases q:s<=2^k
   .rw[Yu (by rw[hP];exact dr.ď.uY (dr.ofNat_le.uY q)),mS q];rw?;exact⟨_,rfl⟩
   .rw[Z4 (by rw[hP];exact w5z.uY (by omega)),sF q];have hk:(2:aT)^k<=2^50:=w0s (by decide) (by omega);rw?;unfold Iu;rw?;exact ih (k+1) N' (P*2) (by rw[hP,w5d];rfl) (by rw[show k+1+f=k+(f+1) by omega];exact h1) (by omega) (by omega)
def y4j(n:aT){s:aT}(h:s<=700):ll K a (n+1) Ep [.a6 (s:dr)]=.ok (.fr (.a6 ((cN s:aT):dr))):=by
 rw[Y3];unfold Js;rw?;let⟨z,hz⟩:=y0v (K:=K) (a:=a) n s 12 0 1000000 1 rfl (su h) (by omega) (by omega);rw[show S.fr (W.a6 0)=S.fr (W.a6 ((0:aT):dr))from rfl,hz];rw?;rfl
def Ye(tl:aj aT)(s:aj Pr):aj Pr:=s.a7 λp=>(p.1,tl.jd p.2 0)
def pZ(c:Mc)(tl:aj aT):aj aT:=(c.ae.a7 (Ye tl)).a7 λk=>(c.ae.a7 (Ye tl)).Ue k
def f6(c:Mc):aT->aj aT
 |0=>aj.w4 c.ae.aO 0
 |t+1=>pZ c (f6 c t)
def z8w(c)(tl):(pZ c tl).aO=c.ae.aO:=by unfold pZ;rw[w0a,w0a]
theorem LF(c):∀t,(f6 c t).aO=c.ae.aO
 |0=>w2f
 |t+1=>z8w c _
def y0w(n)(c:Mc)(hc:c.Og)(tl:aj aT)(hl:tl.aO=c.ae.aO)(z0 z3 z4):
  ∃m9,D6 K a (ll K a n) [z0,.fr (.dS (c.ae.a7 aA)),.fr (aF tl),z3,z4]=.nx [z0,.fr (.dS (c.ae.a7 aA)),.fr (aF (pZ c tl)),z3,m9]:=by
 have hm:=hc.mo;unfold D6;rw?
 rw[mS (by rw[w0a];omega),lJ (g:=λs=>aA (Ye tl s)) c.ae λs hs=>⟨_,by
  have Ng:=hc.st s hs;have h8:=p8 hc.iL;unfold NV aA;simp only[gf,aY,cM,iw,w0d,w0g,w0w,w0v,w0n,w2l];rw?
  rw[mS (by rw[w0a];omega),lJ (g:=λp:Pr=>bt (p.1,tl.jd p.2 0)) s λp hp=>⟨_,by
   have hq:=(hc.pr s hs p hp).2;unfold NU bt;simp only[gf,aY,cM,iw,w0d,w0g,w0w,w0v,w0n,w2l];rw?;unfold aF;rw?;rw[qm (by omega)];rfl⟩]
  rw?;unfold Ye;rw[w0z];rfl⟩]
 rw?;simp only[cM,iw,w0d,w0g,w0w,w0v];rw?
 rw[mS (by rw[w0a];omega),show(c.ae.a7 λs=>aA (Ye tl s))=(c.ae.a7 (Ye tl)).a7 aA by rw[w0z];rfl,lJ (g:=λk=>aK ((c.ae.a7 (Ye tl)).Ue k)) (c.ae.a7 (Ye tl)) λk hk=>⟨_,by
  unfold NT;simp only[gf,aY,cM,iw,w0d,w0g,w0w,w0v,w0n,w2l];rw?;rw[show iN (.dS ((c.ae.a7 (Ye tl)).a7 aA)) [aA k]=ai (.a6 ((c.ae.a7 (Ye tl)).Ue k:aT))from y58 hk];rw?;rfl⟩]
 rw?;refine⟨.fr (.dS ((c.ae.a7 (Ye tl)).a7 aA)),?_⟩;simp only[pZ,aF,w0z];rfl
def y0x(n)(c:Mc)(hc:c.Og):ll K a (n+1) D9 [aD c]=.ok (.fr (aF (f6 c c.ae.aO))):=by
 have hm:=hc.mo;rw[za1];unfold Ir;rw?;rw[uO];rw?
 rw[mS (by rw[w0a];omega),lJ (g:=λ_=>W.a6 0) c.ae λs hs=>⟨_,by
  unfold NW;rw?;rfl⟩]
 rw?;rw?;rw[w0a,mS (r_ (by omega))];rw?
 let⟨e',h2,z3,z4,rfl⟩:=qj (b:=D6 K a (ll K a n)) (i:=3) (lo:=0) (hi:=(c.ae.aO:dr)) c.ae.aO (by omega) (λj e=>∃z3 z4,e=[.fr (aD c),.fr (.dS (c.ae.a7 aA)),.fr (aF (f6 c j)),z3,z4]) [.fr (aD c),.fr (.dS (c.ae.a7 aA)),.fr (.dS (c.ae.a7 λ_=>W.a6 0)),.no,.no] ⟨_,_,by
   unfold f6 aF;rw[aj.map_replicate,aj.map_const'];rfl⟩ (by
  rintro j e hj ⟨z3,z4,rfl⟩;simp only[w0w,w0v,w3e];let⟨m9,h⟩:=y0w (K:=K) (a:=a) n c hc (f6 c j) (LF c j) (.fr (aD c)) (.fr (.a6 (j:dr))) z4;exact⟨_,h,_,_,rfl⟩)
 rw[h2];rw?
def Sl [BEq α] [ĸ α]{l:aj α}{x:α}(h:l[j]?=ai x):l.Ue x<=j:=by
 refine w4w λb8=>?_
 have hj:=(w0c.mp h);have:=w4y (p:=(·==x)) b8
 grind
def Q_{β:Type} [BEq α] [ĸ α] [BEq β] [ĸ β]{A:aj α}{B:aj β}(hl:A.aO=B.aO)(h:∀i j,i<A.aO->j<A.aO->(A[i]?=A[j]?↔B[i]?=B[j]?)){x:α}{y:β}(hx:A[i]?=ai x)(hy:B[i]?=ai y):A.Ue x=B.Ue y:=by
 have hi:=(w0c.mp hx).1;have hp:A.Ue x<A.aO:=w2k.uY (w0y hx);have hq:B.Ue y<B.aO:=w2k.uY (w0y hy);have e1:A[A.Ue x]?=ai x:=by rw[w0b hp,w5x]
 have e2:B[B.Ue y]?=ai y:=by rw[w0b hq,w5x]
 refine aT.le_antisymm (Sl ?_) (Sl ?_)
 all_goals grind
def L8{c:Mc}(hi:i<c.ae.aO):(pZ c tl).jd i 0=(c.ae.a7 (Ye tl)).Ue (Ye tl (c.ae.jd i [])):=by
 grind [pZ]
def TC{c:Mc}(hi:i<c.ae.aO)(hj:j<c.ae.aO):(pZ c tl).jd i 0=(pZ c tl).jd j 0↔Ye tl (c.ae.jd i [])=Ye tl (c.ae.jd j []):=by
 rw[L8 hi,L8 hj];refine⟨λh=>?_,λh=>by rw[h]⟩
 have e:∀k,k<c.ae.aO->(c.ae.a7 (Ye tl))[(c.ae.a7 (Ye tl)).Ue (Ye tl (c.ae.jd k []))]?=ai (Ye tl (c.ae.jd k [])):=λk hk=>by
  grind
 grind
def Vn{c:Mc}(hc:c.Og)(hi:i<c.ae.aO)(hj:j<c.ae.aO):Ye tl (c.ae.jd i [])=Ye tl (c.ae.jd j [])↔∀r,r<2^c.m->V5 c i r=V5 c j r/\tl.jd (eM c i r) 0=tl.jd (eM c j r) 0:=by
 have l1:=hc.st _ (jm hi);have l2:=hc.st _ (jm hj);unfold Ye V5 eM;generalize c.ae.jd i []=s at l1;generalize c.ae.jd j []=s' at l2;constructor
 .intro h r hr;have z:=Zd (λl=>l[r]?) h
  grind
 .intro h;apply w2j;intro r
  by_cases hr:r<2^c.m
  .have:=h r hr
   grind
  .grind
theorem TH{c:Mc}(hc:c.Og):∀(t:aT){i j:aT},i<c.ae.aO->j<c.ae.aO->((f6 c t).jd i 0=(f6 c t).jd j 0↔kd c t i=kd c t j)
 |0,i,j,hi,hj=>by
  rw[uN,uN];unfold f6;simp[aj.jd,hi,hj]
 |t+1,i,j,hi,hj=>by
  rw[zP hc hi hj];show(pZ c (f6 c t)).jd i 0=(pZ c (f6 c t)).jd j 0↔_;rw[TC hi hj,Vn hc hi hj];exact ő λr=>zcK λhr=>and_congr_right λ_=>TH hc t (oY hc hi hr) (oY hc hj hr)
theorem Uc{c:Mc}(hc:c.Og)(hi:i<c.ae.aO)(hj:j<c.ae.aO):∀d,kd c (L+d) i=kd c (L+d) j->kd c L i=kd c L j
 |0,h=>h
 |d+1,h=>Uc hc hi hj d (EN hc (L+d) hi hj h)
def Vo{c:Mc}(hc:c.Og)(hL:L<=c.ae.aO)(hs:d9 c L)(hi:i<c.ae.aO)(hj:j<c.ae.aO):(f6 c c.ae.aO).jd i 0=(f6 c c.ae.aO).jd j 0↔kd c L i=kd c L j:=by
 grind [TH,Uc,aT.add_sub_cancel',K2]
def L9{c:Mc}(hc:c.Og)(hL:L<=c.ae.aO)(hs:d9 c L)(hi:i<c.ae.aO):(f6 c c.ae.aO).jd i 0=yM c L (kd c L i):=by
 have _d:=hc.ia;obtain⟨t,ht⟩:∃t,c.ae.aO=t+1:=⟨c.ae.aO-1,by omega⟩;have eL:=λ{i j:aT}=>Vo hc hL hs (i:=i) (j:=j)
 rw[ht]at eL |-
 show(pZ c (f6 c t)).jd i 0=_;rw[L8 hi];unfold yM
 have Dp:∀k,k<c.ae.aO->(c.ae.a7 (Ye (f6 c t)))[k]?=ai (Ye (f6 c t) (c.ae.jd k [])):=λk hk=>by
  rw[w0t,w0b hk]
  grind
 have at2:∀k,k<c.ae.aO->(bZ c L)[k]?=ai (kd c L k):=λk hk=>by
  grind [kd,qk]
 refine Q_ (by rw[w0a,qk]) (λp q hp hq=>?_) (Dp i hi) (at2 i hi)
 rw[w0a]at hp hq;rw[Dp p hp,Dp q hq,at2 p hp,at2 q hq,fy.ai.injEq,fy.ai.injEq,<- TC hp hq];exact eL (by omega) (by omega)
def z8x(f:aT)(F:aj aT):jX (.a6 (f:dr)) (.dS (F.a7 aK))=ai (.bl (!decide (f∈F))):=by
 have h1:∀F:aj aT,(F.a7 aK).rM aV=true:=λF=>by
  grind [aK,aV]
 have h2:∀F:aj aT,((F.a7 aK).tZ λy=>mh y (.a6 (f:dr)))=decide (f∈F):=λF=>by
  induction F with
  |ro=>rfl
  |p9 x F ih=>
   show(mh (.a6 (x:dr)) (.a6 (f:dr))||(F.a7 aK).tZ _)=_;rw[ih];show(decide ((x:dr)=(f:dr))||decide (f∈F))=_
   grind
 show(if aV (.a6 (f:dr))=true/\(F.a7 aK).rM aV=true then ai (W.bl (!(F.a7 aK).tZ λy=>mh y (.a6 (f:dr))))else none)=_
 rw[mS ⟨rfl,h1 F⟩,h2]
def y8v(r:aT->aj W->FR)(z0 z3)(tl T:aj aT)(hT:T.aO<=100)(p:Pr)(hp:p.2<tl.aO):
  D' K a r [z0,.fr (aF tl),.ke none (T.a7 aK),z3,.fr (bt p)]=.nx [z0,.fr (aF tl),.ke none ((aW T (tl.jd p.2 0)).a7 aK),z3,.fr (bt p)]:=by
 have e:d8 (tl.a7 aK) (p.2:dr)=ai (aK (tl.jd p.2 0)):=qm hp;have hn:=z8x (tl.jd p.2 0) T;unfold aK at hn e;unfold D' bt aF aK;rw?;rw[e];rw?;rw[hn];rw?
 by_cases h:tl.jd p.2 0∈T
 .simp_all [aW]
 .rw[Yu h,show aW T (tl.jd p.2 0)=T++[tl.jd p.2 0]from sF h];rw?;rw[e];rw?
  grind
theorem Ra(r:aT->aj W->FR)(z0 z3)(tl:aj aT):∀(s:aj Pr)(T:aj aT)(z4:S),T.aO+s.aO<=100->(∀p∈s,p.2<tl.aO) ->
  ∃m9,cL 4 (D' K a r) (s.a7 bt) [z0,.fr (aF tl),.ke none (T.a7 aK),z3,z4]=.nx [z0,.fr (aF tl),.ke none (((s.a7 λp=>tl.jd p.2 0).yW aW T).a7 aK),z3,m9]
 |[],T,z4,_,_=>⟨z4,rfl⟩
 |p::s,T,z4,h,hp=>by
  have hl:(aW T (tl.jd p.2 0)).aO<=T.aO+1:=by unfold aW;split<;>simp
  have q:=y8v (K:=K) (a:=a) r z0 z3 tl T (by simp at h;omega) p (hp p (by simp));let⟨m9,g⟩:=Ra r z0 z3 tl s (aW T (tl.jd p.2 0)) (.fr (bt p)) (by simp at h;omega) λx hx=>hp x (by simp[hx])
  refine⟨m9,?_⟩;rw[w0n,vU];simp only[w0w,w0v];rw[q];exact g
def gC(c:Mc)(tl:aj aT)(x:aT):aj Pr:=Ye tl (c.ae.jd x [])
def Sn(tl s):(Ye tl s).a7 (·.2)=s.a7 λp=>tl.jd p.2 0:=by
 unfold Ye;rw[w0z];rfl
def y8w(n)(c:Mc)(hc:c.Og)(cx:c.ae.aO<=16)(tl:aj aT)(hl:tl.aO=c.ae.aO)(b i:aT)(hn:∀x∈bf (gC c tl) b i,x<c.ae.aO)(hi:i<(bf (gC c tl) b i).aO)(z4):
  ∃m9,Eb K a (ll K a n) [.fr (aD c),.fr (aF tl),.ke none ((bf (gC c tl) b i).a7 aK),.fr (.a6 (i:dr)),z4]=.nx [.fr (aD c),.fr (aF tl),.ke none ((bf (gC c tl) b (i+1)).a7 aK),.fr (.a6 ((i+1:aT):dr)),m9]:=by
 have hT:=v7 c.ae.aO (ym (gC c tl) b i) hn;obtain⟨x,hx⟩:∃x,(bf (gC c tl) b i).jd i 0=x:=⟨_,rfl⟩;have DM:x<c.ae.aO:=hn x (by grind);have hs:=jm DM;have h8:=p8 hc.iL;have xu:=hc.st _ hs;have e:d8 ((bf (gC c tl) b i).a7 aK) (i:dr)=ai (aK x):=by rw[qm hi,hx]
 let⟨m9,h⟩:=Ra (K:=K) (a:=a) (ll K a n) (.fr (aD c)) (.fr (.a6 (i:dr))) tl (c.ae.jd x []) (bf (gC c tl) b i) z4 (by omega) (λp hp=>by rw[hl];exact(hc.pr _ hs p hp).2)
 refine⟨m9,?_⟩;rw[<- Sn]at h
 have hb:bf (gC c tl) b (i+1)=((gC c tl x).a7 (·.2)).yW aW (bf (gC c tl) b i):=by
  simp_all [bf]
 rw[hb];unfold Eb;rw?;rw[uO];rw?;rw[e];unfold aK at h |-
 rw?;rw[Dc DM];unfold aA;rw?;rw[show gC c tl x=Ye tl (c.ae.jd x [])from rfl,h];rw?;rfl
theorem zQ{g:aT->aj Pr}{b J:aT}(h:(bf g b J).aO=J):∀d,bf g b (J+d)=bf g b J
 |0=>rfl
 |d+1=>by
  show(if J+d<(bf g b (J+d)).aO then _ else bf g b (J+d))=_;rw[sF (by rw[zQ h d];omega),zQ h d]
theorem Qt(n)(c:Mc)(hc:c.Og)(cx:c.ae.aO<=16)(tl:aj aT)(hl:tl.aO=c.ae.aO)(b:aT)(hn:∀i,∀x∈bf (gC c tl) b i,x<c.ae.aO):
  ∀(N' i:aT)(z4),i<=(bf (gC c tl) b i).aO->18<=i+N' ->
  ∃I z,(bf (gC c tl) b I).aO=I/\bw (Ea K a (ll K a n)) (Eb K a (ll K a n)) N' [.fr (aD c),.fr (aF tl),.ke none ((bf (gC c tl) b i).a7 aK),.fr (.a6 (i:dr)),z4]=.nx [.fr (aD c),.fr (aF tl),.ke none ((bf (gC c tl) b I).a7 aK),.fr (.a6 (I:dr)),z]
 |0,i,z4,h1,h2=>by
  have hT:=v7 c.ae.aO (ym (gC c tl) b i) (hn i);omega
 |N'+1,i,z4,h1,h2=>by
  have e:Ea K a (ll K a n) [.fr (aD c),.fr (aF tl),.ke none ((bf (gC c tl) b i).a7 aK),.fr (.a6 (i:dr)),z4]=.ok (decide (i<(bf (gC c tl) b i).aO)) [.fr (aD c),.fr (aF tl),.ke none ((bf (gC c tl) b i).a7 aK),.fr (.a6 (i:dr)),z4]:=by
   unfold Ea;rw?;simp only[w0a,w5z]
  rw[vZ,e]
  by_cases q:i<(bf (gC c tl) b i).aO
  .rw[Z4 q];rw?;let⟨m9,h⟩:=y8w (K:=K) (a:=a) n c hc cx tl hl b i (hn i) q z4;rw[h];rw?;let⟨m,hm⟩:=Co (gC c tl) b i;exact Qt n c hc cx tl hl b hn N' (i+1) m9 (by rw[hm,w1k];omega) (by omega)
  .rw[Yu q];rw?;exact⟨i,z4,by omega,rfl⟩
def z25{f:aT->aT}(hf:∀x y,B x->B y->f x=f y->x=y){T:aj aT}{x:aT}(hT:∀t∈T,B t)(hx:B x):(aW T x).a7 f=aW (T.a7 f) (f x):=by
 unfold aW
 grind
theorem Rb{f:aT->aT}{B:aT->Prop}(hf:∀x y,B x->B y->f x=f y->x=y):∀(xs T:aj aT),(∀t∈T,B t)->(∀x∈xs,B x)->(xs.yW aW T).a7 f=(xs.a7 f).yW aW (T.a7 f)
 |[],_,_,_=>rfl
 |x::xs,T,h1,h2=>by
  rw[w1x,w0n,w1x,<- z25 hf h1 (h2 x (by simp))];refine Rb hf xs _ (λt ht=>?_) λy hy=>h2 y (by simp[hy])
  grind [aW]
theorem LG{c:Mc}(hc:c.Og)(L i:aT):∀x∈bf (cf c L) (kd c L 0) i,x∈bZ c L:=uP (B:=(·∈bZ c L)) (uQ hc.ia) (λx hx p hp=>Fp hc hx p hp) i
theorem L_{c:Mc}(hc:c.Og)(hL:L<=c.ae.aO)(hs:d9 c L):∀i,bf (gC c (f6 c c.ae.aO)) ((f6 c c.ae.aO).jd 0 0) i=(bf (cf c L) (kd c L 0) i).a7 (yM c L)
 |0=>by
  show[_]=[_];rw[L9 hc hL hs hc.ia]
 |i+1=>by
  have ih:=L_ hc hL hs i;show(if i<(bf (gC c (f6 c c.ae.aO)) _ i).aO then _ else bf _ _ i)=aj.a7 _ (if i<(bf (cf c L) (kd c L 0) i).aO then _ else bf _ _ i);rw[ih,w0a]
  by_cases h:i<(bf (cf c L) (kd c L 0) i).aO
  .rw[mS h,mS h];have hk:(bf (cf c L) (kd c L 0) i).jd i 0∈bZ c L:=LG hc L i _ (by rw[w1j,w0b h];exact w1o h)
   rw[show((bf (cf c L) (kd c L 0) i).a7 (yM c L)).jd i 0=yM c L ((bf (cf c L) (kd c L 0) i).jd i 0) by
    rw[w1j,w1j,w0t,w0b h];rfl]
   generalize (bf (cf c L) (kd c L 0) i).jd i 0=k at hk;have hr:=kj hk
   rw[Rb (B:=(·∈bZ c L)) (λx y hx hy e=>by rw[<- r8 hx,<- r8 hy,e]) _ _ (LG hc L i) (λx hx=>by
    let⟨p,h1,rfl⟩:=w0r.mp hx;exact Fp hc hk p h1)]
   congr 1;unfold gC;rw[Sn];unfold cf;rw[w0z,w0z];exact w1n λp hp=>L9 hc hL hs (hc.pr _ (jm hr) p hp).2
  .rw[sF h,sF h]
def y8x(n)(c:Mc)(hc:c.Og)(cx:c.ae.aO<=16){I:aT}(hL:L<=c.ae.aO)(hs:d9 c L)(hI:(bf (cf c L) (kd c L 0) I).aO=I):
  ll K a (n+1) BK [aD c,aF (f6 c c.ae.aO)]=.ok (.ke none (((bf (cf c L) (kd c L 0) I).a7 (yM c L)).a7 aK)):=by
 have eL:=LF c c.ae.aO
 have hn:∀i,∀x∈bf (gC c (f6 c c.ae.aO)) ((f6 c c.ae.aO).jd 0 0) i,x<c.ae.aO:=λi x hx=>by
  rw[L_ hc hL hs]at hx;let⟨k,h1,rfl⟩:=w0r.mp hx;exact kj (LG hc L i k h1)
 have h0:((f6 c c.ae.aO).a7 aK)[0]?=ai (aK ((f6 c c.ae.aO).jd 0 0)):=by
  rw[w0t,w1j,w0b (by rw[eL];exact hc.ia)];rfl
 let⟨J,z,hJ,h⟩:=Qt (K:=K) (a:=a) n c hc cx _ eL ((f6 c c.ae.aO).jd 0 0) hn 1000000 0 .no (w1c _) (by omega);rw[Y2];unfold Jb aF;rw?;rw[h0];rw?;rw[show S.ke none [aK ((f6 c c.ae.aO).jd 0 0)]=.ke none ((bf (gC c (f6 c c.ae.aO)) ((f6 c c.ae.aO).jd 0 0) 0).a7 aK)from rfl,show S.fr (W.a6 0)=S.fr (W.a6 ((0:aT):dr))from rfl,show S.fr (W.dS ((f6 c c.ae.aO).a7 aK))=S.fr (aF (f6 c c.ae.aO))from rfl,h];rw?;rw[L_ hc hL hs]at hJ |-
 rw[w0a]at hJ
 have e:bf (cf c L) (kd c L 0) J=bf (cf c L) (kd c L 0) I:=by
  rcases aT.le_total I J with sY|sY
  .rw[<- w4f sY,zQ hI]
  .rw[<- w4f sY,zQ hJ]
 rw[e]
def Fm.qh(m:aT):Fm->Prop
 |.is _=>ku
 |.at p=>p<m
 |.not f=>f.qh m
 |.and f g=>f.qh m/\g.qh m
 |.or f g=>f.qh m/\g.qh m
 |._h f g=>f.qh m/\g.qh m
def Fm.vI(oL:aj ie):Fm->ie
 |.is b=>b
 |.at p=>oL.jd p false
 |.not f=>!f.vI oL
 |.and f g=>f.vI oL&&g.vI oL
 |.or f g=>f.vI oL||g.vI oL
 |._h f g=>f.vI oL != g.vI oL
theorem Fm.size_pos:∀f:Fm,1<=f.d3
 |.is _=>w0f _
 |.at _=>w0f _
 |.not f=>by simp only[Fm.d3];omega
 |.and f g=>by simp only[Fm.d3];omega
 |.or f g=>by simp only[Fm.d3];omega
 |._h f g=>by simp only[Fm.d3];omega
def HM(f:Fm):Prop:=¬∃b,f=.is b
structure qA(m:aT)(g:Fm):Prop where
 n:HM g
 o:∀l,l<=3->g.nV l=0
 d:g.w8<=2
 z:g.d3<=2
 i:g.qh m
theorem Vp{m:aT}(h:p<m):qA m (.at p):=⟨fun⟨b,e⟩=>(nomatch e),λ_ _=>rfl,by simp[Fm.w8],by simp[Fm.d3],h⟩
theorem z8y{m:aT}(h:p<m):qA m (.not (.at p)):=⟨fun⟨b,e⟩=>(nomatch e),λl hl=>by simp only[Fm.nV];rw[sF (by omega)],by simp[Fm.w8],by simp[Fm.d3],h⟩
inductive jr(m p:aT)(f:Fm):Prop where
 |Zg (h:f=.is true):jr m p f
 |mk (n:HM f) (o:∀l,l<=2->f.nV l=0) (d:f.w8<=p+1) (z:f.d3<=3*p) (i:f.qh m):jr m p f
def jr.up{m:aT}{f:Fm}(h:jr m p f):jr m (p+1) f:=by
 cases h with
 |Zg h=>exact .Zg h
 |mk n o d z i=>exact .mk n o (by omega) (by omega) i
def jr.lit{m:aT}{f g:Fm}(h:jr m p f)(k:qA m g):jr m (p+1) (Fm.fA .a f g):=by
 cases h with
 |Zg h=>
  subst h;exact .mk k.n (λl hl=>k.o l (by omega)) (by have:=k.d;show g.w8<=_;omega) (by have:=k.z;show g.d3<=_;omega) k.i
 |mk n o d z i=>
  rw[Fn n k.n];refine .mk (fun⟨b,e⟩=>(nomatch e)) (λl hl=>?_) ?_ ?_ ⟨i,k.i⟩
  .show max (f.nV 2) (g.nV 3)+(if 2<l then 1 else 0)=0;rw[o 2 (by omega),k.o 3 (by omega),sF (by omega)];rfl
  .have:=k.d;have:=f.size_pos;show max f.w8 g.w8+1<=_;omega
  .have:=k.z;show f.d3+g.d3+1<=_;omega
theorem FD{m:aT}:∀(c:aj (fy ie))(p:aT)(f:Fm),p+c.aO=m->jr m p f->jr m m (m6 p f c)
 |[],p,f,h,k=>by
  have:p=m:=by simpa using h
  subst this;exact k
 |none::c,p,f,h,k=>FD c (p+1) f (by simp only[w0x]at h;omega) k.up
 |ai true::c,p,f,h,k=>FD c (p+1) _ (by simp only[w0x]at h;omega) (k.lit (Vp (by simp only[w0x]at h;omega)))
 |ai false::c,p,f,h,k=>FD c (p+1) _ (by simp only[w0x]at h;omega) (k.lit (z8y (by simp only[w0x]at h;omega)))
inductive nh(m j:aT)(f:Fm):Prop where
 |Zg (b:ie) (h:f=.is b):nh m j f
 |mk (n:HM f) (o:f.nV 0=0) (d:f.w8<=m+1+j) (z:f.d3<=j*(3*m+1)) (i:f.qh m):nh m j f
def nh.cu{m:aT}{f g:Fm}(h:nh m j f)(k:jr m m g):nh m (j+1) (Fm.fA .o f g):=by
 cases k with
 |Zg hg=>
  subst hg
  by_cases hf:∃b,f=.is b
  .let⟨b,rfl⟩:=hf;cases b
   .exact .Zg true rfl
   .exact .Zg true rfl
  .rw[KY hf];exact .Zg true rfl
 |mk gn go gd gz gi=>
  cases h with
  |Zg b h=>
   subst h;cases b
   .exact .mk gn (go 0 (by omega)) (by show g.w8<=_;omega) (by show g.d3<=_;rw[w5j];omega) gi
   .exact .Zg true rfl
  |mk n o d z i=>
   rw[Fn n gn];refine .mk (fun⟨b,e⟩=>(nomatch e)) ?_ ?_ ?_ ⟨i,gi⟩
   .show max (f.nV 0) (g.nV 1)+0=0;rw[o,go 1 (by omega)];rfl
   .show max f.w8 g.w8+1<=_;omega
   .show f.d3+g.d3+1<=_;rw[w5j];omega
theorem TJ{m:aT}:∀(cs:aj (aj (fy ie)))(j:aT)(f:Fm),(∀c∈cs,c.aO=m)->nh m j f->nh m (j+cs.aO) (jj f cs)
 |[],j,f,_,k=>k
 |c::cs,j,f,h,k=>by
  have:=TJ cs (j+1) _ (λx hx=>h x (by simp[hx])) (k.cu (FD c 0 (.is true) (by simpa using h c (by simp)) (.Zg rfl)))
  rw[w0x,show j+(cs.aO+1)=j+1+cs.aO by omega];exact this
def D0:O3->ie->ie->ie
 |.a,x,y=>x&&y
 |.o,x,y=>x||y
 |.d,x,y=>x != y
def z26(f:Fm)(oL:aj ie):f.qO.vI oL=!f.vI oL:=by cases f<;>rfl
def Qu(o:O3)(b:ie)(f:Fm)(oL:aj ie):(kf o b f).vI oL=D0 o b (f.vI oL):=by
 cases o<;>cases b
 .rfl
 .show f.vI oL=(true&&f.vI oL);simp
 .show f.vI oL=(false||f.vI oL);simp
 .rfl
 .show f.vI oL=(false != f.vI oL);simp
 .show f.qO.vI oL=(true != f.vI oL);rw[z26];simp
def z27(o:O3)(x y:ie):D0 o x y=D0 o y x:=by cases o<;>cases x<;>cases y<;>rfl
def K3(o:O3)(f g:Fm)(oL:aj ie):(Fm.fA o f g).vI oL=D0 o (f.vI oL) (g.vI oL):=by
 by_cases hf:∃b,f=.is b
 .let⟨b,rfl⟩:=hf;exact Qu o b g oL
 .by_cases hg:∃b,g=.is b
  .let⟨b,rfl⟩:=hg;rw[KY hf,Qu,z27];rfl
  .rw[Fn hf hg];cases o<;>rfl
def vL:aT->aj (fy ie)->aj ie->ie
 |_,[],_=>true
 |p,o::c,oL=>(o==none||o==ai (oL.jd p false))&&vL (p+1) c oL
theorem Fq(oL:aj ie):∀(c:aj (fy ie))(p:aT)(f:Fm),(m6 p f c).vI oL=(f.vI oL&&vL p c oL)
 |[],p,f=>by show f.vI oL=(f.vI oL&&true);simp
 |none::c,p,f=>by
  show(m6 (p+1) f c).vI oL=_;rw[Fq oL c];rfl
 |ai true::c,p,f=>by
  show(m6 (p+1) _ c).vI oL=_;rw[Fq oL c,K3];show((f.vI oL&&oL.jd p false)&&vL (p+1) c oL)=(f.vI oL&&((ai true==none||ai true==ai (oL.jd p false))&&vL (p+1) c oL));cases oL.jd p false<;>simp
 |ai false::c,p,f=>by
  show(m6 (p+1) _ c).vI oL=_;rw[Fq oL c,K3];show((f.vI oL&&!oL.jd p false)&&vL (p+1) c oL)=(f.vI oL&&((ai false==none||ai false==ai (oL.jd p false))&&vL (p+1) c oL));cases oL.jd p false<;>simp
theorem TK:∀(c:aj (fy ie))(p:aT)(oL:aj ie),p+c.aO=oL.aO->vL p c oL=mt c (oL.zd p)
 |[],p,oL,h=>by
  have:p=oL.aO:=by simpa using h
  subst this;rw[w2p];rfl
 |o::c,p,oL,h=>by
  simp only[w0x]at h;rw[w3a (by omega)];show(_&&vL (p+1) c oL)=_;rw[TK c (p+1) oL (by omega),show oL.jd p false=oL[p]from by grind];rfl
theorem Fs(oL:aj ie):∀(cs:aj (aj (fy ie)))(f:Fm),(∀c∈cs,c.aO=oL.aO)->(jj f cs).vI oL=(f.vI oL||cs.tZ λc=>mt c oL)
 |[],f,_=>by show f.vI oL=(f.vI oL||false);simp
 |c::cs,f,h=>by
  show(jj (Fm.fA .o f (m6 0 (.is true) c)) cs).vI oL=_;rw[Fs oL cs _ λx hx=>h x (by simp[hx]),K3,Fq,TK c 0 oL (by simpa using h c (by simp)),aj.drop_zero,w2w]
  show((f.vI oL||(true&&mt c oL))||_)=_;rw[w3m,ie.or_assoc]
def nm(oL:aj ie):aT->aT->aT
 |0,_=>0
 |m+1,p=>(if oL.jd p false=true then 2^m else 0)+nm oL m (p+1)
theorem Rc:∀(m:aT)(n:dr)(j:aT),j<m->(Y_ m n)[j]?=ai (decide (n / 2^j%2=1))
 |0,n,j,h=>by omega
 |m+1,n,0,h=>by simp[Y_]
 |m+1,n,j+1,h=>by
  rw[Y_,w0d,Rc m (n / 2) j (by omega)];rw[dr.ediv_ediv_of_nonneg (by decide),w4m,w5y (2^j) 2]
def z28{m k:aT}(h:p<m):(bP m k).jd p false=decide (k / 2^(m-1-p)%2=1):=by
 grind [bP,B8,Rc]
structure ni(w:Cb)(m:aT)(f:Fm):Prop where
 d:f.w8<=60
 z:f.d3<=1000
 i:f.qh m
 v:∀q,q<2^m->∀b,w.jd q none=ai b->f.vI (bP m q)=b
 o:4<m->∀q,q<2^m->w.jd q none=none->f.vI (bP m q)=false
def z29{w:Cb}{m N:aT}{cs:aj Cb}{T:W}(hw:w.aO=2^m)(hm:m<=4)(hN:N<=16)(h:LC (Pm w m) (wr w) N cs T):ni w m (jj (.is false) (eI (Pm w m) cs)):=by
 let⟨c1,c2,c3,c4⟩:=zL _ _ _ _ h.AB;have hp:=J0 (λc hc=>(c1 c hc).1) c4
 have wR:∀c∈eI (Pm w m) cs,c.aO=m:=λc hc=>(C' w hm).2 c (fT.mp hc).1
 have hl:(eI (Pm w m) cs).aO<=16:=by rw[hp.length_eq];omega
 have hv:∀q,(jj (.is false) (eI (Pm w m) cs)).vI (bP m q)=(eI (Pm w m) cs).tZ λc=>mt c (bP m q):=λq=>by
  rw[Fs _ _ _ λc hc=>by rw[wR c hc,nW]]
  rfl
 have k:=TJ (m:=m) (eI (Pm w m) cs) 0 (.is false) wR (.Zg false rfl)
 have Nt:∀q,q<2^m->∀b,w.jd q none=ai b->(jj (.is false) (eI (Pm w m) cs)).vI (bP m q)=b:=λq hq b hb=>by
  rw[hv];cases b with
  |true=>
   have Hg:q∈wr w:=w1l.uY ⟨w0u.uY (by omega),by rw[hb];rfl⟩;let⟨c,hc,hr⟩:=c3 q Hg;have hs:=fT.uY ⟨(c1 c hc).1,hc⟩;have:=(gj.mp hr).2;rw[wR c hs]at this;exact w2e.uY ⟨c,hs,this⟩
  |false=>
   refine w2i.uY λhn=>?_
   let⟨c,hs,hr⟩:=w2e.mp hn;have hpm:=(w1l.mp (fT.mp hs).1).2
   simp_all [mJ,i8,gj]
 cases k with
 |Zg b e=>exact⟨by rw[e];simp[Fm.w8],by rw[e];simp[Fm.d3],by rw[e];trivial,Nt,λh4=>by omega⟩
 |mk n o d z i=>
  refine⟨by omega,?_,i,Nt,λh4=>by omega⟩
  have:(0+(eI (Pm w m) cs).aO)*(3*m+1)<=16*13:=aT.mul_le_mul (by omega) (by omega);omega
def Pq(n:aT){l:Mc}{m x:W}(hs:ll K a (n+2) Fi [m]=.ok (.fr (.gw [aD l,x])))(hl:l.ae.aO<=700)(h4:cN l.ae.aO<=4)(h6:l.pg<=6):
  ll K a (n+3) uK [m]=.ok (.fr (aD l)):=by
 rw[zaY];unfold Io;rw?;rw[hs];rw?;rw[B0 n l hl];rw?;rw[sF (by omega),yi];rw?;rw[sF (by omega)]
theorem E2:∀{ws:aj W},(∀w∈ws,eW w=true)->bV ws=true
 |[],_=>rfl
 |w::ws,h=>by show(eW w&&bV ws)=true;rw[h w (by simp),E2 λx hx=>h x (by simp[hx])];rfl
def ϛ(m k:aT)(fs:aj Fm):W:=.gw [.a6 (m:dr),.gw ((fs.yE k).a7 λf=>.gw [.bl false,wJ f]),.gw ((fs.zd k).a7 wJ)]
structure zfi(l:Mc)(k:aT)(fs:aj Fm):Prop where
 uz:fs.aO=k+l.pg
 ok:∀p,p<k+l.pg->ni (jh l k p) (l.m+k) (fs.jd p (.is false))
def pU(oL:aj ie):W:=.gw (oL.a7 .bl)
def Ma{oL:aj ie}(h:p<oL.aO):d8 (oL.a7 W.bl) (p:dr)=ai (.bl (oL.jd p false)):=by
 refine oW ?_;simp[aj.jd,h]
def rB:aT->aT->aj ie
 |0,_=>[]
 |j+1,n=>decide (n / 2^j%2=1)::rB j n
theorem FE:∀j n,(rB j n).aO=j
 |0,_=>rfl
 |j+1,n=>by show(rB j n).aO+1=j+1;rw[FE j n]
def Qv(n:aT)(k m:aT)(hm:m<=100):ll K a (n+1) Ee [.a6 (k:dr),.a6 (m:dr)]=.ok (.fr (pU (rB m k))):=by
 rw[zam];unfold IL;rw?;rw[mS (pP (by omega) (by omega))];rw?
 let⟨e',h2,z,rfl⟩:=qj (b:=IE K a (ll K a n)) (i:=3) (lo:=0) (hi:=(m:dr)) m (by omega) (λj e=>∃z,e=[.fr (.a6 ((k / 2^j:aT):dr)),.fr (.a6 (m:dr)),.fr (.dS ((rB j k).a7 .bl)),z]) [.fr (.a6 (k:dr)),.fr (.a6 (m:dr)),.fr (.dS []),.no] ⟨.no,by simp[rB]⟩ (by
  rintro j e hj ⟨z,rfl⟩;unfold IE;rw?;rw[mS (by simp[FE];omega)];rw?;refine⟨_,rfl,.fr (.a6 (0+(j:dr))),?_⟩
  have e1:((k / 2^j:aT):dr) / 2=((k / 2^(j+1):aT):dr):=by
   rw[w5d,<- aT.div_div_eq_div_mul];omega
  have e2:decide (((k / 2^j:aT):dr)%2=1)=decide (k / 2^j%2=1):=by
   congr 1;exact propext ⟨λz=>by omega,λz=>by omega⟩
  rw[e1,e2];rfl)
 rw[h2];rw?;rfl
theorem vW:∀(f:Fm)(n:aT){oL:aj ie},f.w8<=n->f.qh oL.aO->ll K a n zx [wJ f,.gw (oL.a7 .bl)]=.ok (.fr (.bl (f.vI oL)))
 |.is b,n,oL,hd,hb=>by
  obtain⟨n,rfl⟩:∃k,n=k+1:=⟨n-1,by simp only[Fm.w8]at hd;omega⟩;rw[zq];unfold vS;simp only[wJ];rw?;rfl
 |.at p,n,oL,hd,hb=>by
  obtain⟨n,rfl⟩:∃k,n=k+1:=⟨n-1,by simp only[Fm.w8]at hd;omega⟩;rw[zq];unfold vS;simp only[wJ];rw?;rw[Ma hb];rw?;rfl
 |.not f,n,oL,hd,hb=>by
  obtain⟨n,rfl⟩:∃k,n=k+1:=⟨n-1,by simp only[Fm.w8]at hd;omega⟩;rw[zq];unfold vS;simp only[wJ];rw?;rw[vW f n (by simp only[Fm.w8]at hd;omega) hb];rw?;rfl
 |.and f g,n,oL,hd,hb=>by
  obtain⟨n,rfl⟩:∃k,n=k+1:=⟨n-1,by simp only[Fm.w8]at hd;omega⟩;rw[zq];unfold vS;simp only[wJ];rw?;rw[vW f n (by simp only[Fm.w8]at hd;omega) hb.1];rw?;rw[vW g n (by simp only[Fm.w8]at hd;omega) hb.2];rw?;simp only[Fm.vI];cases f.vI oL<;>simp
 |.or f g,n,oL,hd,hb=>by
  obtain⟨n,rfl⟩:∃k,n=k+1:=⟨n-1,by simp only[Fm.w8]at hd;omega⟩;rw[zq];unfold vS;simp only[wJ];rw?;rw[vW f n (by simp only[Fm.w8]at hd;omega) hb.1];rw?;rw[vW g n (by simp only[Fm.w8]at hd;omega) hb.2];rw?;simp only[Fm.vI];cases f.vI oL<;>simp
 |._h f g,n,oL,hd,hb=>by
  obtain⟨n,rfl⟩:∃k,n=k+1:=⟨n-1,by simp only[Fm.w8]at hd;omega⟩;rw[zq];unfold vS;simp only[wJ];rw?;rw[vW f n (by simp only[Fm.w8]at hd;omega) hb.1];rw?;rw[vW g n (by simp only[Fm.w8]at hd;omega) hb.2];rw?;simp only[Fm.vI];cases f.vI oL<;>cases g.vI oL<;>rfl
theorem Ti:∀(m k p:aT),p<m->(rB m k).jd p false=decide (k / 2^(m-1-p)%2=1)
 |m+1,k,0,_=>rfl
 |m+1,k,p+1,h=>by
  show(rB m k).jd p false=_;rw[Ti m k p (by omega),show m+1-1-(p+1)=m-1-p by omega]
def So(m k:aT):rB m k=bP m k:=by
 apply w2j;intro p
 by_cases h:p<m
 .have e1:=Ti m k p h;have e2:=z28 (k:=k) h;rw[<- e2,w1j,w1j]at e1;have l1:p<(rB m k).aO:=by rw[FE];exact h
  have l2:p<(bP m k).aO:=by rw[nW];exact h
  grind
 grind [FE,nW]
def Km{m k j x:aT}(hk:k<2^m)(hx:x<2^j):k*2^j+x<2^(m+j)/\(k*2^j+x)%2^j=x/\(k*2^j+x) / 2^j=k:=by
 refine⟨?_,?_,?_⟩
 .rw[w6a];have:=aT.mul_le_mul_right (2^j) (show k+1<=2^m from hk);rw[w5j]at this;omega
 .rw[w4j,aT.mul_add_mod,aT.mod_eq_of_lt hx]
 .rw[w4j,aT.mul_add_div (w5h j),aT.div_eq_of_lt hx,w4k]
structure qz(c l:Mc)(tl z_:aj aT):Prop where
 m:c.m=l.m
 uz:z_.aO=l.ae.aO
 tn:tl.aO=c.ae.aO
 lt:∀x,x<z_.aO->z_.jd x 0<c.ae.aO
 td:∀x k,x<z_.aO->k<2^l.m->V5 c (z_.jd x 0) k=V5 l x k
 nx:∀x k,x<z_.aO->k<2^l.m->tl.jd (eM c (z_.jd x 0) k) 0∈z_/\z_.Ue (tl.jd (eM c (z_.jd x 0) k) 0)=eM l x k
def Tj{c:Mc}(hc:c.Og){k:aT}(hi:i<c.ae.aO)(hk:k<2^c.m):(c.ae.jd i [])[k]?=ai (V5 c i k,eM c i k):=by
 have hl:=hc.st _ (jm hi)
 grind [V5,eM]
def Vq{m:aT}(hm:m<=4):d8 [W.a6 1,W.a6 2,W.a6 4,W.a6 8,W.a6 16] (m:dr)=ai (.a6 ((2^m:aT):dr)):=by
 rcases(show m=0\/m=1\/m=2\/m=3\/m=4 by omega)with rfl|rfl|rfl|rfl|rfl<;>rfl
def Vr(hx:x<T.aO):(fP c L T).ae.jd x []=bK T (cf c L (T.jd x 0)):=by
 show(T.a7 _).jd x []=_;simp[aj.jd,hx]
def Tn(hc:c.Og)(h:Cl c L T)(hx:x<T.aO)(hr:r<2^c.m):V5 (fP c L T) x r=V5 c (yM c L (T.jd x 0)) r/\eM (fP c L T) x r=T.Ue (kd c L (eM c (yM c L (T.jd x 0)) r)):=by
 have hk:T.jd x 0∈bZ c L:=h.Xt _ (by grind);have hl:=hc.st _ (jm (kj hk))
 grind [V5,eM,Vr,bK,cf]
def Sm(c d:Mc):aT->aT->aT->Prop
 |0,_,_=>ku
 |t+1,i,j=>∀r,r<2^c.m->V5 c i r=V5 d j r/\Sm c d t (eM c i r) (eM d j r)
def Al(c d:Mc)(i j:aT):Prop:=∀t,Sm c d t i j
theorem Rf{c d e:Mc}(h:c.m=d.m):∀{t i j k:aT},Sm c d t i j->Sm d e t j k->Sm c e t i k
 |0,_,_,_,_,_=>trivial
 |t+1,_,_,_,h1,h2=>λr hr=>⟨(h1 r hr).1.lb (h2 r (by rw[<- h];exact hr)).1,Rf h (h1 r hr).2 (h2 r (by rw[<- h];exact hr)).2⟩
theorem Sq{c d:Mc}(h:c.m=d.m):∀{t i j:aT},Sm c d t i j->Sm d c t j i
 |0,_,_,_=>trivial
 |t+1,_,_,h1=>λr hr=>⟨(h1 r (by rw[h];exact hr)).1.symm,Sq h (h1 r (by rw[h];exact hr)).2⟩
theorem Al.lb{c d e:Mc}(h:c.m=d.m){k:aT}(h1:Al c d i j)(h2:Al d e j k):Al c e i k:=λt=>Rf h (h1 t) (h2 t)
theorem Al.symm{c d:Mc}(h:c.m=d.m)(h1:Al c d i j):Al d c j i:=λt=>Sq h (h1 t)
theorem Al.YY{c d:Mc}{r:aT}(h:Al c d i j)(hr:r<2^c.m):V5 c i r=V5 d j r/\Al c d (eM c i r) (eM d j r):=⟨(h 1 r hr).1,λt=>(h (t+1) r hr).2⟩
theorem FK{c:Mc}(hc:c.Og):∀{t i j:aT},i<c.ae.aO->j<c.ae.aO->(Sm c c t i j↔kd c t i=kd c t j)
 |0,i,j,_,_=>⟨λ_=>by rw[uN,uN],λ_=>trivial⟩
 |t+1,i,j,hi,hj=>by
  rw[zP hc hi hj];exact ő λr=>⟨λh hr=>⟨(h hr).1,(FK hc (oY hc hi hr) (oY hc hj hr)).mp (h hr).2⟩,λh hr=>⟨(h hr).1,(FK hc (oY hc hi hr) (oY hc hj hr)).uY (h hr).2⟩⟩
theorem De{c:Mc}(hc:c.Og)(hs:d9 c L)(hi:i<c.ae.aO)(hj:j<c.ae.aO):Al c c i j↔kd c L i=kd c L j:=
 ⟨λh=>(FK hc hi hj).mp (h L),λh t=>(FK hc hi hj).uY (K2 hc hs t i j hi hj h)⟩
inductive F2(P:aT->aT->Prop):aj aT->aj aT->Prop
 |ro:F2 P [] []
 |p9 {x y l m}:P x y->F2 P l m->F2 P (x::l) (y::m)
theorem F2.uz{P:aT->aT->Prop}:∀{l m:aj aT},F2 P l m->l.aO=m.aO
 |_,_,.ro=>rfl
 |_,_,.p9 _ h=>by rw[w0x,w0x,h.uz]
theorem F2.A'{P:aT->aT->Prop}:∀{l m:aj aT}{i:aT},F2 P l m->i<l.aO->P (l.jd i 0) (m.jd i 0)
 |_,_,_,.ro,h=>by cases h
 |_,_,0,.p9 p _,_=>p
 |_,_,i+1,.p9 _ h,hi=>by
  have:=h.A' (i:=i) (by simpa using hi)
  simpa using this
theorem F2.Z8{P:aT->aT->Prop}{x y:aT}(p:P x y):∀{l m:aj aT},F2 P l m->F2 P (l++[x]) (m++[y])
 |_,_,.ro=>.p9 p .ro
 |_,_,.p9 q h=>.p9 q (F2.Z8 p h)
theorem F2.Xt{P:aT->aT->Prop}(u:∀x y x' y',P x y->P x' y'->(x=x'↔y=y')){x y:aT}(p:P x y):∀{l m:aj aT},F2 P l m->(x∈l↔y∈m)
 |_,_,.ro=>by simp
 |_,_,.p9 q h=>by rw[w0h,w0h,F2.Xt u p h,u _ _ _ _ p q]
theorem F2.ix{P:aT->aT->Prop}(u:∀x y x' y',P x y->P x' y'->(x=x'↔y=y')){x y:aT}(p:P x y):∀{l m:aj aT},F2 P l m->l.Ue x=m.Ue y
 |_,_,.ro=>rfl
 |x'::l,y'::m,.p9 q h=>by
  rw[w5f,w5f,F2.ix u p h]
  grind
def F2.add{P:aT->aT->Prop}(u:∀x y x' y',P x y->P x' y'->(x=x'↔y=y')){x y:aT}(p:P x y){l m:aj aT}(h:F2 P l m):F2 P (aW l x) (aW m y):=by
 unfold aW
 by_cases e:x∈l
 .rw[mS e,mS ((h.Xt u p).mp e)];exact h
 .rw[sF e,sF λz=>e ((h.Xt u p).uY z)];exact h.Z8 p
theorem F2.fold{P:aT->aT->Prop}(u:∀x y x' y',P x y->P x' y'->(x=x'↔y=y')):∀{xs ys l m:aj aT},F2 P xs ys->F2 P l m->F2 P (xs.yW aW l) (ys.yW aW m)
 |[],[],_,_,_,h=>h
 |[],_::_,_,_,q,_=>nomatch q
 |_::_,[],_,_,q,_=>nomatch q
 |x::xs,y::ys,l,m,q,h=>by
  cases q with
  |p9 p q=>exact F2.fold (xs:=xs) (ys:=ys) (l:=aW l x) (m:=aW m y) u q (h.add u p)
theorem F2.Bs{P:aT->aT->Prop}{f g:α->aT}:∀{l:aj α},(∀x∈l,P (f x) (g x))->F2 P (l.a7 f) (l.a7 g)
 |[],_=>.ro
 |x::l,h=>.p9 (h x (by simp)) (F2.Bs λy hy=>h y (by simp[hy]))
theorem F2.vJ{P:aT->aT->Prop}{f g:aT->α}(e:∀x y,P x y->f x=g y):∀{l m:aj aT},F2 P l m->l.a7 f=m.a7 g
 |_,_,.ro=>rfl
 |_,_,.p9 p h=>by rw[w0n,w0n,e _ _ p,F2.vJ e h]
theorem F2.bf{P:aT->aT->Prop}(u:∀x y x' y',P x y->P x' y'->(x=x'↔y=y')){g g':aT->aj Pr}{b b':aT}(p:P b b')(hg:∀x y,P x y->F2 P ((g x).a7 (·.2)) ((g' y).a7 (·.2))):∀i,F2 P (Q.bf g b i) (Q.bf g' b' i)
 |0=>.p9 p .ro
 |i+1=>by
  have h:=F2.bf u p hg i;show F2 P (if i<(Q.bf g b i).aO then _ else _) (if i<(Q.bf g' b' i).aO then _ else _)
  by_cases e:i<(Q.bf g b i).aO
  .rw[mS e,mS (by rw[<- h.uz];exact e)];exact F2.fold u (hg _ _ (h.A' e)) h
  .rw[sF e,sF (by rw[<- h.uz];exact e)];exact h
def F2.stop{P:aT->aT->Prop}(u:∀x y x' y',P x y->P x' y'->(x=x'↔y=y')){g g':aT->aj Pr}{b b':aT}(p:P b b')(hg:∀x y,P x y->F2 P ((g x).a7 (·.2)) ((g' y).a7 (·.2))){I I':aT}(hI:(Q.bf g b I).aO=I)(xm:(Q.bf g' b' I').aO=I'):F2 P (Q.bf g b I) (Q.bf g' b' I'):=by
 have h:=F2.bf u p hg;rcases aT.le_total I I' with le|le
 .have l1:(Q.bf g' b' I).aO=I:=by rw[<- (h I).uz];exact hI
  have:=zQ l1 (I'-I)
  grind
 .have l1:(Q.bf g b I').aO=I':=by rw[(h I').uz];exact xm
  have:=zQ l1 (I-I')
  grind
def z3a{c:Mc}(hc:c.Og)(hi:i<c.ae.aO):c.ae.jd i []=(aj.u5 (2^c.m)).a7 λr=>(V5 c i r,eM c i r):=by
 have hl:=hc.st _ (jm hi);unfold V5 eM;generalize c.ae.jd i []=s at hl |-
 refine aj.ext_getElem (by simp[hl]) λr h1 h2=>?_
 simp[aj.jd,h1]
def ER{c:Mc}(hc:c.Og){k:aT}(hk:k∈bZ c L):cf c L k=(aj.u5 (2^c.m)).a7 λr=>(V5 c (yM c L k) r,kd c L (eM c (yM c L k) r)):=by
 unfold cf;rw[z3a hc (kj hk),w0z];rfl
structure Rk(c d:Mc)(L L' x y:aT):Prop where
 cm:x∈bZ c L
 dm:y∈bZ d L'
 a:Al c d (yM c L x) (yM d L' y)
def TM{c d:Mc}(hc:c.Og)(hd:d.Og)(hm:c.m=d.m)(hs:d9 c L)(i_:d9 d L')(hi:i<c.ae.aO)(hj:j<d.ae.aO)(h:Al c d i j):Rk c d L L' (kd c L i) (kd d L' j):=by
 have k1:=uQ (t:=L) hi;have k2:=uQ (t:=L') hj;refine⟨k1,k2,?_⟩;have a1:=(De hc hs (kj k1) hi).uY (r8 k1);have a2:=(De hd i_ hj (kj k2)).uY (r8 k2).symm;exact a1.lb rfl (h.lb hm a2)
theorem Vs{c d:Mc}(hc:c.Og)(hd:d.Og)(hm:c.m=d.m)(hs:d9 c L)(i_:d9 d L'):∀x y x' y',Rk c d L L' x y->Rk c d L L' x' y'->(x=x'↔y=y'):=λx y x' y' p q=>by
 constructor
 .rintro rfl;have:=(De hd i_ (kj p.dm) (kj q.dm)).mp ((p.a.symm hm).lb hm.symm q.a)
  rwa [r8 p.dm,r8 q.dm]at this
 .rintro rfl;have:=(De hc hs (kj p.cm) (kj q.cm)).mp (p.a.lb hm (q.a.symm hm))
  rwa [r8 p.cm,r8 q.cm]at this
def Sr{c d:Mc}(hc:c.Og)(hd:d.Og)(hm:c.m=d.m)(hs:d9 c L)(i_:d9 d L'){x y r:aT}(p:Rk c d L L' x y)(hr:r<2^c.m):V5 c (yM c L x) r=V5 d (yM d L' y) r/\Rk c d L L' (kd c L (eM c (yM c L x) r)) (kd d L' (eM d (yM d L' y) r)):=by
 let⟨h1,h2⟩:=p.a.YY hr
 grind [TM,oY,kj,Rk.cm,Rk.dm]
def canon{c d:Mc}(hc:c.Og)(hd:d.Og)(hm:c.m=d.m)(hw:c.pg=d.pg)(hs:d9 c L)(i_:d9 d L')(h:Al c d 0 0){I I':aT}(hI:(bf (cf c L) (kd c L 0) I).aO=I)(xm:(bf (cf d L') (kd d L' 0) I').aO=I'):
  F2 (Rk c d L L') (bf (cf c L) (kd c L 0) I) (bf (cf d L') (kd d L' 0) I')/\fP c L (bf (cf c L) (kd c L 0) I)=fP d L' (bf (cf d L') (kd d L' 0) I'):=by
 have u:=Vs hc hd hm hs i_
 have f:=F2.stop u (TM hc hd hm hs i_ hc.ia hd.ia h) (λx y p=>by
  rw[ER hc p.cm,ER hd p.dm,w0z,w0z,<- hm];exact F2.Bs λr hr=>(Sr hc hd hm hs i_ p (w0u.mp hr)).2) hI xm
 refine⟨f,?_⟩;unfold fP;rw[hm,hw];congr 1;refine F2.vJ (λx y p=>?_) f
 unfold bK;rw[ER hc p.cm,ER hd p.dm,w0z,w0z,<- hm]
 grind [aj.zc',Sr,F2.ix]
def V1{c:Mc}(hc:c.Og){I:aT}(hL:L<=c.ae.aO)(hs:d9 c L)(hI:(bf (cf c L) (kd c L 0) I).aO=I):
  qz c (fP c L (bf (cf c L) (kd c L 0) I)) (f6 c c.ae.aO) ((bf (cf c L) (kd c L 0) I).a7 (yM c L)):=by
 have h:=Mm hc hI;generalize bf (cf c L) (kd c L 0) I=T at h;have yB:∀x y,x∈T->y∈T->yM c L x=yM c L y->x=y:=λx y hx hy e=>by rw[<- r8 (h.Xt x hx),<- r8 (h.Xt y hy),e]
 have AQ:∀x,x<T.aO->(T.a7 (yM c L)).jd x 0=yM c L (T.jd x 0):=λx hx=>by
  grind
 have uh:∀x,x<T.aO->T.jd x 0∈T:=λx hx=>by
  grind
 have GS:∀x k,x<T.aO->k<2^c.m->kd c L (eM c (yM c L (T.jd x 0)) k)∈T:=λx k hx hk=>by
  have hr:=kj (h.Xt _ (uh x hx))
  exact h.cl _ (uh x hx) (V5 c (yM c L (T.jd x 0)) k,kd c L (eM c (yM c L (T.jd x 0)) k)) (by
   unfold cf;exact w0r.uY ⟨_,w0y (Tj hc hr hk),rfl⟩)
 refine⟨rfl,by rw[w0a];show _=(T.a7 _).aO;rw[w0a],LF c _,λx hx=>?_,λx k hx hk=>?_,λx k hx hk=>?_⟩
 all_goals rw[w0a]at hx
 .rw[AQ x hx];exact kj (h.Xt _ (uh x hx))
 .rw[AQ x hx];exact(Tn hc h hx hk).1.symm
 .have hr:=kj (h.Xt _ (uh x hx));have hn:=oY hc hr hk;have lj:=GS x k hx hk;rw[AQ x hx,L9 hc hL hs hn,(Tn hc h hx hk).2];refine⟨w2n lj,?_⟩;let⟨i,hi,e⟩:=w1s.mp lj;refine Q_ (by rw[w0a]) (λp q hp hq=>?_) (i:=i) (by rw[w0t,w0b hi,e];rfl) (by rw[w0b hi,e])
  grind
def wQ{s:aT}(h:s<=16):cN s<=4:=by
 grind [LA]
theorem Rg:∀(w:aj (fy ie)),bp (w.a7 eo)=0
 |[]=>rfl
 |o::w=>by
  show max (bc (eo o)) (bp (w.a7 eo))=0;rw[Rg w];cases o<;>rfl
mutual
noncomputable def bu:W->Bool
 |.aC=>true
 |.bl _=>true
 |.int _=>true
 |.tup ws=>decide (ws.length<=1000)&&c9 ws
 |.lst ws=>c9 ws
 |_=>false
noncomputable def c9:List W->Bool
 |[]=>true
 |w::ws=>bu w&&c9 ws
end
theorem B2:∀{ws:aj W}{w:W},c9 ws=true->w∈ws->bu w=true
 |x::ws,w,h,m=>by
  have h:(bu x&&c9 ws)=true:=h;rw[w0l]at h;rcases w0h.mp m with rfl|m
  .exact h.1
  .exact B2 h.2 m
theorem E3:∀{ws:aj W},(∀w∈ws,bu w=true)->c9 ws=true
 |[],_=>rfl
 |x::ws,h=>by
  show(bu x&&c9 ws)=true;rw[h x (by simp),E3 λw hw=>h w (by simp[hw])]
  rfl
theorem yj(h:bu (.gw ws)=true):c9 ws=true:=(w0l _ _ ▸ (show(decide (ws.aO<=1000)&&c9 ws)=true from h)).2
def Ci(hl:ws.aO<=1000)(h:∀w∈ws,bu w=true):bu (.gw ws)=true:=by
 show(decide (ws.aO<=1000)&&c9 ws)=true;rw[Z4 hl,E3 h];rfl
def rn:W->ie
 |.gw _=>true
 |_=>false
def Ε:W->ie
 |.a6 _=>true
 |_=>false
def nQ:W->ie
 |.bl _=>true
 |_=>false
def To(M:iG K mg a){w:W}(h:bu w=true):fB K (.je "tuple") w=ai (.bl (rn w)):=by
 cases w with
 |aC=>exact Lo M.zcH
 |bl b=>exact K9 M.zcV
 |a6 b=>exact Ln M.zc7
 |gw b=>exact Ff M.gN
 |dS b=>exact Fh M.zcW
 |_=>cases h
def v8(M:iG K mg a){w:W}(h:bu w=true):fB K (.je "bool") w=ai (.bl (nQ w)):=by
 cases w with
 |aC=>exact Lo M.zcR
 |bl b=>exact K9 M.zc6
 |a6 b=>exact Ln M.zdj
 |gw b=>exact Ff M.zcX
 |dS b=>exact Fh M.zc8
 |_=>cases h
def Vt(M:iG K mg a){w:W}(h:bu w=true):fB K (.je "int") w=ai (.bl (Ε w||nQ w)):=by
 cases w with
 |aC=>exact Lo M.zcO
 |bl b=>exact K9 M.zdi
 |a6 b=>exact Ln M.zds
 |gw b=>exact Ff M.zc_
 |dS b=>exact Fh M.zdk
 |_=>cases h
def lV(k:aT):W->ie
 |.gw xs=>decide (xs.aO=k)
 |_=>false
def BQ(M:iG K mg a)(n:aT){w:W}(h:bu w=true)(k:aT):ll K a (n+1) vR [w,.a6 (k:dr)]=.ok (.fr (.bl (lV k w))):=by
 rw[zai];unfold IG;rw?;rw[To M h];cases w with
 |gw xs=>
  simp only[rn];rw?;show FR.ok (S.fr (W.bl (decide (((xs.aO:aT):dr)=((k:aT):dr)))))=FR.ok (S.fr (W.bl (decide (xs.aO=k))));exact Zd (λb=>FR.ok (S.fr (W.bl b))) (decide_eq_decide.uY (by omega))
 |_=>
  simp only[rn];rw?;rfl
def Qw(M:iG K mg a)(n:aT){w:W}(h:bu w=true):ll K a (n+1) ED [w]=.ok (.fr (.bl (Ε w))):=by
 rw[zbm];unfold JF;rw?;rw[Vt M h];cases w with
 |a6 i=>
  simp only[Ε,nQ,ie.YX];rw?;rw[v8 M h];simp only[nQ];rw?
  all_goals rfl
 |bl b=>
  simp only[Ε,nQ,ie.or_true];rw?;rw[v8 M h];simp only[nQ];rw?
  all_goals rfl
 |_=>
  simp only[Ε,nQ,ie.YX];rw?
def sS:W->fy ie->ie
 |.aC,none=>true
 |.bl b,ai c=>b==c
 |_,_=>false
def z3b(M:iG K mg a)(n:aT){w:W}(h:bu w=true)(hd:bc w<=100)(o:fy ie):ll K a (n+1) Jf [w,eo o]=.ok (.fr (.bl (sS w o))):=by
 have ho:bu (eo o)=true:=by cases o<;>rfl
 rw[zaB];unfold Jh;rw?;have e2:yn w (eo o)=(ft w (eo o)).a7 .bl:=mS (by omega);rw[e2];cases w with
 |aC=>
  cases o with
  |none=>
   rw[show ft .aC (eo none)=ai true from rfl];rw?;rw[v8 M h];rw?;rw[v8 M ho];rfl
  |ai b=>
   rw[show ft .aC (eo (ai b))=ai false from rfl];rw?;rfl
 |bl c=>
  cases o with
  |none=>
   rw[show ft (.bl c) (eo none)=ai false from rfl];rw?;rfl
  |ai b=>
   rw[show ft (.bl c) (eo (ai b))=ai (c==b)from rfl];cases hb:(c==b)with
   |true=>
    rw?;rw[v8 M h];rw?;rw[v8 M ho];rw?;show FR.ok (S.fr (W.bl true))=FR.ok (S.fr (W.bl (c==b)));rw[hb]
   |false=>
    rw?;show FR.ok (S.fr (W.bl false))=FR.ok (S.fr (W.bl (c==b)));rw[hb]
 |a6 c=>
  cases o with
  |none=>
   rw[show ft (.a6 c) (eo none)=ai false from rfl];rw?;rfl
  |ai b=>
   rw[show ft (.a6 c) (eo (ai b))=ai (c==(if b then 1 else 0))from rfl];cases hb:(c==(if b then(1:dr)else 0))with
   |true=>
    rw?;rw[v8 M h];rw?;rw[v8 M ho];rfl
   |false=>
    rw?;rfl
 |gw xs=>
  rw[show ft (.gw xs) (eo o)=ai false by cases o<;>rfl];rw?;cases o<;>rfl
 |dS xs=>
  rw[show ft (.dS xs) (eo o)=ai false by cases o<;>rfl];rw?;cases o<;>rfl
 |_=>cases h
def wY:W->aj (fy ie)->ie
 |.gw ws,c=>decide (ws.aO=c.aO)&&(ws.wt c).rM λp=>sS p.1 p.2
 |_,_=>false
theorem OA(M:iG K mg a)(n:aT):∀(ws:aj W)(c:aj (fy ie)),c9 ws=true->bp ws<=100->du bB (Jr K a (ll K a (n+1))) [] (ws.wt (c.a7 eo))=ai (((ws.wt c).a7 λp=>sS p.1 p.2).a7 .bl)
 |[],_,_,_=>rfl
 |_::_,[],_,_=>rfl
 |w::ws,o::c,h,hd=>by
  have h:(bu w&&c9 ws)=true:=h;rw[w0l]at h;have hd:max (bc w) (bp ws)<=100:=hd;have ih:=OA M n ws c h.2 (by omega);simp only[w0n,w3l];rw[BV,ih];unfold Jr;rw?;rw[z3b M n h.1 (by omega) o];rw?
def y0y(M:iG K mg a)(n:aT){w:W}(h:bu w=true)(hd:bc w<=100){c:aj (fy ie)}(hc:c.aO<=10):ll K a (n+2) Kc [w,aB c]=.ok (.fr (.bl (wY w c))):=by
 rw[y0a];unfold Kh aB;rw?;rw[w0a,BQ M n h c.aO];rw?;cases w with
 |gw ws=>
  by_cases hl:ws.aO=c.aO
  .rw[show lV c.aO (.gw ws)=true from Z4 hl];rw?;rw[mS (by simp[w2t];omega),OA M n ws c (yj h) (by have:bp ws+1<=100:=hd;omega)];rw?;rw[FG];rw?;show FR.ok (S.fr (W.bl (((ws.wt c).a7 λp=>sS p.1 p.2).rM id)))=FR.ok (S.fr (W.bl (decide (ws.aO=c.aO)&&(ws.wt c).rM λp=>sS p.1 p.2)))
   rw[Z4 hl,w3m,w4i];rfl
  .rw[show lV c.aO (.gw ws)=false from Yu hl];rw?;show FR.ok (S.fr (W.bl false))=FR.ok (S.fr (W.bl (decide (ws.aO=c.aO)&&(ws.wt c).rM λp=>sS p.1 p.2)))
   rw[Yu hl,w5k]
 |_=>
  simp only[lV];rw?;try rfl
def BT(T:aj aT->W->ie)(l:aj aT):W->Cb->ie
 |.gw [x,t],c=>wY x c&&T (lf l c) t
 |_,_=>false
def TS(k:aT)(P:aj Cb)(B:W->Cb->ie)(l:aj aT):W->ie
 |.gw [.a6 n,.gw bs]=>nO n l&&(if k=0 then bs.Dl else(decide (bs.aO=(hv P n).aO)&&(bs.wt (hv P n)).rM λp=>B p.1 p.2))
 |_=>false
def TT(P:aj Cb):aT->aj aT->W->ie
 |0,l,w=>TS 0 P (λ_ _=>false) l w
 |k+1,l,w=>TS (k+1) P (BT (TT P k) l) l w
def z8z(n:dr)(ts:aj aT):jX (.a6 n) (.dS (ts.a7 nI))=ai (.bl (!nO n ts)):=by
 show(if aV (.a6 n)=true/\(ts.a7 nI).rM aV=true then ai (W.bl (!(ts.a7 nI).tZ λy=>mh y (.a6 n)))else none)=_
 rw[mS ⟨rfl,Fj ts⟩,LP]
theorem Ox{R:aT->aj W->FR}{k:aT}{P:aj Cb}{l:aj aT}{B:W->Cb->ie}(hB:∀(b:W)(c:Cb),bu b=true->bc b<=99->c∈P->R zC [b,cD c,.dS (P.a7 cD),.dS (l.a7 nI),.a6 (k:dr)]=.ok (.fr (.bl (B b c)))):
  ∀(bs:aj W)(cs:aj Cb),c9 bs=true->bp bs<=99->(∀c∈cs,c∈P)->du bB (Jq K a R) [.fr (.dS (P.a7 cD)),.fr (.dS (l.a7 nI)),.fr (.a6 (k:dr))] (bs.wt (cs.a7 cD))=ai (((bs.wt cs).a7 λp=>B p.1 p.2).a7 .bl)
 |[],_,_,_,_=>rfl
 |_::_,[],_,_,_=>rfl
 |b::bs,c::cs,h,hd,hc=>by
  have h:(bu b&&c9 bs)=true:=h;rw[w0l]at h;have hd:max (bc b) (bp bs)<=99:=hd;have ih:=Ox hB bs cs h.2 (by omega) λc Dw=>hc c (by simp[Dw])
  simp only[w0n,w3l];rw[BV,ih];unfold Jq;rw?;rw[hB b c h.1 (by omega) (hc c (by simp))];rw?
def Qx(M:iG K mg a){R:aT->aj W->FR}{k:aT}{P:aj Cb}{l:aj aT}{B:W->Cb->ie}(hP:P.aO<=81)(hl:l.aO<=100)
  (hT:∀x,bu x=true->R vR [x,.a6 2]=.ok (.fr (.bl (lV 2 x))))(zcG:∀x,bu x=true->R ED [x]=.ok (.fr (.bl (Ε x))))(hH:∀x:dr,R yb [.dS (P.a7 cD),.a6 x]=.ok (.ke none ((hv P x).a7 cD)))
  (hB:k≠0->∀(b:W)(c:Cb),bu b=true->bc b<=99->c∈P->R zC [b,cD c,.dS (P.a7 cD),.dS (l.a7 nI),.a6 (k:dr)]=.ok (.fr (.bl (B b c)))){w:W}(hf:bu w=true)(hd:bc w<=100):
  (zG K a R [.fr w,.fr (.dS (P.a7 cD)),.fr (.dS (l.a7 nI)),.fr (.a6 (k:dr)),.no,.no,.no]).fn=.ok (.fr (.bl (TS k P B l w))):=by
 have no:∀w,bu w=true->lV 2 w=false->(zG K a R [.fr w,.fr (.dS (P.a7 cD)),.fr (.dS (l.a7 nI)),.fr (.a6 (k:dr)),.no,.no,.no]).fn=.ok (.fr (.bl false)):=λw hf h2=>by
  unfold zG;rw?;rw[hT w hf,h2];rw?
 cases w with
 |gw xs=>
  rcases xs with _|⟨x,_|⟨y,_|⟨z,xs⟩⟩⟩
  .exact no _ hf rfl
  .rw[no _ hf rfl];cases x<;>rfl
  .have hx:bu x=true:=B2 (ws:=[x,y]) (yj hf) (by simp);have hy:bu y=true:=B2 (ws:=[x,y]) (yj hf) (by simp);unfold zG;rw?;rw[hT _ hf];simp only[lV];rw?;rw[zcG x hx];have Xk:(∃n,x=.a6 n)\/Ε x=false:=by cases x<;>first|exact .j9 ⟨_,rfl⟩|exact .mW rfl
   rcases Xk with⟨n,rfl⟩|Nx
   .simp only[Ε];rw?;rw[z8z];rw?;have Xc:∀y,rn y=false->TS k P B l (.gw [.a6 n,y])=false:=λy h=>by cases y<;>first|rfl|cases h
    cases kF:nO n l with
    |false=>
     rw[mS (show(!false)=true from rfl)];cases y with
     |gw bs=>show _=FR.ok (S.fr (W.bl (nO n l&&_)));rw[kF];rfl
     |_=>rfl
    |true=>
     rw[sF (by decide),To M hy];cases Nr:rn y with
     |false=>
      rw?;rw[Xc y Nr]
     |true=>
      obtain⟨bs,rfl⟩:∃bs,y=.gw bs:=by cases y<;>first|exact⟨_,rfl⟩|cases Nr
      have WK:c9 bs=true:=yj hy
      have f_:bp bs<=98:=by
       have hd:max 0 (max (bp bs+1) 0)+1<=100:=hd;omega
      have zcm:TS k P B l (.gw [.a6 n,.gw bs])=(if k=0 then bs.Dl else(decide (bs.aO=(hv P n).aO)&&(bs.wt (hv P n)).rM λp=>B p.1 p.2)):=by
       show(nO n l&&_)=_;rw[kF,w3m]
      rw[zcm];rw?
      by_cases hk:k=0
      .subst hk;rw[mS rfl,mS (by rfl)];rw?;cases bs with
       |ro=>rfl
       |p9 b bs=>
        show FR.ok (S.fr (W.bl (decide ((((b::bs).aO:aT):dr)=0))))=FR.ok (S.fr (W.bl false));rw[Yu (by simp only[w0x];omega)]
      .rw[sF hk,sF (by omega),hH n];rw?;rw[w0a];have hle:(hv P n).aO<=81:=w0q (w2g _ _) hP
       by_cases he:bs.aO=(hv P n).aO
       .rw[Z4 he,w3m,sF (by simp;omega)];rw[mS (by rw[w2t,w0a];omega)];simp only[cM,iw,w0d,w0g];rw[Ox (hB hk) bs (hv P n) WK (by omega) λc hc=>(w1l.mp hc).1]
        rw?;rw[FG];rw?;rw[w4i];rfl
       .rw[Yu he,w5k,mS (by simp;omega)]
   .rw[Nx];rw?;cases x with
    |a6 n=>cases Nx
    |_=>rfl
  .rw[no _ hf (show decide ((x::y::z::xs).aO=2)=false from Yu (by simp only[w0x];omega))];cases x<;>cases y<;>rfl
 |_=>rw[no _ hf rfl];rfl
def y4k(M:iG K mg a){P:aj Cb}{m k:aT}(hm:m<=4)(hc:∀c∈P,c.aO=m){T:aj aT->W->ie}(hT:∀(l:aj aT)(w:W),bu w=true->bc w<=100->l.aO<=100->ll K a (n+2) zD [w,.dS (P.a7 cD),.dS (l.a7 nI),.a6 (k:dr)]=.ok (.fr (.bl (T l w))))
  {l:aj aT}(hl:l.aO<=100){b:W}{c:Cb}(hf:bu b=true)(hd:bc b<=99)(yZ:c∈P):ll K a (n+3) zC [b,cD c,.dS (P.a7 cD),.dS (l.a7 nI),.a6 ((k+1:aT):dr)]=.ok (.fr (.bl (BT T l b c))):=by
 have no:∀w,bu w=true->lV 2 w=false->ll K a (n+3) zC [w,cD c,.dS (P.a7 cD),.dS (l.a7 nI),.a6 ((k+1:aT):dr)]=.ok (.fr (.bl false)):=λw hf h2=>by
  rw[Ot];unfold Ew;rw?;have:=BQ M (n+1) hf 2;rw[show ll K a (n+2) vR [w,.a6 2]=_ from this,h2];rw?
 cases b with
 |gw xs=>
  rcases xs with _|⟨x,_|⟨y,_|⟨z,xs⟩⟩⟩
  .exact no _ hf rfl
  .exact no _ hf rfl
  .have hx:bu x=true:=B2 (ws:=[x,y]) (yj hf) (by simp);have hy:bu y=true:=B2 (ws:=[x,y]) (yj hf) (by simp);have hd:max (bc x) (max (bc y) 0)+1<=99:=hd;rw[Ot];unfold Ew;rw?;have:=BQ M (n+1) hf 2;rw[show ll K a (n+2) vR [.gw [x,y],.a6 2]=_ from this];simp only[lV];rw?;rw[show aQ (cD c) (.a6 0)=ai (aB c)from rfl];rw?;rw[y0y M n hx (by omega) (c:=c) (by rw[hc c yZ];omega)];cases he:wY x c with
   |false=>
    rw?;show _=FR.ok (S.fr (W.bl (wY x c&&_)));rw[he];rfl
   |true=>
    rw?;rw[show aQ (cD c) (.a6 1)=ai (.dS ((dJ c).a7 nI))from rfl];rw?;rw[Ow (n+1) (by omega)];rw?;rw[show(((k+1:aT):dr))-1=(k:dr) by omega,show l.DV (λk=>!(dJ c)._c k)=lf l c from rfl,hT (lf l c) y hy (by omega) (w0q (QN l c) hl)]
    rw?;show _=FR.ok (S.fr (W.bl (wY x c&&_)));rw[he];rfl
  .exact no _ hf (show decide ((x::y::z::xs).aO=2)=false from Yu (by simp only[w0x];omega))
 |_=>exact no _ hf rfl
def z3c(M:iG K mg a){P:aj Cb}{m:aT}(hm:m<=4)(hP:P.aO<=81)(hc:∀c∈P,c.aO=m):∀(k n:aT)(l:aj aT)(w:W),bu w=true->bc w<=100->l.aO<=100->ll K a (n+2*k+4) zD [w,.dS (P.a7 cD),.dS (l.a7 nI),.a6 (k:dr)]=.ok (.fr (.bl (TT P k l w))):=by
 intro k
 induction k with
 |TL=>
  intro n l w hf hd hl;rw[OT];exact Qx M hP hl (λx hx=>BQ M (n+2) hx 2) (λx hx=>Qw M (n+2) hx) (λx=>EG (n+2) (by omega) x) (λh=>uv rfl h) hf hd
 |OK k ih=>
  intro n l w hf hd hl;have e:n+2*(k+1)+4=(n+2*k+3+2)+1:=by omega
  rw[e,OT]
  exact Qx M hP hl (λx hx=>BQ M (n+2*k+3+1) hx 2) (λx hx=>Qw M (n+2*k+3+1) hx) (λx=>EG (n+2*k+3+1) (by omega) x) (λ_ b c hb f_ yZ=>by
   have:=y4k M hm hc (k:=k) (T:=TT P k) (n:=n+2*k+2) (λl w h1 h2 h3=>ih n l w h1 h2 h3) hl hb f_ yZ
   exact this) hf hd
def Bg:W->ie
 |.aC=>true
 |_=>false
theorem TN:∀x c:Cb,wY (aB x) c=decide (x=c)
 |[],[]=>rfl
 |[],_::_=>rfl
 |_::_,[]=>rfl
 |o::x,p::c=>by
  have ih:=TN x c
  have e:sS (eo o) p=decide (o=p):=by
   cases o with
   |none=>cases p<;>rfl
   |ai a=>cases p with
    |none=>rfl
    |ai b=>cases a<;>cases b<;>rfl
  have ih:(decide ((x.a7 eo).aO=c.aO)&&((x.a7 eo).wt c).rM λp=>sS p.1 p.2)=decide (x=c):=ih
  show(decide (((o::x).a7 eo).aO=(p::c).aO)&&(sS (eo o) p&&((x.a7 eo).wt c).rM λp=>sS p.1 p.2))=decide (o::x=p::c)
  rw[e];have e2:decide (((o::x).a7 eo).aO=(p::c).aO)=decide ((x.a7 eo).aO=c.aO):=by simp
  rw[e2,<- w5l,ie.and_comm (decide ((x.a7 eo).aO=c.aO)),w5l,ih];simp
def Tr:aT->W->Prop
 |0,w=>w=.aC\/∃n:dr,w=.gw [.a6 n,.gw []]
 |d+1,w=>w=.aC\/∃(n:dr)(bs:aj W),w=.gw [.a6 n,.gw bs]/\bs.aO<=81/\∀b∈bs,∃(c:Cb)(t:W),b=.gw [aB c,t]/\c.aO<=4/\Tr d t
theorem Tp(c:Cb)(h:c.aO<=1000):bu (aB c)=true:=Ci (by rw[w0a];exact h) λw hw=>by
 let⟨o,_,rfl⟩:=w0r.mp hw;cases o<;>rfl
def Mn(c:Cb):bc (aB c)=1:=by show bp (c.a7 eo)+1=1;rw[Rg]
theorem B'{d:aT}:∀{ws:aj W},(∀w∈ws,bc w<=d)->bp ws<=d
 |[],_=>w1c _
 |w::ws,h=>by
  show max (bc w) (bp ws)<=d;have h1:=h w (by simp);have h2:=B' (ws:=ws) λx hx=>h x (by simp[hx])
  omega
theorem Tr.ok:∀{d:aT}{w:W},Tr d w->bu w=true/\bc w<=3*d+2
 |0,w,h=>by
  rcases h with rfl|⟨n,rfl⟩
  .exact⟨rfl,w1c _⟩
  .exact⟨rfl,by show max 0 (max (0+1) 0)+1<=2;decide⟩
 |d+1,w,h=>by
  rcases h with rfl|⟨n,bs,rfl,hl,hb⟩
  .exact⟨rfl,w1c _⟩
  .have MY:∀b∈bs,bu b=true/\bc b<=3*d+3:=λb i9=>by
    let⟨c,t,rfl,hc,ht⟩:=hb b i9;let⟨t1,t2⟩:=Tr.ok ht;refine⟨Ci (by simp) λx hx=>?_,?_⟩
    .rcases w0h.mp hx with rfl|hx
     .exact Tp c (by omega)
     .rw[w1h.mp hx];exact t1
    .show max (bc (aB c)) (max (bc t) 0)+1<=_;rw[Mn];omega
   have f1:bu (.gw bs)=true:=Ci (by omega) λb i9=>(MY b i9).1
   refine⟨Ci (by simp) λx hx=>?_,?_⟩
   .rcases w0h.mp hx with rfl|hx
    .rfl
    .rw[w1h.mp hx];exact f1
   .have:=B' (d:=3*d+3) λb i9=>(MY b i9).2
    show max 0 (max (bp bs+1) 0)+1<=3*(d+1)+2;omega
def Ss{l:aj aT}{k:aT}(h:k∈l):nO (k:dr) l=true:=by rw[R5];simpa using h
def Vu{w:Cb}{m:aT}(hw:w.aO=2^m)(hm:m<=4):(wr w).aO<=100:=by
 have h1:=Tf w;have h2:2^m<=2^4:=w0s (by decide) hm;have h3:(2:aT)^4=16:=rfl;omega
def Vv{w:W}(h:bu w=true):Yz w .aC=ai (.bl (Bg w)):=by
 cases w<;>first|rfl|cases h
def wI(w:Cb)(m:aT)(uw:dr)(t:W):ie:=if uw<0 then Bg t else TT (Pm w m) uw.sG (wr w) t
def LC.uz{P:aj Cb}{l:aj aT}{N:aT}{cs:aj Cb}{T:W}(h:LC P l N cs T):cs.aO=N:=by
 let⟨a1,a2,a3,_⟩:=zL P N l cs h.AB;cases N with
 |TL=>omega
 |OK n=>
  have:=JY P n l T (h.tree n rfl) cs (λc hc=>(a1 c hc).1)
  by_cases z:cs.aO<=n
  .exact(this z a3).nU
  .omega
def z3d{w:Cb}{m:aT}{cs:aj Cb}(h1:∀c∈cs,c∈Pm w m)(h2:cs.yr):(eI (Pm w m) cs).aO=cs.aO:=by
 have pm:=J0 h1 h2;exact pm.length_eq
theorem Rh{go:Cb->aj Cb ⊕ W}{num:aT}:∀{cs:aj Cb}{tW:aj W}{t:W},qE go num cs tW=.mW t->∃us:aj W,us.aO=cs.aO/\(∀(i:aT) c,cs[i]?=ai c->∃u,go c=.mW u/\us[i]?=ai (.gw [aB c,u]))/\t=.gw [nI num,.gw (tW++us)]
 |[],tW,t,e=>⟨[],rfl,λi c h=>by simp at h,by rw[w1q];exact(Y8.mW.yB e).symm⟩
 |c::cs,tW,t,e=>by
  unfold qE at e;cases q:go c with
  |j9 x=>rw[q]at e;cases e
  |mW u=>
   rw[q]at e;let⟨us,h1,h2,h3⟩:=Rh e;refine⟨.gw [aB c,u]::us,by simp[h1],λi d h=>?_,by rw[h3,w2y];rfl⟩
   cases i with
   |TL=>cases h;exact⟨u,q,rfl⟩
   |OK i=>exact h2 i d h
theorem Su{P:aj Cb}{m:aT}(hm:m<=4)(hP:P.aO<=81)(hc:∀c∈P,c.aO=m):∀(uw:aT)(l:aj aT)(t:W),cb P uw l=.mW t->TT P uw l t=true/\Tr uw t
 |uw,[],t,e=>by unfold cb at e;cases e
 |0,k::l,t,e=>by
  unfold cb at e;cases Y8.mW.yB e;refine⟨?_,.mW ⟨_,rfl⟩⟩;show(nO (lK P (k::l):dr) (k::l)&&true)=true;rw[Ss (Fl P k l)];rfl
 |uw+1,k::l,t,e=>by
  unfold cb at e;let⟨us,u1,u2,rfl⟩:=Rh e;rw[w3k];have Xh:∀(i:aT) c,(hv P (lK P (k::l):dr))[i]?=ai c->c∈P:=λi c h=>(lq.mp (w0y h)).1
  have ih:∀(i:aT) c,(hv P (lK P (k::l):dr))[i]?=ai c->∃u,us[i]?=ai (.gw [aB c,u])/\TT P uw (lf (k::l) c) u=true/\Tr uw u:=λi c h=>by
   let⟨u,g1,g2⟩:=u2 i c h;let⟨z1,z2⟩:=Su hm hP hc uw _ u g1;exact⟨u,g2,z1,z2⟩
  refine⟨?_,.mW ⟨_,us,rfl,by rw[u1];exact w0q (w2g _ _) hP,λb hb=>?_⟩⟩
  .show(nO (lK P (k::l):dr) (k::l)&&(if uw+1=0 then us.Dl else(decide (us.aO=(hv P (lK P (k::l):dr)).aO)&&(us.wt (hv P (lK P (k::l):dr))).rM λp=>BT (TT P uw) (k::l) p.1 p.2)))=true
   rw[Ss (Fl P k l),sF (aT.succ_ne_zero _),Z4 u1,w3m,w3m,w1d];intro p hp;let⟨i,hi,rfl⟩:=w1s.mp hp;have DD:i<(hv P (lK P (k::l):dr)).aO:=by rw[w2t]at hi;omega
   have WQ:i<us.aO:=by rw[w2t]at hi;omega
   let⟨u,g1,g2,_⟩:=ih i _ (w0b DD);rw[w0b WQ]at g1;rw[aj.getElem_zip];show BT (TT P uw) (k::l) us[i] (hv P (lK P (k::l):dr))[i]=true;rw[fy.ai.yB g1];show(wY (aB _) _&&TT P uw (lf (k::l) _) u)=true;rw[TN,Z4 rfl,g2];rfl
  .let⟨i,hi,rfl⟩:=w1s.mp hb;have DD:i<(hv P (lK P (k::l):dr)).aO:=by rw[<- u1];exact hi
   let⟨u,g1,_,g3⟩:=ih i _ (w0b DD);rw[w0b hi]at g1;exact⟨_,u,fy.ai.yB g1,by rw[hc _ (Xh i _ (w0b DD))];omega,g3⟩
def y4m(M:iG K mg a){w:Cb}{m:aT}(hw:w.aO=2^m)(hm:m<=4){uw:dr}(h1:uw<=20){t:W}(hf:bu t=true)(hd:bc t<=100):ll K a 147 Ec [.dS (w.a7 eo),.a6 uw,t]=.ok (.fr (.bl (wI w m uw t))):=by
 let⟨p1,p2⟩:=C' w hm;have rr:ll K a 146 zu [.dS (w.a7 eo)]=.ok (.ke none ((Pm w m).a7 cD)):=OW (K:=K) (a:=a) 139 hw hm;have wd:ll K a 146 zt [.dS (w.a7 eo)]=.ok (.ke none ((wr w).a7 nI)):=Ph (K:=K) (a:=a) 142 hw hm
 have tr:0<=uw->ll K a 146 zD [t,.dS ((Pm w m).a7 cD),.dS ((wr w).a7 nI),.a6 uw]=.ok (.fr (.bl (TT (Pm w m) uw.sG (wr w) t))):=λh0=>by
  have:=z3c (K:=K) (a:=a) M hm p1 p2 uw.sG (142-2*uw.sG) (wr w) t hf hd (Vu hw hm);rw[show 142-2*uw.sG+2*uw.sG+4=146 by omega,show((uw.sG:aT):dr)=uw by omega]at this;exact this
 unfold wI;show ll K a (146+1) Ec _=_;rw[zak];unfold II;generalize ll K a 146=r at rr wd tr |-
 rw?;rw[rr];rw?
 by_cases hc:uw<0
 .rw[mS hc,mS hc,Vv hf];rw?
 .rw[sF hc,sF hc,wd];rw?;rw[tr (by omega)];rw?
def y85{w:Cb}{m:aT}(hw:w.aO=2^m)(hm:m<=4):∃N cs T,N<=16/\LC (Pm w m) (wr w) N cs T/\∀n,ll K a (n+120) uL [.dS (w.a7 eo)]=.ok (.fr (.gw [.dS ((eI (Pm w m) cs).a7 aB),T]))/\ll K a (n+120) zo [.dS (w.a7 eo)]=.ok (.gP [] ((eI (Pm w m) cs).a7 aB) [T]):=by
 have ud:(wr w).aO<=16:=by
  have:=Tf w;have:2^m<=16:=w0q (w0s (by decide) hm) (by decide);omega
 have hP:=(C' w hm).1;let⟨N,hN,⟨cs,sW⟩,ht⟩:=z8h (P:=Pm w m) (l:=wr w) λk hk=>y8a hw hk
 let⟨b1,b2,b3,b4⟩:=zL _ _ _ _ sW
 have YL:∀n,∃T,(N=0->T=.aC)/\(∀e,N=e+1->cb (Pm w m) e (wr w)=.mW T)/\ll K a (n+120) uL [.dS (w.a7 eo)]=.ok (.fr (.gw [.dS ((eI (Pm w m) cs).a7 aB),T]))/\ll K a (n+120) zo [.dS (w.a7 eo)]=.ok (.gP [] ((eI (Pm w m) cs).a7 aB) [T]):=λn=>by
  have rr:=OW (K:=K) (a:=a) (n+112) hw hm;have wi:=Ph (K:=K) (a:=a) (n+115) hw hm
  have tr:∀uw:aT,uw<=100->ll K a (n+119) oX [.dS ((Pm w m).a7 cD),.dS ((wr w).a7 nI),.a6 (uw:dr)]=.ok (.fr (bM (cb (Pm w m) uw (wr w)))):=λuw hc=>by
   have:=PL (K:=K) (a:=a) hP uw (n+115-uw) (wr w) (by omega) hc
   rwa [show n+115-uw+uw+4=n+119 by omega]at this
  have tx:∀c:Cb,c.aO<=1000->ll K a (n+119) zy [aB c]=.ok (.fr (.str (kc c))):=λc hc=>z2t (K:=K) (a:=a) (n+118) hc
  let⟨T,a1,a2,a3⟩:=QQ (K:=K) (a:=a) (ll K a (n+119)) (.dS (w.a7 eo)) tr N 0 1000000 .aC (by rw[w2a];exact⟨cs,sW⟩) (λi hi=>by rw[w2a];exact ht i hi) (by omega) (by omega)
  rw[w2a]at a3;refine⟨T,a1,λe he=>by have:=a2 e he;rwa [w2a]at this,?_⟩
  have sr:=z8j (F:=ll K a (n+119) zy) tx hm (λc hc=>(b1 c hc).1) b4 (by omega)
  rw[zaj,zaX];unfold IH Il;rw[show n+112+7=n+119 by omega]at rr;rw[show n+115+4=n+119 by omega]at wi;have t0:=tr 0 (by omega);generalize ll K a (n+119)=r at rr wi t0 a3 sr |-
  have a4:=a3;rw[show zm K a r=NX K a r from rfl,show BL K a r=NS K a r from rfl]at a4;constructor
  .rw?;rw[rr];rw?;rw[wi];rw?;rw[show r oX [.dS (((bq m).DV λc=>mJ c w).a7 cD),.dS ((wr w).a7 nI),.a6 0]=_ from t0]
   rw?;rw[show((bq m).DV λc=>mJ c w)=Pm w m from rfl,show(0:dr)=((0:aT):dr)from rfl,a3,sW]
   rw[show bM (.j9 cs)=.gw [.str "cover", .dS (cs.a7 aB)]from rfl];rw?;rw[sr];rw?
  .rw?;rw[rr];rw?;rw[wi];rw?;rw[show r oX [.dS (((bq m).DV λc=>mJ c w).a7 cD),.dS ((wr w).a7 nI),.a6 0]=_ from t0]
   rw?;rw[show((bq m).DV λc=>mJ c w)=Pm w m from rfl,show(0:dr)=((0:aT):dr)from rfl,a4,sW]
   rw[show bM (.j9 cs)=.gw [.str "cover", .dS (cs.a7 aB)]from rfl];rw?;rw[sr];rw?
 let⟨T,a1,a2,_⟩:=YL 0;refine⟨N,cs,T,by omega,⟨sW,a1,a2⟩,λn=>?_⟩
 let⟨T',c1,c2,h⟩:=YL n
 have:T'=T:=by
  cases N with
  |TL=>rw[a1 rfl,c1 rfl]
  |OK e=>
   have:=a2 e rfl;rw[c2 e rfl]at this;exact Y8.mW.yB this
 rwa [this]at h
theorem Sw(c:Cb):eW (aB c)=true:=E2 λw hw=>by
 let⟨o,_,rfl⟩:=w0r.mp hw;cases o<;>rfl
theorem Tr.Û:∀{d:aT}{w:W},Tr d w->eW w=true
 |0,w,h=>by
  rcases h with rfl|⟨n,rfl⟩<;>rfl
 |d+1,w,h=>by
  rcases h with rfl|⟨n,bs,rfl,hl,hb⟩
  .rfl
  .show(true&&(bV bs&&true))=true
   rw[E2 λb i9=>by
    let⟨c,t,rfl,hc,ht⟩:=hb b i9;show(eW (aB c)&&(eW t&&true))=true;rw[Sw,Tr.Û ht];rfl]
   rfl
structure Lc(K:Fg)(a:aI)(w:Cb)(m:aT)(u:aj Cb)(T:W):Prop where
 ll:∀n,ll K a (n+120) uL [.dS (w.a7 eo)]=.ok (.fr (.gw [.dS (u.a7 aB),T]))
 Kt:∀n,Q.ll K a (n+120) zo [.dS (w.a7 eo)]=.ok (.gP [] (u.a7 aB) [T])
 iL:u.aO<=16
 uz:∀c∈u,c.aO=m
 AB:∀q,q<2^m->∀b,w.jd q none=ai b->(u.tZ λc=>mt c (bP m q))=b
 MQ:ni w m (jj (.is false) u)
 bu:bu T=true
 dep:bc T<=60
 Û:eW T=true
 wI:wI w m ((u.aO:dr)-1) T=true
def V2{w:Cb}{m:aT}(hw:w.aO=2^m)(hm:m<=4):∃u T,Lc K a w m u T:=by
 let⟨N,cs,T,hN,L,lr⟩:=y85 (K:=K) (a:=a) hw hm;let⟨hP,hc⟩:=C' w hm;let⟨b1,b2,b3,b4⟩:=zL _ _ _ _ L.AB;have eL:=L.uz;have sl:=z3d (λc hc=>(b1 c hc).1) b4
 have wR:∀c∈eI (Pm w m) cs,c.aO=m:=λc h=>hc c (fT.mp h).1
 have DC:=z29 hw hm hN L
 have Xb:bu T=true/\bc T<=60/\eW T=true/\wI w m ((N:dr)-1) T=true:=by
  cases N with
  |TL=>
   have:=L.aC rfl;subst this;exact⟨rfl,by decide,rfl,rfl⟩
  |OK e=>
   let⟨t1,t2⟩:=Su hm hP hc e (wr w) T (L.tree e rfl);let⟨t3,t4⟩:=t2.ok;refine⟨t3,by omega,t2.Û,?_⟩;unfold wI;rw[sF (by omega),show(((e+1:aT):dr)-1).sG=e by omega];exact t1
 let⟨t1,t2,t3,t4⟩:=Xb;refine⟨eI (Pm w m) cs,T,λn=>(lr n).1,λn=>(lr n).2,by omega,wR,λq hq b hb=>?_,DC,t1,t2,t3,by rw[sl,eL];exact t4⟩
 have:=DC.v q hq b hb;rw[Fs _ _ _ λc hc=>by rw[wR c hc,nW]]at this
 exact this
def zeB(n){w:Cb}{m:aT}(hw:w.aO=2^m)(hm:m<=4)(h:Lc K a w m u T):ll K a (n+121) Ih [.dS (w.a7 eo)]=.ok (.fr (wJ (jj (.is false) u))):=by
 have h4:2^m<=2^4:=w0s (by decide) hm;have ud:(2:aT)^4=16:=by decide
 rw[zaZ];unfold Ip;rw?;rw[show W.a6 4=W.a6 ((4:aT):dr)from rfl,zN (n+119) 4 (by decide)];rw?;rw[w0a,hw,mS (by omega),h.ll n];rw?;rw[y4d (n+115)];rw?
def fb(U:aT->aj Cb)(s:aT):aj Fm:=(aj.u5 s).a7 λp=>jj (.is false) (U p)
def c8(U:aT->aj Cb)(R:aT->W)(p:aT):W:=.gw [.dS ((U p).a7 aB),R p]
def zdr(n){l:Mc}{m:W}(hl:l.Og)(h4:cN l.ae.aO<=4)(hp:l.m+cN l.ae.aO<=4)(h:ll K a (n+121) uK [m]=.ok (.fr (aD l)))
  {U:aT->aj Cb}{R:aT->W}(hU:∀p,Lc K a (jh l (cN l.ae.aO) p) (l.m+cN l.ae.aO) (U p) (R p)):
  ll K a (n+122) Em [m]=.ok (.fr (ϛ l.m (cN l.ae.aO) (fb U (cN l.ae.aO+l.pg)))):=by
 have hw:=hl.wg;have hm:=hl.iL;rw[zaD];unfold IZ;rw?;rw[h];rw?;rw[B0 (n+119) l hl.mo];rw?;rw[Pp (n+118) l hl h4 hl.mo];generalize cN l.ae.aO=k at h4 hp hU |-
 rw?
 have f1:cS bB (Im K a (ll K a (n+121))) [] ((aj.u5 (k+l.pg)).a7 λp=>W.dS ((jh l k p).a7 eo))=ai ((fb U (k+l.pg)).a7 wJ):=by
  unfold fb;rw[w0z];refine lJ (g:=λp=>wJ (jj (.is false) (U p))) _ λp _=>⟨[.fr (.dS ((jh l k p).a7 eo))],?_⟩
  unfold Im;rw?;rw[zeB n (LB l k p) hp (hU p)];rfl
 have f2:(fb U (k+l.pg)).aO=k+l.pg:=by unfold fb;rw[w0a,w1a]
 generalize fb U (k+l.pg)=fs at f1 f2 |-
 rw[mS (by rw[w0a,w1a];omega),f1];rw?;rw[Tc (by rw[w0a];omega)]
 rw[mS (by rw[w2d,w0a];omega),Tt (λw=>.gw [.bl false,w]) ((fs.a7 wJ).yE k) (λw _=>⟨_,by
  unfold N7;rw?;rfl⟩)]
 rw?;rw[rZ];rw?;rw[EY (by rw[w0a];omega)];unfold ϛ;rw[<- aj.map_take,w0z,<- w5v];rfl
theorem Pt{F:aj W->FR}{en g:α->W}:∀(xs:aj α),(∀x∈xs,nG (F [en x])=ai (g x))->gQ F (xs.a7 en)=ai (xs.a7 g)
 |[],_=>rfl
 |x::xs,h=>by
  show(nG (F [en x])).qK _=_;rw[h x (by simp)];show(gQ F (xs.a7 en)).a7 _=_;rw[Pt xs λy hy=>h y (by simp[hy])]
  rfl
def Vw(h:Lc K a w m u T):nG (.ok (.gP [] (u.a7 aB) [T]))=ai (.gw [.dS (u.a7 aB),T]):=by
 show(if(bV []=true/\bV (u.a7 aB)=true)/\bV [T]=true then ai (W.gw ([]++.dS (u.a7 aB)::[T]))else none)=_;rw[mS ⟨⟨rfl,E2 λw hw=>by let⟨c,_,rfl⟩:=w0r.mp hw;exact Sw c⟩,by show(eW T&&true)=true;rw[h.Û];rfl⟩]
 rfl
def zdw(n){l:Mc}{m:W}(hl:l.Og)(h4:cN l.ae.aO<=4)(hp:l.m+cN l.ae.aO<=4)(h:ll K a (n+120) uK [m]=.ok (.fr (aD l)))
  {U:aT->aj Cb}{R:aT->W}(hU:∀p,Lc K a (jh l (cN l.ae.aO) p) (l.m+cN l.ae.aO) (U p) (R p)):
  ll K a (n+121) vQ [m]=.ok (.ke none ((aj.u5 (cN l.ae.aO+l.pg)).a7 (c8 U R))) /\
  ll K a (n+121) En [m]=.ok (.x (.fz (.dS ((aj.u5 (cN l.ae.aO+l.pg)).a7 (c8 U R))))):=by
 have hw:=hl.wg;have hm:=hl.iL;have wi:=Pp (K:=K) (a:=a) (n+117) l hl h4 hl.mo;have ce:=B0 (K:=K) (a:=a) (n+118) l hl.mo;rw[Ou,Y0];unfold EA I_;generalize cN l.ae.aO=k at h4 hp hU wi ce |-
 have l1:∀p,ll K a (n+120) uL [.dS ((jh l k p).a7 eo)]=.ok (.fr (c8 U R p)):=λp=>(hU p).ll n
 have l2:∀p,nG (ll K a (n+120) zo [.dS ((jh l k p).a7 eo)])=ai (c8 U R p):=λp=>by rw[(hU p).Kt n];exact Vw (hU p)
 rw[show n+117+3=n+120 from rfl]at wi;rw[show n+118+2=n+120 from rfl]at ce;generalize ll K a (n+120)=r at h wi ce l1 l2 |-
 constructor
 .rw?;rw[h];rw?;rw[rZ];rw?;rw[ce];rw?;rw[sF (by omega),wi];rw?
  rw[mS (by rw[w0a,w1a];omega),lJ (g:=c8 U R) (aj.u5 (k+l.pg)) (λp hp=>⟨_,by
   unfold Oa;rw?;rw[l1 p];rfl⟩)]
  rw?
 .rw?;rw[h];rw?;rw[rZ];rw?;rw[ce];rw?;rw[sF (by omega),wi];rw?;rw[z18 (by rw[w0a,w1a];omega) (Pt _ λp _=>l2 p)]
  rfl
def zeh(n){l:Mc}{m:W}(hl:l.Og)(h4:cN l.ae.aO<=4)(hp:4<l.m+cN l.ae.aO)(h:ll K a (n+120) uK [m]=.ok (.fr (aD l))):ll K a (n+121) vQ [m]=.ex (.dI a.cI):=by
 have hw:=hl.wg;have hm:=hl.iL;have ce:=B0 (K:=K) (a:=a) (n+118) l hl.mo;rw[Ou];unfold EA;generalize cN l.ae.aO=k at h4 hp ce |-
 rw[show n+118+2=n+120 from rfl]at ce;generalize ll K a (n+120)=r at h ce |-
 rw?;rw[h];rw?;rw[rZ];rw?;rw[ce];rw?;rw[mS (by omega)];rw?
def jC(n)(c:Mc)(hc:c.Og):ll K a (n+1) tG [aD c]=.ok (.fr (aD c)):=by
 have hs:=hc.mo;rw[zan];unfold IM;rw?;rw[rZ];rw?;rw[yi];rw?;rw[uO];rw?
 rw[mS (by rw[w0a];omega),lJ (g:=aA) c.ae (λs _=>⟨_,by
  unfold N4 aA;rw?;rfl⟩)]
 rw?;rfl
def z80{c:f'}{b h:aj S->SR}{e e' e'':aj S}{l_:eT}{s:S}(h1:b e=.ex l_ e')(h2:Ć K l_ (.dI c)=ai true)(h3:h e'=.rt s e''):jH K c b h e=.rt s e'':=by
 unfold jH;rw[h1];dsimp only;rw[mS h2,h3]
def zd7(M:iG K mg a)(n){c l:Mc}(hc:c.Og)(hl:l.Og)(h4:cN l.ae.aO<=4)(hp:4<l.m+cN l.ae.aO)(h:ll K a (n+120) uK [aD c]=.ok (.fr (aD l))):ll K a (n+122) D5 [aD c]=.ok (.fr (.bl true)):=by
 rw[XW];unfold HZ;have hx:=zeh (K:=K) (a:=a) n hl h4 hp h;have M0:=jC (K:=K) (a:=a) (n+120) c hc;generalize ll K a (n+121)=r at hx M0 |-
 have e1:hZ (ak (r vQ) (aa (ak (r tG) (aa (af 0) ag)) ag)) [.fr (aD c)]=.ex (.dI a.cI) [.fr (aD c)]:=by
  rw?;rw[M0];rw?;rw[hx];rfl
 rw?;rw[z80 e1 M.zcE (s:=.fr (.bl true)) (e'':=[.fr (aD c)]) (by rw?)];rfl
def zdZ(n:aT){c l:Mc}(hc:c.Og)(hl:l.Og)(hk:qz c l tl z_)(hj:j<=4)(hs:l.ae.aO<=2^j){k x:aT}(hp:p<j+l.pg)(vy:k<2^l.m)(hx:x<2^j)(uZ:aj W)(ho:uZ.aO<=1000)(z8 z9):
  ∃pY sL,Ej K a (ll K a (n+1)) [.fr (aD c),.fr (aF tl),.fr (aF z_),.fr (.a6 (j:dr)),.fr (.a6 (p:dr)),.ke none uZ,.fr (.a6 (k:dr)),.fr (.a6 (x:dr)),z8,z9]=.nx [.fr (aD c),.fr (aF tl),.fr (aF z_),.fr (.a6 (j:dr)),.fr (.a6 (p:dr)),.ke none (uZ++[eo ((tr l j (k*2^j+x)).jd p none)]),.fr (.a6 (k:dr)),.fr (.a6 (x:dr)),pY,sL]:=by
 let⟨q1,q2,q3⟩:=Km (j:=j) vy hx;have hw:=hl.wg;have wR:=hk.uz
 have e0:(tr l j (k*2^j+x)).jd p none=if x<l.ae.aO then ai ((bP j (eM l x k)++V5 l x k).jd p false)else none:=by
  unfold tr;rw[q2,q3];split
  .rename_i h;have ht:=EZ hl h vy;have:p<(bP j (eM l x k)++V5 l x k).aO:=by rw[w1k,nW,ht];exact hp
   rw[w1j,w1j,w0t,w0b this];rfl
  .rw[w1j,w3i];split<;>rfl
 rw[e0];unfold Ej;rw?
 rw[show bg [aF z_]=ai (.a6 (l.ae.aO:dr)) by
  show ai (W.a6 ((z_.a7 aK).aO:dr))=_;rw[w0a,wR]]
 rw?
 by_cases h:x<l.ae.aO
 .have DN:x<z_.aO:=by omega
  have hi:=hk.lt x DN;have ht:=EZ hl h vy;have Nd:k<2^c.m:=by rw[hk.m];exact vy
  have AQ:d8 ((c.ae.jd (z_.jd x 0) []).a7 bt) (k:dr)=ai (bt (V5 c (z_.jd x 0) k,eM c (z_.jd x 0) k)):=oW (by rw[w0t,Tj hc hi Nd];rfl);have DL:=qm (ks:=tl) (i:=eM c (z_.jd x 0) k) (by rw[hk.tn];exact oY hc hi Nd);let⟨n1,n2⟩:=hk.nx x k DN vy;have GL:fN (.dS (z_.a7 aK)) [.a6 ((tl.jd (eM c (z_.jd x 0) k) 0:aT):dr)]=ai (.a6 ((eM l x k:aT):dr)):=by rw[J1 n1,n2]
  have rb:=Qv (K:=K) (a:=a) n (eM l x k) j (by omega);rw[So]at rb;have W':=hk.td x k DN vy;have W7:d8 (z_.a7 aK) (x:dr)=ai (aK (z_.jd x 0)):=qm DN;rw[sF (by omega),mS h,uO];rw?;unfold aF aK at *;rw?;rw[W7];rw?;rw[Dc hi];unfold aA;rw?;rw[AQ];rw?;unfold bt eV;rw?;rw[DL];rw?;rw[GL];rw?;rw[rb];unfold pU;rw?;rw[W',mS (by simp[nW,ht];omega),<- w1b];rw?;rw[Ma (oL:=bP j (eM l x k)++V5 l x k) (by rw[w1k,nW,ht];exact hp)];rw?;rw[mS (by omega)];exact⟨_,_,rfl⟩
 .rw[mS (by omega),sF h];rw?;rw[mS (by omega)];exact⟨_,_,rfl⟩
def za_(f:aT->α)(i:aT):(aj.u5 (i+1)).a7 f=(aj.u5 i).a7 f++[f i]:=by
 rw[aj.range_succ,w1b];rfl
def zeN(n:aT){c l:Mc}(hc:c.Og)(hl:l.Og)(hk:qz c l tl z_)(hj:j<=4)(hm:l.m<=4)(hs:l.ae.aO<=2^j){k:aT}(hp:p<j+l.pg)(vy:k<2^l.m)(z7 z8 z9):
  ∃pb pY sL,Ek K a (ll K a (n+1)) [.fr (aD c),.fr (aF tl),.fr (aF z_),.fr (.a6 (j:dr)),.fr (.a6 (p:dr)),.ke none ((aj.u5 (k*2^j)).a7 λq=>eo ((tr l j q).jd p none)),.fr (.a6 (k:dr)),z7,z8,z9]=.nx [.fr (aD c),.fr (aF tl),.fr (aF z_),.fr (.a6 (j:dr)),.fr (.a6 (p:dr)),.ke none ((aj.u5 ((k+1)*2^j)).a7 λq=>eo ((tr l j q).jd p none)),.fr (.a6 (k:dr)),pb,pY,sL]:=by
 have ud:2^j<=16:=w0q (w0s (by decide) hj) (by decide);have GX:2^l.m<=16:=w0q (w0s (by decide) hm) (by decide);have hmul:k*2^j<=16*16:=aT.mul_le_mul (by omega) ud
 let⟨e',h2,pb,pY,sL,rfl⟩:=qj (b:=Ej K a (ll K a (n+1))) (i:=7) (lo:=0) (hi:=((2^j:aT):dr)) (2^j) (by omega) (λx e=>∃z7 z8 z9,e=[.fr (aD c),.fr (aF tl),.fr (aF z_),.fr (.a6 (j:dr)),.fr (.a6 (p:dr)),.ke none ((aj.u5 (k*2^j+x)).a7 λq=>eo ((tr l j q).jd p none)),.fr (.a6 (k:dr)),z7,z8,z9]) [.fr (aD c),.fr (aF tl),.fr (aF z_),.fr (.a6 (j:dr)),.fr (.a6 (p:dr)),.ke none ((aj.u5 (k*2^j)).a7 λq=>eo ((tr l j q).jd p none)),.fr (.a6 (k:dr)),z7,z8,z9] ⟨_,_,_,rfl⟩ (by
  rintro x e hx ⟨y7,y8,y9,rfl⟩;simp only[w0w,w0v,w3e];let⟨y8',y9',h⟩:=zdZ (K:=K) (a:=a) n hc hl hk hj hs hp vy (x:=x) (by omega) ((aj.u5 (k*2^j+x)).a7 λq=>eo ((tr l j q).jd p none)) (by rw[w0a,w1a];omega) y8 y9
  exact⟨_,h,_,_,_,by rw[<- w5s,za_]⟩)
 refine⟨pb,pY,sL,?_⟩;unfold Ek;rw?;rw[Vq hj];rw?;rw[mS (r_ (by omega))];rw?;rw[h2,w5j]
def zd9(n:aT){c l:Mc}(hc:c.Og)(hl:l.Og)(hk:qz c l tl z_)(hj:j<=4)(hm:l.m<=3)(hs:l.ae.aO<=2^j)(hp:p<j+l.pg):
  ll K a (n+2) Et [aD c,aF tl,aF z_,.a6 (j:dr),.a6 (p:dr)]=.ok (.ke none ((jh l j p).a7 eo)):=by
 have GX:2^l.m<=8:=p8 hm;have _d:=w5h l.m;rw[zbB];unfold JK;rw?;rw[rZ,hk.m];rw?;rw[Ub hm];rw?;rw[mS (r_ (by omega))];rw?
 let⟨e',h2,z6,z7,z8,z9,rfl⟩:=qj (b:=Ek K a (ll K a (n+1))) (i:=6) (lo:=0) (hi:=((2^l.m:aT):dr)) (2^l.m) (by omega) (λk e=>∃z6 z7 z8 z9,e=[.fr (aD c),.fr (aF tl),.fr (aF z_),.fr (.a6 (j:dr)),.fr (.a6 (p:dr)),.ke none ((aj.u5 (k*2^j)).a7 λq=>eo ((tr l j q).jd p none)),z6,z7,z8,z9]) [.fr (aD c),.fr (aF tl),.fr (aF z_),.fr (.a6 (j:dr)),.fr (.a6 (p:dr)),.ke none [],.no,.no,.no,.no] ⟨_,_,_,_,by rw[aT.zero_mul];rfl⟩ (by
  rintro k e Nb ⟨y6,y7,y8,y9,rfl⟩;simp only[w0w,w0v,w3e];let⟨y7',y8',y9',h⟩:=zeN (K:=K) (a:=a) n hc hl hk hj (by omega) hs hp (k:=k) (by omega) y7 y8 y9;exact⟨_,h,_,_,_,_,rfl⟩)
 rw[h2];rw?;unfold jh;rw[w0z,w6a];rfl
theorem TQ:∀(c:Cb)(r:aj ie),c.aO=r.aO->(mt c r=true↔∀k,k<r.aO->(c.jd k none=none\/c.jd k none=ai (r.jd k false)))
 |[],[],_=>by simp[mt]
 |o::c,b::r,h=>by
  have ih:=TQ c r (by simpa using h);show((o==none||o==ai b)&&mt c r)=true↔_;rw[w0l,ih];constructor
  .rintro⟨h1,h2⟩ k hk;cases k with
   |TL=>simpa using h1
   |OK k=>simpa using h2 k (by simpa using hk)
  .intro h;exact⟨by simpa using h 0 (by simp),λk hk=>by simpa using h (k+1) (by simpa using hk)⟩
def Sx(b r:ie):Uk (eo (ai b)) (.bl r)=ai (.bl (b != r)):=by cases b<;>cases r<;>rfl
def Bm(n:aT){c:Cb}{oL:aj ie}(h:c.aO=oL.aO)(hl:oL.aO<=100):ll K a (n+1) EK [aB c,pU oL]=.ok (.fr (.bl (mt c oL))):=by
 rw[y0c];unfold Kj aB pU;rw?;rw[w0a,mS (r_ (by omega)),B1];rw?;simp only[cM,iw,w0d,w0g]
 rw[mS (by rw[w0a,w1a];omega),v5 (q:=λk=>(c.jd k none != none)&&(c.jd k none != ai (oL.jd k false))) (g:=λk:aT=>W.a6 (k:dr)) (en:=λk:aT=>W.a6 (k:dr)) (aj.u5 oL.aO) (λk hk=>by
  have hk:=w0u.mp hk;unfold OS O5;rw?;rw[yl (by omega)];rw?;rw[LO];rw?;cases hc:c.jd k none with
  |none=>
   rw?;exact⟨_,rfl,λq=>by simp at q⟩
  |ai b=>
   rw[mS (show(ai b != none)=true from rfl),yl (by omega),hc];rw?;rw[Ma hk];rw?;rw[Sx];rw?;refine⟨[.fr (.a6 (k:dr)),.fr (.gw (c.a7 eo)),.fr (.gw (oL.a7 .bl))],?_,λ_=>⟨_,rfl⟩⟩
   congr 1)]
 rw?
 have:(((aj.u5 oL.aO).DV λk=>(c.jd k none != none)&&(c.jd k none != ai (oL.jd k false))).a7 λk:aT=>W.a6 (k:dr)).Dl=mt c oL:=by
  rw[w1r,TQ c oL h,aj.isEmpty_iff,w5q,w5a];refine ő λk=>?_
  rw[w0u];refine zcK λhk=>?_
  cases c.jd k none with
  |none=>simp
  |ai b=>simp
 rw[this,ie.not_not]
theorem Sy(M:iG K mg a)(b:aj W):fB K (.je "tuple") (.gw b)=ai (.bl true):=Ff M.gN
theorem Sz(M:iG K mg a)(b:aj W):fB K (.je "list") (.dS b)=ai (.bl true):=Fh M.zc9
def Ri{xs:aj W}(h:bp xs<=100):Uk (.dS xs) (.dS [])=ai (.bl (!xs.Dl)):=by
 unfold Uk;rw[mS (show bc (.dS xs)<=150 by show bp xs+1<=150;omega)];cases xs<;>rfl
theorem oE(M:iG K mg a)(r:aT->aj W->FR){u:aj Cb}{m:aT}(hu:∀c∈u,c.aO=m)(e1 e2 e3 e4:W)(z5 z6 z7):∀(v:aj Cb),(∀c∈v,c.aO=m)->∀z4,∃m9,cL 4 (D8 K a r) (v.a7 aB) [.fr e1,.fr e2,.fr e3,.fr (.a6 (m:dr)),z4,z5,z6,z7]=.nx [.fr e1,.fr e2,.fr e3,.fr (.a6 (m:dr)),m9,z5,z6,z7]
 |[],_,z4=>⟨z4,rfl⟩
 |c::v,h,z4=>by
  have hc:=h c (by simp);let⟨m9,ih⟩:=oE M r hu e1 e2 e3 e4 z5 z6 z7 v (λc h'=>h c (by simp[h'])) (.fr (aB c))
  refine⟨m9,?_⟩;rw[w0n,vU];simp only[w0v,w0w]
  have:D8 K a r [.fr e1,.fr e2,.fr e3,.fr (.a6 (m:dr)),.fr (aB c),z5,z6,z7]=.nx [.fr e1,.fr e2,.fr e3,.fr (.a6 (m:dr)),.fr (aB c),z5,z6,z7]:=by
   unfold D8 aB;rw?;rw[Sy M];rw?;rw[w0a,hc];simp only[z3s,Ł];rw?
  rw[this,zJ,ih]
def zd6(M:iG K mg a)(n:aT){w:Cb}{m:aT}(hw:w.aO=2^m)(hm:m<=4){u:aj Cb}{T:W}(h:Lc K a w m u T){q:aT}(hq:q<2^m)(z4 z6 z7):
  ∃Mo pb,D7 K a (ll K a (n+61)) [.fr (.gw [.dS (u.a7 aB),T]),.fr (wJ (jj (.is false) u)),.fr (.dS (w.a7 eo)),.fr (.a6 (m:dr)),z4,.fr (.a6 (q:dr)),z6,z7]=.nx [.fr (.gw [.dS (u.a7 aB),T]),.fr (wJ (jj (.is false) u)),.fr (.dS (w.a7 eo)),.fr (.a6 (m:dr)),z4,.fr (.a6 (q:dr)),Mo,pb]:=by
 have Hi:(bP m q).aO=m:=nW _ _;have rb:=Qv (K:=K) (a:=a) (n+60) q m (by omega);rw[So]at rb;have li:∀c∈u,ll K a (n+61) EK [aB c,pU (bP m q)]=.ok (.fr (.bl (mt c (bP m q)))):=λc hc=>Bm (n+60) (by rw[h.uz c hc,Hi]) (by omega)
 have hv:ll K a (n+61) zx [wJ (jj (.is false) u),pU (bP m q)]=.ok (.fr (.bl (u.tZ λc=>mt c (bP m q)))):=by
  have:=vW (K:=K) (a:=a) (jj (.is false) u) (n+61) (oL:=bP m q) (by have:=h.MQ.d;omega) (by rw[Hi];exact h.MQ.i);rw[Fs _ _ _ λc hc=>by rw[h.uz c hc,Hi]]at this
  exact this
 have kF:(!((u.DV λc=>mt c (bP m q)).a7 aB).Dl)=u.tZ λc=>mt c (bP m q):=by
  rw[w1r,w3q,<- ie.not_eq_true,aj.isEmpty_iff,w5q,w5a,w2e];simp
 have AW:=h.AB q hq
 have Gz:bp ((u.DV λc=>mt c (bP m q)).a7 aB)<=100:=B' λw hw=>by
  let⟨c,_,rfl⟩:=w0r.mp hw;rw[Mn];omega
 have cx:=h.iL;generalize ll K a (n+61)=r at rb li hv |-
 generalize hrr:bP m q=oL at *;unfold D7;rw?;rw[rb];rw?;rw[mS (by rw[w0a];omega)];simp only[cM,iw,w0d,w0g]
 rw[v5 (q:=λc=>mt c oL) (g:=aB) (en:=aB) u (λc hc=>by
  unfold Oo Om;rw?;rw[li c hc];rw?;exact⟨_,rfl,λ_=>⟨_,rfl⟩⟩)]
 rw?;rw[Ri Gz,kF];rw?;rw[yl (by omega)];rw?;rw[LO];cases hb:w.jd q none with
 |none=>
  rw[show((none:fy ie) != none)=false from rfl];rw?;rw[hv];rw?;exact⟨_,_,rfl⟩
 |ai b=>
  rw[show(ai b != (none:fy ie))=true from rfl];rw?;rw[yl (by omega),hb];rw?;rw[Sx,AW b hb,Ł];rw?;rw[hv,AW b hb];rw?;exact⟨_,_,rfl⟩
def zd8(M:iG K mg a){w:Cb}{m:aT}(hw:w.aO=2^m)(hm:m<=4){u:aj Cb}{T:W}(h:Lc K a w m u T):
  ll K a 148 BS [.gw [.dS (u.a7 aB),T],wJ (jj (.is false) u),.dS (w.a7 eo),.a6 (m:dr)]=.ok (.fr (.bl true)):=by
 have ud:2^m<=16:=w0q (w0s (by decide) hm) (by decide);have cx:=h.iL;have hs:=y4m (K:=K) (a:=a) M hw hm (uw:=(u.aO:dr)-1) (by omega) h.bu (by have:=h.dep;omega);rw[h.wI]at hs;show ll K a (147+1) BS _=_;rw[zbC];unfold JL;rw?;rw[Sy M];rw?;rw[Sz M];rw?;let⟨z4,h4⟩:=oE (K:=K) (a:=a) M (ll K a 147) h.uz (.gw [.dS (u.a7 aB),T]) (wJ (jj (.is false) u)) (.dS (w.a7 eo)) .aC .no .no .no u h.uz .no;rw[h4];rw?;rw[w0a,hw,mS (r_ (by omega))];rw?
 let⟨e',h2,z5,z6,z7,rfl⟩:=qj (b:=D7 K a (ll K a 147)) (i:=5) (lo:=0) (hi:=((2^m:aT):dr)) (2^m) (by omega) (λ_ e=>∃z5 z6 z7,e=[.fr (.gw [.dS (u.a7 aB),T]),.fr (wJ (jj (.is false) u)),.fr (.dS (w.a7 eo)),.fr (.a6 (m:dr)),z4,z5,z6,z7]) [.fr (.gw [.dS (u.a7 aB),T]),.fr (wJ (jj (.is false) u)),.fr (.dS (w.a7 eo)),.fr (.a6 (m:dr)),z4,.no,.no,.no] ⟨_,_,_,rfl⟩ (by
  rintro q e hq ⟨y5,y6,y7,rfl⟩;simp only[w0w,w0v,w3e];let⟨y6',y7',h⟩:=zd6 (K:=K) (a:=a) M 86 hw hm h (q:=q) (by omega) z4 y6 y7;exact⟨_,h,_,_,_,rfl⟩)
 rw[h2];rw?;rw[w0a,hs];rw?;rw[sF (by decide)]
mutual
theorem K4:∀w:W,bu w=true->ft w w=some true
 |.aC,_=>rfl
 |.bl b,_=>by show some (b==b)=_;rw[beq_self_eq_true]
 |.int i,_=>by show some (i==i)=_;rw[beq_self_eq_true]
 |.tup ws,h=>J2 ws (yj h)
 |.lst ws,h=>J2 ws h
 |.str _,h=>nomatch h
 |.exc _,h=>nomatch h
 |.aZ _,h=>nomatch h
 |.dw _ _ _ _,h=>nomatch h
 |.fn _ _ _,h=>nomatch h
theorem J2:∀ws:List W,c9 ws=true->d_ ws ws=some true
 |[],_=>rfl
 |w::ws,h=>by
  have h:(bu w&&c9 ws)=true:=h;rw[w0l]at h;show(match ft w w,d_ ws ws with|some a,some b=>some (a&&b)|_,_=>none)=_;rw[K4 w h.1,J2 ws h.2];rfl
end
def Rj{w:W}(h:bu w=true)(hd:bc w<=150):yn w w=ai (.bl true):=by
 unfold yn;rw[mS hd,K4 w h];rfl
def z3e{w:W}(h:bu w=true)(hd:bc w<=150):Uk w w=ai (.bl false):=by
 unfold Uk;rw[mS hd,K4 w h];rfl
def SA{U:aT->aj Cb}{R:aT->W}{m:aT}{w:Cb}(h:Lc K a w m (U p) (R p))(hm:m<=4):bu (c8 U R p)=true/\bc (c8 U R p)<=61:=by
 have hd:=h.dep;constructor
 .refine Ci (by simp) λx hx=>?_
  rcases w0h.mp hx with rfl|hx
  .exact E3 λy hy=>by
    let⟨c,hc,rfl⟩:=w0r.mp hy;exact Tp c (by rw[h.uz c hc];omega)
  .rw[w1h.mp hx];exact h.bu
 .have:bp ((U p).a7 aB)<=1:=B' λx hx=>by
   let⟨c,_,rfl⟩:=w0r.mp hx;rw[Mn];omega
  show max (bp ((U p).a7 aB)+1) (max (bc (R p)) 0)+1<=61;omega
def oF{U:aT->aj Cb}{R:aT->W}{l:Mc}{k:aT}(hm:l.m+k<=4)(hU:∀p,Lc K a (jh l k p) (l.m+k) (U p) (R p))(xs:aj aT):bu (.dS (xs.a7 (c8 U R)))=true/\bc (.dS (xs.a7 (c8 U R)))<=62:=by
 constructor
 .exact E3 λy hy=>by
   let⟨p,_,rfl⟩:=w0r.mp hy;exact(SA (hU p) hm).1
 .show bp _+1<=62
  have:bp (xs.a7 (c8 U R))<=61:=B' λx hx=>by
   let⟨p,_,rfl⟩:=w0r.mp hx;exact(SA (hU p) hm).2
  omega
theorem z81{c:Mc}(hc:c.Og){I I':aT}(hs:d9 c L)(i_:d9 c L')(hI:(bf (cf c L) (kd c L 0) I).aO=I)(xm:(bf (cf c L') (kd c L' 0) I').aO=I'):fP c L' (bf (cf c L') (kd c L' 0) I')=fP c L (bf (cf c L) (kd c L 0) I):=
 (canon hc hc rfl rfl hs i_ ((De hc hs hc.ia hc.ia).uY rfl) hI xm).2.symm
def K5(f:aT->W){s:aT}(h:i<s):d8 ((aj.u5 s).a7 f) (i:dr)=ai (f i):=by
 refine oW ?_;rw[w0t,w5p h];rfl
def zef(U:aT->aj Cb)(R:aT->W)(h:(U 0).aO<=16)(s:aT):∃w,l9 (.dS ((aj.u5 (s+1)).a7 (c8 U R)))=ai (.dS (w::((aj.u5 (s+1)).a7 (c8 U R)).zd 1)):=by
 rw[w3o,w0n];refine⟨.gw [.dS ((U 0).a7 aB++[.aC]),R 0],?_⟩;show(if((U 0).a7 aB).aO<16777216 then ai (W.dS (.gw (.dS ((U 0).a7 aB++[.aC])::[R 0])::_))else none)=_;rw[mS (by rw[w0a];omega)];rfl
def lM:=(ah (aL (kZ (eE (cP (bE (fK K (.je "list") (af 6))))) (kZ (a_ (aw (ao Uk (bL bg (aa (af 6) ag)) (ao bh (af 4) (ao aQ (af 1) (dC (.a6 1))))))) (a_ (aw (ao Uk (bL bg (aa (af 8) ag)) (bL bg (aa (af 6) ag)))))))
  (aG (dC (.bl false)))
  b7)
  (ah (ay 9 (cY (bU cO [1,2,3,4] (aa (bE (bL bg (aa (af 6) ag))) ag) bB (LL K a r))))
  (ah (cJ 10 cO (aa (bE (bL bg (aa (af 6) ag))) ag)
  (Cf K a r))
  (ah (ay 11 (cY (br [] (af 9) bB (LK K a r))))
  (ah (aL (a_ (aw (ao Uk (af 6) (af 11))))
  (aG (dC (.bl false)))
  b7)
  (ah (aL (a_ (aw (ao Uk (af 6) (cY (cj ag)))))
  (gR 6)
  b7)
  (aG (fq (bE (ao yn (nA (af 6) (dU (dC (.a6 1))) bR) (nA (af 11) (dU (dC (.a6 1))) bR))) (ao yn (ak (r vQ) (aa (ak (r tG) (aa (af 1) ag)) ag)) (af 11))))))))))
def y4n(M : iG K mg a){c l : Mc}(hc : va c)(hl : l.Og)(A6 : l.m = c.m)(Ni : l.pg = c.pg)(cx : l.ae.aO <= 16)(hk : qz c l tl z_){k : aT}(WT : k <= 4)(hp : l.m + k <= 4)(hs : l.ae.aO <= 2 ^ k)
    {U : aT -> aj Cb}{R : aT -> W}(hU : ∀ p, Lc K a (jh l k p) (l.m + k) (U p) (R p))(M1 : ll K a 148 vQ [aD c] = .ok (.ke none ((aj.u5 (k + l.pg)).a7 (c8 U R))))(z0 z7) :
    ∃ e', lM K a (ll K a 148) [.fr z0, .fr (aD c), .fr (aF tl), .fr (aF z_), .fr (.a6 (k : dr)), .fr (.a6 ((l.m + k : aT) : dr)), .x (.fz (.dS ((aj.u5 (k + l.pg)).a7 (c8 U R)))), .fr z7, .fr (.dS ((fb U (k + l.pg)).a7 wJ)), .no, .no, .no] = .rt (.fr (.bl true)) e' := by
  have hw := hl.wg;have GF : (fb U (k + l.pg)).aO = k + l.pg := by unfold fb; rw [w0a, w1a]
  have hF := oF hp hU (aj.u5 (k + l.pg));have hD := oF hp hU ((aj.u5 (k + l.pg)).zd 1);rw [w5v] at hD;have cp := jC (K := K) (a := a) 147 c hc.og;have lw : ∀ p, p < k + l.pg -> ll K a 148 Et [aD c, aF tl, aF z_, .a6 (k : dr), .a6 (p : dr)] = .ok (.ke none ((jh l k p).a7 eo)) := λp h => zd9 146 hc.og hl hk WT hl.iL hs h
  have lf : ∀ p, ll K a 148 BS [c8 U R p, wJ (jj (.is false) (U p)), .dS ((jh l k p).a7 eo), .a6 ((l.m + k : aT) : dr)] = .ok (.fr (.bl true)) := λp => zd8 M (LB l k p) hp (hU p)
  have zc4 : ∀ p, ll K a 148 uL [.dS ((jh l k p).a7 eo)] = .ok (.fr (c8 U R p)) := λp => (hU p).ll 28
  unfold lM;generalize ll K a 148 = r at *;rw?;rw [Sz M];rw?;simp only [w0a, w1a, yi];rw?;rw [sF (by simp only [w3q, decide_eq_false_iff_not, _o.not_not]; omega)];rw?;simp only [w0a, w1a, GF];rw [sF (by simp)];rw?;try simp only [w0a, w1a]
  rw [mS (r_ (by omega)), B1];rw?;rw [mS (by simp only [w0a, w1a]; omega)];simp only [cM, iw, w0d, w0g]
  rw [lJ (g := λp => W.dS ((jh l k p).a7 eo)) (aj.u5 (k + l.pg)) (λp hp => ⟨_, by
    unfold LL;rw?;rw [lw p (w0u.mp hp)];rw?;rfl⟩)]
  rw?;try simp only [w0a, w1a]
  rw [mS (r_ (by omega))];rw?
  let⟨e', h2, sI, Hu, rfl⟩:= qj (b := Cf K a r) (i := 10) (lo := 0) (hi := ((k + l.pg : aT) : dr)) (k + l.pg) (by omega) (λ_ e => ∃ sI, tD sI = false /\ e = [.fr z0, .fr (aD c), .fr (aF tl), .fr (aF z_), .fr (.a6 (k : dr)), .fr (.a6 ((l.m + k : aT) : dr)), .x (.fz (.dS ((aj.u5 (k + l.pg)).a7 (c8 U R)))), .fr z7, .fr (.dS ((fb U (k + l.pg)).a7 wJ)), .fr (.dS ((aj.u5 (k + l.pg)).a7 λp => W.dS ((jh l k p).a7 eo))), sI, .no]) [.fr z0, .fr (aD c), .fr (aF tl), .fr (aF z_), .fr (.a6 (k : dr)), .fr (.a6 ((l.m + k : aT) : dr)), .x (.fz (.dS ((aj.u5 (k + l.pg)).a7 (c8 U R)))), .fr z7, .fr (.dS ((fb U (k + l.pg)).a7 wJ)), .fr (.dS ((aj.u5 (k + l.pg)).a7 λp => W.dS ((jh l k p).a7 eo))), .no, .no] ⟨_, rfl, rfl⟩ (by
    rintro p e vz ⟨qq, _, rfl⟩;simp only [w0w, w0v, w3e];have vz : p < k + l.pg := by omega
    have h : Cf K a r [.fr z0, .fr (aD c), .fr (aF tl), .fr (aF z_), .fr (.a6 (k : dr)), .fr (.a6 ((l.m + k : aT) : dr)), .x (.fz (.dS ((aj.u5 (k + l.pg)).a7 (c8 U R)))), .fr z7, .fr (.dS ((fb U (k + l.pg)).a7 wJ)), .fr (.dS ((aj.u5 (k + l.pg)).a7 λp => W.dS ((jh l k p).a7 eo))), .fr (.a6 (p : dr)), .no] = .nx [.fr z0, .fr (aD c), .fr (aF tl), .fr (aF z_), .fr (.a6 (k : dr)), .fr (.a6 ((l.m + k : aT) : dr)), .x (.fz (.dS ((aj.u5 (k + l.pg)).a7 (c8 U R)))), .fr z7, .fr (.dS ((fb U (k + l.pg)).a7 wJ)), .fr (.dS ((aj.u5 (k + l.pg)).a7 λp => W.dS ((jh l k p).a7 eo))), .fr (.a6 (p : dr)), .no] := by
     unfold Cf;rw?;rw [K5 _ vz];rw?;rw [show d8 ((fb U (k + l.pg)).a7 wJ) (p : dr) = ai (wJ (jj (.is false) (U p))) by unfold fb; rw [w0z]; exact K5 (λp => wJ (jj (.is false) (U p))) vz]
     rw?;rw [K5 _ vz];rw?;rw [lf p];rw?
    exact ⟨_, h, _, rfl, rfl⟩)
  rw [h2];rw?
  rw [mS (by simp only [w0a, w1a]; omega), lJ (g := c8 U R) (aj.u5 (k + l.pg)) (λp hp => ⟨_, by
    unfold LK;rw?;rw [zc4 p];rfl⟩)]
  rw?;rw [z3e hF.1 (by omega)];rw?
  have hq : bp ((aj.u5 (k + l.pg)).a7 (c8 U R)) <= 100 := by
    have := hF.2;have e : bc (.dS ((aj.u5 (k + l.pg)).a7 (c8 U R))) = bp ((aj.u5 (k + l.pg)).a7 (c8 U R)) + 1 := rfl;omega
  rw [Ri hq];have xq := Rj hD.1 (by omega);have oH := Rj hF.1 (by omega);generalize Nn : k + l.pg = s at *;cases s with
  | TL =>
    rw [aj.range_zero] at *;simp only [w2l, aj.isEmpty_nil] at *;rw?;rw [show i4 [] (ai (1 : dr)) none = [] from rfl, show yn (.dS []) (.dS []) = ai (.bl true) from rfl];rw?;rw [cp];rw?;rw [M1];rw?;rw [show yn (.dS []) (.dS []) = ai (.bl true) from rfl];rw?;exact ⟨_, rfl⟩
  | OK s =>
    let⟨w, Hs⟩:= zef U R (hU 0).iL s;have gH : ((aj.u5 (s + 1)).a7 (c8 U R)).Dl = false := by rw [w3o]; rfl
    rw [gH];rw?;rw [z2b Hs (by simp [tD]; exact Hu)];rw?;rw [show (ai (1 : dr)) = ai ((1 : aT) : dr) from rfl, EY (by simp), EY (by simp)];rw [aj.drop_succ_cons, aj.drop_zero, xq];rw?;rw [cp];rw?;rw [M1];rw?;rw [oH];rw?;exact ⟨_, rfl⟩
theorem Pu(K:Fg)(a:aI)(r:aT->aj W->FR):Mi K a r =
 (ah (ay 1 (ak (r D4) (aa (af 0) ag)))
  (ah (ay 2 (ak (r D9) (aa (af 1) ag)))
  (ah (ay 3 (ak (r BK) (aa (af 1) (aa (af 2) ag))))
  (ah (ay 4 (ak (r Ep) (aa (bL bg (aa (af 3) ag)) ag)))
  (ah (ay 5 (ao bh (ao aQ (af 1) (dC (.a6 0))) (af 4)))
  (ah (aL (aw (ao kh (af 5) (dC (.a6 4))))
  (aG (ak (r D5) (aa (af 1) ag)))
  b7)
  (ah (f9 6 (r En) (aa (ak (r tG) (aa (af 1) ag)) ag))
  (ah (ay 7 (ak (r Em) (aa (ak (r tG) (aa (af 1) ag)) ag)))
  (ah (ay 8 (ao bh (cY (br [] (ao aQ (af 7) (dC (.a6 1))) bB (LM K a r))) (cY (μ (aa (ao aQ (af 7) (dC (.a6 2))) ag)))))
  (lM K a r)))))))))):=rfl
def z3f(M:iG K mg a)(ns)(hl:Dg ns):ll K a 149 Mh [.dS (ns.a7 .a6)]=.ok (.fr (.bl true)):=by
 let⟨c,hc,h1⟩:=zbd (K:=K) (a:=a) 146 ns;have q_:=hc.og;let⟨L,I,ws,hs,hL,hI,hr⟩:=Qr (K:=K) (a:=a) 142 c q_;let⟨L',I',ws',i_,hL',xm,vA⟩:=Qr (K:=K) (a:=a) 141 c q_;rw[z81 q_ hs i_ hI xm]at vA;have eL:=Mm q_ hI;have qY:=eL.ok q_;have hk:=V1 q_ (w3u hL) hs hI;have ho:=y8x (K:=K) (a:=a) 147 c q_ hc.iL (w3u hL) hs hI;have h2:=y0x (K:=K) (a:=a) 147 c q_;have h4:=jC (K:=K) (a:=a) 147 c q_
 have cx:(fP c L (bf (cf c L) (kd c L 0) I)).ae.aO<=16:=by
  have:=eL.uz q_;have:=hc.iL;show(aj.a7 _ _).aO<=16;rw[w0a];omega
 have wR:(bf (cf c L) (kd c L 0) I).aO=(fP c L (bf (cf c L) (kd c L 0) I)).ae.aO:=by
  show _=(aj.a7 _ _).aO;rw[w0a]
 have h3:=y4j (K:=K) (a:=a) 147 (s:=(fP c L (bf (cf c L) (kd c L 0) I)).ae.aO) (by omega);have A6:(fP c L (bf (cf c L) (kd c L 0) I)).m=c.m:=rfl;have Ni:(fP c L (bf (cf c L) (kd c L 0) I)).pg=c.pg:=rfl;have w1:=Pq (K:=K) (a:=a) 144 hr (by omega) (wQ cx) hc.wd;have w2:=Pq (K:=K) (a:=a) 143 vA (by omega) (wQ cx) hc.wd;generalize hT:fP c L (bf (cf c L) (kd c L 0) I)=l at *;have ud:=wQ cx;have hsz:=(LA (s:=l.ae.aO) (by omega)).1;have zfn:ll K a 148 BK [aD c,aF (f6 c c.ae.aO)]=.ok (.fr (aF ((bf (cf c L) (kd c L 0) I).a7 (yM c L))))\/ku:=.mW trivial
 by_cases hp:l.m+cN l.ae.aO<=4
 .have hU:∀p,∃u T,Lc K a (jh l (cN l.ae.aO) p) (l.m+cN l.ae.aO) u T:=λp=>V2 (LB _ _ _) hp
  let⟨U,hU⟩:=_o.skolem.mp hU;let⟨R,hU⟩:=_o.skolem.mp hU;let⟨c1,c2⟩:=zdw (K:=K) (a:=a) 27 qY ud hp w1 hU;have ci:=zdr (K:=K) (a:=a) 26 qY ud hp w1 hU;let⟨e',rh⟩:=y4n (K:=K) (a:=a) M hc qY A6 Ni cx hk ud hp hsz hU c1 (.dS (ns.a7 .a6)) (ϛ l.m (cN l.ae.aO) (fb U (cN l.ae.aO+l.pg)));rw[R0,Pu];rw?;rw[h1];rw?;rw[h2];rw?;rw[ho];rw?;rw[w0a,w0a,wR,h3];rw?;rw[rZ];rw?;rw[sF (by omega),h4];rw?;rw[c2];rw?;rw[h4];rw?;rw[ci];rw?;have GF:(fb U (cN l.ae.aO+l.pg)).aO=cN l.ae.aO+l.pg:=by unfold fb;rw[w0a,w1a]
  have hw:=qY.wg;rw[<- A6];generalize fb U (cN l.ae.aO+l.pg)=fs at *;rw[show aQ (ϛ l.m (cN l.ae.aO) fs) (.a6 1)=ai (.gw ((fs.yE (cN l.ae.aO)).a7 λf=>.gw [.bl false,wJ f]))from rfl]
  rw?
  rw[mS (by rw[w0a,w2d];omega),lJ (g:=wJ) (fs.yE (cN l.ae.aO)) (λf _=>⟨_,by
   unfold LM;rw?;rfl⟩)]
  rw?;rw[show aQ (ϛ l.m (cN l.ae.aO) fs) (.a6 2)=ai (.gw ((fs.zd (cN l.ae.aO)).a7 wJ))from rfl];rw?;rw[mS (by simp only[w0a,w2d,w3c];omega),<- w1b,w5g];rw?;have rh:lM K a (ll K a 148) [.fr (.dS (ns.a7 .a6)),.fr (aD c),.fr (aF (f6 c c.ae.aO)),.fr (aF ((bf (cf c L) (kd c L 0) I).a7 (yM c L))),.fr (.a6 (cN l.ae.aO:dr)),.fr (.a6 ((l.m:dr)+(cN l.ae.aO:dr))),.x (.fz (.dS ((aj.u5 (cN l.ae.aO+l.pg)).a7 (c8 U R)))),.fr (ϛ l.m (cN l.ae.aO) fs),.fr (.dS (fs.a7 wJ)),.no,.no,.no]=_:=rh;rw[show S.fr (W.dS (((bf (cf c L) (kd c L 0) I).a7 (yM c L)).a7 aK))=S.fr (aF ((bf (cf c L) (kd c L 0) I).a7 (yM c L)))from rfl];rw[rh];rfl
 .have gr:=zd7 (K:=K) (a:=a) M 26 q_ qY ud (by omega) w2;rw[R0,Pu];rw?;rw[h1];rw?;rw[h2];rw?;rw[ho];rw?;rw[w0a,w0a,wR,h3];rw?;rw[rZ];rw?;rw[mS (by omega),gr];rw?
theorem walk{l:lU.W._Y}{q:wW}{_O:aj fv}{XP:(fv->fy eT)->g6->Prop}{YP:uG->g6->Prop}{d:ĵ}{K:Í->Fg}{yq:aj (f'×fv)}(hn:l.À=ai 63)(ue:d.ua.ϰ=[])
  (hY:∀(w:uG)(h:g6),YP w h->(K w.ua).In h)(hT:∀(w:uG)(h:g6),YP w h->∀P∈yq.a7 (·.1),h.iT P=ai (ϡ #[]))
  (hG:∀w:uG,((D.dX (K w.ua)).hW Yd).zi=true)(AN:∀w:uG,gX (K w.ua)=true)(hd:yq.rM (λp=>yq.hW p.1==ai p.2)=true)
  (hK:∀w:uG,yq.rM (λp=>((D.dX (K w.ua)).hW p.1).isNone)=true)(hc:∀w:uG,∀p∈yq,∃c,Ø (K w.ua) c p.1=true)
  (F:∀(w:uG)(mg:fv->fy eT)(fa:f')(h:g6),(D.df (D.dX (K w.ua)) yq).In h->h.Ns Yd mg->mg d.name=ai (.dI fa) ->
   ∃fd:Zo,(∀(s:oi)(u:eT),_C s fd ⟨[u],[]⟩ [("_law_script", u)])/\∀kT:g6,(D.df (D.dX (K w.ua)) yq).In kT->kT.Ns Yd mg->_l kT mg->eN l.jf w (D.df (D.dX (K w.ua)) yq) mg kT (ee l.jf w) 151 fa fd ["_law_script"] (lP (D.df (D.dX (K w.ua)) yq))):
  lU.W.Ð q _O XP YP l.oL.ψ d [] (λf vs=>lU.yG f vs):=
 L2.y7m (K:=λp=>D.df (D.dX (K p)) yq) (yq:=yq) (n:=63) (k:=151) (x:="_law_script") (CX:=λw=>ee l.jf w) (sp:=λw=>lP (D.df (D.dX (K w.ua)) yq)) hn (by decide) ue ⟨rfl,by decide,by decide,rfl⟩ (λw h Y=>D.Hx (hG w) (D.z1j (hY w h Y))) F (λ_ _ a ns hl hb hS=>⟨a,ns,rfl,hS,⟨hl,hb⟩,λ_=>rfl⟩) (λ_ _ _ _ _ z=>Uz z)
  (λw=>D.y3t (D.za4 (AN w)) hd) (λw h Y=>D.z7p (hY w h Y) (hT w h Y) (hc w)) (λw=>D.kO (hG w) (hK w))
end Q
open PySem PySem.W PyProof.Rows
set_option maxRecDepth 100000 in
set_option maxHeartbeats 0 in
theorem PySem.Challenge.cw_circuits_k67_covers_of_made_holds : PySem.Challenge.rw_circuits_k67_covers_of_made.Holds := by
 w_on; o_law; k_head; (case hw => w_witness2)
 k_fill
 refine Q.walk (l := PySem.Challenge.rw_circuits_k67_covers_of_made) (tabs := [(331, ("small" ++ ".<locals>.") ++ "<lambda>"), (262, ("rarest" ++ ".<locals>.") ++ "<lambda>")]) rfl rfl (fun w h Y => PySem.W.km_in_of Y) (fun w h Y => PySem.W.km_tabs_of Y) (fun w => by kernel_rfl) (fun w => by kernel_rfl) (by decide +kernel) (fun w => by kernel_rfl) (fun w => w2z.mpr ⟨⟨335, by kernel_rfl⟩, w2z.mpr ⟨⟨266, by kernel_rfl⟩, fun _ h => nomatch h⟩⟩) ?F
 case F =>
  intro w mg fa h KX G hmg;refine' Q.mk hmg ?zA ?zB ?zM ?zK 148 ?hL
  (case zA =>
   intro i h
   (iterate 66 (rcases i with _ | i; · exact Q.at_k KX G (D.ns_m (D.q26 (by k_is) (by kernel_rfl))) (D.q5t (D.q1h (by k_is) (by kernel_rfl))) (D.Q3g (D.x93 (by k_is) (by kernel_rfl))) (D.Q3h (by kernel_rfl)) fun _ _ _ _ _ _ => by first | exact Q.us1 fun _ => rfl | exact Q.us2 fun _ _ => rfl | exact Q.us3 fun _ _ _ => rfl | exact Q.us4 fun _ _ _ _ => rfl | exact Q.us5 fun _ _ _ _ _ => rfl))
   exact absurd h (by omega))
  (case zB => constructor <;> first | exact mg_none_of KX G (D.ns_m (D.q26 (by k_is) (by kernel_rfl))) | exact ⟨_, mg_of KX G (D.ns_m (D.q26 (by k_is) (by kernel_rfl))), ⟨⟨_, (D.q5t (D.q1h (by k_is) (by kernel_rfl))), by kernel_rfl⟩⟩⟩)
  (case zM => constructor <;> first | trivial | exact mg_of KX G (D.ns_m (D.q26 (by k_is) (by kernel_rfl))) | exact D.no_m (by kernel_rfl) D.z1k | kernel_rfl)
  (case zK => exact w2z.mpr ⟨Q.mk_k (st := Q.s8 31) KX G (D.ns_m (D.q26 (by k_is) (by kernel_rfl))) (D.q5t (D.q1h (by k_is) (by kernel_rfl))) rfl (show codeHdIn _ _ 262 = true by kernel_rfl) (w0k _ (by simp; rfl)), w2z.mpr ⟨Q.mk_k (st := Q.s8 42) KX G (D.ns_m (D.q26 (by k_is) (by kernel_rfl))) (D.q5t (D.q1h (by k_is) (by kernel_rfl))) rfl (show codeHdIn _ _ 331 = true by kernel_rfl) (w0k _ (by simp; rfl)), fun _ h => nomatch h⟩⟩)
  (case hL => exact fun a M ns hl => Q.z3f M ns hl)
