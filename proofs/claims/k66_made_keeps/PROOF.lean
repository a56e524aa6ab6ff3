import PyProof.Rows.All
import Wide.All
import OpenK.AllK
import Wide.FinOn
import PyProof.TupleKey
import PyProof.EqAt
import PyProof.EqKinds
import Wide.Seal
import Lean
import PyProof.TupleCall
import KE.KTryMore
import KE.KRevIter
import PyProof.CollectIter
import PyProof.ConsumeWalk
import PyProof.TupleOfStr
import KE.KIsAll
import PyProof.ExcArgs
import PyProof.ExcAttrAll.ValueError
import PyProof.CompUse
import PyProof.NeKinds
import PyProof.EnumIter
import PyProof.EnumFor
import PyProof.EnumMake
import PyProof.EnumStmt
import PyProof.ListMulRoad
import PyProof.ZipIter
import PyProof.TupleIter
import PyProof.Rows.SortWalk
import PyProof.SetKind
import PyProof.Rows.SetFrom
import PyProof.FactsAll.set_1
import KE.KDictSum
import PyProof.FactsAll.set_2
import PyProof.FactsAll.tuple_2
import PyProof.ReprRoads
import PyProof.Rows.SeqMore
import PyProof.ReprLen
import PyProof.WalkInts
import PyProof.SeqI3
import PyProof.Rows.TupIter
import PyProof.ListRange
import PyProof.SumWalk
import PyProof.DictIter
import PyProof.DictWalks
import PyProof.DictRoadsH
import PyProof.DictTruth
import KE.KDictList
import PyProof.Rows.TupDisplay
import PyProof.Draws
import PyProof.StrBlockI
import PyProof.StrLawsIn
import PyProof.StrOps2
import PyProof.ReprStr
import PyProof.ListNew
import PyProof.Rows.SortRev
import KE.KMinKey
import PyProof.Rows.SortStr
import PyProof.Rows.SortRunsK
import PyProof.Rows.SortKeyStr
import KE.RegMulBits
import KE.KRevSl
import PyProof.CallStr
import PySem.Challenge.RW_circuits_k66_made_keeps
set_option Elab.async false
set_option linter.all false
set_option maxRecDepth 100000
set_option maxHeartbeats 1000000
local macro_rules | `(tactic| cases $h:ident) => `(tactic| first | (guard_hyp $h : _ = _; first | subst $h:ident | (injection $h:ident; done) | (injection $h:ident with z1 z2 z3; cases z1; cases z2; cases z3) | (injection $h:ident with z1 z2; cases z1; cases z2) | (injection $h:ident with z1; cases z1)) | cases ($h))
local macro_rules | `(tactic| omega) => `(tactic| first | with_reducible assumption | decide | with_reducible exact Nat.le_refl _ | with_reducible exact Nat.zero_le _ | lia)
set_option genSizeOf false
set_option genInjectivity false
set_option compiler.extract_closed false
local macro_rules | `(tactic| walk_at "1") => `(tactic| (first | exact Or.inl rfl | exact Or.inr (Or.inl rfl) | exact Or.inr (Or.inr rfl)))
local macro_rules | `(tactic| walk_at "2") => `(tactic| (first | exact .inl rfl | exact .inr rfl | assumption))
local macro_rules | `(tactic| walk_at "3") => `(tactic| (first | exact Or.inl rfl | exact Or.inr rfl))
open PySem.W (codeHdIn findIn keepIn kia_one kitOne kla_fn kla_obj methodObj pyHash_slot specialIn tabObj takesIn)
def w0a:=@List.length_map
def w0b:=@List.getElem?_eq_some_iff
def w0c:=@List.getElem?_eq_getElem
def w0d:=@List.getElem?_cons_succ
def w0e:=@List.size_toArray
def w0f:=@Nat.le_refl
def w0g:=@List.getElem?_cons_zero
def w0h:=@List.getElem?_set_ne
def w0i:=@List.mem_cons
def w0j:=@Option.map_eq_some_iff
def w0k:=@List.getElem?_set_self
def w0l:=@List.mem_append_right
def w0m:=@List.map_cons
def w0n:=@List.set_cons_succ
def w0o:=@List.set_cons_zero
def w0p:=@List.mem_cons_of_mem
def w0q:=@Bool.and_eq_true
def w0r:=@Nat.pow_le_pow_right
def w0s:=@List.getElem?_map
def w0t:=@Nat.ne_of_lt
def w0u:=@List.mem_map
def w0v:=@List.map_map
def w0w:=@List.mem_of_getElem?
def w0x:=@List.map_append
def w0y:=@List.mem_range
def w0z:=@List.length_cons
def w1a:=@Nat.le_trans
def w1b:=@List.mem_cons_self
def w1c:=@List.all_eq_true
def w1d:=@Nat.lt_of_lt_of_le
def w1e:=@List.length_append
def w1f:=@List.not_mem_nil
def w1g:=@Nat.zero_le
def w1h:=@Bool.false_ne_true
def w1i:=@List.mem_singleton
def w1j:=@List.getElem_mem
def w1k:=@List.mem_filter
def w1l:=@List.getElem?_append_right
def w1m:=@List.getD_eq_getElem?_getD
def w1n:=@List.mem_iff_getElem
def w1o:=@List.map_congr_left
def w1p:=@Nat.pow_succ
def w1q:=@List.append_nil
def w1r:=@Bool.or_eq_true
def w1s:=@Nat.lt_succ_of_lt
def w1t:=@List.length_range
def w1u:=@List.take_append_drop
def w1v:=@Bool.eq_iff_iff
def w1w:=@Option.bind_eq_some_iff
def w1x:=@List.map_nil
def w1y:=@Nat.zero_add
def w1z:=@Array.getElem?_append_left
def w2a:=@List.take_of_length_le
def w2b:=@Int.toNat_natCast
def w2c:=@Nat.lt_irrefl
def w2d:=@List.getElem?_append_left
def w2e:=@List.nodup_cons
def w2f:=@List.length_replicate
def w2g:=@List.foldl_cons
def w2h:=@List.ext_getElem?
def w2i:=@List.find?_cons
def w2j:=@Array.getElem?_eq_some_iff
def w2k:=@List.mem_append_left
def w2l:=@Bool.eq_false_iff
def w2m:=@List.idxOf_lt_length_iff
def w2n:=@List.replicate_succ
def w2o:=@List.mem_map_of_mem
def w2p:=@Int.toNat_of_nonneg
def w2q:=@List.filter_cons
def w2r:=@List.any_eq_true
def w2s:=@List.mem_append
def w2t:=@Nat.ne_of_gt
def w2u:=@List.cons_lt_cons_iff
def w2v:=@List.all_cons
def w2w:=@List.any_cons
def w2x:=@List.reverse_cons
def w2y:=@List.forall_mem_cons
def w2z:=@List.drop_eq_getElem_cons
def w3a:=@List.pairwise_iff_getElem
def w3b:=@List.length_take
def w3c:=@List.drop_length
def w3d:=@List.getElem_of_mem
def w3e:=@Nat.mul_comm
def w3f:=@Int.zero_add
def w3g:=@List.forIn_cons
def w3h:=@List.mem_filterMap
def w3i:=@List.of_mem_zip
def w3j:=@Nat.two_pow_pos
def w3k:=@List.take_succ_eq_append_getElem
def w3l:=@List.flatten_cons
def w3m:=@Nat.not_lt
def w3n:=@Option.isSome_map
def w3o:=@List.pairwise_map
def w3p:=@Nat.le_of_lt
def w3q:=@List.getElem?_eq_none
def w3r:=@Nat.le_of_ble_eq_true
def w3s:=@Nat.add_zero
def w3t:=@List.length_filter_le
def w3u:=@List.length_drop
def w3v:=@Nat.succ_ne_self
def w3w:=@List.lookup_cons
def w3x:=@Int.mul_le_mul_of_nonneg_left
def w3y:=@Int.natCast_emod
def w3z:=@Array.length_toList
def w4a:=@List.length_reverse
def w4b:=@List.nil_append
def w4c:=@List.filter_eq_self
def w4d:=@Nat.add_sub_cancel'
def w4e:=@List.nodup_iff_pairwise_ne
def w4f:=@Bool.false_eq_true
def w4g:=@List.pairwise_cons
def w4h:=@Int.pow_succ
def w4i:=@List.forIn_nil
def w4j:=@List.getElem?_zip_eq_some
def w4k:=@Option.isSome_iff_exists
def w4l:=@List.append_assoc
def w4m:=@List.length_erase_of_mem
def w4n:=@List.eq_of_mem_replicate
def w4o:=@List.getElem?_replicate
def w4p:=@Nat.le_succ
def w4q:=@Bool.and_true
def w4r:=@List.length_eq_zero_iff
def w4s:=@List.map_take
def w4t:=@List.map_drop
def w4u:=@Nat.min_le_right
def w4v:=@Nat.le_of_not_lt
def w4w:=@Nat.le_add_right
def w4x:=@Nat.lt_succ_self
def w4y:=@List.not_of_lt_findIdx
def w4z:=@Nat.div_div_eq_div_mul
def w5a:=@List.all_map
def w5b:=@List.any_map
def w5c:=@List.contains_iff_mem
def w5d:=@List.pairwise_flatMap
def w5e:=@List.idxOf_cons
def w5f:=@Int.emod_nonneg
def w5g:=@Nat.mul_add_div
def w5h:=@Array.toArray_toList
def w5i:=@List.mem_of_mem_take
def w5j:=@Bool.and_false
def w5k:=@List.filterMap_cons
def w5l:=@Array.toList_append
def w5m:=@List.getElem?_range
def w5n:=@Nat.pow_add
def w5o:=@Array.forIn_toList
def w5p:=@List.map_inj_right
def w5q:=@List.lookup_append
def w5r:=@List.zip_cons_cons
def w5s:=@Int.emod_lt_of_pos
def w5t:=@List.getElem_idxOf
def w5u:=@Nat.lt_of_le_of_lt
def w5v:=@Int.mul_comm
def w5w:=@Int.ofNat_lt
def w5x:=@Nat.succ_mul
theorem jJ0(_:True:=by rfl):True:=trivial
def jJ:=jJ0._auto_1
theorem jK0(_:True:=by decide):True:=trivial
def jK:=jK0._auto_1
theorem jL0(_:True:=by walk_at "2"):True:=trivial
def jL:=jL0._auto_1
theorem jM0(_:True:=by walk_at "3"):True:=trivial
def jM:=jM0._auto_1
theorem jN0(_:True:=by walk_at "1"):True:=trivial
def jN:=jN0._auto_1
abbrev Fg:=PySem.W.Frag
def jQ:="ab some ai List aj length aO Nat aT int a6 map a7 Int bj heap dr ref dt env dI lst dN pins dS size d0 Value d3 Option et Str fv scope fy Addr f' objs gs tup gw pos g0 Heap g6 lookup hX getD ie Bool ik get? iw Den jd inl je prog j3 Inv j' True ke type ku own kZ trans k8 mono k_ base lb inr l8 toArray mQ rel ny wpAny_bind nN run nZ if_pos n9 PySem oa elim oh Name ot row oL upd oP wpAny o4 cls pg starEach pJ data pZ Rel p5 Shared p6 Expr p7 seq p9 sub qk Rep ql depth qT cons qW names qX model rk set ro items r5 if_neg r7 bind r8 enc so nil sG wide sT Obj tB outer tD free tG acc tK toks tM push t8 refl t9 all t_ qual uh toNat ui wpAny_pure uu params uw Vals uz absurd uG body uI RelV uJ any uK Builtin uL cell uM imp uN len vd new vk False vr World vV val vW Pos vX pure wa mpr wj take wm sizeLine wL toList wO Call wZ hlen w4 builtin w5 old w6 get?_push_of_some w8 replicate xa count xb rest xc Program xg dict xm list xH out xK fresh xM slot xN bool xO drop xR zip xT fin xW keep xX lt_size xY tabs xZ Nodup x8 extBut x9 iter x_ ord ya cnt yb Array yl SeqAt yy move yW rep y0 backTo zb call zc kind zd units zf eq2 zj kindOf zm cLine zx foldl zD isList zF Scope zR grow zS ifs zT inj z_ isSome A2 get?_push_size A' has Ba in1 CC range CG PyProof CJ ret C_ Around Fe Rows Ff get JM elt JN laid LP sizeLine_eq Mf told Mk filter Mu Stmt MT calm MU fields NN fuel SA holds S6 idxOf S' Env Tc tuple Td bare U7 isEmpty U8 encC VB ent VE look Wd obj We reverse Wh EqAt Wi append Wk target Wn NameKind WZ stack Ya Key Yb Subscript Yc kept Yd line Ye succ Yf zero Yg Tuple Yh cells Yi mainGlobals Yj mem Yk stC Yl stK Ym tok Yn update Yo apos Yp cps Yq String Yr doc Ys flatten Yt mapSeq Yu exc Yv mod Yw pos' Yx seqObj Yy sgn Yz Compare YC IsPair YD IsTuple YE one YF posK YG WData YH frames YI gens YJ locals YK ne2 YL nest YM ofString YN slots YO BoolOp YQ hd2 YR kitOne YS pin YT turn YU Loc YV handled YW keeps YX arr YY decide_eq_false YZ many Y_ odd Zb step Zc Calls Zd Keyword Ze Lambda Zf Pairwise Zg assignEach Zh bits Zi loc Zj or_false Zk swapsWith Zl write Zm ListComp Zn codeAny Zo func Zp there Zq top Zr typeIs Zs wpAny_mono Zu Assign Zv FuncData Zw Paired Zx Perm Zy cst Zz if_true ZA putK ZC value ZD Constant ZE IsZip ZF SmallTypes ZG Sum ZH binaryOp ZI compareOp ZJ deeper ZK function ZL hit ZM kla_obj ZN size_push ZO Binds ZP best ZQ congrArg ZR foldedSetIterable ZS item ZT key ZU noFn ZV wpAny_field ZW wpAny_holding ZX Slice ZY callerA ZZ envOfC Z0 init Z1 liftT Z2 mem_of_lookup Z3 sep Z4 slice Z5 turned Z6 AllBare Z7 Arguments Z8 IsTup Z9 NotIn Z_ SameBut _a Txt _b assign _c at' _d behindInMarks _e beq_iff_eq _g elts _h fits _i glob _j of_decide_eq_true _k rule _l start _m tab _n vals1 _o Attribute _p Boot _q IsTupleIter _r brk _s cont _t if_false _u join _v more _w plain _x rawInt _y sysModules _z BMain _A BinOp _B Ends _C IsList _D Meets _E bootBuiltins _F codeIn _G contains _H error _I findIn _J get?_update_other _K holding _L keepIn _M of_wp _N sum _O wpAny_seqItems _P And _Q BindsTo _R Sem _S TypeIs _T UnaryOp _U above _V again _W call_meets _X fnOf _Y loose _Z nextOf Α putL Β relabel Γ wpAny_newObj_type Δ wpAny_pyIter_list Ε wpAny_truthy_bool Ζ ForInStep Η IsCell Θ OpenLaw Ι Tok Κ attributeBase Λ backToKw Μ code Ν codeAny_mono Ξ dList Ο endLine Ρ keywordEach Τ nsIn Υ preSum Φ pyNext Χ tail Ψ up1 Ω whole γ wpAny_Call_Name_kw δ wpAny_letGo ε Apart ζ Classical η IsPart θ Mod ι Mult μ RcAt ν Turn ξ Walks ο all1 π atKey ρ bindArgs ς bindC τ bindL υ binds χ callWith_type1 ψ drawn ω eqIsQuiet_byValue ϊ field ϋ getItem ό hints ύ listUpdate ώ natAbs Ϗ par ϐ snoc ϑ toRowW ϒ wpAny_pyIter_tuple ϓ Data ϔ DecidableEq ϕ Dict ϖ DictOf ϗ FunFrames Ϙ IntsAre ϙ IsListIter Ϛ Looks ϛ Maker Ϝ OldK ϝ PUnit Ϟ PassesOwn ϟ Return Ϡ addW ϡ after Ϣ bne_iff_ne ϣ decide_eq_true Ϥ filterMap ϥ forIn Ϧ kia_one ϧ loop Ϩ mroIn ϩ resolve_left Ϫ sliceBounds ϫ tabObj Ϭ wpAny_call ϭ wpAny_of_eq Ϯ wpAny_passesOwn ϯ yield ϰ Char ϱ CmpOp ϲ ExcAt ϳ RcNeAt ϴ Walk ϵ andThen ϶ beq_eq_false_iff_ne Ϸ bool_bool ϸ builtins Ϲ builtinsNs Ϻ codeAmong ϻ core À defaults Á ellipsis Â find? Ã flatMap Ä get?_update_seq Å hash Æ intBits Ç isTrue È listTooLong É most Ê of_eq Ë plainId_quiet Ì plain_min_loop Í sameAt Î spliced Ï tupleExact Ð wpAny_callSpecial?_slot Ñ wpAny_setField_rec Ò Call_ Ó Decidable Ô ItemsOf Õ Moved Ö NoLimit Ø Params Ù WShape Ú WalkO Û argsOk Ü back Ý bool_none Þ cellsFrom ß choose_spec à codeAny_builtin á codeHdIn â defaultsOf ã eqBool ä frame å globals æ int_int ç isCoroutine è isGenerator é keys ê kla_fn ë nolimit ì none_bool í pinned î pow10 ï propDecidable ð retS ñ sameBut ò seen ó slot_tuple_mul ô spliced_cons õ spliced_nil ö standAt ø typeIs_int ù vals ú valueAt û wpAny_attempt ü wpAny_call_entry ý wpAny_ite_split þ wpAny_loadPart' ÿ wpAny_rule Ā Challenge ā Dflts Ă FunctionDef ă IsEnum Ą IsSliceOf ą arrOf Ć builtinLookup_eq_fast ć closureFor Ĉ clsIn ĉ compEnvC Ċ concat_meets ċ eq_of_beq Č failedOf č int_str Ď isCodeTable ď join_list Đ letOwnedTupleGo đ listUpdate_at Ē not_lt ē not_or Ĕ object ĕ ownedTupleIsFree Ė plainAttrs_list ė putAt Ę pyHash ę rJoin Ě seqItems? ě setItem Ĝ slicePlaces ĝ slot_int_rmul Ğ slot_list_index ğ slot_tuple_getitem Ġ slot_tuple_iterator_next ġ slot_zip_next Ģ specialIn ģ storedH Ĥ strKind ĥ str_int Ħ str_str ħ subscripted Ĩ take_append_drop ĩ toString Ī touched ī tryCatch Ĭ tuples ĭ typeLookup Į typeLookup_type į under_plainId İ weightAll ı wpAny_execs_nil Ĳ wpAny_mkInt ĳ wpAny_onRaise Ĵ wpAny_pyIter_enum ĵ wpAny_specialOf Ķ wpAny_standAt ķ wpAny_tryCatch ĸ wpAny_updateSeq Ĺ CodeRec ĺ DefRec Ļ GenState ļ IsRevIter Ľ LawfulBEq ľ SortedToK Ŀ StrsAre ŀ Subscript_ Ł TriplesOk ł UnaryOp_ Ń args_tuple_add_2 ń args_tuple_mul_2 Ņ beq_self_eq_true ņ bool_int Ň bool_str ň boot_len ŉ callType_new Ŋ cellOf ŋ choose Ō closure ō collect Ŏ compLoop ŏ compPost Ő dif_pos ő entry_tuple_add Œ entry_tuple_mul œ findIdx? Ŕ freeze ŕ get?_none_of_le Ŗ int_bool ŗ int_none Ř isInstance ř isNone Ś isSubtype_type ś listItems Ŝ looks_findIn ŝ methodObj Ş noFill_tuple_add ş none_int Š none_str š operate Ţ pyIter ţ recursionLimit Ť seqEpoch ť seqIndex_neg Ŧ seqIndex_of ŧ seq_tuple_add Ũ sliceAdjust ũ slot_tuple_add Ū some_of ū str_bool Ŭ str_none ŭ subscriptTail Ů swapAt ů tail_any Ű takesIn ű toList_inj Ų tracked ų truthy Ŵ typeOf ŵ unaryOp Ŷ wpAny_Name ŷ wpAny_isInstance Ÿ wpAny_newFunctionEnv Ź wpAny_newList ź wpAny_typeOf Ż wpAny_updateSeq_pair ż ExactDict Ž IsRangeIter ž Name_function_global ſ PlainAttrs zb0 args_int_rmul_2 zb1 args_list_index_2 zb2 args_object_init_2 zb3 args_tuple_iterator_next_1 zb4 args_zip_next_1 zb5 beq_builtin_none zb7 boot_enumerate zb8 call_list_seq zb9 cellsFrom_some zb_ checkBuiltinCall zb' codeAny_call_builtin zca codeAny_compStart_list zcf data_mapFields zcg div_eq_of_lt zci entry_int_rmul zcj entry_list_index zck entry_min_loop zcl entry_tuple_iterator_next zcm entry_zip_next zco evalPart_none zcp excAttr_ValueError zcr fills_int_mul zcs firstArgMember zct forall_congr' zcu frames_deeper zcy get?_update_self zcE intBits_le_64 zcQ listExtendWith zcR listFitsIndex zcS listItems_at zcT list_indexAt zcU lists_lengths zcW map_congr_left zcX mod_eq_of_lt zc1 newFunctionEnv zc2 notImplemented zc7 ofString_eq_toList zc9 ownedTupleHandOut zdc plain_list_iadd zdo setIfInBounds zdp sliceApplied zdq slicePart_none zdr slot_dict_getitem zds slot_dict_len zdt slot_int_index zdu slot_list_append zdv slot_list_extend zdw slot_list_getitem zdx slot_tuple_rmul zdy subscriptTail_builtinR zdz swappedStores zdA swapsWithSole zdI tupleTooMany zdJ type_list_index zd3 wpAny_binaryOp_repeat_ref zd4 wpAny_comprehension_free zd5 wpAny_execs_cons zd6 wpAny_getItem_of zd7 wpAny_isTrue_Compare1 zd8 wpAny_ite_false zd9 wpAny_ite_true zd_ wpAny_letOwnedTupleGo_enum zd' wpAny_newTuple zea wpAny_pyIter_zip zeb wpAny_setField"
def jS:List String->List (String×String)
 |a::b::l=>(a,b)::jS l
 |_=>[]
def jR{k}(d:Lean.TSyntax k):Lean.Syntax:=
 let t:=Std.HashMap.ofList (jS (jQ.splitOn " "))
 let rec g:Lean.Name->Lean.Name
  |.str p s=>.str (g p) (t.getD s s)
  |.num p n=>.num (g p) n
  |n=>n
 d.raw.rewriteBottomUp fun|.ident i r n p=>.ident i r (g n) p|s=>s
local macro_rules
|`(Lean.Parser.Command.declaration|$m:declModifiers $d)=>do
 let e:=jR d
 if e==d.raw then Lean.Macro.throwUnsupported
 return .node .none ``Lean.Parser.Command.declaration #[m,e]
|`(variable $b*)=>do
 let e:=b.map fun x=>(jR x)
 if e==b.map (·.raw) then Lean.Macro.throwUnsupported
 return .node .none ``Lean.Parser.Command.variable #[.atom .none "variable",.node .none `null e]
local macro_rules|`(Lean.Parser.Command.declaration|$m:declModifiers $d)=>do
 unless m.raw.getArgs.all (·.isNone) do Lean.Macro.throwUnsupported
 let d:=d.raw
 if d[3][1].isOfKind ``Lean.Parser.Term.byTactic&&d.isOfKind ``Lean.Parser.Command.definition then return .node .none ``Lean.Parser.Command.declaration #[m,.node .none ``Lean.Parser.Command.theorem #[.atom .none "theorem",d[1],.node .none ``Lean.Parser.Command.declSig #[d[2][0],d[2][1][0]],d[3]]]
 unless d.isOfKind ``Lean.Parser.Command.definition||d.isOfKind ``Lean.Parser.Command.abbrev do Lean.Macro.throwUnsupported
 return .node .none ``Lean.Parser.Command.declaration #[m.raw.setArg 4 (.node .none `null #[.node .none ``Lean.Parser.Command.noncomputable #[.atom .none "noncomputable"]]),d]
local macro_rules|`(tactic|let ⟨$p,*⟩:=$e)=>do
 let rec go:Nat->Lean.Syntax->Lean.MacroM (Lean.TSyntax `Lean.Parser.Tactic.rcasesPatLo)
  |n+1,t=>do
   let p:Lean.TSyntax `rcasesPat←match t with
    |`(⟨$p,*⟩)=>do
     let q←p.getElems.mapM (go n ·.raw)
     `(rcasesPat|⟨$q,*⟩)
    |`($i:ident)=>`(rcasesPat|$i:ident)
    |_=>`(rcasesPat|_)
   `(Lean.Parser.Tactic.rcasesPatLo|$p:rcasesPat)
  |_,_=>Lean.Macro.throwUnsupported
 let q←p.getElems.mapM (go 9 ·.raw)
 `(tactic|obtain ⟨$q,*⟩:=$e)
namespace PySem.W.Fast
theorem tw653258095316682296:j':=trivial
theorem tw7527232588218056410:j':=trivial
theorem tw11159004725714798951:j':=trivial
theorem tw2548472296652046559:j':=trivial
theorem tw13295999122023731071:j':=trivial
theorem tw13169178276297191917:j':=trivial
theorem tw18345154985228913103:j':=trivial
theorem tw13348677655400055718:j':=trivial
theorem tw9892520447307674029:j':=trivial
theorem tw15360511523120300822:j':=trivial
theorem tw5007330262975224927:j':=trivial
theorem tw2007717141379368209:j':=trivial
theorem tw14966991887874462525:j':=trivial
theorem tw18213749478649556172:j':=trivial
theorem tw6178042326397675476:j':=trivial
theorem tw15536994468406025568:j':=trivial
theorem tw7588022800393641797:j':=trivial
theorem tw18138542706292422578:j':=trivial
theorem tw2073834921558393653:j':=trivial
theorem tw1688556077939114418:j':=trivial
theorem tw4744427394038917474:j':=trivial
theorem tw18199926810800692871:j':=trivial
theorem tw17248950379629409532:j':=trivial
theorem tw12672418300060377098:j':=trivial
theorem tw15704504245478964513:j':=trivial
theorem tw7142447574720046458:j':=trivial
theorem tw12599743118382312319:j':=trivial
theorem tw4756294313130828439:j':=trivial
theorem tw10022095197505077545:j':=trivial
theorem tw2238205246093539286:j':=trivial
theorem tw4416571812818194186:j':=trivial
theorem tw8434327137465403171:j':=trivial
theorem tw2544000025025599067:j':=trivial
theorem tw10628392051108842404:j':=trivial
theorem tw14316668837479398301:j':=trivial
theorem tw8054518914722978654:j':=trivial
theorem tw12089682832932877746:j':=trivial
theorem tw17998612929517249501:j':=trivial
theorem tw341618072275151332:j':=trivial
theorem tw16547563620934886276:j':=trivial
theorem tw18297977083308302991:j':=trivial
theorem tw11374315296440823299:j':=trivial
theorem tw272830801404067994:j':=trivial
theorem tw18443114505301697457:j':=trivial
theorem tw16337663187393727736:j':=trivial
theorem tw1864432481312444630:j':=trivial
theorem tw4381332760833355158:j':=trivial
theorem tw11174924627661657895:j':=trivial
theorem tw1419501989833085471:j':=trivial
theorem tw14298677763760256299:j':=trivial
theorem tw3790379472018833283:j':=trivial
theorem tw10821603807790984835:j':=trivial
theorem tw16898620714979578391:j':=trivial
theorem tw4241201222253272830:j':=trivial
theorem tw12942861119951693423:j':=trivial
theorem tw13583803198024171182:j':=trivial
theorem tw4267167674767934825:j':=trivial
theorem tw152963524154814071:j':=trivial
theorem tw5570528425400306246:j':=trivial
theorem tw8861987863538732357:j':=trivial
theorem tw7994049904062881775:j':=trivial
theorem tw14278878449773300845:j':=trivial
theorem tw15213623394791408950:j':=trivial
theorem tw14313382812730057231:j':=trivial
theorem tw5062889720748921712:j':=trivial
theorem tw15837498799809808491:j':=trivial
theorem tw13604445347222530424:j':=trivial
theorem tw11776648483792478854:j':=trivial
theorem tw6648770357475488175:j':=trivial
theorem tw1367204918990424706:j':=trivial
theorem tw4126901608287807113:j':=trivial
theorem tw9440019496517489024:j':=trivial
theorem tw900379461389128319:j':=trivial
theorem tw3954399804719531139:j':=trivial
theorem tw2928684448786586933:j':=trivial
theorem tw10123115678847055074:j':=trivial
theorem tw6934885140938844313:j':=trivial
theorem tw2947361161675815831:j':=trivial
theorem tw3643379752144793288:j':=trivial
theorem tw18192002291899688130:j':=trivial
theorem tw16308007698443283552:j':=trivial
theorem tw6586783480857314510:j':=trivial
theorem tw14923746732401234316:j':=trivial
theorem tw255756502335460484:j':=trivial
theorem tw14899748295516825122:j':=trivial
theorem tw15525300161383876975:j':=trivial
theorem tw8881440947220718831:j':=trivial
theorem tw7283264571417874051:j':=trivial
theorem tw2243297792729618620:j':=trivial
theorem tw1961433534421241609:j':=trivial
theorem tw10878732387902243249:j':=trivial
theorem tw119902172984298674:j':=trivial
theorem tw5767143152391098206:j':=trivial
theorem tw16161470382862223571:j':=trivial
theorem tw532925736974587342:j':=trivial
theorem tw1074677158980999528:j':=trivial
theorem tw15375982487654588297:j':=trivial
theorem tw10505926195078584576:j':=trivial
theorem tw5699070004658504319:j':=trivial
theorem tw2209814765770093525:j':=trivial
theorem tw12971373292486092484:j':=trivial
theorem tw17318983231386258741:j':=trivial
theorem tw3766338199046543155:j':=trivial
theorem tw203201416639806576:j':=trivial
theorem tw17778077113112731975:j':=trivial
theorem tw1094745454888183404:j':=trivial
theorem tw11077826339728724157:j':=trivial
theorem tw8166536804462113940:j':=trivial
theorem tw4776181638994553327:j':=trivial
theorem tw5300881140612956111:j':=trivial
theorem tw18023652913529936478:j':=trivial
theorem tw14506975990763775365:j':=trivial
theorem tw16862510461821988796:j':=trivial
theorem tw14507667618726669606:j':=trivial
theorem tw12307172610060218148:j':=trivial
theorem tw11002150456513332217:j':=trivial
theorem tw8783676252144717562:j':=trivial
theorem tw15683238934333547703:j':=trivial
theorem tw2657466047127442927:j':=trivial
theorem tw12138761594824536132:j':=trivial
theorem tw8617476322616506564:j':=trivial
theorem tw5415013082350949490:j':=trivial
theorem tw11654962339951756013:j':=trivial
theorem tw17063188613356120436:j':=trivial
theorem tw12145090494883817536:j':=trivial
theorem tw7356826084027121071:j':=trivial
theorem tw6960495583544114274:j':=trivial
theorem tw6056970419018542104:j':=trivial
theorem tw6252523349326718878:j':=trivial
theorem tw15087825018255459828:j':=trivial
theorem tw9011707723603448249:j':=trivial
theorem tw1762880997859211289:j':=trivial
theorem tw3252681801975974275:j':=trivial
theorem tw5851604877416027762:j':=trivial
theorem tw17435430900837790619:j':=trivial
theorem tw279101213490068079:j':=trivial
theorem tw2455840658215231945:j':=trivial
theorem tw16326778780971567226:j':=trivial
theorem tw10952396563036038247:j':=trivial
theorem tw3458402903721128622:j':=trivial
theorem tw14456197053131182921:j':=trivial
theorem tw6960478710967849300:j':=trivial
theorem tw737892500038096874:j':=trivial
theorem tw11160419708662307869:j':=trivial
theorem tw5925410770465323619:j':=trivial
theorem tw12455970305347661423:j':=trivial
theorem tw1933720735884024301:j':=trivial
theorem tw12951670602738998235:j':=trivial
theorem tw3675109634088265446:j':=trivial
theorem tw11604433523030466051:j':=trivial
theorem tw11141520320408871425:j':=trivial
theorem tw6681694980633241006:j':=trivial
theorem tw17950478746448223439:j':=trivial
theorem tw5367258809231131337:j':=trivial
theorem tw3868444870295672947:j':=trivial
theorem tw15076618579354836943:j':=trivial
theorem tw15007053943781565450:j':=trivial
theorem tw1116577877761283094:j':=trivial
theorem tw14081124499431501630:j':=trivial
theorem tw5146008833957779740:j':=trivial
theorem tw7793537544800913720:j':=trivial
theorem tw6375126795819641514:j':=trivial
theorem tw17506689892235196610:j':=trivial
theorem tw16486077552476774487:j':=trivial
theorem tw13858681479936408180:j':=trivial
theorem tw82594380851194201:j':=trivial
theorem tw16417211878777536287:j':=trivial
theorem tw7445390807061034724:j':=trivial
theorem tw7082873407051721963:j':=trivial
theorem tw2933399076512104031:j':=trivial
theorem tw10099427875760197005:j':=trivial
theorem tw378769428817548809:j':=trivial
theorem tw11576960531862865238:j':=trivial
theorem tw10273027665149376022:j':=trivial
theorem tw14566329068494022921:j':=trivial
theorem tw8258960752875144196:j':=trivial
theorem tw550854568582088957:j':=trivial
theorem tw10775259091072396293:j':=trivial
theorem tw1444451198520017768:j':=trivial
theorem tw11917075589423971154:j':=trivial
theorem tw13767544747711693470:j':=trivial
theorem tw18442803036615275359:j':=trivial
theorem tw1455476589472376179:j':=trivial
theorem tw17127792209780447422:j':=trivial
theorem tw7596796841120726727:j':=trivial
theorem tw4519944426526141178:j':=trivial
theorem tw2273002632160614926:j':=trivial
theorem tw1899529770198708464:j':=trivial
theorem tw762754557996288094:j':=trivial
theorem tw708665504166539126:j':=trivial
theorem tw3229154460826126205:j':=trivial
theorem tw5552165215258314104:j':=trivial
theorem tw13019062525739135730:j':=trivial
theorem tw18383492669111958819:j':=trivial
theorem tw9635153293650951564:j':=trivial
theorem tw7429339802473516487:j':=trivial
theorem tw5852925879876413201:j':=trivial
theorem tw16106030859831670728:j':=trivial
theorem tw14515539697440673307:j':=trivial
theorem tw7258783198541029315:j':=trivial
end PySem.W.Fast
namespace L2
open PySem PySem.Spec PyProof.Rows
variable{C a:fy}{A:C_}{op:ϱ}{c e tg:p6}{fd:Zv}{k_ h h':g0}{dN:ai (fy×sT)}{ch fp:ai fy}{es:ai p6}{N:ai et}{us:ai d0}{M:Model}{i t':aO}{p gw:vW}{je:xc}{K:Fg}{s:p5}{x:et}{mg:et->d3 d0}{u:d0}{E:d0->p5->Prop}{f:d0->d0->_R d0}{w:vr}
set_option genInjectivity true in
inductive Kx where
 |aB|bl (b:ie)|aT (i:a7)|str (x:et)|gs (ks:ai Kx)
inductive Sh where
 |ob|bl|aT|str|gs (ss:ai Sh)|YZ (s:Sh)
noncomputable instance:ϔ Kx:=λ_ _=>ζ.ï _
mutual
noncomputable def Kx.depth:Kx->Nat
 |.tup ks=>Kx.dD ks+1
 |_=>0
noncomputable def Kx.dD:List Kx->Nat
 |[]=>0
 |k::ks=>max k.depth (Kx.dD ks)
end
mutual
noncomputable def fE:Kx->Sh->Prop
 |.aB,.ob=>True
 |.bl _,.ob=>True
 |.bl _,.bl=>True
 |.int _,.int=>True
 |.str _,.str=>True
 |.tup ks,.tup ss=>qf ks ss
 |.tup ks,.many s=>lZ ks s
 |_,_=>False
noncomputable def qf:List Kx->List Sh->Prop
 |[],[]=>True
 |k::ks,s::ss=>fE k s/\qf ks ss
 |_,_=>False
noncomputable def lZ:List Kx->Sh->Prop
 |[],_=>True
 |k::ks,s=>fE k s/\lZ ks s
end
mutual
noncomputable def o3(h:Heap):Kx->Value->Prop
 |.aB,v=>v=.none
 |.bl b,v=>v=.bool b
 |.int i,v=>∃t,v=.int i t
 |.str x,v=>∃t,v=.str x t
 |.tup ks,v=>∃a o items n,v=.ref a/\h.get? a=some o/\o.cls=.type "tuple" /\ o.data=.seq items n/\gY h ks items.toList
noncomputable def gY(h:Heap):List Kx->List Value->Prop
 |[],vs=>vs=[]
 |k::ks,vs=>∃v r,vs=v::r/\o3 h k v/\gY h ks r
end
mutual
theorem QE{h:Heap}:∀(k k':Kx){v:Value},o3 h k v->o3 h k' v->k=k'
 |.aB,k',v,x,y=>by
  cases(show v=.none from x);cases k' with
  |aB=>rfl
  |bl c=>cases(show Value.none=.bool c from y)
  |int i=>let⟨t,e⟩:=y;cases e
  |str i=>let⟨t,e⟩:=y;cases e
  |tup ks=>let⟨_,_,_,_,e,_⟩:=y;cases e
 |.bl b,k',v,x,y=>by
  cases(show v=.bool b from x);cases k' with
  |aB=>cases(show Value.bool b=.none from y)
  |bl c=>cases(show Value.bool b=.bool c from y);rfl
  |int i=>let⟨t,e⟩:=y;cases e
  |str i=>let⟨t,e⟩:=y;cases e
  |tup ks=>let⟨_,_,_,_,e,_⟩:=y;cases e
 |.int b,k',v,x,y=>by
  let⟨t,rfl⟩:=x;cases k' with
  |aB=>cases y
  |bl c=>cases y
  |int i=>let⟨t,e⟩:=y;cases e;rfl
  |str i=>let⟨t,e⟩:=y;cases e
  |tup ks=>let⟨_,_,_,_,e,_⟩:=y;cases e
 |.str b,k',v,x,y=>by
  let⟨t,rfl⟩:=x;cases k' with
  |aB=>cases y
  |bl c=>cases y
  |int i=>let⟨t,e⟩:=y;cases e
  |str i=>let⟨t,e⟩:=y;cases e;rfl
  |tup ks=>let⟨_,_,_,_,e,_⟩:=y;cases e
 |.tup ks,k',v,x,y=>by
  let⟨a,o,it,n,rfl,h1,h2,h3,h4⟩:=x;cases k' with
  |aB=>cases y
  |bl c=>cases y
  |int i=>let⟨t,e⟩:=y;cases e
  |str i=>let⟨t,e⟩:=y;cases e
  |tup ks'=>
   let⟨a',o',C8,n',e,g1,g2,g3,g4⟩:=y;cases e;rw[h1]at g1;cases g1;rw[h3]at g3;injection g3 with e1 _
   subst e1;rw[Kd ks ks' h4 g4]
theorem Kd{h:Heap}:∀(ks ks':List Kx){vs:List Value},gY h ks vs->gY h ks' vs->ks=ks'
 |[],ks',vs,x,y=>by
  cases(show vs=[]from x);cases ks' with
  |nil=>rfl
  |cons k ks'=>let⟨v,r,e,_⟩:=y;cases e
 |k::ks,ks',vs,x,y=>by
  let⟨v,r,rfl,h1,h2⟩:=x;cases ks' with
  |nil=>cases(show v::r=[]from y)
  |cons k' ks'=>
   let⟨v',r',e,g1,g2⟩:=y;cases e;rw[QE k k' h1 g1,Kd ks ks' h2 g2]
end
mutual
theorem OL{h h':Heap}(hk:∀a o,h.get? a=some o->o.cls=.type "tuple"->(∃it n,o.data=.seq it n)->h'.get? a=some o):∀(k:Kx){v:Value},o3 h k v->o3 h' k v
 |.aB,v,x=>x
 |.bl b,v,x=>x
 |.int b,v,x=>x
 |.str b,v,x=>x
 |.tup ks,v,x=>by
  let⟨a,o,it,n,rfl,h1,h2,h3,h4⟩:=x;exact⟨a,o,it,n,rfl,hk a o h1 h2 ⟨it,n,h3⟩,h2,h3,N9 hk ks h4⟩
theorem N9{h h':Heap}(hk:∀a o,h.get? a=some o->o.cls=.type "tuple"->(∃it n,o.data=.seq it n)->h'.get? a=some o):∀(ks:List Kx){vs:List Value},gY h ks vs->gY h' ks vs
 |[],vs,x=>x
 |k::ks,vs,x=>by
  let⟨v,r,rfl,h1,h2⟩:=x;exact⟨v,r,rfl,OL hk k h1,N9 hk ks h2⟩
end
theorem gY.aj:∀(ks:ai Kx){vs:ai d0},gY h ks vs->vs.aj=ks.aj
 |[],vs,x=>by cases(show vs=[]from x);rfl
 |k::ks,vs,x=>by
  let⟨v,r,rfl,h1,h2⟩:=x;rw[w0z,w0z,gY.aj ks h2]
mutual
noncomputable def kP(w:World):Kx->Int
 |.aB=>PySem.W.hashW w.params .none
 |.bl b=>reduceHash (if b=true then 1 else 0)
 |.int i=>hashInt i
 |.str x=>hashStr w x
 |.tup ks=>reduceHash (Builtin.Tuple.tupleHashOf (hZ w ks))
noncomputable def hZ(w:World):List Kx->List Int
 |[]=>[]
 |k::ks=>kP w k::hZ w ks
end
mutual
noncomputable def lF:Kx->Nat
 |.tup ks=>jl ks+1
 |_=>1
noncomputable def jl:List Kx->Nat
 |[]=>0
 |k::ks=>lF k+jl ks
end
mutual
theorem QF:∀(k:Kx)(v:Value)(A:Around)(s:Shared)(Q:Int->Shared->Prop),o3 s.heap k v->A.units+k.depth<cLine->Q (kP w k) {s with toks:=s.toks+lF k}->wpAny (model prog w) A (pyHash v) Q E s
 |.aB,v,A,s,Q,x,hu,h=>by
  cases(show v=.none from x);exact pyHash_slot (T:="NoneType") rfl F.slot_NoneType_hash F.entry_NoneType_hash (F.args_NoneType_hash_1 _) (beq_builtin_none _) (.inr (by omega)) (wpAny_bind (wpAny_pure (wpAny_bind (wpAny_mkInt (wpAny_pure ⟨_,_,rfl,h⟩)))))
 |.bl b,v,A,s,Q,x,hu,h=>by
  cases(show v=.bool b from x);refine pyHash_slot (T:="bool") rfl F.slot_bool_hash entry_int_hash (args_int_hash _) (beq_builtin_none _) (.inr (by omega)) ?_;cases b
  .exact(show wpAny _ _ (do ret (<- mkInt 0)) _ _ s from wpAny_bind (wpAny_mkInt (wpAny_pure ⟨_,_,rfl,h⟩)))
  .exact(show wpAny _ _ (do ret (<- mkInt 1)) _ _ s from wpAny_bind (wpAny_mkInt (wpAny_pure ⟨_,_,rfl,h⟩)))
 |.int i,v,A,s,Q,x,hu,h=>by
  let⟨t,rfl⟩:=x;exact wpAny_pyHash_int h
 |.str i,v,A,s,Q,x,hu,h=>by
  let⟨t,rfl⟩:=x;exact wpAny_pyHash_str h
 |.tup ks,v,A,s,Q,x,hu,h=>by
  let⟨a,o,it,n,rfl,h1,h2,h3,h4⟩:=x;refine pyHash_slot (T:="tuple") ⟨_,h1,h2⟩ F.slot_tuple_hash F.entry_tuple_hash (F.args_tuple_hash_1 _) (beq_builtin_none _) (.inr (by omega)) ?_;show wpAny _ _ (Builtin.Tuple.tupleItemsOf (.ref a) >>= _) _ _ s;refine wpAny_bind (wpAny_tupleItemsOf h1 h3 ?_);refine wpAny_bind ?_;rw[<- w5o];refine OM ks it.toList A.in1 s #[] _ h4 (by simp only[Kx.depth,Around.in1_units]at hu |-;omega) λb hb=>?_
  show wpAny _ _ (retInt (Builtin.Tuple.tupleHashOf b.toList)) _ _ _;rw[hb];exact wpAny_bind (wpAny_mkInt (wpAny_pure ⟨_,_,rfl,by simpa [kP,lF,Nat.add_assoc]using h⟩))
theorem OM:∀(ks:List Kx)(vs:List Value)(A:Around)(s:Shared)(b:Array Int)(Q:Array Int->Shared->Prop),gY s.heap ks vs->A.units+Kx.dD ks<cLine ->
  (∀b',b'.toList=b.toList++hZ w ks->Q b' {s with toks:=s.toks+jl ks}) ->
  wpAny (model prog w) A (forIn vs b λx r=>do let h <- pyHash x;pure PUnit.unit;pure (ForInStep.yield (r.push h))) Q E s
 |[],vs,A,s,b,Q,x,hu,h=>by
  cases(show vs=[]from x);exact wpAny_pure (h b (by simp[hZ]))
 |k::ks,vs,A,s,b,Q,x,hu,h=>by
  let⟨v,r,rfl,h1,h2⟩:=x;simp only[Kx.dD]at hu;rw[w3g];refine wpAny_bind (wpAny_bind (QF k v A s _ h1 (by omega) ?_));refine wpAny_bind (wpAny_pure (wpAny_pure ?_))
  exact OM ks r A _ _ Q h2 (by omega) λb' hb=>by
   have:=h b' (by simp[hb,hZ])
   simpa [jl,Nat.add_assoc]using this
end
def QG(a b):decide (Kx.bl a=Kx.bl b)=(a==b):=by
 grind
def y8t(a b):decide (Kx.aT a=Kx.aT b)=(a==b):=by
 grind
def y8u(a b):decide (Kx.str a=Kx.str b)=(a==b):=by
 grind
def Í(ks ks':ai Kx)(j:aO):ie:=decide (ks[j]?=ks'[j]?)
def y8v:∀ks ks':ai Kx,((ai.CC (min ks.aj ks'.aj)).t9 (Í ks ks')&&ks.aj==ks'.aj)=decide (Kx.gs ks=Kx.gs ks'):=by
 intro ks ks'
 by_cases e:ks=ks'
 .grind [Í]
 .rw[YY (λz=>e (by injection z))]
  rw[ie.and_eq_false_iff]
  by_cases hl:ks.aj=ks'.aj
  .left
   rw[w2l];intro ha;refine e (w2h λj=>?_)
   by_cases hj:j<ks.aj
   .have:=w1c.mp ha j (w0y.wa (by omega));exact _j this
   grind
  grind
theorem Eb:∀(ks:ai Kx){vs:ai d0},gY h ks vs->∀(j:aO)(v:d0),vs[j]?=ab v->∃k,ks[j]?=ab k/\o3 h k v
 |[],vs,x,j,v,e=>by cases(show vs=[]from x);simp at e
 |k::ks,vs,x,j,v,e=>by
  let⟨u,r,rfl,h1,h2⟩:=x;cases j with
  |Yf=>cases e;exact⟨k,rfl,h1⟩
  |Ye j=>exact Eb ks h2 j v (by simpa using e)
theorem Jm:∀(ks:ai Kx)(j:aO)(k:Kx),ks[j]?=ab k->k.ql<=Kx.dD ks
 |[],j,k,e=>by simp at e
 |x::ks,j,k,e=>by
  simp only[Kx.dD];cases j with
  |Yf=>cases e;omega
  |Ye j=>have:=Jm ks j k (by simpa using e);omega
theorem Ja:∀(ks:ai Kx)(ss:ai Sh),qf ks ss->∀(j:aO)(k:Kx),ks[j]?=ab k->∃s,ss[j]?=ab s/\fE k s
 |[],ss,_,j,k,e=>by simp at e
 |x::ks,[],c,j,k,e=>c.oa
 |x::ks,s::ss,c,j,k,e=>by
  cases j with
  |Yf=>cases e;exact⟨s,rfl,c.1⟩
  |Ye j=>exact Ja ks ss c.2 j k (by simpa using e)
theorem Jb:∀(ks:ai Kx)(s:Sh),lZ ks s->∀(j:aO)(k:Kx),ks[j]?=ab k->fE k s
 |[],s,_,j,k,e=>by simp at e
 |x::ks,s,c,j,k,e=>by
  cases j with
  |Yf=>cases e;exact c.1
  |Ye j=>exact Jb ks s c.2 j k (by simpa using e)
def T8(s:p5):∀(n:aO)(k k':Kx)(sh:Sh)(v v':d0)(A:C_),k.ql<=n->fE k sh->fE k' sh->o3 s.bj k v->o3 s.bj k' v'->A.zd+n<zm->yl.Wh A s v v' (decide (k=k')):=by
 intro n
 induction n with
 |Yf=>
  intro k k' sh v v' A hd c c' x y hu;cases k with
  |aB=>
   cases sh with
   |ob=>
    cases k' with
    |aB=>cases(show v=.none from x);cases(show v'=.none from y);rw[ϣ rfl];exact .same _
    |bl b=>cases(show v=.none from x);cases(show v'=.xN b from y);rw[YY (λz=>nomatch z)];exact .ì b
    |_=>exact c'.oa
   |_=>exact c.oa
  |bl a=>
   cases sh with
   |ob=>
    cases k' with
    |aB=>cases(show v=.xN a from x);cases(show v'=.none from y);rw[YY (λz=>nomatch z)];exact .Ý a
    |bl b=>cases(show v=.xN a from x);cases(show v'=.xN b from y);rw[QG];exact .Ϸ a b
    |_=>exact c'.oa
   |bl=>
    cases k' with
    |bl b=>cases(show v=.xN a from x);cases(show v'=.xN b from y);rw[QG];exact .Ϸ a b
    |_=>exact c'.oa
   |_=>exact c.oa
  |aT a=>
   cases sh with
   |aT=>
    cases k' with
    |aT b=>let⟨t,rfl⟩:=x;let⟨u,rfl⟩:=y;rw[y8t];exact .æ a t b u
    |_=>exact c'.oa
   |_=>exact c.oa
  |str a=>
   cases sh with
   |str=>
    cases k' with
    |str b=>let⟨t,rfl⟩:=x;let⟨u,rfl⟩:=y;rw[y8u];exact .Ħ a t b u
    |_=>exact c'.oa
   |_=>exact c.oa
  |gs ks=>simp only[Kx.ql]at hd;omega
 |Ye n ih=>
  intro k k' sh v v' A hd c c' x y hu;cases k with
  |aB=>exact ih .aB k' sh v v' A (w1g _) c c' x y (by omega)
  |bl a=>exact ih (.bl a) k' sh v v' A (w1g _) c c' x y (by omega)
  |aT a=>exact ih (.aT a) k' sh v v' A (w1g _) c c' x y (by omega)
  |str a=>exact ih (.str a) k' sh v v' A (w1g _) c c' x y (by omega)
  |gs ks=>
   let⟨a,o,it,m,rfl,h1,h2,h3,h4⟩:=x
   have Χ:∀ks',k'=.gs ks'->(∀(j:aO)(u u':Kx),ks[j]?=ab u->ks'[j]?=ab u'->∃s,fE u s/\fE u' s)->yl.Wh A s (.dr a) v' (decide (Kx.gs ks=k')):=by
    rintro ks' rfl hc;let⟨b,o',C8,m',rfl,g1,g2,g3,g4⟩:=y
    by_cases sE:a=b
    .subst sE;rw[h1]at g1;cases g1;rw[h3]at g3;injection g3 with e1 _
     subst e1;rw[Kd ks ks' h4 g4,ϣ rfl];exact .same _
    .have l1:=gY.aj ks h4;have l2:=gY.aj ks' g4;rw[<- y8v]
     have:=yl.μ.Ĭ (A:=A) (s:=s) (e:=Í ks ks') (show s.bj.YD a it from⟨o,h1,h2,m,h3⟩) (show s.bj.YD b C8 from⟨o',g1,g2,m',g3⟩) (by omega) (λj j1 j2=>by
      let⟨u,u1,u2⟩:=Eb ks h4 j it[j] (by simp[j1]);let⟨u',NU,WV⟩:=Eb ks' g4 j C8[j] (by simp[j2]);let⟨WN,c1,c2⟩:=hc j u u' u1 NU;have hdj:=Jm ks j u u1;simp only[Kx.ql]at hd;have z:=ih u u' WN _ _ A.Ba (by omega) c1 c2 u2 WV (by rw[C_.in1_units];omega)
      have e:Í ks ks' j=decide (u=u'):=by
       unfold Í;rw[u1,NU]
       by_cases q:u=u'
       .rw[q];simp
       .rw[YY q,YY (λz=>q (d3.ab.zT z))]
      rw[e];exact z)
     rw[show it.dS=ks.aj by simpa using l1,show C8.dS=ks'.aj by simpa using l2]at this;exact .of_refs sE this
   cases sh with
   |gs ss=>
    cases k' with
    |gs ks'=>
     refine Χ ks' rfl λj u u' e1 e2=>?_
     let⟨s1,q1,q2⟩:=Ja ks ss c j u e1;let⟨s2,q3,q4⟩:=Ja ks' ss c' j u' e2;rw[q1]at q3;cases q3;exact⟨s1,q2,q4⟩
    |_=>exact c'.oa
   |YZ s1=>
    cases k' with
    |gs ks'=>exact Χ ks' rfl λj u u' e1 e2=>⟨s1,Jb ks s1 c j u e1,Jb ks' s1 c' j u' e2⟩
    |_=>exact c'.oa
   |_=>exact c.oa
def y8w:∀(n:aO)(k:Kx)(v:d0)(s:p5)(Q:ie->p5->Prop),k.ql<=n->o3 s.bj k v->Q true s->oP (qX je w) A (eqIsQuiet n v) Q E s:=by
 intro n
 induction n with
 |Yf=>
  intro k v s Q hd x h;cases k with
  |aB=>cases(show v=.none from x);rw[ω _ rfl];exact ui h
  |bl b=>cases(show v=.xN b from x);rw[ω _ rfl];exact ui h
  |aT i=>let⟨t,rfl⟩:=x;rw[ω _ rfl];exact ui h
  |str i=>let⟨t,rfl⟩:=x;rw[ω _ rfl];exact ui h
  |gs ks=>simp only[Kx.ql]at hd;omega
 |Ye n ih=>
  intro k v s Q hd x h;cases k with
  |aB=>cases(show v=.none from x);rw[ω _ rfl];exact ui h
  |bl b=>cases(show v=.xN b from x);rw[ω _ rfl];exact ui h
  |aT i=>let⟨t,rfl⟩:=x;rw[ω _ rfl];exact ui h
  |str i=>let⟨t,rfl⟩:=x;rw[ω _ rfl];exact ui h
  |gs ks=>
   let⟨a,o,it,m,rfl,h1,h2,h3,h4⟩:=x;have hT:s._S (.dr a) "tuple":=⟨o,h1,h2⟩;unfold eqIsQuiet;refine ny (ĵ hT F.slot_tuple_eq.g6 ?_);show oP _ _ (Ř (.dr a) (.ke "tuple") >>= _) _ _ s;refine ny (ŷ hT isSubtype_tuple_tuple ?_);simp only[ie.not_true,w4f,_t];refine ny (_O h1 h3 ?_);refine ny ?_;show oP _ _ (ϥ it _ _) _ _ s;rw[<- w5o];refine wpAny_forIn_list _ (λxb r s'=>r.1=none/\s'=s/\∀v∈xb,∃k:Kx,k.ql<=n/\o3 s.bj k v) _ ?_ ?_ _ _ ⟨rfl,rfl,λv hv=>?_⟩
   .rintro v xb r s' ⟨hr,rfl,qA⟩;let⟨k,k1,k2⟩:=qA v w1b;refine ny (ih k v _ _ k1 k2 ?_);simp only[ie.not_true,w4f,_t];exact ui ⟨rfl,rfl,λu Gx=>qA u (w0p _ Gx)⟩
   .rintro⟨r1,r2⟩ s' ⟨hr,rfl,_⟩;simp only at hr;subst hr;exact ui h
   .let⟨j,hj,e⟩:=w1n.mp hv;let⟨k,k1,k2⟩:=Eb ks h4 j v (by rw[w0c hj,e]);have:=Jm ks j k k1;simp only[Kx.ql]at hd;exact⟨k,by omega,k2⟩
def e9(je)(w)(sh:Sh):HeapKind je w Kx where
 is:=λh k a=>o3 h k (.dr a)/\fE k sh/\k.ql<=7
 Å:=kP w
 draws:=lF
 room:=λA=>A.zd+8<zm
 zT:=λhx hy=>QE _ _ hx.1 hy.1
 YW:=λ{h h' k a d o es ep} x ho hd hs=>⟨OL (λb ob e1 e2 e3=>by
  have gm:b≠d:=by
   grind
  exact(hs.2 b gm).kZ e1) _ x.1,x.2⟩
 Ę:=λ{A E s k a Q} hu hk h=>QF k _ A s Q hk.1 (by have:=hk.2.2;omega) h
 ã:=λ{A E s x y a b Q} hu hx hy h=>T8 s 7 x y sh _ _ A hx.2.2 hx.2.1 hy.2.1 hx.1 hy.1 (by omega) je w E Q h
 quiet:=λ{A E s k a Q} hk h=>y8w 8 k _ s Q (by have:=hk.2.2;omega) hk.1 h
set_option Elab.async false
set_option linter.all false
set_option maxRecDepth 100000
abbrev Ya:=ZG a7 et
def kQ:Ya->d0->ie
 |.jd k,v=>d0.isInt k v
 |.lb x,v=>d0.isStrOf x v
def GJ(w:vr):Ya->a7
 |.jd k=>hashInt k
 |.lb x=>hashStr w x
theorem uk:∀{k:Ya}{v:d0},kQ k v=true->(∃i t,k=ZG.jd i/\v=d0.aT i t)\/(∃x t,k=ZG.lb x/\v=d0.str x t)
 |.jd i,v,h=>by
  let⟨t,e⟩:=d0.isInt_shape (k:=i) (v:=v) h;exact .jd ⟨i,t,rfl,e⟩
 |.lb x,v,h=>by
  let⟨t,e⟩:=d0.isStrOf_shape (x:=x) (v:=v) h;exact .lb ⟨x,t,rfl,e⟩
def zbP(i)(t):kQ (.jd i) (.aT i t)=true:=by simp[kQ,d0.isInt]
def zbQ(x)(t):kQ (.lb x) (.str x t)=true:=by simp[kQ,d0.isStrOf]
def z9h(a b):decide ((ZG.jd a:Ya)=ZG.jd b)=(a==b):=by
 grind
def z9i(a b):decide ((ZG.lb a:Ya)=ZG.lb b)=decide (a=b):=by
 grind
theorem z9j(a)(b):decide ((ZG.jd a:Ya)=ZG.lb b)=false:=YY (λq=>nomatch q)
theorem z9k(a)(b):decide ((ZG.lb a:Ya)=ZG.jd b)=false:=YY (λq=>nomatch q)
def c9(je:xc)(w:vr):n9.KeyKind je w Ya where
 is:=kQ
 Å:=GJ w
 zT:=λv a b ha hb=>by
  rcases uk ha with⟨i,t,rfl,rfl⟩|⟨x,t,rfl,rfl⟩
  .rcases uk hb with⟨j,u,rfl,e⟩|⟨y,u,rfl,e⟩
   .injection e with e1 _;rw[e1]
   .exact nomatch e
  .rcases uk hb with⟨j,u,rfl,e⟩|⟨y,u,rfl,e⟩
   .exact nomatch e
   .injection e with e1 _;rw[e1]
 byValue:=λk v h=>by
  rcases uk h with⟨i,t,rfl,rfl⟩|⟨x,t,rfl,rfl⟩<;>rfl
 Ę:=λhv h=>by
  rcases uk hv with⟨i,t,rfl,rfl⟩|⟨x,t,rfl,rfl⟩
  .exact wpAny_pyHash_int h
  .exact wpAny_pyHash_str h
 ã:=λhu hv h=>by
  rcases uk hu with⟨i,t,rfl,rfl⟩|⟨x,t,rfl,rfl⟩
  .rcases uk hv with⟨j,u,rfl,rfl⟩|⟨y,u,rfl,rfl⟩
   .rw[z9h]at h;exact wpAny_eqBool_int h
   .rw[z9j]at h;exact yl.Wh.č i t y u _ _ _ _ h
  .rcases uk hv with⟨j,u,rfl,rfl⟩|⟨y,u,rfl,rfl⟩
   .rw[z9k]at h;exact yl.Wh.ĥ x t j u _ _ _ _ h
   .rw[z9i]at h;exact wpAny_eqBool_str h
 «strs»:=λk x t v h=>by
  rcases uk h with⟨i,u,rfl,e⟩|⟨y,u,rfl,e⟩
  .exact nomatch e
  .injection e with e1 _
   subst e1;cases v<;>rfl
theorem zal(je)(w)(i)(t):(c9 je w).is (.jd i) (.aT i t)=true:=zbP i t
theorem zam(je)(w)(x)(t):(c9 je w).is (.lb x) (.str x t)=true:=zbQ x t
set_option genInjectivity true in
inductive V where
 |aB|bl (b:ie)|aT (i:a7)|str (x:et)|uZ (b:yb UInt8)|u9 (b:UInt64)|dr (a:fy)|ty (n:Yq)
 deriving ϔ
variable{xs:ai V}{v:V}
def uI:V->d0->Prop
 |.aB,u=>u=d0.none
 |.bl b,u=>u=d0.xN b
 |.aT i,u=>∃t,u=d0.aT i t
 |.str x,u=>∃t,u=d0.str x t
 |.uZ b,u=>∃t,u=d0.bytes b t
 |.u9 b,u=>∃t,u=d0.float b t
 |.dr a,u=>u=d0.dr a
 |.ty n,u=>u=d0.ke n
abbrev uw:ai V->ai d0->Prop:=Zw uI
theorem uw.aj(r:uw xs us):xs.aj=us.aj:=Zw.aj r
theorem uw.Ff:∀{xs:ai V}{us:ai d0}{i:aO}{x:V},uw xs us->xs[i]?=ab x->∃u,us[i]?=ab u/\uI x u
 |_,_,_,_,.so,e=>by simp at e
 |_,_,0,_,.qT r _,e=>by simp at e;subst e;exact⟨_,rfl,r⟩
 |_,_,i+1,x,.qT _ t,e=>by
  let⟨u,h1,h2⟩:=uw.Ff (i:=i) (x:=x) t (by simpa using e);exact⟨u,by simpa using h1,h2⟩
theorem uw.rk{x:V}(r:uI x u):∀{xs:ai V}{us:ai d0}(i:aO),uw xs us->uw (xs.rk i x) (us.rk i u)
 |_,_,_,.so=>.so
 |_,_,0,.qT _ t=>.qT r t
 |_,_,i+1,.qT q t=>.qT q (uw.rk r i t)
theorem uw.Wi:∀{xs ys:ai V}{us ws:ai d0},uw xs us->uw ys ws->uw (xs++ys) (us++ws)
 |_,_,_,_,.so,s=>s
 |_,_,_,_,.qT r t,s=>.qT r (uw.Wi t s)
theorem uw.wj:∀{xs:ai V}{us:ai d0}(n:aO),uw xs us->uw (xs.wj n) (us.wj n)
 |_,_,0,_=>.so
 |_,_,_+1,.so=>.so
 |_,_,n+1,.qT r t=>.qT r (uw.wj n t)
theorem uw.xO:∀{xs:ai V}{us:ai d0}(n:aO),uw xs us->uw (xs.xO n) (us.xO n)
 |_,_,0,r=>r
 |_,_,_+1,.so=>.so
 |_,_,n+1,.qT _ t=>uw.xO n t
def km:d3 V->d3 d0->Prop
 |ab v,ab u=>uI v u
 |none,none=>j'
 |_,_=>vk
def KV{κ:Type}:ai (κ×V)->ai (κ×d0)->Prop:=Zw fun(p:κ×V) (q:κ×d0)=>p.1=q.1/\uI p.2 q.2
def kV:Ya->V
 |.jd i=>.aT i
 |.lb x=>.str x
inductive HO where
 /-- a xm -/
 |dI (xs:ai V)
 /-- a Tc (never changes) -/
 |gs (xs:ai V)
 /-- a xg Ct é are ints and texts;YE Ct é are Ĭ of ints and texts (p_ empty YE is both) -/
 |dK (kvs:ai (Ya×V))|dT (sh:Sh) (kvs:ai (Kx×V)) (bc:ai fy)
 /-- a rk of ints: aw members,aw dS -/
 |rk (S:a7->ie) (n:aO)
 /-- an instance of p_ class at C,aw xg at dx,aw attributes -/
 |ins (C dx:fy) (fs:ai (et×V))
 /-- p_ xg of p_ instance at x -/
 |ku (x:fy)
 /-- p_ xg of an exception -/
 |xd (fs:ai (et×V))
 /-- a bound method,f of x -/
 |met (f x:fy)
 /-- a CC Ĕ lo,lo+1,.. below hi -/
 |JL (lo hi:a7)
 /-- a Cq JX is known to p_ Ĕ (p_ zeT;a xg while a ϧ walks it): read,never written while it is zfr -/
 |cK (o:sT) (u:HO)
 /-- a Μ zeM table -/
 |n0 (ps:yb d0)
 /-- uJ other Cq,by ze' is true of aw YE Ĕ (a def of Bb ku: ze7 a S n:=HO.ext λh=>..) -/
 |ext (φ:g0->Prop)
abbrev Hp:=fy->d3 HO
variable{H H':Hp}
def eC:HO->Prop
 |.gs _=>j'
 |.cK _ (.gs _)=>j'
 |.cK _ (.ku _)=>j'
 |_=>vk
mutual
noncomputable def bV(H:Hp):Kx->V->Prop
 |.aB,v=>v=.aB
 |.bl b,v=>v=.bl b
 |.int i,v=>v=.int i
 |.str x,v=>v=.str x
 |.tup ks,v=>∃a xs,v=.ref a/\(H a=some (.tup xs)\/∃o,H a=some (.cK o (.tup xs)))/\de H ks xs
noncomputable def de(H:Hp):List Kx->List V->Prop
 |[],vs=>vs=[]
 |k::ks,vs=>∃v r,vs=v::r/\bV H k v/\de H ks r
end
mutual
theorem bV.keeps{H H':Hp}(ht:∀b u,eC u->H b=some u->H' b=some u):∀(k:Kx){v:V},bV H k v->bV H' k v
 |.aB,_,x=>x
 |.bl _,_,x=>x
 |.int _,_,x=>x
 |.str _,_,x=>x
 |.tup ks,_,x=>by
  let⟨a,xs,e,q,r⟩:=x;refine⟨a,xs,e,?_,de.keeps ht ks r⟩;rcases q with q|⟨o,q⟩
  .exact .inl (ht _ _ True.intro q)
  .exact .inr ⟨o,ht _ _ True.intro q⟩
theorem de.keeps{H H':Hp}(ht:∀b u,eC u->H b=some u->H' b=some u):∀(ks:List Kx){vs:List V},de H ks vs->de H' ks vs
 |[],_,x=>x
 |k::ks,_,x=>by
  let⟨v,r,e,h1,h2⟩:=x;exact⟨v,r,e,bV.keeps ht k h1,de.keeps ht ks h2⟩
end
def oL(H:Hp)(a:fy)(o:HO):Hp:=λb=>if b=a then ab o else H b
def bN:oL H a o a=ab o:=by simp_all [oL]
def aN(h:b≠a):oL H a o b=H b:=by unfold oL;rw[r5 h]
def Ei{o u:HO}:oL (oL H a o) a u=oL H a u:=by
 funext b;unfold oL;split<;>rfl
def eR{u:HO}(h:H a=ab o)(h':H b=ab u)(d:o≠u):a≠b:=by
 grind
def gU(h:H a=ab o)(h':H b=none):a≠b:=by
 grind
section
variable(P:xc)(w:vr)
def zet(h:g0)(a:fy):Prop:=∃o,h.ik a=ab o/\o.xg=none
def aU(H:Hp)(h:g0)(a:fy):HO->Prop
 |.dI xs=>xs.aj<=wm/\∃(aw:ai d0)(n:aO),uw xs aw/\h.ik a=ab {o4:=.ke "list", pJ:=.p7 aw.l8 n}
 |.gs xs=>xs.aj<=wm/\∃aw:ai d0,uw xs aw/\Z8 h a aw.l8/\zet h a
 |.dK kvs=>kvs.aj<=wm/\(a==_y)=false/\∃vs,KV kvs vs/\h.ϖ (c9 P w) a vs
 |.dT sh kvs bc=>kvs.aj<=wm/\(a==_y)=false/\∃xs:ai (Kx×fy×d0),
   Zw (fun(p:Kx×V) (q:Kx×fy×d0)=>p.1=q.1/\(bV H p.1 (.dr q.2.1)/\fE p.1 sh/\p.1.ql<=7)/\uI p.2 q.2.2) kvs xs/\xs.a6 (·.2.1)=bc /\
   ∃o es ep,h.ik a=ab o/\o.ż/\o.pJ=.xg es ep/\es.wL=xs.a6 (entryOfKey (e9 P w sh))/\(xs.a6 (·.1)).xZ
 |.rk S n=>h.SetOf (intKind P w) a S n
 |.ins C dx fs=>H dx=ab (.ku a)/\fs.aj<=1000/\dx≠a/\h.ik a=ab (n9.W.instObj C dx) /\
   ∃mA,h.Ns1 dx mA/\(∀f,km (fs.g6 f) (mA f))/\n9.Within mA (fs.a6 (·.1))
 |.ku _=>∃o,h.ik a=ab o
 |.xd fs=>∃mA,h.Ns1 a mA/\∀f,km (fs.g6 f) (mA f)
 |.JL lo hi=>∃t u v,h.ik a=ab {o4:=.ke "range", pJ:=.MU #[.aT lo t,.aT hi u,.aT 1 v]}
 |.cK o u=>h.ik a=ab o/\aU H h a u
 |.n0 ps=>(∃(q:et)(qs:yb d0),ps[0]?=ab (.xN true)/\ps[1]?=ab (.str q 0)/\h.ik a=ab {o4:=.none,pJ:=.MU qs}/\Ł qs.wL/\∀(gw:vW)(cv:d0),Ϻ gw qs.wL=ab cv ->
   ∃(c:fy)(oc:sT)(vs:yb d0)(t:Ι),cv=.dr c/\H c=ab (.cK oc (.ku 0))/\oc.pJ=.MU vs/\vs[1]?=ab (.str q t)) \/
   ∃(q:et)(c:fy)(oc ob:sT)(vs:yb d0)(t:Ι),ps[0]?=ab (.xN false)/\ps[1]?=ab (.str q 0)/\ps[2]?=ab (.dr c)/\H c=ab (.cK oc (.ku 0))/\oc.pJ=.MU vs/\vs[1]?=ab (.str q t)/\h.ik a=ab ob
 |.met f x=>h.ik a=ab (ŝ (.dr f) (.dr x))
 |.ext φ=>φ h/\(∃o,h.ik a=ab o)/\∀h1 h2:g0,φ h1->(∀o,h1.ik a=ab o->h2.ik a=ab o)->φ h2
def eh(H:Hp)(h:g0):Prop:=∀a o,H a=ab o->aU P w H h a o
end
section
variable{P:xc}{o:HO}
def aU.Ff(x:aU P w H h a o):∃ob,h.ik a=ab ob:=by
 cases o with
 |dI xs=>let⟨_,_,_,_,e⟩:=x;exact⟨_,e⟩
 |gs xs=>let⟨_,_,_,p,_⟩:=x;let⟨o,e,_⟩:=p;exact⟨o,e⟩
 |dK kvs=>let⟨_,_,_,_,o,_,_,e,_⟩:=x;exact⟨_,e⟩
 |dT sh kvs bc=>let⟨_,_,_,_,_,o,_,_,e,_⟩:=x;exact⟨_,e⟩
 |rk S n=>let⟨o,_,_,_,e,_⟩:=x;exact⟨_,e⟩
 |ins C dx fs=>let⟨_,_,_,e,_⟩:=x;exact⟨_,e⟩
 |ku y=>let⟨_,e⟩:=x;exact⟨_,e⟩
 |xd fs=>let⟨_,⟨_,_,_,e,_⟩,_⟩:=x;exact⟨_,e⟩
 |JL lo hi=>let⟨_,_,_,e⟩:=x;exact⟨_,e⟩
 |cK ob u=>let⟨e,_⟩:=x;exact⟨_,e⟩
 |n0 ps=>rcases x with⟨_,_,_,_,e,_⟩|⟨_,_,_,_,_,_,_,_,_,_,_,_,e⟩<;>exact⟨_,e⟩
 |met f y=>exact⟨_,(show h.ik a=ab _ from x)⟩
 |ext φ=>let⟨_,⟨_,e⟩,_⟩:=x;exact⟨_,e⟩
def aU.lt(x:aU P w H h a o):a<h.f'.dS:=by
 let⟨_,e⟩:=x.Ff;exact g0.xX e
theorem Zw.xf{α β:Type}{F G:α->β->Prop}:∀{AY:ai α}{AZ:ai β},Zw F AY AZ->(∀a b,F a b->G a b)->Zw G AY AZ
 |_,_,.so,_=>.so
 |_,_,.qT r t,f=>.qT (f _ _ r) (Zw.xf t f)
def aU.cF(x:aU P w H h a o)(k:∀b u,(b=a\/H b=ab (.ku a))->h.ik b=ab u->h'.ik b=ab u)
  (ho:∀b,H b=ab (.ku a)->H' b=ab (.ku a))(ht:∀b u,eC u->H b=ab u->H' b=ab u):aU P w H' h' a o:=by
 induction o with
 |dI xs=>let⟨z,aw,n,r,e⟩:=x;exact⟨z,aw,n,r,k _ _ (.jd rfl) e⟩
 |gs xs=>let⟨z,aw,r,⟨ob,e,c⟩,⟨o2,e2,c2⟩⟩:=x;exact⟨z,aw,r,⟨ob,k _ _ (.jd rfl) e,c⟩,⟨o2,k _ _ (.jd rfl) e2,c2⟩⟩
 |dK kvs=>let⟨z,y,vs,r,ob,es,ep,e,c⟩:=x;exact⟨z,y,vs,r,ob,es,ep,k _ _ (.jd rfl) e,c⟩
 |dT sh kvs bc=>
  let⟨z,y,xs,r,ka,ob,es,ep,e,c⟩:=x;exact⟨z,y,xs,Zw.xf r λp q z=>⟨z.1,⟨bV.YW ht _ z.2.1.1,z.2.1.2⟩,z.2.2⟩,ka,ob,es,ep,k _ _ (.jd rfl) e,c⟩
 |rk S n=>let⟨ob,es,ep,t,e,c⟩:=x;exact⟨ob,es,ep,t,k _ _ (.jd rfl) e,c⟩
 |ins C dx fs=>
  let⟨d,z,ne,e,mA,⟨od,es,ep,e2,c⟩,r⟩:=x;exact⟨ho _ d,z,ne,k _ _ (.jd rfl) e,mA,⟨od,es,ep,k _ _ (.lb d) e2,c⟩,r⟩
 |ku y=>let⟨ob,e⟩:=x;exact⟨ob,k _ _ (.jd rfl) e⟩
 |xd fs=>let⟨mA,⟨od,es,ep,e,c⟩,r⟩:=x;exact⟨mA,⟨od,es,ep,k _ _ (.jd rfl) e,c⟩,r⟩
 |JL lo hi=>let⟨t,u,v,e⟩:=x;exact⟨t,u,v,k _ _ (.jd rfl) e⟩
 |cK ob u ih=>let⟨e,q⟩:=x;exact⟨k _ _ (.jd rfl) e,ih q⟩
 |n0 ps=>
  rcases x with⟨q,qs,p0,p1,e,tr,cd⟩|⟨q,c,oc,ob,vs,t,p0,p1,p2,h3,h4,h5,e⟩
  .refine .jd ⟨q,qs,p0,p1,k _ _ (.jd rfl) e,tr,λgw cv z=>?_⟩
   let⟨c,oc,vs,t,h1,h3,h4,h5⟩:=cd gw cv z;exact⟨c,oc,vs,t,h1,ht _ _ j'.intro h3,h4,h5⟩
  .exact .lb ⟨q,c,oc,ob,vs,t,p0,p1,p2,ht _ _ j'.intro h3,h4,h5,k _ _ (.jd rfl) e⟩
 |met f y=>
  have e:h.ik a=ab (ŝ (.dr f) (.dr y)):=x;show h'.ik a=ab (ŝ (.dr f) (.dr y));exact k a _ (.jd rfl) e
 |ext φ=>let⟨p,⟨o,e⟩,st⟩:=x;exact⟨st _ _ p λo q=>k _ _ (.jd rfl) q,⟨o,k _ _ (.jd rfl) e⟩,st⟩
theorem eh.lt(x:eh P w H h)(e:H a=ab o):a<h.f'.dS:=(x a o e).lt
def eh.xK(x:eh P w H h)(e:h.f'.dS<=a):H a=none:=by
 cases q:H a with
 |none=>rfl
 |ab u=>exact uz (w1d (x.lt q) e) (w2c _)
theorem eh.Yc(x:eh P w H h)(k:∀b u,h.ik b=ab u->h'.ik b=ab u):eh P w H h':=λa o e=>
 (x a o e).cF (λb u _ q=>k b u q) (λ_ q=>q) λ_ _ _ q=>q
theorem eh.JN(x:eh P w H h)(k:∀b u,h.ik b=ab u->h'.ik b=ab u)(hp:h.f'.dS<=a)(vd:aU P w (oL H a o) h' a o):eh P w (oL H a o) h':=λb u e=>by
 have hn:=x.xK hp
 by_cases hb:b=a
 .grind [bN]
 .rw[aN hb]at e;exact(x b u e).cF (λc v _ q=>k c v q) (λc q=>by rw[aN (gU q hn)];exact q) λc xs _ q=>by rw[aN (gU q hn)];exact q
end
def Rd(H:Hp)(a:fy)(u:HO):Prop:=H a=ab u\/∃o,H a=ab (.cK o u)
def Rd.ok{u:HO}(r:Rd H a u)(x:eh P w H h):aU P w H h a u:=by
 rcases r with r|⟨o,r⟩
 .exact x a u r
 .let⟨_,q⟩:=x a _ r;exact q
def zu:d3 HO->Prop
 |ab (.dI _)=>j'
 |ab (.dK _)=>j'
 |ab (.dT _ _ _)=>j'
 |ab (.rk _ _)=>j'
 |ab (.ins _ _ _)=>j'
 |ab (.ext _)=>j'
 |_=>vk
section
variable{P:xc}{x e:fy}{o':HO}
theorem eh.Zl(ok:eh P w H h)(mu:zu (H x))(he:e=x\/H e=ab (.ku x))(k:∀b u,b≠e->h.ik b=ab u->h'.ik b=ab u)(tY:∃u,h'.ik e=ab u)
  (vd:aU P w (oL H x o') h' x o'):eh P w (oL H x o') h':=λb u q=>by
 have GY:∀c y,H c=ab (.ku y)->c≠x:=λc y r z=>by subst z;rw[r]at mu;exact mu
 have zff:∀c u,eC u->H c=ab u->c≠x:=λc u t r z=>by
  subst z;rw[r]at mu;cases u<;>first|exact mu|exact t
 by_cases hb:b=x
 .grind [bN]
 .rw[aN hb]at q
  by_cases Ml:b=e
  .have q':H b=ab (.ku x):=by
    grind
   rw[q]at q';cases q';let⟨v,hv⟩:=tY;exact⟨v,by rw[Ml];exact hv⟩
  .refine(ok b u q).cF (λc v hc r=>k c v ?_ r) (λc r=>by grind [aN]) λc xs t r=>by grind [aN]
   rcases hc with rfl|hc
   .exact Ml
   .rintro rfl;rcases he with z|z
    .exact GY c b hc z
    .rw[hc]at z;cases z;exact hb rfl
end
structure Un(fs ex:ai fy)(H H':Hp)(h h':g0):Prop where
 xW:∀b o,h.ik b=ab o->H b=none->b∉fs->b∉ex->h'.ik b=ab o
 xM:∀b o,h.ik b=ab o->H b=none->b∈fs->b∉ex->∃sl,h'.ik b=ab {o with YN:=sl}
 tD:∀b o,h.ik b=ab o->H b=none->b∉ex->H' b=none
 Zp:∀b o,h.ik b=ab o->b∉ex->∃o',h'.ik b=ab o'
 iD:∀b xs,H b=ab (.gs xs)->H' b=ab (.gs xs)
 aX:∀b o u,H b=ab (.cK o u)->H' b=ab (.cK o u)
 fX:∀b ps,H b=ab (.n0 ps)->∃_v,H' b=ab (.n0 (ps++_v))
section
variable{fs fs' ex Me:ai fy}{H1 H2:Hp}{h1 h2:g0}{x e:fy}{o:HO}
def Un.uJ(u:Un fs ex H H1 h h1)(q:h.ik b=ab ob)(n:H b=none)(hx:b∉ex):∃sl,h1.ik b=ab {ob with YN:=sl}:=by
 by_cases hb:b∈fs
 .exact u.xM b ob q n hb hx
 .exact⟨ob.YN,u.xW b ob q n hb hx⟩
theorem Un.Yc(k:∀b u,h.ik b=ab u->h'.ik b=ab u):Un fs ex H H h h':=
 ⟨λb ob q _ _ _=>k b ob q,λb ob q _ _ _=>⟨ob.YN,k b ob q⟩,λ_ _ _ n _=>n,λb ob q _=>⟨ob,k b ob q⟩,λ_ _ q=>q,λ_ _ _ q=>q,λ_ ps q=>⟨#[],by rw[q];simp⟩⟩
theorem Un.t8:Un fs ex H H h h:=Un.Yc λ_ _ q=>q
theorem Un.JN(k:∀b u,h.ik b=ab u->h'.ik b=ab u)(hp:h.f'.dS<=a)(hn:H a=none):Un fs ex H (oL H a o) h h' where
 xW:=λb u q _ _ _=>k b u q
 xM:=λb u q _ _ _=>⟨u.YN,k b u q⟩
 tD:=λb u q n _=>by rw[aN (w0t (w1d (g0.xX q) hp))];exact n
 Zp:=λb u q _=>⟨u,k b u q⟩
 iD:=λb xs q=>by rw[aN (gU q hn)];exact q
 aX:=λb u xs q=>by rw[aN (gU q hn)];exact q
 fX:=λb ps q=>⟨#[],by rw[aN (gU q hn),q];simp⟩
def Un.Zl(mu:zu (H x))(he:e=x\/H e=ab (.ku x))(k:∀b u,b≠e->h.ik b=ab u->h'.ik b=ab u)(tY:∃u,h'.ik e=ab u):Un fs ex H (oL H x o) h h':=by
 have hx:∀b,H b=none->b≠x:=λb n z=>by subst z;rw[n]at mu;exact mu
 have hb:∀b,H b=none->b≠e:=λb n z=>by
  grind
 have hm:∀b u,H b=ab u->¬zu (ab u)->b≠x:=λb u q nm z=>by grind
 refine⟨λb u q n _ _=>k b u (hb b n) q,λb u q n _ _=>⟨u.YN,k b u (hb b n) q⟩,λb u q n _=>by grind [aN],λb u q _=>?_,
  λb xs q=>by rw[aN (hm b _ q λz=>z)];exact q,λb u xs q=>by rw[aN (hm b _ q λz=>z)];exact q,λb ps q=>⟨#[],by rw[aN (hm b _ q λz=>z),q];simp⟩⟩
 grind
end
def qa(h:g0)(H:Hp):ai fy:=(ai.CC h.f'.dS).Mk λa=>(H a).z_
def gN(h:g0)(H:Hp):g0:=n9.W.hideAll h (qa h H)
theorem ON(h)(H):(gN h H).f'.dS=h.f'.dS:=n9.W.hideAll_size _ _
theorem Py(e:h.ik b=ab o)(n:H b=none):(gN h H).ik b=ab o:=
 n9.W.hideAll_get _ e λhm=>by
  have q:(H b).z_=true:=(w1k.mp hm).2;rw[n]at q;simp at q
def QH(e:(gN h H).ik b=ab o):h.ik b=ab o/\H b=none:=by
 have e':h.ik b=ab o:=n9.W.of_hideAll (qa h H) e;refine⟨e',?_⟩;cases q:H b with
 |none=>rfl
 |ab x=>
  grind [qa,g0.xX,gN,W.hideAll_none]
def zdF(g h:g0)(L:fy):ai (fy×sT):=(ai.CC h.f'.dS).Ϥ λa=>if a=L\/(g.ik a).z_=true then none else(h.ik a).a6 λo=>(a,o)
def xb(g h:g0)(L d:fy):ai (fy×sT):=(zdF g h L).Mk λp=>decide (p.1≠d)
structure θ(K:Fg)(mg:et->d3 d0)(k_:g0):Prop where
 AN:K.In k_
 _i:k_.Ns Yi mg
 blt:∃mb,k_.Ns Ϲ mb/\∀x:et,x≠"__name__"->mb x=_E x
 ë:k_.Ö
structure Cx where
 je:xc
 w:vr
 K:Fg
 mg:et->d3 d0
 k_:g0
 A:C_
 N:ai et
 ay:p5
 aF:Hp
 dt:S'
 tB:ai S'
 WZ:ai S'
 ex:ai fy
 fn:et->ie
 MT:ie
 pn:ai (fy×sT)
 xe:d0->p5->Prop
variable{X:Cx}
def gM(l:ai S'):ai fy:=l.Ϥ (·.ä)
abbrev Cx.fs(X:Cx):ai fy:=gM X.tB
def kD(sc:zF)(x:et):Prop:=sc.qW.g6 x=ab .local\/sc.qW.g6 x=ab .uL\/sc.qW.g6 x=ab .tD
def YU(sc:zF)(x:et):Prop:=sc.qW.g6 x=ab .local\/sc.qW.g6 x=ab .uL
def Look(dt:S')(h:g0)(m:et->d3 d0)(x:et)(u:d0):Prop:=
 (dt.zj x=ab .local/\m x=ab u)\/((dt.zj x=ab .uL\/dt.zj x=ab .tD)/\∃c,dt.Yh.g6 x=ab c/\h.Η c (ab u))
abbrev ip(P:fy)(q:et):sT:={o4:=.str q 0,pJ:=.MU #[.dr P]}
def gu(K:Fg)(H:Hp):Prop:=∀(a:fy)(q:et)(P:fy),(a,ip P q)∈K->∃ps:yb d0,H P=ab (.n0 ps)/\ps[0]?=ab (.xN true)/\ps[1]?=ab (.str q 0)
def gQ(K:Fg):ie:=K.t9 λp=>match p.2.o4 with
 |.str _ _=>false
 |_=>true
theorem gu.WX(h:gQ K=true):gu K H:=λa q P m=>by
 have:=w1c.mp h _ m;cases this
theorem gu.un{fs ex:ai fy}{h':g0}(t:gu K H)(u:Un fs ex H H' h h'):gu K H':=λa q P m=>by
 let⟨ps,e,p0,p1⟩:=t a q P m;let⟨_v,e'⟩:=u.fX P ps e;refine⟨_,e',?_,?_⟩
 .rw[w1z (by let⟨z,_⟩:=w2j.mp p0;exact z)];exact p0
 .rw[w1z (by let⟨z,_⟩:=w2j.mp p1;exact z)];exact p1
theorem gu.JN(t:gu K H)(hn:H D=none):gu K (oL H D o):=λa q P m=>by
 let⟨ps,e,p⟩:=t a q P m;exact⟨ps,by rw[aN (gU e hn)];exact e,p⟩
structure Cx.Ok(X:Cx):Prop where
 Yv:θ X.K X.mg X.k_
 zc:X.dt.fv.zc=.ZK
 _i:X.dt.å=Yi
 blt:X.dt.ϸ=Ϲ
 _U:X.ay.bj.f'.dS<=X.dt.YJ
 zT:∀x y c,X.dt.Yh.g6 x=ab c->X.dt.Yh.g6 y=ab c->x=y
 A':∀x,(X.dt.zj x=ab .uL\/X.dt.zj x=ab .tD)->∃c,X.dt.Yh.g6 x=ab c
 zP:∀x c,X.fn x=true->X.dt.Yh.g6 x=ab c->X.ay.bj.f'.dS<=c
 hd:X.MT=true->X.A.YV=none
 YH:X.A.YH=ab X.WZ
 NO:X.WZ=X.tB\/(X.WZ=X.dt::X.tB/\X.dt.ä=ab X.dt.YJ)
 CN:∀b∈X.ex,b≠X.dt.YJ/\∀x c,X.dt.Yh.g6 x=ab c->c≠b
 bs:∀b o,X.k_.ik b=ab o->X.ay.bj.ik b=ab o/\X.aF b=none
 o7:X.k_.f'.dS<=X.ay.bj.f'.dS
 xl:∀b o,X.k_.ik b=ab o->b∉X.ex
 tP:∀b∈X.ex,b∉X.fs
 fQ:X.ay.bj.ϗ X.k_ X.tB
 qx:∀b∈X.fs,X.aF b=none
 _m:gu X.K X.aF
structure j3(X:Cx)(dN:ai (fy×sT))(σ:ai (d3 V))(H:Hp)(s:p5):Prop where
 ok:X.Ok
 os:s.os=X.ay.os
 Td:Z6 s.YI
 k_:Un X.fs X.ex X.aF H X.ay.bj s.bj
 Zi:∃m,s.bj.Ns X.dt.YJ m/\∀(i:aO)(x:et)(v:V),X.N[i]?=ab x->σ[i]?=ab (ab v)->kD X.dt.fv x->∃u,uI v u/\Look X.dt s.bj m x u
 uL:∀x c,X.dt.Yh.g6 x=ab c->∃v,s.bj.Η c v
 tD:H X.dt.YJ=none
 fu:∀x c,X.dt.Yh.g6 x=ab c->H c=none
 YS:∀p∈X.pn++dN,s.bj.ik p.1=ab p.2/\H p.1=none/\p.1≠X.dt.YJ/\p.1∉X.fs/\∀v,p.2.pJ≠.uL v
 aQ:eh X.je X.w H s.bj
 uN:σ.aj=X.N.aj
section
variable{σ:ai (d3 V)}
theorem Cx.Ok.GW(ok:X.Ok)(e:X.k_.ik b=ab o):b∉X.fs:=λhb=>by
 have:=(ok.fQ.Yj hb).1
 grind
theorem j3.bs(I:j3 X dN σ H s):∀b o,X.k_.ik b=ab o->s.bj.ik b=ab o/\H b=none:=λb o e=>
 ⟨I.k_.xW b o (I.ok.bs b o e).1 (I.ok.bs b o e).2 (I.ok.GW e) (I.ok.xl b o e),I.k_.tD b o (I.ok.bs b o e).1 (I.ok.bs b o e).2 (I.ok.xl b o e)⟩
theorem j3.bk(I:j3 X dN σ H s):∀b o,X.k_.ik b=ab o->s.bj.ik b=ab o:=λb o e=>(I.bs b o e).1
theorem j3.Yv(I:j3 X dN σ H s):θ X.K X.mg X.k_:=I.ok.Yv
theorem j3.mw(I:j3 X dN σ H s):X.K.In s.bj:=I.ok.Yv.AN.YW I.bk
theorem j3.fr(I:j3 X dN σ H s):∃m,Fr X.k_ X.dt.YJ s.bj m:=
 let ⟨m,hn,_⟩:=I.Zi
 ⟨m,hn,I.bk,w1a I.ok.o7 I.ok._U⟩
theorem j3.lt(I:j3 X dN σ H s):X.dt.YJ<s.bj.f'.dS:=let ⟨_,hn,_⟩:=I.Zi;hn.lt
theorem j3.sz(I:j3 X dN σ H s):X.ay.bj.f'.dS<=s.bj.f'.dS:=w1a I.ok._U (w3p I.lt)
theorem j3.GX(I:j3 X dN σ H s)(h:s.bj.f'.dS<=a):a∉X.fs:=λhb=>by
 let⟨_,o,ho,_⟩:=I.ok.fQ.Yj hb
 exact uz (w1d (g0.xX ho) (w1a I.sz h)) (w2c _)
theorem j3.tL(I:j3 X dN σ H s):∀x c,X.dt.Yh.g6 x=ab c->c≠X.dt.YJ:=λx c e z=>by
 let⟨v,o,ho,hd⟩:=I.uL x c e;let⟨m,⟨o',es,ep,yw,Mp,_⟩,_⟩:=I.Zi
 grind
def j3.fQ(I:j3 X dN σ H s):s.bj.ϗ X.k_ X.tB:=by
 have t9:∀(l:ai S'),(∀b∈gM l,b∈X.fs)->X.ay.bj.ϗ X.k_ l->s.bj.ϗ X.k_ l:=by
  intro l
  induction l with
  |so=>intro _ _;trivial
  |qT dt r ih=>
   intro hs hl;let⟨hk,⟨L,o,hf,hn,ho,hd⟩,hr⟩:=hl;have hL:L∈X.fs:=hs L (by unfold gM;rw[w5k,hf];exact w1b);let⟨sl,e⟩:=I.k_.xM L o ho (I.ok.qx L hL) hL λz=>I.ok.tP L z hL
   exact⟨hk,⟨L,_,hf,hn,e,hd⟩,ih (λb hb=>hs b (by unfold gM;rw[w5k,hf];exact w0p _ hb)) hr⟩
 exact t9 X.tB (λ_ hb=>hb) I.ok.fQ
def j3.WZ(I:j3 X dN σ H s):s.bj.ϗ X.k_ X.WZ:=by
 rcases I.ok.NO with e|⟨e,hf⟩
 .rw[e];exact I.fQ
 .rw[e];let⟨m,hn,_⟩:=I.Zi;refine .qT (by rw[I.ok.zc];decide) hf hn ?_ I.fQ
  exact g0.ŕ (w1a I.ok.o7 I.ok._U)
theorem j3.j_(I:j3 X dN σ H s):∀b∈gM X.WZ,b∈X.dt.YJ::X.fs:=λb hb=>by
 rcases I.ok.NO with e|⟨e,hf⟩
 all_goals grind [gM]
theorem j3.oS(I:j3 X dN σ H s):∀b∈gM X.WZ,H b=none:=λb hb=>by
 rcases w0i.mp (I.j_ b hb)with e|hb
 .rw[e];exact I.tD
 .let⟨_,o,ho,_⟩:=I.ok.fQ.Yj hb
  exact I.k_.tD b o ho (I.ok.qx b hb) λz=>I.ok.tP b z hb
def j3.Zb{g':yb Ļ}{d':Drawn}{ch:ai fy}(I:j3 X dN σ H s)
  (pR:∀b∈ch,(b∈X.ex\/X.ay.bj.f'.dS<=b)/\b≠X.dt.YJ/\(∀x c,X.dt.Yh.g6 x=ab c->c≠b)/\∀p∈X.pn++dN,p.1≠b)
  (xW:∀b o,b≠X.dt.YJ->b∉X.fs->b∉ch->s.bj.ik b=ab o->H b=none->h'.ik b=ab o)
  (xM:∀b o,b≠X.dt.YJ->b∈X.fs->b∉ch->s.bj.ik b=ab o->H b=none->∃sl,h'.ik b=ab {o with YN:=sl})(tD:∀b o,b∉ch->s.bj.ik b=ab o->H b=none->H' b=none)
  (Zp:∀b o,b∉ch->s.bj.ik b=ab o->∃o',h'.ik b=ab o')
  (iD:∀b xs,H b=ab (.gs xs)->H' b=ab (.gs xs))(aX:∀b o u,H b=ab (.cK o u)->H' b=ab (.cK o u))(fX:∀b ps,H b=ab (.n0 ps)->∃_v,H' b=ab (.n0 (ps++_v)))
  (ns:∀m,s.bj.Ns X.dt.YJ m->h'.Ns X.dt.YJ m)(aQ:eh X.je X.w H' h')(hg:Z6 g'):
  j3 X dN σ H' {s with bj:=h',YI:=g',ψ:=d',tK:=t'}:=by
 have xh:∀b o,X.ay.bj.ik b=ab o->b≠X.dt.YJ:=λb o e=>w0t (w1d (g0.xX e) I.ok._U)
 have vq:∀b o,X.ay.bj.ik b=ab o->b∉X.ex->b∉ch:=λb o e hx hb=>by
  rcases(pR b hb).1 with z|z
  .exact hx z
  .exact uz (w1d (g0.xX e) z) (w2c _)
 have cellK:∀x c,X.dt.Yh.g6 x=ab c->∀v,s.bj.Η c v->h'.Η c v:=λx c e v ⟨o,ho,hd⟩=>by
  have A5:c∉ch:=λz=>(pR c z).2.2.1 x c e rfl
  by_cases hc:c∈X.fs
  .let⟨sl,q⟩:=xM c o (I.tL x c e) hc A5 ho (I.fu x c e);exact⟨_,q,hd⟩
  .exact⟨o,xW c o (I.tL x c e) hc A5 ho (I.fu x c e),hd⟩
 refine⟨I.ok,I.os,hg,⟨λb o e n hb hx=>?_,λb o e n hb hx=>?_,λb o e n hx=>?_,λb o e hx=>?_,λb xs e=>iD b xs (I.k_.iD b xs e),λb o xs e=>aX b o xs (I.k_.aX b o xs e),λb ps e=>?_⟩,?_,λx c e=>?_,?_,λx c e=>?_,λp hp=>?_,aQ,I.uN⟩
 .exact xW b o (xh b o e) hb (vq b o e hx) (I.k_.xW b o e n hb hx) (I.k_.tD b o e n hx)
 .let⟨sl,e1⟩:=I.k_.xM b o e n hb hx;let⟨xS,e2⟩:=xM b _ (xh b o e) hb (vq b o e hx) e1 (I.k_.tD b o e n hx);exact⟨xS,e2⟩
 .let⟨o',e1⟩:=I.k_.Zp b o e hx;exact tD b o' (vq b o e hx) e1 (I.k_.tD b o e n hx)
 .let⟨o',e1⟩:=I.k_.Zp b o e hx;exact Zp b o' (vq b o e hx) e1
 .let⟨m1,e1⟩:=I.k_.fX b ps e;let⟨m2,e2⟩:=fX b _ e1;exact⟨m1++m2,by rw[e2,yb.append_assoc]⟩
 .let⟨m,hn,hl⟩:=I.Zi;refine⟨m,ns m hn,λi x v e1 e2 e3=>?_⟩
  let⟨u,r,l⟩:=hl i x v e1 e2 e3;refine⟨u,r,?_⟩;rcases l with l|⟨k,c,e,z⟩
  .exact .jd l
  .exact .lb ⟨k,c,e,cellK x c e _ z⟩
 .let⟨v,z⟩:=I.uL x c e;exact⟨v,cellK x c e v z⟩
 .let⟨m,⟨o,_,_,ho,_⟩,_⟩:=I.Zi;exact tD _ o (λz=>(pR _ z).2.1 rfl) ho I.tD
 .let⟨v,o,ho,hd⟩:=I.uL x c e;exact tD c o (λz=>(pR c z).2.2.1 x c e rfl) ho (I.fu x c e)
 .let⟨e,n,ne,nf,d⟩:=I.YS p hp;have A5:p.1∉ch:=λz=>(pR p.1 z).2.2.2 p hp rfl
  exact⟨xW p.1 p.2 ne nf A5 e n,tD p.1 p.2 A5 e n,ne,nf,d⟩
def j3.un(I:j3 X dN σ H s)(u:Un X.fs [] H H' s.bj h')(aQ:eh X.je X.w H' h'):j3 X dN σ H' {s with bj:=h',tK:=t'}:=by
 let⟨m,⟨o,es,ep,ho,r⟩,_⟩:=id I.Zi;let⟨sl,hL⟩:=u.uJ ho I.tD (by simp)
 exact I.Zb (g':=s.YI) (d':=s.ψ) (ch:=[]) (λ_ z=>nomatch z) (λb o _ hb _ e n=>u.xW b o e n hb (by simp)) (λb o _ hb _ e n=>u.xM b o e n hb (by simp)) (λb o _ e n=>u.tD b o e n (by simp)) (λb o _ e=>u.Zp b o e (by simp)) u.iD u.aX u.fX (λm' hm=>by
  let⟨o',Fw,Fv,yw,r'⟩:=hm;rw[ho]at yw;cases yw;exact⟨_,Fw,Fv,hL,r'⟩) aQ I.Td
def j3.zb{g':yb Ļ}{d':Drawn}(I:j3 X dN σ H s)(u:Un (gM X.WZ) ch H H' s.bj h')(aQ:eh X.je X.w H' h')(hg:Z6 g')
  (pR:∀b∈ch,(b∈X.ex\/X.ay.bj.f'.dS<=b)/\b≠X.dt.YJ/\(∀x c,X.dt.Yh.g6 x=ab c->c≠b)/\∀p∈X.pn++dN,p.1≠b):
  j3 X dN σ H' {s with bj:=h',YI:=g',ψ:=d',tK:=t'}:=by
 let⟨m,⟨o,es,ep,ho,r⟩,_⟩:=id I.Zi;let⟨sl,hL⟩:=u.uJ ho I.tD λz=>(pR _ z).2.1 rfl
 exact I.Zb (ch:=ch) pR (λb o hL hb hc e n=>u.xW b o e n (λz=>(w0i.mp (I.j_ b z)).oa hL hb) hc) (λb o _ _ hc e n=>u.uJ e n hc) (λb o hc e n=>u.tD b o e n hc) (λb o hc e=>u.Zp b o e hc) u.iD u.aX u.fX (λm' hm=>by
  let⟨o',Fw,Fv,yw,r'⟩:=hm;rw[ho]at yw;cases yw;exact⟨_,Fw,Fv,hL,r'⟩) aQ hg
def j3.Z5{t':aO}{it:fy}(I:j3 X dN σ H s)(k:∀b o,b≠it->s.bj.ik b=ab o->h'.ik b=ab o)(hn:H it=none)(hL:it≠X.dt.YJ)
  (h1:it∈X.ex\/X.ay.bj.f'.dS<=it)(h2:∀x c,X.dt.Yh.g6 x=ab c->c≠it)(h3:∀p∈X.pn++dN,p.1≠it):j3 X dN σ H {s with bj:=h',tK:=t'}:=by
 have MW:∀b u,H b=ab u->b≠it:=λb u e z=>by rw[z,hn]at e;cases e
 refine I.Zb (g':=s.YI) (d':=s.ψ) (ch:=[it]) (λb hb=>?_) (λb o _ _ hc e _=>k b o (λz=>hc (by simp[z])) e) (λb o _ _ hc e _=>⟨o.YN,k b o (λz=>hc (by simp[z])) e⟩) (λ_ _ _ _ n=>n)
  (λb o hc e=>⟨o,k b o (λz=>hc (by simp[z])) e⟩) (λ_ _ e=>e) (λ_ _ _ e=>e) (λb ps e=>⟨#[],by rw[e];simp⟩) (λm hm=>?_) (λb u e=>?_) I.Td
 .have e:b=it:=by simpa using hb
  subst e;exact⟨h1,hL,h2,h3⟩
 .let⟨o,es,ep,ho,r⟩:=hm;exact⟨o,es,ep,k _ o (Ne.symm hL) ho,r⟩
 .refine(I.aQ b u e).cF (λc v hc q=>k c v ?_ q) (λ_ q=>q) λ_ _ _ q=>q
  rcases hc with z|z
  .rw[z];exact MW b u e
  .exact MW c _ z
theorem j3.Ym(I:j3 X dN σ H s)(t:aO):j3 X dN σ H {s with tK:=t}:=I.un (h':=s.bj) (t':=t) Un.t8 I.aQ
theorem j3.Yc{t':aO}(I:j3 X dN σ H s)(k:∀b u,s.bj.ik b=ab u->h'.ik b=ab u):j3 X dN σ H {s with bj:=h',tK:=t'}:=I.un (Un.Yc k) (I.aQ.Yc k)
theorem j3.JN{a:fy}{o:HO}{t':aO}(I:j3 X dN σ H s)(k:∀b u,s.bj.ik b=ab u->h'.ik b=ab u)(hp:s.bj.f'.dS<=a)(vd:aU X.je X.w (oL H a o) h' a o):
  j3 X dN σ (oL H a o) {s with bj:=h',tK:=t'}:=I.un (Un.JN k hp (I.aQ.xK hp)) (I.aQ.JN k hp vd)
theorem j3.Zl{x e:fy}{o:HO}{t':aO}(I:j3 X dN σ H s)(mu:zu (H x))(he:e=x\/H e=ab (.ku x))(k:∀b u,b≠e->s.bj.ik b=ab u->h'.ik b=ab u)(tY:∃u,h'.ik e=ab u)
  (vd:aU X.je X.w (oL H x o) h' x o):j3 X dN σ (oL H x o) {s with bj:=h',tK:=t'}:=I.un (Un.Zl mu he k tY) (I.aQ.Zl mu he k tY vd)
theorem j3.weak{aJ:ai (d3 V)}(I:j3 X dN σ H s)(hl:aJ.aj=σ.aj)(w:∀(i:aO) v,aJ[i]?=ab (ab v)->σ[i]?=ab (ab v)):j3 X dN aJ H s:=
 ⟨I.ok,I.os,I.Td,I.k_,let ⟨m,hn,Mx⟩:=I.Zi;⟨m,hn,λi x v e1 e2 e3=>Mx i x v e1 (w i v e2) e3⟩,I.uL,I.tD,I.fu,I.YS,I.aQ,hl.kZ I.uN⟩
theorem j3.jm{pins':ai (fy×sT)}(I:j3 X dN σ H s)(h:∀p∈pins',s.bj.ik p.1=ab p.2/\H p.1=none/\p.1≠X.dt.YJ/\p.1∉X.fs/\∀v,p.2.pJ≠.uL v):j3 X pins' σ H s:=
 ⟨I.ok,I.os,I.Td,I.k_,I.Zi,I.uL,I.tD,I.fu,λp hp=>(w2s.mp hp).oa (λz=>I.YS p (w2k _ z)) (h p),I.aQ,I.uN⟩
def Pz(hN:N.xZ){j:aO}(a:N[i]?=ab x)(b:N[j]?=ab x):i=j:=by
 let⟨h1,e1⟩:=w0b.mp a;let⟨h2,e2⟩:=w0b.mp b;exact(ai.getElem_inj hN).mp (e1.kZ e2.symm)
def zbR{Q:Unit->p5->Prop}(I:j3 X dN σ H s)(hN:X.N.xZ)(hi:X.N[i]?=ab x)(hx:YU X.dt.fv x)(r:uI v u)
  (h:∀s',j3 X dN (σ.rk i (ab v)) H s'->(∃a,g0.Z_ a s.bj s'.bj/\(a=X.dt.YJ\/X.dt.Yh.g6 x=ab a))->Q () s')(hf:autoParam (X.fn x=true\/X.dt.fv.qW.g6 x=ab .local) jL):oP M A (storeName X.dt x u) Q E s:=by
 let⟨m,hn,hl⟩:=id I.Zi;have FK:(X.dt.fv.zc==.class||(X.dt.fv.zc==.module&&X.dt.YJ != X.dt.å))=false:=by rw[I.ok.zc];rfl
 have Ap:i<σ.aj:=by rw[I.uN];exact(w0b.mp hi).1
 have tL:=I.tL
 have Ų:∀{a:fy}{h':g0},(∃o,s.bj.ik a=ab o/\H a=none)->g0.Z_ a s.bj h'->eh X.je X.w H h':=λ{a h'} ha hs b ob e=>by
  let⟨_,_,cL⟩:=ha;refine(I.aQ b ob e).cF (λc w' hc q=>(hs.2 c ?_).kZ q) (λ_ q=>q) λ_ _ _ q=>q
  rintro rfl;rcases hc with rfl|hc
  .rw[cL]at e;cases e
  .rw[cL]at hc;cases hc
 rcases hx with hk|hk
 .refine wpAny_storeName_local hk hn (λh' Ga hs=>?_) FK
  let⟨zc5,_,_,VU,_⟩:=id hn;refine h _ ⟨I.ok,I.os,I.Td,⟨λb o e n hb hx=>?_,λb o e n hb hx=>?_,I.k_.tD,λb o e hx=>?_,I.k_.iD,I.k_.aX,I.k_.fX⟩,⟨_,Ga,λj y v' e1 e2 e3=>?_⟩,λy c e=>?_,I.tD,I.fu,λp hp=>?_,Ų ⟨zc5,VU,I.tD⟩ hs,by simpa using I.uN⟩ ⟨_,hs,.jd rfl⟩
  .exact(hs.2 b (w0t (w1d (g0.xX e) I.ok._U))).kZ (I.k_.xW b o e n hb hx)
  .let⟨sl,e1⟩:=I.k_.xM b o e n hb hx;exact⟨sl,(hs.2 b (w0t (w1d (g0.xX e) I.ok._U))).kZ e1⟩
  .let⟨o',e1⟩:=I.k_.Zp b o e hx;exact⟨o',(hs.2 b (w0t (w1d (g0.xX e) I.ok._U))).kZ e1⟩
  .by_cases hj:j=i
   .subst hj;rw[hi]at e1;cases e1;rw[w0k Ap]at e2;cases e2;exact⟨u,r,.jd ⟨hk,by simp⟩⟩
   .rw[w0h (Ne.symm hj)]at e2;let⟨u',r',q⟩:=hl j y v' e1 e2 e3;refine⟨u',r',?_⟩;rcases q with⟨k,e⟩|⟨k,c,e,z⟩
    .refine .jd ⟨k,?_⟩;have:y≠x:=λe=>hj (Pz hN e1 (e ▸ hi))
     simp[this,e]
    .exact .lb ⟨k,c,e,z.ñ hs (tL y c e)⟩
  .let⟨w',z⟩:=I.uL y c e;exact⟨w',z.ñ hs (tL y c e)⟩
  .let⟨e,n,ne,nf,d⟩:=I.YS p hp;exact⟨(hs.2 p.1 ne).kZ e,n,ne,nf,d⟩
 .have qC:X.fn x=true:=by
   rcases hf with z|z
   .exact z
   .rw[z]at hk;cases hk
  let⟨c,hc⟩:=I.ok.A' x (.jd hk);let⟨w',z⟩:=I.uL x c hc;refine wpAny_storeName_cell I.ok.zc hk hc z (λh' Mm hs=>?_)
  let⟨oc,wK,Ge⟩:=id z;refine h {s with bj:=h'} ⟨I.ok,I.os,I.Td,⟨λb o e n hb hx=>?_,λb o e n hb hx=>?_,I.k_.tD,λb o e hx=>?_,I.k_.iD,I.k_.aX,I.k_.fX⟩,⟨m,hn.ñ hs (Ne.symm (tL x c hc)),λj y v' e1 e2 e3=>?_⟩,λy c' e=>?_,I.tD,I.fu,λp hp=>?_,Ų ⟨oc,wK,I.fu x c hc⟩ hs,by simpa using I.uN⟩ ⟨c,hs,.lb hc⟩
  .exact(hs.2 b (w0t (w1d (g0.xX e) (I.ok.zP x c qC hc)))).kZ (I.k_.xW b o e n hb hx)
  .let⟨sl,e1⟩:=I.k_.xM b o e n hb hx;exact⟨sl,(hs.2 b (w0t (w1d (g0.xX e) (I.ok.zP x c qC hc)))).kZ e1⟩
  .let⟨o',e1⟩:=I.k_.Zp b o e hx;exact⟨o',(hs.2 b (w0t (w1d (g0.xX e) (I.ok.zP x c qC hc)))).kZ e1⟩
  .by_cases hj:j=i
   .subst hj;rw[hi]at e1;cases e1;rw[w0k Ap]at e2;cases e2;exact⟨u,r,.lb ⟨.jd hk,c,hc,Mm⟩⟩
   .rw[w0h (Ne.symm hj)]at e2;let⟨u',r',q⟩:=hl j y v' e1 e2 e3;refine⟨u',r',?_⟩;rcases q with q|⟨k,c',e,z'⟩
    .exact .jd q
    .refine .lb ⟨k,c',e,z'.ñ hs ?_⟩;rintro rfl;exact hj (Pz hN e1 (I.ok.zT _ _ _ e hc ▸ hi))
  .by_cases Mo:c'=c
   .subst Mo;exact⟨_,Mm⟩
   .let⟨w2,z2⟩:=I.uL y c' e;exact⟨w2,z2.ñ hs Mo⟩
  .let⟨e,n,ne,nf,d⟩:=I.YS p hp;refine⟨(hs.2 p.1 ?_).kZ e,n,ne,nf,d⟩;intro q;rw[q,wK]at e;have q':oc=p.2:=d3.ab.zT e;exact d w' (by rw[<- q'];exact Ge)
theorem PB{Q:Unit->p5->Prop}(I:j3 X dN σ H s)(hN:X.N.xZ)(hi:X.N[i]?=ab x)(hx:YU X.dt.fv x)(r:uI v u)
  (h:∀s',j3 X dN (σ.rk i (ab v)) H s'->Q () s')(hf:autoParam (X.fn x=true\/X.dt.fv.qW.g6 x=ab .local) jL):oP M A (storeName X.dt x u) Q E s:=
 zbR I hN hi hx r (λs' I' _=>h s' I') hf
def j3.u0{s':p5}{ch:ai fy}(I:j3 X dN σ H s)(ho:s'.os=s.os)(u:Un (gM X.WZ) ch H H' s.bj s'.bj)(aQ:eh X.je X.w H' s'.bj)(hg:Z6 s'.YI)
  (pR:∀b∈ch,(b∈X.ex\/X.ay.bj.f'.dS<=b)/\b≠X.dt.YJ/\(∀x c,X.dt.Yh.g6 x=ab c->c≠b)/\∀p∈X.pn++dN,p.1≠b):j3 X dN σ H' s':=by
 let⟨h',g',d',t',o'⟩:=s';have e:o'=s.os:=ho;subst e;exact I.zb (g':=g') (t':=t') (d':=d') u aQ hg pR
end
abbrev XK:=d0->d3 fy->Hp->Prop
abbrev St:=ai (d3 V)
variable{σ:St}
abbrev VK:=V->Hp->Prop
abbrev TE:=St->Hp->VK->Prop
variable{ta te:TE}
abbrev TT:=St->Hp->(ie->Hp->Prop)->Prop
abbrev TA:=St->Hp->(ai V->Hp->Prop)->Prop
structure _B where
 nx:St->Hp->Prop
 rt:VK
 bk:St->Hp->Prop:=λ_ _=>vk
 ct:St->Hp->Prop:=λ_ _=>vk
abbrev TS:=_B->St->Hp->Prop
variable{tb:TS}
def EP(X:Cx)(dN:ai (fy×sT))(σ:St)(Q:VK)(u:d0)(s':p5):Prop:=∃v H',j3 X dN σ H' s'/\uI v u/\Q v H'
def TP(X:Cx)(dN:ai (fy×sT))(σ:St)(Q:ie->Hp->Prop)(b:ie)(s':p5):Prop:=∃H',j3 X dN σ H' s'/\Q b H'
def AP(X:Cx)(dN:ai (fy×sT))(σ:St)(Q:ai V->Hp->Prop)(us:ai d0)(s':p5):Prop:=∃vs H',j3 X dN σ H' s'/\uw vs us/\Q vs H'
def SP(X:Cx)(dN:ai (fy×sT))(D:_B)(f:Flow)(s':p5):Prop:=
 match f with
 |.next=>∃aJ H',j3 X dN aJ H' s'/\D.nx aJ H'
 |._r=>∃aJ H',j3 X dN aJ H' s'/\D.bk aJ H'
 |._s=>∃aJ H',j3 X dN aJ H' s'/\D.ct aJ H'
 |.CJ u=>∃v aJ H',j3 X dN aJ H' s'/\uI v u/\D.rt v H'
def PE(X:Cx)(e:p6)(t:TE):Prop:=
 ∀(dN:ai (fy×sT))(s:p5)(σ:St)(H:Hp)(Q:VK),j3 X dN σ H s->t σ H Q->oP (qX X.je X.w) X.A (eval e X.dt) (EP X dN σ Q) X.xe s
def PT(X:Cx)(e:p6)(t:TT):Prop:=
 ∀(dN:ai (fy×sT))(s:p5)(σ:St)(H:Hp)(Q:ie->Hp->Prop),j3 X dN σ H s->t σ H Q->oP (qX X.je X.w) X.A (Ç e X.dt (eval e X.dt)) (TP X dN σ Q) X.xe s
def PW(X:Cx)(e:p6)(t:TT):Prop:=
 ∀(Ω:_R d0)(dN:ai (fy×sT))(s:p5)(σ:St)(H:Hp)(Q:ie->Hp->Prop),j3 X dN σ H s->t σ H Q->oP (qX X.je X.w) X.A (Ç e X.dt Ω) (TP X dN σ Q) X.xe s
theorem PW.pt{t:TT}(h:PW X e t):PT X e t:=h _
def PA(X:Cx)(es:ai p6)(t:TA):Prop:=
 ∀(gw:vW)(dN:ai (fy×sT))(s:p5)(σ:St)(H:Hp)(Q:ai V->Hp->Prop),j3 X dN σ H s->t σ H Q->oP (qX X.je X.w) X.A (Î (y0 gw (pg es X.dt))) (AP X dN σ Q) X.xe s
def PS(X:Cx)(st:Mu)(t:TS):Prop:=
 ∀(dN:ai (fy×sT))(s:p5)(σ:St)(H:Hp)(D:_B),j3 X dN σ H s->t D σ H->oP (qX X.je X.w) X.A (exec st X.dt) (SP X dN D) X.xe s
def l7(X:Cx)(st:ai Mu)(t:TS):Prop:=
 ∀(dN:ai (fy×sT))(s:p5)(σ:St)(H:Hp)(D:_B),j3 X dN σ H s->t D σ H->oP (qX X.je X.w) X.A (execs st X.dt) (SP X dN D) X.xe s
theorem bq{α:Type}{t:_R α}{Q Q':α->p5->Prop}(h:oP M A t Q E s)(hQ:∀a s,Q a s->Q' a s):oP M A t Q' E s:=Zs h hQ λ_ _ x=>x
section
def r_(i:aO):TE:=λσ H Q=>∃v,σ[i]?=ab (ab v)/\Q v H
def tC(v:V):TE:=λ_ H Q=>Q v H
def z9l(hN:X.N[i]?=ab x)(hv:kD X.dt.fv x)(hd:autoParam ((x==("__debug__":et))=false) jK)(fg:autoParam ((x==("__classdict__":et))=false) jK):PE X (.oh x gw) (r_ i):=by
 intro dN s σ H Q I h;let⟨v,e,h⟩:=h;let⟨m,hn,hl⟩:=I.Zi;let⟨u,r,l⟩:=hl i x v hN e hv;have xT:EP X dN σ Q u s:=⟨v,H,I,r,h⟩;rcases l with⟨hk,hm⟩|⟨hk,c,hc,d8⟩
 .exact Ŷ (wpAny_loadName_local I.ok.zc hk hn hm xT) hd
 .rcases hk with hk|hk
  .exact Ŷ (wpAny_loadName_cell I.ok.zc hk hc d8 xT) hd
  .exact Ŷ (wpAny_loadName_free I.ok.zc hk hc d8 xT fg) hd
theorem K7{i j gw}:PE X (.ZD (.aT i) j gw) (tC (.aT i)):=λ_ _ _ H _ I h=>wpAny_Constant_int ⟨.aT i,H,I.Ym _,⟨_,rfl⟩,h⟩
theorem T9{b j gw}:PE X (.ZD (.xN b) j gw) (tC (.bl b)):=λ_ _ _ H _ I h=>Constant_bool ⟨.bl b,H,I,rfl,h⟩
theorem z9m{j gw}:PE X (.ZD .none j gw) (tC .aB):=λ_ _ _ H _ I h=>Constant_none ⟨.aB,H,I,rfl,h⟩
theorem z9n{x j gw}:PE X (.ZD (.str x) j gw) (tC (.str x)):=λ_ _ _ H _ I h=>Zc.Constant_str ⟨.str x,H,I.Ym _,⟨_,rfl⟩,h⟩
def Gl(X:Cx)(x:et):Prop:=X.dt.zj x=ab .globalImplicit
theorem Ej{Q:d0->p5->Prop}(I:j3 X dN σ H s)(hg:Gl X x)(hm:X.mg x=ab u)(h:Q u s)
  (hd:autoParam ((x==("__debug__":et))=false) jK):oP (qX X.je X.w) X.A (eval (.oh x gw) X.dt) Q E s:=
 Zc.ž I.ok.zc hg (Zc.loadGlobal_global (by rw[I.ok._i];exact I.Yv._i.YW I.bk) hm h) hd
def pY{Q:d0->p5->Prop}(I:j3 X dN σ H s)(hg:Gl X x)(hm:X.mg x=none)(hv:_E x=ab u)(h:Q u s)
  (hn:autoParam (x≠"__name__") jK)(hd:autoParam ((x==("__debug__":et))=false) jK):oP (qX X.je X.w) X.A (eval (.oh x gw) X.dt) Q E s:=by
 let⟨mb,h1,h2⟩:=I.Yv.blt;exact Zc.ž I.ok.zc hg (Zc.loadGlobal_builtin (by rw[I.ok._i];exact I.Yv._i.YW I.bk) hm (by rw[I.ok.blt];exact h1.YW I.bk) ((h2 x hn).kZ hv) h) hd
theorem QI{v:V}(hg:Gl X x)(hm:X.mg x=ab u)(r:uI v u)(hd:autoParam ((x==("__debug__":et))=false) jK):PE X (.oh x gw) (tC v):=
 λ_ _ _ H _ I h=>Ej I hg hm ⟨v,H,I,r,h⟩ hd
theorem z3u{v:V}(hg:Gl X x)(hm:X.mg x=none)(hv:_E x=ab u)(r:uI v u)(hn:autoParam (x≠"__name__") jK)(hd:autoParam ((x==("__debug__":et))=false) jK):PE X (.oh x gw) (tC v):=
 λ_ _ _ H _ I h=>pY I hg hm hv ⟨v,H,I,r,h⟩ hn hd
variable{a b:p6}{tb:TE}
def PC(X:Cx)(op:ϱ)(a b:p6)(t:TE):Prop:=
 ∀(dN:ai (fy×sT))(s:p5)(σ:St)(H:Hp)(Q:VK),j3 X dN σ H s->t σ H Q ->
  oP (qX X.je X.w) X.A (eval a X.dt) (λv aD=>oP (qX X.je X.w) X.A (eval b X.dt) (λu mP=>oP (qX X.je X.w) X.A (ZI op v u) (EP X dN σ Q) X.xe mP) X.xe aD) X.xe s
def zde(b:p6)(h:op≠.In)(h2:op≠.Z9):_d op b=false:=by
 have e1:(op==ϱ.In)=false:=by grind
 have e2:(op==ϱ.Z9)=false:=by grind
 cases b<;>simp[_d,e1,e2]
def zdD(t:TE):TT:=λσ H Q=>t σ H λx H1=>∃c,x=.bl c/\Q c H1
def Rx{t:TE}(h:PC X op a b t)(h1:_d op b=false:=by first|exact zde _ (by decide) (by decide)|rfl):PT X (.Yz a [op] [b] gw) (zdD t):=by
 intro dN s σ H Q I hw;refine zd7 (bq (h dN s σ H _ I hw) λv s1 h1=>bq h1 λu s2 h2=>bq h2 λc s3 ⟨x,H1,I1,r1,q1⟩=>?_) h1
 let⟨d,rfl,q⟩:=q1;cases r1;exact Ε ⟨H1,I1,q⟩
variable{tA Es:TT}{xb:ai p6}
def B'(t u:TT):TT:=λσ H Q=>t σ H λc H1=>if c=true then u σ H1 Q else Q false H1
def NR(t u:TT):TT:=λσ H Q=>t σ H λc H1=>if c=true then Q true H1 else u σ H1 Q
def JS(t:TT):TT:=λσ H Q=>t σ H λc H1=>Q (!c) H1
def z3v(ha:PT X a tA):PW X (.YO ._P [a] gw) tA:=by
 intro wh dN s σ H Q I h;refine isTrue_and (bq (ha dN s σ H Q I h) λc s1 e=>?_)
 grind [isTrue_and_nil]
def z9o(ha:PT X a tA):PW X (.YO .Or [a] gw) tA:=by
 intro wh dN s σ H Q I h;refine isTrue_or (bq (ha dN s σ H Q I h) λc s1 e=>?_)
 cases c with
 |false=>exact isTrue_or_nil e
 |true=>exact e
def z9p(ha:PT X a tA)(hb:PW X (.YO ._P (b::xb) gw) Es):PW X (.YO ._P (a::b::xb) gw) (B' tA Es):=by
 intro wh dN s σ H Q I h;refine isTrue_and (bq (ha dN s σ H _ I h) λc s1 ⟨H1,I1,q1⟩=>?_)
 cases c with
 |true=>exact hb wh dN s1 σ H1 Q I1 q1
 |false=>exact⟨H1,I1,q1⟩
def T_(ha:PT X a tA)(hb:PW X (.YO .Or (b::xb) gw) Es):PW X (.YO .Or (a::b::xb) gw) (NR tA Es):=by
 intro wh dN s σ H Q I h;refine isTrue_or (bq (ha dN s σ H _ I h) λc s1 ⟨H1,I1,q1⟩=>?_)
 cases c with
 |true=>exact⟨H1,I1,q1⟩
 |false=>exact hb wh dN s1 σ H1 Q I1 q1
def z9q(ha:PT X a tA):PT X (._T .Not a gw) (JS tA):=by
 intro dN s σ H Q I h;exact isTrue_not (ha dN s σ H (λc H1=>Q (!c) H1) I h)
def Ca(ta tb:TE):TE:=λσ H Q=>ta σ H λx H1=>∃c,x=.bl c/\if c=true then tb σ H1 Q else Q (.bl false) H1
def JT(ta tb:TE):TE:=λσ H Q=>ta σ H λx H1=>∃c,x=.bl c/\if c=true then Q (.bl true) H1 else tb σ H1 Q
def Ck(ta:TE):TE:=λσ H Q=>ta σ H λx H1=>∃c,x=.bl c/\Q (.bl (!c)) H1
theorem z9r{op}{t:TE}(h:PE X a t):PE X (.YO op [a] gw) t:=λdN s σ H Q I hw=>BoolOp_one (h dN s σ H Q I hw)
def z9s(ha:PE X a ta)(hb:PE X (.YO ._P (b::xb) gw) tb):PE X (.YO ._P (a::b::xb) gw) (Ca ta tb):=by
 intro dN s σ H Q I h;refine BoolOp_and (bq (ha dN s σ H _ I h) λv s1 ⟨x,H1,I1,r1,q1⟩=>?_)
 let⟨c,rfl,q1⟩:=q1;cases r1;refine Ε ?_;cases c with
 |true=>exact hb dN s1 σ H1 Q I1 q1
 |false=>exact⟨.bl false,H1,I1,rfl,q1⟩
def Ua(ha:PE X a ta)(hb:PE X (.YO .Or (b::xb) gw) tb):PE X (.YO .Or (a::b::xb) gw) (JT ta tb):=by
 intro dN s σ H Q I h;refine BoolOp_or (bq (ha dN s σ H _ I h) λv s1 ⟨x,H1,I1,r1,q1⟩=>?_)
 let⟨c,rfl,q1⟩:=q1;cases r1;refine Ε ?_;cases c with
 |false=>exact hb dN s1 σ H1 Q I1 q1
 |true=>exact⟨.bl true,H1,I1,rfl,q1⟩
def z9t(ha:PE X a ta):PE X (._T .Not a gw) (Ck ta):=by
 intro dN s σ H Q I h;refine ł (bq (ha dN s σ H _ I h) λv s1 ⟨x,H1,I1,r1,q1⟩=>?_)
 let⟨c,rfl,q1⟩:=q1;cases r1;exact not_of (Ε ⟨.bl (!c),H1,I1,rfl,q1⟩)
def WS(t:TT)(ta tb:TE):TE:=λσ H Q=>t σ H λc H1=>if c=true then ta σ H1 Q else tb σ H1 Q
def y8x(hc:PT X c tA)(ha:PE X a ta)(hb:PE X b tb):PE X (.IfExp c a b gw) (WS tA ta tb):=by
 intro dN s σ H Q I h;refine wpAny_IfExp (bq (hc dN s σ H _ I h) λd s1 ⟨H1,I1,q1⟩=>?_)
 cases d with
 |true=>exact ha dN s1 σ H1 Q I1 q1
 |false=>exact hb dN s1 σ H1 Q I1 q1
end
def bD(K:Fg)(H:Hp)(a:fy)(xs:ai V):Prop:=
 Rd H a (.dI xs) \/
  ∃(o:sT)(aw:yb d0)(n:aO),K.g6 a=ab o/\o.o4=.ke "list" /\ o.xg=none/\o.pJ=.p7 aw n/\aw.dS<=wm/\uw xs aw.wL
def bK(K:Fg)(H:Hp)(a:fy)(xs:ai V):Prop:=
 Rd H a (.gs xs) \/
  ∃(o:sT)(aw:yb d0)(n:aO),K.g6 a=ab o/\o.o4=.ke "tuple" /\ o.xg=none/\o.pJ=.p7 aw n/\aw.dS<=wm/\uw xs aw.wL
def Fl:d0->d3 V
 |.none=>ab .aB
 |.xN b=>ab (.bl b)
 |.aT i _=>ab (.aT i)
 |.str x _=>ab (.str x)
 |.bytes b _=>ab (.uZ b)
 |.float b _=>ab (.u9 b)
 |.dr a=>ab (.dr a)
 |.ke n=>ab (.ty n)
 |_=>none
def uI.abs{x:V}(r:uI x u):Fl u=ab x:=by
 cases x with
 |aB=>cases r;rfl
 |bl _=>cases r;rfl
 |aT _=>let⟨t,rfl⟩:=r;rfl
 |str _=>let⟨t,rfl⟩:=r;rfl
 |uZ _=>let⟨t,rfl⟩:=r;rfl
 |u9 _=>let⟨t,rfl⟩:=r;rfl
 |dr _=>cases r;rfl
 |ty _=>cases r;rfl
theorem uI.zT{x y:V}(r:uI x u)(q:uI y u):x=y:=d3.ab.zT (r.abs.symm.kZ q.abs)
theorem uw.zT:∀{xs ys:ai V}{us:ai d0},uw xs us->uw ys us->xs=ys
 |_,_,_,.so,.so=>rfl
 |_,_,_,.qT r t,.qT r' t'=>by rw[r.zT r',uw.zT t t']
section
variable{ys:ai V}
theorem bD.of(h:H a=ab (.dI xs)):bD K H a xs:=.jd (.jd h)
theorem bK.of(h:H a=ab (.gs xs)):bK K H a xs:=.jd (.jd h)
def j3.xm(I:j3 X dN σ H s)(h:bD X.K H a xs):∃aw:ai d0,uw xs aw/\PlainL s.bj a aw.l8/\xs.aj<=wm:=by
 rcases h with h|⟨o,aw,n,hk,hc,hd,hs,hz,r⟩
 .let⟨z,aw,n,r,e⟩:=h.ok I.aQ;exact⟨aw,r,⟨_,n,e,rfl,rfl,rfl⟩,z⟩
 .refine⟨aw.wL,r,⟨o,n,I.mw a o hk,hc,hd,by simpa using hs⟩,?_⟩;have e:=r.aj;simp only[w3z]at e;omega
def j3.Tc(I:j3 X dN σ H s)(h:bK X.K H a xs):∃aw:ai d0,uw xs aw/\Z8 s.bj a aw.l8/\xs.aj<=wm:=by
 rcases h with h|⟨o,aw,n,hk,hc,_,hs,hz,r⟩
 .let⟨z,aw,r,p,_⟩:=h.ok I.aQ;exact⟨aw,r,p,z⟩
 .refine⟨aw.wL,r,⟨o,I.mw a o hk,hc,n,by simpa using hs⟩,?_⟩
  grind [uw.aj,yb.length_toList]
def j3.ig(I:j3 X dN σ H s)(h:bD X.K H a xs)(h':bD X.K H a ys):xs=ys:=by
 let⟨aw,r,⟨o,n,e,_,_,d⟩,_⟩:=I.xm h;let⟨its',r',⟨o',n',e',_,_,d'⟩,_⟩:=I.xm h';rw[e]at e';cases e';rw[d]at d';injection d' with d1 _
 have:aw=its':=by grind
 subst this;exact r.zT r'
def j3.gh(I:j3 X dN σ H s)(h:bK X.K H a xs)(h':bK X.K H a ys):xs=ys:=by
 let⟨aw,r,⟨o,e,_,n,d⟩,_⟩:=I.Tc h;let⟨its',r',⟨o',e',_,n',d'⟩,_⟩:=I.Tc h';rw[e]at e';cases e';rw[d]at d';injection d' with d1 _
 have:aw=its':=by grind
 subst this;exact r.zT r'
end
section
variable{st:Mu}{xb:ai Mu}{t u:TS}
def Ci:TS:=λD σ H=>D.nx σ H
def Co(t u:TS):TS:=λD σ H=>t {D with nx:=u D} σ H
theorem z3w:l7 X [] Ci:=λ_ _ σ H _ I h=>ı ⟨σ,H,I,h⟩
def y8y(h1:PS X st t)(h2:l7 X xb u):l7 X (st::xb) (Co t u):=by
 intro dN s σ H D I h;refine zd5 (bq (h1 dN s σ H {D with nx:=u D} I h) λf s1 q=>?_)
 cases f with
 |next=>
  let⟨aJ,H',I',q⟩:=q;exact h2 dN s1 aJ H' D I' q
 |CJ v=>exact q
 |_r=>exact q
 |_s=>exact q
def z3x(h1:PS X st t):l7 X [st] t:=by
 intro dN s σ H D I h;refine zd5 (bq (h1 dN s σ H D I h) λf s1 q=>?_)
 grind [ı]
def j3.quiet(I:j3 X dN σ H s):interactive X.dt=false:=by simp[interactive,I.ok.zc]
def Cd(te:TE):TS:=λD σ H=>te σ H λ_ H1=>D.nx σ H1
def Ek(he:PE X e te)(hs:autoParam (Zk e none gw.Yd X.dt=vX false) jJ):PS X (.p6 e gw) (Cd te):=by
 intro dN s σ H D I h;exact wpAny_Expr_any (bq (he dN s σ H _ I h) λv s1 ⟨x,H1,I1,r1,q1⟩=>⟨σ,H1,I1,q1⟩) I.quiet hs
def JU(te:TE):TS:=λD σ H=>te σ H D.rt
def BQ(he:PE X e te):PS X (.ϟ (ab e) gw) (JU te):=by
 intro dN s σ H D I h;exact wpAny_Return_some (bq (he dN s σ H _ I h) λv s1 ⟨x,H1,I1,r1,q1⟩=>⟨x,σ,H1,I1,r1,q1⟩)
def Ce(c:TT)(t u:TS):TS:=λD σ H=>c σ H λb H1=>if b=true then t D σ H1 else u D σ H1
def Ub{a b:ai Mu}{tc:TT}(hc:PT X c tc)(ha:l7 X a t)(hb:l7 X b u):PS X (.If c a b gw) (Ce tc t u):=by
 intro dN s σ H D I h;refine wpAny_If (bq (hc dN s σ H _ I h) λd s1 ⟨H1,I1,q1⟩=>?_)
 cases d with
 |true=>exact ha dN s1 σ H1 D I1 q1
 |false=>exact hb dN s1 σ H1 D I1 q1
end
abbrev TG:=V->St->Hp->(St->Hp->Prop)->Prop
abbrev v8:=ai V->St->Hp->(St->Hp->Prop)->Prop
def PG(X:Cx)(Wk:p6)(t:TG):Prop:=
 ∀(dN:ai (fy×sT))(s:p5)(σ:St)(H:Hp)(v:V)(u:d0)(Q:St->Hp->Prop),j3 X dN σ H s->uI v u->t v σ H Q ->
  oP (qX X.je X.w) X.A (_b Wk X.dt u) (λ_ s'=>∃aJ H',j3 X dN aJ H' s'/\Q aJ H') X.xe s
def zy(X:Cx)(ts:ai p6)(t:v8):Prop:=
 ∀(dN:ai (fy×sT))(s:p5)(σ:St)(H:Hp)(vs:ai V)(us:ai d0)(Q:St->Hp->Prop),j3 X dN σ H s->uw vs us->t vs σ H Q ->
  oP (qX X.je X.w) X.A (assignInOrder ((Zg ts X.dt).a6 (·.2)) us) (λ_ s'=>∃aJ H',j3 X dN aJ H' s'/\Q aJ H') X.xe s
abbrev v9:=V->V->V->Hp->(Hp->Prop)->Prop
def zC(X:Cx)(t:v9):Prop:=
 ∀(dN:ai (fy×sT))(s:p5)(σ:St)(H:Hp)(o i v:V)(ov iv u:d0)(Q:Hp->Prop),j3 X dN σ H s->uI o ov->uI i iv->uI v u->t o i v H Q ->
  oP (qX X.je X.w) X.A (ě ov iv u) (λ_ s'=>∃H',j3 X dN σ H' s'/\Q H') X.xe s
def bL(i:aO):TG:=λv σ H Q=>Q (σ.rk i (ab v)) H
def z3y(hN:X.N.xZ)(hi:X.N[i]?=ab x)(hx:YU X.dt.fv x)(hf:autoParam (X.fn x=true\/X.dt.fv.qW.g6 x=ab .local) jL):PG X (.oh x gw) (bL i):=by
 intro dN s σ H v u Q I r h;exact wpAny_assign_Name (PB I hN hi hx r (λs' I'=>⟨_,H,I',h⟩) hf)
def o_:v8:=λvs σ H Q=>vs=[]/\Q σ H
def fR(t:TG)(u:v8):v8:=λvs σ H Q=>∃v r,vs=v::r/\t v σ H λaJ H'=>u r aJ H' Q
def QJ:zy X [] o_:=by
 intro dN s σ H vs us Q I r h;let⟨e,h⟩:=h;subst e;cases r;exact assignInOrder_nil ⟨σ,H,I,h⟩
def Ec{t:TG}{u:v8}(h1:PG X e t)(h2:zy X es u)
  (hs:autoParam ((Zg (e::es) X.dt).a6 (·.2)=_b e X.dt::(Zg es X.dt).a6 (·.2)) jJ):zy X (e::es) (fR t u):=by
 intro dN s σ H vs us Q I r h;let⟨v,zfB,e1,h⟩:=h;subst e1;cases r with
 |qT r rr=>
  rw[hs];refine assignInOrder_cons (bq (h1 dN s σ H _ _ _ I r h) λ_ s1 ⟨uO,H1,I1,q1⟩=>?_)
  exact h2 dN s1 uO H1 _ _ Q I1 rr q1
def pb(K:Fg)(n:aO)(t:v8):TG:=λv σ H Q=>∃a xs,v=.dr a/\bK K H a xs/\xs.aj=n/\t xs σ H Q
def Ry{k:aO}{t:v8}{n:aO}(hc:X.MT=true)(h:zy X es t)
  (hn:autoParam ((Zg es X.dt).aj=n) jJ)(ky:autoParam ((Zg es X.dt).œ (·.1)=none) jJ):PG X (.Yg es k gw) (pb X.K n t):=by
 intro dN s σ H v u Q I r hw;let⟨a,xs,e1,hq,hl,hw⟩:=hw;subst e1;cases r;let⟨aw,rv,ht,hz⟩:=I.Tc hq;refine assign_Tuple_tuple (I.ok.hd hc) ht (by simp[hn,<- hl,rv.aj]) ky λh' hx=>?_
 have I1:j3 X dN σ H {s with bj:=h'}:=I.Yc (t':=s.tK) λb o e=>hx b o (w0t (g0.xX e)) e
 exact h dN _ σ H xs _ Q I1 (by simpa using rv) hw
def Fz(to ti:TE)(t:v9):TG:=λv σ H Q=>to σ H λo H1=>ti σ H1 λi H2=>t o i v H2 λH3=>Q σ H3
def z9u{o i:p6}{to ti:TE}{t:v9}(ho:PE X o to)(hi:PE X i ti)(hs:zC X t)
  (ha:∀v,_b (.Yb o i gw) X.dt v=(do
   let ov <- _K [v] (eval o X.dt)
   let iv <- _K [v,ov] (eval i X.dt)
   ö gw
   _K [v,ov,iv] (ě ov iv v)
   release [v,ov,iv] []):=by intro _;rfl):PG X (.Yb o i gw) (Fz to ti t):=by
 intro dN s σ H v u Q I r h;rw[ha];refine ny (ZW (bq (ho dN s σ H _ I h) λov s1 ⟨x,H1,I1,r1,q1⟩=>?_))
 refine ny (ZW (bq (hi dN s1 σ H1 _ I1 q1) λiv s2 ⟨y,H2,I2,r2,q2⟩=>?_))
 refine ny (Ķ (ny (ZW (bq (hs dN s2 σ H2 x y v ov iv u _ I2 r1 r2 r q2) λ_ s3 ⟨H3,I3,q3⟩=>?_))))
 exact wpAny_release ⟨σ,H3,I3,q3⟩
def rX(te:TE)(g:TG):TS:=λD σ H=>te σ H λx H1=>g x σ H1 D.nx
def z9v{g:TG}(he:PE X e te)(hg:PG X tg g)(hs:autoParam (zdA [tg] e gw.Yd X.dt=vX false) jJ)(hw:autoParam (zdz [tg] e X.dt=vX none) jJ)
  (h1:autoParam ((Zg [tg] X.dt).a6 (·.2)=[_b tg X.dt]) jJ):PS X (.Zu [tg] e gw) (rX te g):=by
 intro dN s σ H D I h;refine wpAny_Assign_stores (bq (he dN s σ H _ I h) λv s1 ⟨x,H1,I1,r1,q1⟩=>?_) hs hw
 rw[h1];exact bq (hg dN s1 σ H1 x v _ I1 r1 q1) λ_ s2 q=>q
def z9w{Yw:vW}(hN:X.N.xZ)(hi:X.N[i]?=ab x)(hx:YU X.dt.fv x)(he:PE X e te)(hs:autoParam (Zk e (ab (.oh x Yw)) gw.Yd X.dt=vX false) jJ)(hf:autoParam (X.fn x=true\/X.dt.fv.qW.g6 x=ab .local) jL):
  PS X (.Zu [.oh x Yw] e gw) (rX te (bL i)):=by
 intro dN s σ H D I h;refine wpAny_Assign_Name (bq (he dN s σ H _ I h) λv s1 ⟨y,H1,I1,r1,q1⟩=>?_) hs
 exact PB I1 hN hi hx r1 (λs2 I2=>⟨_,H1,I2,q1⟩) hf
def zed(c:TT)(tb:TS):TS:=λD σ H=>∃W:aO->St->Hp->Prop,(∃m,W m σ H)/\∀m σ H,W m σ H ->
 c σ H λb H1=>if b=true then ∃N:St->Hp->Prop,(∀aJ H',N aJ H'->∃m',m'<m/\W m' aJ H')/\tb {D with nx:=N,ct:=N,bk:=D.nx} σ H1 else D.nx σ H1
def y8z{uG:ai Mu}{tc:TT}(hp:Ϟ (qX X.je X.w) X.A X.dt X.xe)(hc:PT X c tc)(hb:l7 X uG tb):PS X (.While c uG [] gw) (zed tc tb):=by
 intro dN s σ H D I h;let⟨W,⟨m0,w0⟩,YT⟩:=h;refine wpAny_While (codeAny_whileLoop (λn s'=>∃aJ H',j3 X dN aJ H' s'/\W n aJ H') ?_ m0 ⟨σ,H,I,w0⟩)
 rintro n s1 ⟨uO,H1,I1,w1⟩;refine Ϯ hp (bq (hc dN s1 uO H1 _ I1 (YT n uO H1 w1)) λb s2 ⟨H2,I2,q2⟩=>?_)
 cases b with
 |true=>
  let⟨N,hN,q2⟩:=q2;rw[nZ rfl];refine Ϯ hp (bq (hb dN s2 uO H2 _ I2 q2) λf s3 q3=>?_)
  cases f with
  |next=>
   let⟨sq,H3,I3,n3⟩:=q3;let⟨m',hm,w3⟩:=hN sq H3 n3;exact⟨m',hm,sq,H3,I3,w3⟩
  |_s=>
   let⟨sq,H3,I3,n3⟩:=q3;let⟨m',hm,w3⟩:=hN sq H3 n3;exact⟨m',hm,sq,H3,I3,w3⟩
  |_r=>exact q3
  |CJ v=>exact q3
 |false=>
  rw[r5 w1h];exact ı ⟨uO,H2,I2,q2⟩
structure It where
 go:aO->Hp->Prop
 lX:aO->Hp->V->Hp->Prop
 stop:aO->Hp->Prop
def eU(X:Cx)(dN:ai (fy×sT))(H:Hp)(b:fy):Prop:=
 H b=none/\b≠X.dt.YJ/\b∉X.fs/\(b∈X.ex\/X.ay.bj.f'.dS<=b)/\(∀x c,X.dt.Yh.g6 x=ab c->c≠b)/\∀p∈X.pn++dN,p.1≠b
def j3.jR{b:fy}(I:j3 X dN σ H s)(hb:s.bj.f'.dS<=b)(hn:H' b=none):eU X dN H' b:=by
 refine⟨hn,w2t (w1d I.lt hb),I.GX hb,.lb (w1a I.sz hb),λx c e z=>?_,λp hp z=>?_⟩
 .let⟨v,q⟩:=I.uL x c e;exact uz (w1d q.lt (by rw[z];exact hb)) (w2c _)
 .exact uz (w1d (g0.xX (I.YS p hp).1) (by rw[z];exact hb)) (w2c _)
structure ν(P:xc)(w:vr)(K:Fg)(tg:p6)(J:It)(fp:ai fy)(it:fy)(tn:aO->g0->Prop):Prop where
 Yj:it∈fp
 Wd:∀i h,tn i h->∀b∈fp,∃o,h.ik b=ab o/\∀v,o.pJ≠.uL v
 xW:∀i h h',tn i h->(∀b∈fp,∀o,h.ik b=ab o->h'.ik b=ab o)->tn i h'
 ZS:∀(X:Cx),X.je=P->X.w=w->X.K=K->X.MT=true->∀(i:aO)(dN:ai (fy×sT))(s:p5)(σ:St)(H:Hp)(E:d0->p5->Prop),j3 X dN σ H s->(∀b∈fp,eU X dN H b)->tn i s.bj->J.go i H ->
  oP (qX P w) X.A (Φ (.dr it)) (λr s1=>∃u,r=ab u /\
   oP (qX P w) X.A (Đ tg (.dr it) u) (λ_ s2=>∃x H',j3 X dN σ H' s2/\uI x u/\J.lX i H x H'/\tn (i+1) s2.bj/\∀b∈fp,H' b=none) E s1) E s
 done:∀(X:Cx),X.je=P->X.w=w->X.K=K->X.MT=true->∀(i:aO)(dN:ai (fy×sT))(s:p5)(σ:St)(H:Hp)(E:d0->p5->Prop),j3 X dN σ H s->(∀b∈fp,eU X dN H b)->tn i s.bj->J.stop i H ->
  oP (qX P w) X.A (Φ (.dr it)) (λr s1=>r=none/\j3 X dN σ H s1) E s
 self:∀(A:C_)(i:aO)(s:p5)(Q:d0->p5->Prop)(E:d0->p5->Prop),tn i s.bj->Q (.dr it) s->oP (qX P w) A (Ţ (.dr it)) Q E s
abbrev TI:=St->Hp->(It->Hp->Prop)->Prop
def LM(X:Cx)(dN:ai (fy×sT))(σ:St)(tg:p6)(R:It->Hp->Prop)(C9:d0)(s2:p5):Prop:=
 ∃(it:fy)(fp:ai fy)(tn:aO->g0->Prop)(J:It)(H':Hp),C9=.dr it/\j3 X dN σ H' s2/\ν X.je X.w X.K tg J fp it tn/\tn 0 s2.bj/\(∀b∈fp,eU X dN H' b)/\R J H'
def PI(X:Cx)(tg x9:p6)(wi:TI):Prop:=
 ∀(dN:ai (fy×sT))(s:p5)(σ:St)(H:Hp)(R:It->Hp->Prop),j3 X dN σ H s->wi σ H R ->
  oP (qX X.je X.w) X.A (eval x9 X.dt) (λv s1=>oP (qX X.je X.w) X.A (Ţ v) (LM X dN σ tg R) X.xe s1) X.xe s
def Lq{E : d0 -> p5 -> Prop}{s : p5}{it : fy}{o : sT}{n : Yq}{vs : yb d0}{Q : Unit -> p5 -> Prop}(ho : s.bj.ik it = ab o)(hc : o.o4 = .ke n)(hd : o.pJ = .MU vs)
    (hn : ["enumerate", "zip", "dict_itemiterator", "dict_reverseitemiterator", "odict_iterator", "itertools.zip_longest", "itertools.pairwise"]._G n = false)(hQ : Q () s) : oP M A (Đ tg (.dr it) u) Q E s := by
  unfold Đ
  cases tg <;> first
    | exact ui hQ
    | (cases u <;> first
        | exact ui hQ
        | (refine ny (wpAny_load ho ?_)
           rw [hc, hd];show oP M A (if (["enumerate", "zip", "dict_itemiterator", "dict_reverseitemiterator", "odict_iterator", "itertools.zip_longest", "itertools.pairwise"]._G n && vs[0]? == ab (_x _)) = true then _ else _) Q E s;rw [r5 (by intro h; rw [hn, ie.false_and] at h; cases h)];exact ui hQ))
def yh(K:Fg)(a:fy):It:=
 ⟨λi H=>∃xs x,bD K H a xs/\xs[i]?=ab x,λi H x H'=>H'=H/\∀xs,bD K H a xs->xs[i]?=ab x,λi H=>∃xs,bD K H a xs/\xs.aj<=i⟩
def yi(K:Fg)(a:fy):It:=
 ⟨λi H=>∃xs x,bK K H a xs/\xs[i]?=ab x,λi H x H'=>H'=H/\∀xs,bK K H a xs->xs[i]?=ab x,λi H=>∃xs,bK K H a xs/\xs.aj<=i⟩
def pN(lo:a7)(n:aO):It:=⟨λi _=>i<n,λi H x H'=>H'=H/\x=.aT (lo+i),λi _=>n<=i⟩
theorem zbS{P:xc}(a it:fy):ν P w K tg (yh K a) [it] it (λi h=>h.ϙ it a i) where
 Yj:=by simp
 Wd:=λi h st b hb=>by
  have e:b=it:=by simpa using hb
  subst e;let⟨o,e,c,d⟩:=st;exact⟨o,e,λv z=>by rw[d]at z;cases z⟩
 xW:=λi h h' st k=>st.at λo e=>k it (by simp) o e
 ZS:=by
  intro X hP hw hK hc i dN s σ H E I hf st hg;subst hP hw hK;let⟨xs,x,hq,hx⟩:=hg;let⟨aw,rv,p,hz⟩:=I.xm hq;let⟨u,hu,ru⟩:=rv.Ff hx;let⟨f0,f1,f2,f3,f4,f5⟩:=hf it (by simp);refine wpAny_pyNext_list_item st p.zD (x:=u) (by simpa using hu) λh' nX sb=>?_
  have I1:j3 X dN σ H {s with bj:=h'}:=I.Z5 (t':=s.tK) (λb o hb e=>(sb.2 b hb).kZ e) f0 f1 f3 f4 f5
  let⟨o,e,c,d⟩:=id nX;exact⟨u,rfl,Lq (s:={s with bj:=h'}) e c d (by decide) ⟨x,H,I1,ru,⟨rfl,λys hy=>by rw[I.ig hy hq];exact hx⟩,nX,λb hb=>(hf b hb).1⟩⟩
 done:=by
  intro X hP hw hK hc i dN s σ H E I hf st hg;subst hP hw hK;let⟨xs,hq,hx⟩:=hg;let⟨aw,rv,p,hz⟩:=I.xm hq;let⟨f0,f1,f2,f3,f4,f5⟩:=hf it (by simp);have hl:=rv.aj;exact wpAny_pyNext_list_end (I.ok.hd hc) st p.zD (by simp;omega) λh' eb=>⟨rfl,I.Z5 (t':=s.tK) (λb o hb e=>eb b o hb e) f0 f1 f3 f4 f5⟩
 self:=λ_ _ _ _ _ st h=>wpAny_pyIter_listiter st h
theorem zbC{P:xc}(a it:fy):ν P w K tg (yi K a) [it] it (λi h=>h._q it a i) where
 Yj:=by simp
 Wd:=λi h st b hb=>by
  have e:b=it:=by simpa using hb
  subst e;let⟨o,e,c,d⟩:=st
  grind
 xW:=λi h h' st k=>st.at λo e=>k it (by simp) o e
 ZS:=by
  intro X hP hw hK hc i dN s σ H E I hf st hg;subst hP hw hK;let⟨xs,x,hq,hx⟩:=hg;let⟨aw,rv,p,hz⟩:=I.Tc hq;let⟨u,hu,ru⟩:=rv.Ff hx;let⟨f0,f1,f2,f3,f4,f5⟩:=hf it (by simp);refine wpAny_pyNext_tuple_item st (show s.bj.YD a aw.l8 from p) (x:=u) (by simpa using hu) λh' nX sb=>?_
  have I1:j3 X dN σ H {s with bj:=h'}:=I.Z5 (t':=s.tK) (λb o hb e=>(sb.2 b hb).kZ e) f0 f1 f3 f4 f5
  let⟨o,e,c,d⟩:=id nX;exact⟨u,rfl,Lq (s:={s with bj:=h'}) e c d (by decide) ⟨x,H,I1,ru,⟨rfl,λys hy=>by rw[I.gh hy hq];exact hx⟩,nX,λb hb=>(hf b hb).1⟩⟩
 done:=by
  intro X hP hw hK hc i dN s σ H E I hf st hg;subst hP hw hK;let⟨xs,hq,hx⟩:=hg;let⟨aw,rv,p,hz⟩:=I.Tc hq;let⟨f0,f1,f2,f3,f4,f5⟩:=hf it (by simp);have hl:=rv.aj;exact wpAny_pyNext_tuple_end (I.ok.hd hc) st (show s.bj.YD a aw.l8 from p) (by simp;omega) λh' eb=>⟨rfl,I.Z5 (t':=s.tK) (λb o hb e=>eb b o hb e) f0 f1 f3 f4 f5⟩
 self:=λ_ _ _ _ _ st h=>wpAny_pyIter_tupleiter st h
theorem zbD{P:xc}(it:fy)(lo:a7)(n:aO):ν P w K tg (pN lo n) [it] it (λi h=>Ž h it (lo+(i:aO)*1) ((n:a7)-(i:aO)) 1) where
 Yj:=by simp
 Wd:=λi h st b hb=>by
  have e:b=it:=by simpa using hb
  subst e
  exact⟨_,st,λv z=>by
   have z':ϓ.MU _=ϓ.uL v:=z;cases z'⟩
 xW:=λi h h' st k=>k it (by simp) _ st
 ZS:=by
  intro X hP hw hK hc i dN s σ H E I hf st hg;subst hP hw hK;let⟨f0,f1,f2,f3,f4,f5⟩:=hf it (by simp);have W:=ξ.CC (je:=X.je) (w:=X.w) (I.ok.hd hc) it lo 1 n;refine W.ZS i s _ _ hg st λv h' tk hv nX kk=>?_
  let⟨t,rfl⟩:=hv;have I1:j3 X dN σ H {s with bj:=h',tK:=tk}:=I.Z5 (λb o hb e=>kk b o (by simpa using hb) e) f0 f1 f3 f4 f5
  refine⟨_,rfl,Lq (s:={s with bj:=h',tK:=tk}) (n:="range_iterator") nX rfl rfl (by decide) ⟨.aT (lo+i),H,I1,⟨t,?_⟩,⟨rfl,rfl⟩,nX,λb hb=>(hf b hb).1⟩⟩
  rw[a7.mul_one]
 done:=by
  intro X hP hw hK hc i dN s σ H E I hf st hg;subst hP hw hK;let⟨f0,f1,f2,f3,f4,f5⟩:=hf it (by simp);exact wpAny_pyNext_range_end (I.ok.hd hc) st (by have:n<=i:=hg;omega) λh' eb=>⟨rfl,I.Z5 (t':=s.tK) (λb o hb e=>eb b o hb e) f0 f1 f3 f4 f5⟩
 self:=λ_ _ _ _ _ st h=>wpAny_pyIter_rangeiter st h
def PD{R:It->Hp->Prop}{lo hi:a7}{t u v:Ι}{tk:aO}(I:j3 X dN σ H s)(h1:-(2^62)<=lo)(h2:lo<2^62)(h3:-(2^62)<=hi)(h4:hi<2^62)
  (q:R (pN lo (hi-lo).uh) H):oP (qX X.je X.w) X.A (Ţ (.dr s.bj.f'.dS)) (LM X dN σ tg R) E {s with bj:=s.bj.tM {o4:=.ke "range", pJ:=.MU #[.aT lo t,.aT hi u,.aT 1 v]},tK:=tk}:=by
 refine wpAny_pyIter_range (IsRange.vd ..) (small_one h1 h2 h3 h4) ?_;have I1:j3 X dN σ H {s with bj:=s.bj.tM {o4:=.ke "range", pJ:=.MU #[.aT lo t,.aT hi u,.aT 1 v]},tK:=tk}:=I.Yc λb o e=>g0.w6 _ e
 refine⟨(s.bj.tM {o4:=.ke "range", pJ:=.MU #[.aT lo t,.aT hi u,.aT 1 v]}).f'.dS,[(s.bj.tM {o4:=.ke "range", pJ:=.MU #[.aT lo t,.aT hi u,.aT 1 v]}).f'.dS],_,_,H,rfl,
  I1.Yc (t':=tk) λb o e=>g0.w6 _ e,zbD _ lo (hi-lo).uh,?_,λb hb=>?_,q⟩
 .have e1:lo+((0:aO):a7)*1=lo:=by simp
  have e2:(((hi-lo).uh:aO):a7)-((0:aO):a7)=uK.Range.rangeSize lo hi 1:=by grind [rangeSize_one]
  show Ž _ _ (lo+((0:aO):a7)*1) ((((hi-lo).uh:aO):a7)-((0:aO):a7)) 1;rw[e1,e2];exact g0.A2 _ rfl
 .have e:b=(s.bj.tM {o4:=.ke "range", pJ:=.MU #[.aT lo t,.aT hi u,.aT 1 v]}).f'.dS:=by simpa using hb
  subst e;exact I1.jR (w0f _) (I1.aQ.xK (w0f _))
def vh(ta:TA):TI:=λσ H R=>ta σ H λvs H1=>∃j:a7,vs=[.aT j]/\-(2^62)<=j/\j<2^62/\R (pN 0 j.uh) H1
def AH(ta:TA):TI:=λσ H R=>ta σ H λvs H1=>∃i j:a7,vs=[.aT i,.aT j]/\(-(2^62)<=i/\i<2^62/\-(2^62)<=j/\j<2^62)/\R (pN i (j-i).uh) H1
def Jc{a:p6}{ta:TA}(hg:Gl X "range")(hm:X.mg "range"=none)(ha:PA X [a] ta)(hs:autoParam (pg [a] X.dt=[(false,eval a X.dt)]) jJ):PI X tg (.wO (.oh "range" p) [a] [] gw) (vh ta):=by
 intro dN s σ H R I h;refine Ò (pY I hg hm boot_range (CG.Fe.χ (bq (ha gw dN s σ H _ I h) λus s1 ⟨vs,H1,I1,r1,q1⟩=>?_) hs rfl))
 let⟨j,e,q1,q2,q⟩:=q1;subst e;cases r1 with
 |qT r rr=>
  cases rr;let⟨t,rfl⟩:=r;exact call_range_1 (PD I1 (by omega) (by omega) q1 q2 (by simpa using q))
def za8{a b:p6}{ta:TA}(hg:Gl X "range")(hm:X.mg "range"=none)(ha:PA X [a,b] ta)(hs:autoParam (pg [a,b] X.dt=[(false,eval a X.dt),(false,eval b X.dt)]) jJ)(gT:autoParam (pg [b] X.dt=[(false,eval b X.dt)]) jJ):
  PI X tg (.wO (.oh "range" p) [a,b] [] gw) (AH ta):=by
 intro dN s σ H R I h;refine Ò (pY I hg hm boot_range (CG.Fe.χ (bq (ha gw dN s σ H _ I h) λus s1 ⟨vs,H1,I1,r1,q1⟩=>?_) (by rw[hs,gT]) (by rw[gT];rfl)))
 let⟨i,j,e,⟨q1,q2,q3,q4⟩,q⟩:=q1;subst e;cases r1 with
 |qT r rr=>
  cases rr with
  |qT r' rr=>
   cases rr;let⟨t,rfl⟩:=r;let⟨t',rfl⟩:=r';exact call_range_2 (PD I1 q1 q2 q3 q4 q)
def JQ(wi:TI)(g:TG)(tb:TS):TS:=λD σ H=>wi σ H λJ H1=>∃W:aO->aO->St->Hp->Prop,(∃m,W 0 m σ H1)/\∀i m σ H,W i m σ H ->
 (J.stop i H/\D.nx σ H)\/(J.go i H/\∃N:St->Hp->Prop,(∀aJ H',N aJ H'->∃m',m'<m/\W (i+1) m' aJ H')/\∀x H',J.lX i H x H'->g x σ H' λlR H2=>tb {D with nx:=N,ct:=N,bk:=D.nx} lR H2)
def iS(fp:ai fy)(h:g0):ai (fy×sT):=fp.Ϥ λb=>(h.ik b).a6 λo=>(b,o)
theorem xy{b:fy}{o:sT}(hb:b∈fp)(e:h.ik b=ab o):(b,o)∈iS fp h:=w3h.wa ⟨b,hb,by rw[e];rfl⟩
def za9{p:fy×sT}(hp:p∈iS fp h):p.1∈fp/\h.ik p.1=ab p.2:=by
 let⟨b,hb,e⟩:=w3h.mp hp;cases q:h.ik b with
 |none=>rw[q]at e;cases e
 |ab o=>
  grind
theorem j3.í(I:j3 X dN σ H s)(hf:∀b∈fp,eU X dN H b)(ho:∀b∈fp,∃o,s.bj.ik b=ab o/\∀v,o.pJ≠.uL v):j3 X (dN++iS fp s.bj) σ H s:=
 I.jm λp hp=>(w2s.mp hp).oa (λz=>I.YS p (w0l _ z)) λz=>by
  let⟨hb,e⟩:=za9 z;let⟨f0,f1,f2,_⟩:=hf p.1 hb
  grind
theorem j3.e_{pl:ai (fy×sT)}(I:j3 X (dN++pl) σ H s):j3 X dN σ H s:=I.jm λp hp=>I.YS p (w0l _ (w2k _ hp))
def EF{x9:p6}{uG:ai Mu}{wi:TI}{g:TG}(hp:Ϟ (qX X.je X.w) X.A X.dt X.xe)(hc:X.MT=true)(hi:PI X tg x9 wi)(hg:PG X tg g)(hb:l7 X uG tb)
  (hs:∀x,ZR x9 X.dt x=vX x:=by intro _;rfl):PS X (.For tg x9 uG [] gw) (JQ wi g tb):=by
 intro dN s σ H D I h;refine wpAny_For (bq (hi dN s σ H _ I h) λv s1 h1=>bq h1 λC9 s2 h2=>?_) hs
 let⟨it,fp,tn,J,H2,e,I2,T,iU,f2,W,⟨m0,w0⟩,YT⟩:=h2;subst e;have j9:∀{H':Hp},(∀b∈fp,H' b=none)->∀b∈fp,eU X dN H' b:=λhn b hb=>⟨hn b hb,(f2 b hb).2⟩
 refine codeAny_forLoop_any (λn s'=>∃i aJ H',j3 X dN aJ H' s'/\tn i s'.bj/\(∀b∈fp,H' b=none)/\W i n aJ H') ?_ m0 ⟨0,σ,H2,I2,iU,λb hb=>(f2 b hb).1,w0⟩
 rintro n s3 ⟨i,sq,H3,I3,vT,u_,w3⟩;rcases YT i n sq H3 w3 with⟨stop,qn⟩|⟨go,N,hN,Zb⟩
 .refine Ϯ hp (bq (T.done X rfl rfl rfl hc i dN s3 sq H3 X.xe I3 (j9 u_) vT stop) λr s4 ⟨hr,I4⟩=>?_)
  subst hr;exact ı ⟨sq,H3,I4,qn⟩
 .refine Ϯ hp (bq (T.ZS X rfl rfl rfl hc i dN s3 sq H3 X.xe I3 (j9 u_) vT go) λr s4 ⟨u,hr,h4⟩=>?_)
  subst hr;refine Ϯ hp (bq h4 λ_ s5 ⟨x,H5,I5,zdh,y5,JO,CP⟩=>?_)
  have Tb:=I5.í (j9 CP) (T.Wd _ _ JO);refine Ϯ hp (bq (hg _ s5 sq H5 x u _ Tb zdh (Zb x H5 y5)) λ_ s6 ⟨LJ,H6,I6,q6⟩=>?_)
  refine Ϯ hp (bq (hb _ s6 LJ H6 _ I6 q6) λf s7 q7=>?_)
  have _V:∀{lS:St}{H7:Hp},j3 X (dN++iS fp s5.bj) lS H7 s7->N lS H7->∃m,m<n/\∃i aJ H',j3 X dN aJ H' s7/\tn i s7.bj/\(∀b∈fp,H' b=none)/\W i m aJ H':=λ{lS H7} I7 n7=>by
   let⟨m',hm,w7⟩:=hN lS H7 n7;refine⟨m',hm,i+1,lS,H7,I7.e_,T.xW _ _ _ JO λb hb o e=>(I7.YS (b,o) (w0l _ (w0l _ (xy hb e)))).1,λb hb=>?_,w7⟩
   let⟨o,e,d⟩:=T.Wd _ _ JO b hb;exact(I7.YS (b,o) (w0l _ (w0l _ (xy hb e)))).2.1
  cases f with
  |next=>let⟨lS,H7,I7,n7⟩:=q7;exact _V I7 n7
  |_s=>let⟨lS,H7,I7,n7⟩:=q7;exact _V I7 n7
  |_r=>let⟨lS,H7,I7,q7⟩:=q7;exact⟨lS,H7,I7.e_,q7⟩
  |CJ v=>let⟨x7,lS,H7,I7,zdi,q7⟩:=q7;exact⟨x7,lS,H7,I7.e_,zdi,q7⟩
def y80{g:TG}{D:_B}(Pv:aO->St->Hp->Prop)(h0:Pv 0 σ H)(hl:∀i σ H,i<=xs.aj->Pv i σ H->bD K H a xs)
  (hs:∀i x σ H,xs[i]?=ab x->Pv i σ H->g x σ H λlR H2=>tb {D with nx:=Pv (i+1),ct:=Pv (i+1),bk:=D.nx} lR H2)(hd:∀σ H,Pv xs.aj σ H->D.nx σ H):
  ∃W:aO->aO->St->Hp->Prop,(∃m,W 0 m σ H)/\∀i m σ H,W i m σ H ->
   ((yh K a).stop i H/\D.nx σ H)\/((yh K a).go i H/\∃N:St->Hp->Prop,(∀aJ H',N aJ H'->∃m',m'<m/\W (i+1) m' aJ H')/\∀x H',(yh K a).lX i H x H'->g x σ H' λlR H2=>tb {D with nx:=N,ct:=N,bk:=D.nx} lR H2):=by
 refine⟨λi m σ H=>m=xs.aj-i/\i<=xs.aj/\Pv i σ H,⟨xs.aj,by simp,w1g _,h0⟩,?_⟩
 rintro i m σ H ⟨rfl,hi,p⟩;have q:=hl i σ H hi p
 by_cases bZ:i<xs.aj
 .refine .lb ⟨⟨xs,xs[i],q,by simp[bZ]⟩,Pv (i+1),λaJ H' p'=>⟨xs.aj-(i+1),by omega,rfl,bZ,p'⟩,λx H' y=>?_⟩
  let⟨e,y⟩:=y;subst e;exact hs i x σ _ (y xs q) p
 .have e:i=xs.aj:=by omega
  subst e;exact .jd ⟨⟨xs,q,w0f _⟩,hd σ H p⟩
def z3z{g:TG}{D:_B}(Pv:aO->St->Hp->Prop)(h0:Pv 0 σ H)(hl:∀i σ H,i<=xs.aj->Pv i σ H->bK K H a xs)
  (hs:∀i x σ H,xs[i]?=ab x->Pv i σ H->g x σ H λlR H2=>tb {D with nx:=Pv (i+1),ct:=Pv (i+1),bk:=D.nx} lR H2)(hd:∀σ H,Pv xs.aj σ H->D.nx σ H):
  ∃W:aO->aO->St->Hp->Prop,(∃m,W 0 m σ H)/\∀i m σ H,W i m σ H ->
   ((yi K a).stop i H/\D.nx σ H)\/((yi K a).go i H/\∃N:St->Hp->Prop,(∀aJ H',N aJ H'->∃m',m'<m/\W (i+1) m' aJ H')/\∀x H',(yi K a).lX i H x H'->g x σ H' λlR H2=>tb {D with nx:=N,ct:=N,bk:=D.nx} lR H2):=by
 refine⟨λi m σ H=>m=xs.aj-i/\i<=xs.aj/\Pv i σ H,⟨xs.aj,by simp,w1g _,h0⟩,?_⟩
 rintro i m σ H ⟨rfl,hi,p⟩;have q:=hl i σ H hi p
 by_cases bZ:i<xs.aj
 .refine .lb ⟨⟨xs,xs[i],q,by simp[bZ]⟩,Pv (i+1),λaJ H' p'=>⟨xs.aj-(i+1),by omega,rfl,bZ,p'⟩,λx H' y=>?_⟩
  let⟨e,y⟩:=y;subst e;exact hs i x σ _ (y xs q) p
 .have e:i=xs.aj:=by omega
  subst e;exact .jd ⟨⟨xs,q,w0f _⟩,hd σ H p⟩
def zaY{lo:a7}{n:aO}{g:TG}{D:_B}(Pv:aO->St->Hp->Prop)(h0:Pv 0 σ H)
  (hs:∀i σ H,i<n->Pv i σ H->g (.aT (lo+i)) σ H λlR H2=>tb {D with nx:=Pv (i+1),ct:=Pv (i+1),bk:=D.nx} lR H2)(hd:∀σ H,Pv n σ H->D.nx σ H):
  ∃W:aO->aO->St->Hp->Prop,(∃m,W 0 m σ H)/\∀i m σ H,W i m σ H ->
   ((pN lo n).stop i H/\D.nx σ H)\/((pN lo n).go i H/\∃N:St->Hp->Prop,(∀aJ H',N aJ H'->∃m',m'<m/\W (i+1) m' aJ H')/\∀x H',(pN lo n).lX i H x H'->g x σ H' λlR H2=>tb {D with nx:=N,ct:=N,bk:=D.nx} lR H2):=by
 refine⟨λi m σ H=>m=n-i/\i<=n/\Pv i σ H,⟨n,by simp,w1g _,h0⟩,?_⟩
 rintro i m σ H ⟨rfl,hi,p⟩
 by_cases bZ:i<n
 .refine .lb ⟨bZ,Pv (i+1),λaJ H' p'=>⟨n-(i+1),by omega,rfl,bZ,p'⟩,λx H' y=>?_⟩
  let⟨e,y⟩:=y;subst e y;exact hs i σ _ bZ p
 .have e:i=n:=by omega
  subst e;exact .jd ⟨w0f _,hd σ H p⟩
abbrev R2:=V->V->Hp->VK->Prop
variable{r:R2}
def fK(X:Cx)(f:d0->d0->_R d0)(r:R2):Prop:=
 ∀(dN:ai (fy×sT))(s:p5)(σ:St)(H:Hp)(x y:V)(v u:d0)(Q:VK),j3 X dN σ H s->uI x v->uI y u->r x y H Q ->
  oP (qX X.je X.w) X.A (f v u) (EP X dN σ Q) X.xe s
def zI(X:Cx)(f:d0->_R d0)(r:V->Hp->VK->Prop):Prop:=
 ∀(dN:ai (fy×sT))(s:p5)(σ:St)(H:Hp)(x:V)(v:d0)(Q:VK),j3 X dN σ H s->uI x v->r x H Q ->
  oP (qX X.je X.w) X.A (f v) (EP X dN σ Q) X.xe s
def cZ(X:Cx)(f:d0)(r:ai V->Hp->VK->Prop):Prop:=
 ∀(dN:ai (fy×sT))(s:p5)(σ:St)(H:Hp)(xs:ai V)(us:ai d0)(Q:VK),j3 X dN σ H s->uw xs us->r xs H Q ->
  oP (qX X.je X.w) X.A (zb f us) (EP X dN σ Q) X.xe s
def zH(X:Cx)(r:V->Hp->(ie->Hp->Prop)->Prop):Prop:=
 ∀(dN:ai (fy×sT))(s:p5)(σ:St)(H:Hp)(x:V)(v:d0)(Q:ie->Hp->Prop),j3 X dN σ H s->uI x v->r x H Q ->
  oP (qX X.je X.w) X.A (ų v) (TP X dN σ Q) X.xe s
def Cm(r:R2)(ta tb:TE):TE:=λσ H Q=>ta σ H λx H1=>tb σ H1 λy H2=>r x y H2 Q
def NS(r:V->Hp->VK->Prop)(ta:TE):TE:=λσ H Q=>ta σ H λx H1=>r x H1 Q
def rI(C:a7->a7->Prop)(g:a7->a7->V):R2:=λx y H Q=>∃i j,x=.aT i/\y=.aT j/\C i j/\Q (g i j) H
def nU(g:a7->a7->V):R2:=λx y H Q=>∃i j,x=.aT i/\y=.aT j/\Q (g i j) H
def rU(g:a7->V):V->Hp->VK->Prop:=λx H Q=>∃i,x=.aT i/\Q (g i) H
section
variable{a b:p6}{tb tc:TE}
def we(ha:PE X a ta)(hb:PE X b tb){R:V->V->Hp->Prop}(I:j3 X dN σ H s)
  (h:ta σ H λx H1=>tb σ H1 λy H2=>R x y H2){Q:d0->p5->Prop}
  (hf:∀v u s2 x y H2,j3 X dN σ H2 s2->uI x v->uI y u->R x y H2->oP (qX X.je X.w) X.A (f v u) Q X.xe s2):
  oP (qX X.je X.w) X.A (eval a X.dt) (λv aD=>oP (qX X.je X.w) X.A (eval b X.dt) (λu mP=>oP (qX X.je X.w) X.A (f v u) Q X.xe mP) X.xe aD) X.xe s:=by
 refine bq (ha dN s σ H _ I h) λv s1 ⟨x,H1,I1,r1,q1⟩=>?_
 refine bq (hb dN s1 σ H1 _ I1 q1) λu s2 ⟨y,H2,I2,r2,q2⟩=>?_
 exact hf v u s2 x y H2 I2 r1 r2 q2
def SD{op:Operator}(ho:fK X (ZH op) r)(ha:PE X a ta)(hb:PE X b tb):PE X (._A a op b gw) (Cm r ta tb):=by
 intro dN s σ H Q I h;exact wpAny_BinOp (we ha hb I h λv u s2 x y H2 I2 rx ry q=>ho dN s2 σ H2 x y v u Q I2 rx ry q)
def Uc{op:_T}{r:V->Hp->VK->Prop}(ho:zI X (ŵ op) r)(ha:PE X a ta):PE X (._T op a gw) (NS r ta):=by
 intro dN s σ H Q I h;exact ł (bq (ha dN s σ H _ I h) λv s1 ⟨x,H1,I1,r1,q1⟩=>ho dN s1 σ H1 x v Q I1 r1 q1)
def Dg{C:a7->a7->Prop}{g:a7->a7->a7}
  (_k:∀(i j:a7)(t u:Ι)(s:p5)(Q:d0->p5->Prop)(E:d0->p5->Prop),C i j->Q (.aT (g i j) s.tK) {s with tK:=s.tK+1}->oP (qX X.je X.w) X.A (f (.aT i t) (.aT j u)) Q E s):
  fK X f (rI C λi j=>.aT (g i j)):=by
 intro dN s σ H x y v u Q I rx ry h;let⟨i,j,rfl,rfl,hc,q⟩:=h;let⟨t,rfl⟩:=rx;let⟨t',rfl⟩:=ry;exact _k i j t t' s _ _ hc ⟨.aT (g i j),H,I.Ym _,⟨_,rfl⟩,q⟩
def Bd{g:a7->a7->a7}
  (_k:∀(i j:a7)(t u:Ι)(s:p5)(Q:d0->p5->Prop)(E:d0->p5->Prop),Q (.aT (g i j) s.tK) {s with tK:=s.tK+1}->oP (qX X.je X.w) X.A (f (.aT i t) (.aT j u)) Q E s):
  fK X f (nU λi j=>.aT (g i j)):=by
 intro dN s σ H x y v u Q I rx ry h;let⟨i,j,rfl,rfl,q⟩:=h;let⟨t,rfl⟩:=rx;let⟨t',rfl⟩:=ry;exact _k i j t t' s _ _ ⟨.aT (g i j),H,I.Ym _,⟨_,rfl⟩,q⟩
def ug{g:a7->a7->ie}
  (_k:∀(i j:a7)(t u:Ι)(s:p5)(Q:d0->p5->Prop)(E:d0->p5->Prop),Q (.xN (g i j)) s->oP (qX X.je X.w) X.A (f (.aT i t) (.aT j u)) Q E s):
  fK X f (nU λi j=>.bl (g i j)):=by
 intro dN s σ H x y v u Q I rx ry h;let⟨i,j,rfl,rfl,q⟩:=h;let⟨t,rfl⟩:=rx;let⟨t',rfl⟩:=ry;exact _k i j t t' s _ _ ⟨.bl (g i j),H,I,rfl,q⟩
def yX(i j:a7):Prop:=0<j/\j<1073741824
def yY(i j:a7):Prop:=0<=j/\j<=1000000/\i.ώ<2^64
def tj(i j:a7):Prop:=(-(2^64)<i/\i<2^64)\/(-(2^64)<j/\j<2^64)
def tj.ok{i j:a7}(h:tj i j):IntMulOk i j:=by
 rcases h with⟨h1,h2⟩|⟨h1,h2⟩
 .exact .of_left (zcE h1 h2)
 .exact .of_right (zcE h1 h2)
theorem zes:fK X (ZH .Add) (nU λi j=>.aT (i+j)):=Bd λ_ _ _ _ _ _ _ q=>add_int q
theorem z9x:fK X (ZH .Sub) (nU λi j=>.aT (i-j)):=Bd λ_ _ _ _ _ _ _ q=>sub_int q
theorem z9y:fK X (ZH .ι) (rI tj λi j=>.aT (i*j)):=Dg λ_ _ _ _ _ _ _ hc q=>mul_int q hc.ok
theorem z30:fK X (ZH .FloorDiv) (rI yX λi j=>.aT (i / j)):=Dg λi j _ _ _ _ _ hc q=>by
 have h1:(0:a7)<j:=hc.1;have h2:j<1073741824:=hc.2;exact floordiv_int (by omega) (by rw[a7.fdiv_eq_ediv_of_nonneg i (by omega)];exact q) (.jd (CG.noPylong_small (by omega)))
theorem z9z:fK X (ZH .θ) (rI (λ_ j=>0<j) λi j=>.aT (i%j)):=Dg λi j _ _ _ _ _ hc q=>by
 have h1:(0:a7)<j:=hc;exact mod_int' (by omega) (by rw[a7.fmod_eq_emod_of_nonneg i (by omega)];exact q)
theorem z90:fK X (ZH .Pow) (rI yY λi j=>.aT (i^j.uh)):=Dg λ_ _ _ _ _ _ _ hc q=>pow_int_small hc.1 hc.2.1 hc.2.2 q
def WW{f:d0->_R d0}{g:a7->a7}
  (_k:∀(i:a7)(t:Ι)(s:p5)(Q:d0->p5->Prop)(E:d0->p5->Prop),Q (.aT (g i) s.tK) {s with tK:=s.tK+1}->oP (qX X.je X.w) X.A (f (.aT i t)) Q E s):
  zI X f (rU λi=>.aT (g i)):=by
 intro dN s σ H x v Q I rx h;let⟨i,rfl,q⟩:=h;let⟨t,rfl⟩:=rx;exact _k i t s _ _ ⟨.aT (g i),H,I.Ym _,⟨_,rfl⟩,q⟩
theorem z91:zI X (ŵ .USub) (rU λi=>.aT (-i)):=WW λ_ _ _ _ _ q=>neg_int q
end
section
variable{a b:p6}{tb tc:TE}
def RG{Q:VK}{k k':ie}(I:j3 X dN σ H s)(q:Q (.bl k) H)(e:k=k'):EP X dN σ Q (.xN k') s:=by
 subst e;exact⟨.bl k,H,I,rfl,q⟩
theorem SE:fK X (ZI .Lt) (nU λi j=>.bl (decide (i<j))):=ug λ_ _ _ _ _ _ _ q=>lt_int q
theorem SF:fK X (ZI .LtE) (nU λi j=>.bl (decide (i<=j))):=ug λ_ _ _ _ _ _ _ q=>le_int q
theorem SG:fK X (ZI .Gt) (nU λi j=>.bl (decide (j<i))):=ug λ_ _ _ _ _ _ _ q=>gt_int q
theorem Ud:fK X (ZI .GtE) (nU λi j=>.bl (decide (j<=i))):=ug λ_ _ _ _ _ _ _ q=>ge_int q
def fK.or{r':R2}(h:fK X f r)(h':fK X f r'):fK X f (λx y H Q=>r x y H Q\/r' x y H Q):=by
 intro dN s σ H x y v u Q I rx ry q;rcases q with q|q
 .exact h dN s σ H x y v u Q I rx ry q
 .exact h' dN s σ H x y v u Q I rx ry q
def cC(b:p6)(h:autoParam (op≠.In) jK)(h2:autoParam (op≠.Z9) jK):_d op b=false:=by
 have e1:(op==ϱ.In)=false:=by grind
 have e2:(op==ϱ.Z9)=false:=by grind
 cases b<;>simp[_d,e1,e2]
def z31(ho:fK X (ZI op) r)(ha:PE X a ta)(hb:PE X b tb)(hm:_d op b=false):PE X (.Yz a [op] [b] gw) (Cm r ta tb):=by
 intro dN s σ H Q I h;exact wpAny_Compare1 (we ha hb I h λv u s2 x y H2 I2 rx ry q=>ho dN s2 σ H2 x y v u Q I2 rx ry q) hm
def Cp(t:TE):TT:=λσ H Q=>t σ H λx H'=>∃k,x=.bl k/\Q k H'
def z32(ho:fK X (ZI op) r)(ha:PE X a ta)(hb:PE X b tb)(hm:_d op b=false):PT X (.Yz a [op] [b] gw) (Cp (Cm r ta tb)):=by
 intro dN s σ H Q I h
 refine zd7 (bq (ha dN s σ H _ I h) λv s1 ⟨x,H1,I1,r1,q1⟩=>bq (hb dN s1 σ H1 _ I1 q1) λu s2 ⟨y,H2,I2,r2,q2⟩=>
  bq (ho dN s2 σ H2 x y v u _ I2 r1 r2 q2) λc s3 ⟨z,H3,I3,r3,k,e,q3⟩=>?_) hm
 subst e;cases r3;exact Ε ⟨H3,I3,q3⟩
def tF(K:Fg)(x:V)(H:Hp)(k:ie):Prop:=
 match x with
 |.aB=>k=false
 |.bl b=>k=b
 |.aT i=>k=(i != 0)
 |.str y=>y.aj<=wm/\k=((y.aj:a7) != 0)
 |.uZ y=>y.dS<=wm/\k=((y.dS:a7) != 0)
 |.dr p=>(∃xs,bD K H p xs/\k=!xs.U7)\/(∃xs,bK K H p xs/\k=!xs.U7)\/∃kvs,H p=ab (.dK kvs)/\k=!kvs.U7
 |_=>vk
def zbE{κ:Type}{kvs:ai (κ×V)}{vs:ai (κ×d0)}(r:KV kvs vs):(!vs.U7)=!kvs.U7:=by
 cases r<;>rfl
def N_{aw:ai d0}(r:uw xs aw):(!aw.l8.U7)=!xs.U7:=by
 cases r<;>simp
def fU:(wm:aO)<2^63:=by rw[LP];decide
def RH:zH X (λx H Q=>∃k,tF X.K x H k/\Q k H):=by
 intro dN s σ H x v Q I rx h;let⟨k,e,q⟩:=h;have hl:=fU;have hs:wm=16777216:=LP;cases x with
 |aB=>
  cases rx;have e':k=false:=e;subst e';exact truthy_none ⟨H,I,q⟩
 |bl b=>
  cases rx;have e':k=b:=e;subst e';exact Ε ⟨H,I,q⟩
 |aT i=>
  let⟨t,rfl⟩:=rx;have e':k=(i != 0):=e;subst e';exact n9.P.truthy_int ⟨H,I,q⟩
 |str y=>
  let⟨t,rfl⟩:=rx;obtain⟨hy,e'⟩:y.aj<=wm/\k=((y.aj:a7) != 0):=e;subst e';exact n9.P.truthy_str (by omega) ⟨H,I.Ym _,q⟩
 |uZ y=>
  let⟨t,rfl⟩:=rx;obtain⟨hy,e'⟩:y.dS<=wm/\k=((y.dS:a7) != 0):=e;subst e';exact n9.W.truthy_bytes (by omega) ⟨H,I.Ym _,q⟩
 |dr p=>
  cases rx;have e':(∃xs,bD X.K H p xs/\k=!xs.U7)\/(∃xs,bK X.K H p xs/\k=!xs.U7)\/∃kvs,H p=ab (.dK kvs)/\k=!kvs.U7:=e;rcases e' with⟨xs,hx,e'⟩|⟨xs,hx,e'⟩|⟨kvs,hx,e'⟩
  .subst e';let⟨aw,r,pl,hz⟩:=I.xm hx;have wZ:=r.aj;exact wpAny_truthy_list pl.zD (by simp only[w0e];omega) ⟨H,I.Ym _,by rw[N_ r];exact q⟩
  .subst e';let⟨aw,r,pl,hz⟩:=I.Tc hx;have wZ:=r.aj;exact truthy_tuple pl (by simp only[w0e];omega) ⟨H,I.Ym _,by rw[N_ r];exact q⟩
  .subst e';obtain⟨hz,hS,vs,r,m⟩:kvs.aj<=wm/\(p==_y)=false/\∃vs,KV kvs vs/\s.bj.ϖ (c9 X.je X.w) p vs:=I.aQ p _ hx;have wZ:kvs.aj=vs.aj:=Zw.aj r;exact wpAny_truthy_dict hS m (by omega) ⟨H,I.Ym _,by rw[zbE r];exact q⟩
 |_=>exact(show vk from e).oa
def y81(ha:PE X a ta)(he:∀Ω,Ç a X.dt Ω=(do let v <- Ω;ö a.gw;_K [v] (ų v))):
  PT X a (λσ H Q=>ta σ H λx H'=>∃k,tF X.K x H' k/\Q k H'):=by
 intro dN s σ H Q I h;exact isTrue_plain (bq (ha dN s σ H _ I h) λv s1 ⟨x,H1,I1,r1,q1⟩=>RH dN s1 σ H1 x v Q I1 r1 q1) (he _)
def zcZ:fK X (ZH .Add) (λx y H Q=>∃i j,x=.str i/\y=.str j/\i.aj+j.aj<=wm/\Q (.str (i++j)) H):=by
 intro dN s σ H x y v u Q I rx ry h;let⟨i,j,rfl,rfl,hz,q⟩:=h;let⟨t,rfl⟩:=rx;let⟨t',rfl⟩:=ry;exact add_str (λt' tk=>⟨.str (i++j),H,I.Ym _,⟨_,rfl⟩,q⟩) hz
def _n{x:V}(r:uw [x] us):∃u,us=[u]/\uI x u:=by
 cases r with
 |qT r1 r2=>cases r2;exact⟨_,rfl,r1⟩
def vals2{x y:V}(r:uw [x,y] us):∃u w',us=[u,w']/\uI x u/\uI y w':=by
 cases r with
 |qT r1 r2=>
  cases r2 with
  |qT r3 r4=>cases r4;exact⟨_,_,rfl,r1,r3⟩
def zaZ:cZ X (.ke "int") (λxs H Q=>(∃i,xs=[.aT i]/\Q (.aT i) H)\/∃k,xs=[.bl k]/\Q (.aT (if k then 1 else 0)) H):=by
 intro dN s σ H xs us Q I r h;rcases h with⟨i,rfl,q⟩|⟨k,rfl,q⟩
 .let⟨u,rfl,t,rfl⟩:=_n r;exact call_int_int ⟨.aT i,H,I,⟨_,rfl⟩,q⟩
 .let⟨u,rfl,r1⟩:=_n r;cases r1;exact call_int_bool ⟨.aT (if k then 1 else 0),H,I.Ym _,⟨_,rfl⟩,q⟩
def zr(K:Fg)(x:V)(H:Hp)(n:aO):Prop:=
 match x with
 |.str y=>y.aj<=wm/\n=y.aj
 |.uZ y=>y.dS<=wm/\n=y.dS
 |.dr p=>(∃xs,bD K H p xs/\n=xs.aj)\/∃xs,bK K H p xs/\n=xs.aj
 |_=>vk
def PH:cZ X (.w4 "len") (λxs H Q=>∃x n,xs=[x]/\zr X.K x H n/\Q (.aT n) H):=by
 intro dN s σ H xs us Q I r h;let⟨x,n,rfl,e,q⟩:=h;let⟨u,rfl,rx⟩:=_n r;have hl:=fU;have hs:wm=16777216:=LP;cases x with
 |str y=>
  let⟨t,rfl⟩:=rx;obtain⟨hy,e'⟩:y.aj<=wm/\n=y.aj:=e;subst e';exact len_str (by omega) ⟨.aT _,H,I.Ym _,⟨_,rfl⟩,q⟩
 |uZ y=>
  let⟨t,rfl⟩:=rx;obtain⟨hy,e'⟩:y.dS<=wm/\n=y.dS:=e;subst e';exact n9.W.len_bytes (by omega) ⟨.aT _,H,I.Ym _,⟨_,rfl⟩,q⟩
 |dr p=>
  cases rx;have e':(∃xs,bD X.K H p xs/\n=xs.aj)\/∃xs,bK X.K H p xs/\n=xs.aj:=e;rcases e' with⟨xs,hx,e'⟩|⟨xs,hx,e'⟩
  .subst e';let⟨aw,r',pl,hz⟩:=I.xm hx;have wZ:=r'.aj;exact Zc.call_len_list pl.zD (by simp only[w0e];omega) ⟨.aT xs.aj,H,I.Ym _,⟨_,by simp only[w0e];rw[wZ]⟩,q⟩
  .subst e';let⟨aw,r',pl,hz⟩:=I.Tc hx;have wZ:=r'.aj;exact len_tuple pl (by simp only[w0e];omega) ⟨.aT xs.aj,H,I.Ym _,⟨_,by simp only[w0e];rw[wZ]⟩,q⟩
 |_=>exact(show vk from e).oa
end
structure ze6(h:g0)(x dx C:fy)(mA:et->d3 d0):Prop where
 Wd:h.ik x=ab (n9.W.instObj C dx)
 ns:h.Ns1 dx mA
 ne:dx≠x
def km.Ū{v:V}{o:d3 d0}(r:km (ab v) o):∃u,o=ab u/\uI v u:=by
 cases o with
 |none=>exact(show vk from r).oa
 |ab u=>exact⟨u,rfl,r⟩
structure S7(K:Fg)(C:fy):Prop where
 zfp:n9.W.plainGet K C et.empty=true
 hd:n9.W.hasDictIn K C=true
 po:n9.W.plainOver K C=true
 sa:_I K (.dr C) "__setattr__"=ab (ab (.w4 "object.__setattr__"))
structure Con(K:Fg)(C:fy)(f:et)(v:V)(u:d0):Prop where
 at_:_I K (.dr C) f=ab (ab u)
 mQ:uI v u
 Ff:Ģ K u "__get__"=ab none
 cp:n9.W.copiedNames._G f=false
structure Meth(K:Fg)(C:fy)(m:et)(f:fy):Prop where
 at_:_I K (.dr C) m=ab (ab (.dr f))
 fn:n9.W.isFn K (.dr f)=true
 kp:_L K (.dr f)=true
section
variable{Q:d0->p5->Prop}{c:d0}{b:ie}
inductive jv(K:Fg)(H:Hp):V->d0->Prop where
 |aB:jv K H .aB (.ke "NoneType")
 |bl (x:ie):jv K H (.bl x) (.ke "bool")
 |aT (i:a7):jv K H (.aT i) (.ke "int")
 |str (x:et):jv K H (.str x) (.ke "str")
 |u9 (x:UInt64):jv K H (.u9 x) (.ke "float")
 |dI {a:fy} {xs:ai V} (e:H a=ab (.dI xs)):jv K H (.dr a) (.ke "list")
 |cK {a:fy} {o:sT} {xs:ai V} (e:H a=ab (.cK o (.dI xs))):jv K H (.dr a) (.ke "list")
 |gs {a:fy} {xs:ai V} (e:H a=ab (.gs xs)):jv K H (.dr a) (.ke "tuple")
 |dK {a:fy} {kvs:ai (Ya×V)} (e:H a=ab (.dK kvs)):jv K H (.dr a) (.ke "dict")
 |dT {a:fy} {sh:Sh} {kvs:ai (Kx×V)} {bc:ai fy} (e:H a=ab (.dT sh kvs bc)):jv K H (.dr a) (.ke "dict")
 |ins {a C dx:fy} {fs:ai (et×V)} (e:H a=ab (.ins C dx fs)) (cl:S7 K C) (ha:_I K (.dr C) "__class__"=ab (ab (.w4 "object.__class__")))
   (hn:Ģ K (.w4 "object.__class__") "__get__"=ab (ab (.w4 "getset_descriptor.__get__"))) (htk:Ű K (.w4 "object.__class__")=ab true)
   (hm:n9.W.Ϩ K C (.ke "object")=ab true):jv K H (.dr a) (.dr C)
end
structure br(k:aO)(A:C_):Prop where
 hd:A.YV=none
 dp:A.ql+3*k+5<ţ
 un:A.zd+16*k+200<zm
 gd:A.guards=ab []
theorem br.k8{j k:aO}(r:br k A)(h:j<=k):br j A:=⟨r.hd,by have:=r.dp;omega,by have:=r.un;omega,r.gd⟩
theorem br.ZJ{k:aO}(r:br (k+1) A)(dt:S'):br k (A.ZJ dt):=
 ⟨r.hd,by have:=r.dp;show A.ql+1+3*k+5<_;omega,by have:=r.un;show A.zd+3+16*k+200<_;omega,r.gd⟩
theorem br.Ba{k:aO}(r:br (k+1) A):br k A.Ba:=
 ⟨r.hd,by have:=r.dp;grind,by have:=r.un;grind,r.gd⟩
def br.ql{k:aO}(r:br k A):A.ql<ţ:=by have:=r.dp;omega
def Cj:TA:=λ_ H Q=>Q [] H
def rZ(ta:TE)(tr:TA):TA:=λσ H Q=>ta σ H λx H1=>tr σ H1 λxs H2=>Q (x::xs) H2
section
variable{t:TA}
theorem xC:PA X [] Cj:=λ_ _ _ _ H Q I h=>Zc.õ ⟨[],H,I,.so,h⟩
def rG(ha:PE X e te)(hr:PA X es t)(hs:autoParam (pg (e::es) X.dt=(false,eval e X.dt)::pg es X.dt) jJ):PA X (e::es) (rZ te t):=by
 intro gw dN s σ H Q I h;rw[hs];show oP _ _ (Î ((false,eval e X.dt)::y0 gw (pg es X.dt))) _ _ s;refine Zc.ô (bq (ha dN s σ H _ I h) λu s1 ⟨x,H1,I1,r1,q1⟩=>?_)
 exact bq (hr gw dN s1 σ H1 _ I1 q1) λus s2 ⟨xs,H2,I2,r2,q2⟩=>⟨x::xs,H2,I2,.qT r1 r2,q2⟩
def JV(t:TA):TE:=λσ H Q=>t σ H λxs H1=>xs.aj<=wm/\∀p,H1 p=none->Q (.dr p) (oL H1 p (.gs xs))
def JR(t:TA):TE:=λσ H Q=>t σ H λxs H1=>xs.aj<=wm/\∀p,H1 p=none->Q (.dr p) (oL H1 p (.dI xs))
def K9{x1}(h:PA X es t):PE X (.Yg es x1 gw) (JV t):=by
 intro dN s σ H Q I hq;refine wpAny_Tuple_spliced (bq (h gw dN s σ H _ I hq) λus s1 ⟨xs,H1,I1,r,z,q⟩=>⟨by rw[<- r.aj];exact z,?_⟩)
 have hf:H1 s1.bj.f'.dS=none:=I1.aQ.xK (w0f _);refine⟨.dr s1.bj.f'.dS,oL H1 s1.bj.f'.dS (.gs xs),I1.JN (t':=s1.tK) (λb u e=>g0.w6 _ e) (w0f _) ?_,rfl,q _ hf⟩
 exact⟨z,us,r,⟨_,g0.A2 _ rfl,rfl,_,rfl⟩,⟨_,g0.A2 _ rfl,rfl⟩⟩
def z92(h:PA X es t):PE X (.ai es gw) (JR t):=by
 intro dN s σ H Q I hq;refine wpAny_List_spliced (bq (h gw dN s σ H _ I hq) λus s1 ⟨xs,H1,I1,r,z,q⟩=>⟨by rw[<- r.aj];exact z,?_⟩)
 have hf:H1 s1.bj.f'.dS=none:=I1.aQ.xK (w0f _);refine⟨.dr s1.bj.f'.dS,oL H1 s1.bj.f'.dS (.dI xs),I1.JN (t':=s1.tK) (λb u e=>g0.w6 _ e) (w0f _) ?_,rfl,q _ hf⟩
 exact⟨z,us,0,r,g0.A2 _ rfl⟩
end
abbrev Sp:=ai V->Hp->VK->XK->Prop
variable{sp:Sp}
abbrev mY:=ai S'->Hp->p5->XK->d0->p5->Prop
variable{CX:mY}
structure i8(P:xc)(w:vr)(K:Fg)(mg:et->d3 d0)(k_:g0)(A:C_)(tB:ai S')(s:p5)(H:Hp):Prop where
 YH:A.YH=ab tB
 Yv:θ K mg k_
 bs:∀b o,k_.ik b=ab o->s.bj.ik b=ab o/\H b=none
 o7:k_.f'.dS<=s.bj.f'.dS
 fQ:s.bj.ϗ k_ tB
 qx:∀b∈gM tB,H b=none
 aQ:eh P w H s.bj
 Td:Z6 s.YI
 _m:gu K H
def CE(tB:ai S')(P:xc)(w:vr)(H:Hp)(s:p5)(Q:VK)(u:d0)(s':p5):Prop:=
 ∃v H',s'.os=s.os/\Z6 s'.YI/\Un (gM tB) [] H H' s.bj s'.bj/\eh P w H' s'.bj/\uI v u/\Q v H'
def CR(CX:mY)(tB:ai S')(P:xc)(w:vr)(H:Hp)(s:p5)(Q:VK)(E:XK)(r:Result)(s':p5):Prop:=
 match r with
 |.ok (.CJ u)=>CE tB P w H s Q u s'
 |.ok _=>vk
 |._H e=>CX tB H s E e s'
structure eT(P:xc)(w:vr)(K:Fg)(mg:et->d3 d0)(k_:g0)(CX:mY)(k:aO)(f:fy)(fd:Zv)(ps:ai et)(sp:Sp):Prop where
 uN:∀vs H Q E,sp vs H Q E->vs.aj=ps.aj
 nN:∀(A:C_)(tB:ai S')(s:p5)(H:Hp)(args:Args)(us:ai d0)(vs:ai V)(Q:VK)(E:XK),br k A->i8 P w K mg k_ A tB s H->_Q s fd args (ps.xR us)->uw vs us->sp vs H Q E ->
  Zn (qX P w) A (.zb (.dr f) args) (CR CX tB P w H s Q E) s
theorem eT.uM{P:xc}{k:aO}{f:fy}{ps:ai et}{NM:Sp}(F:eT P w K mg k_ CX k f fd ps sp)
  (h:∀vs H Q E,NM vs H Q E->sp vs H Q E):eT P w K mg k_ CX k f fd ps NM:=
 ⟨λvs H Q E q=>F.uN vs H Q E (h _ _ _ _ q),λA tB s H args us vs Q E hr he hb hv hs=>F.nN A tB s H args us vs Q E hr he hb hv (h _ _ _ _ hs)⟩
section
variable{s':p5}
theorem j3.qv(I:j3 X dN σ H s):i8 X.je X.w X.K X.mg X.k_ X.A X.WZ s H:=
 ⟨I.ok.YH,I.ok.Yv,I.bs,w1a I.ok.o7 I.sz,I.WZ,I.oS,I.aQ,I.Td,I.ok._m.un I.k_⟩
def j3.ϡ{Q:VK}(I:j3 X dN σ H s)(h:CE X.WZ X.je X.w H s Q u s'):EP X dN σ Q u s':=by
 let⟨v,H',os,Td,un,aQ,r,q⟩:=h;let⟨hh,g,d,t,Wr⟩:=s';obtain rfl:Wr=s.os:=os;exact⟨v,H',I.zb (h':=hh) (g':=g) (d':=d) (t':=t) (ch:=[]) un aQ Td (λb z=>uz z (by simp)),r,q⟩
end
def ZO(K:Fg)(fd:Zv)(ps:ai et)(ds:ai d0):Prop:=
 ∀(s:p5)(us:ai d0),K.In s.bj->(us++ds).aj=ps.aj->_Q s fd ⟨us,[]⟩ (ps.xR (us++ds))
theorem ZO.t9{ps:ai et}(h:∀us:ai d0,us.aj=ps.aj->ρ fd ⟨us,[]⟩=vX (ps.xR us)):ZO K fd ps []:=λs us _ hl=>by
 rw[w1q]at hl |-
 exact .Ê (h us hl)
section
variable{k:aO}{f:fy}{ps:ai et}{tN:ai V}{ds:ai d0}{E:XK}{m:et}{Yo:vW}{o:p6}{t:TA}
structure zeZ(K:Fg)(C f:fy):Prop where
 makes:n9.W.makesIn K C=true
 Z0:_I K (.dr C) "__init__"=ab (ab (.dr f))
 fn:n9.W.isFn K (.dr f)=true
 kp:_L K (.dr C)=true
end
section
variable{k:aO}{f:fy}{ps ks:ai et}{E:XK}{m:et}{Yo zfb:vW}{o:p6}{kws:ai Zd}{t tk:TA}{nm:d3 et}
structure zeR(K:Fg)(fd:Zv)(ps ks:ai et)(g:ai d0->ai d0->ai d0)(gV:ai V->ai V->ai V):Prop where
 to:∀(s:p5)(us ws:ai d0),K.In s.bj->(g us ws).aj=ps.aj->_Q s fd ⟨us,ks.xR ws⟩ (ps.xR (g us ws))
 mQ:∀{vs:ai V}{us:ai d0}{zs:ai V}{ws:ai d0},uw vs us->uw zs ws->uw (gV vs zs) (g us ws)
variable{g:ai d0->ai d0->ai d0}{gV:ai V->ai V->ai V}
end
structure f6(N P:ai et)(sc:zF):Prop where
 zc:sc.zc=.ZK
 co:sc.ç=false
 gen:sc.è=false
 nd:N.xZ
 pre:N.wj P.aj=P
 Ϗ:∀x∈P,sc.qW.g6 x=ab .local\/sc.qW.g6 x=ab .uL
 lM:∀y∈sc.qW,y.2≠.tD
theorem OP{zj:et->d3 Wn}:∀{υ:ai (et×d0)}{m:et->d3 d0},(∀v,(x,v)∉υ)->τ zj υ m x=m x
 |[],_,_=>rfl
 |(n,v)::r,m,h=>by
  unfold τ;rw[OP λw hw=>h w (w0p _ hw)]
  split
  .have:x≠n:=by rintro rfl;exact h v w1b
   simp[this]
  .rfl
theorem OQ{zj:et->d3 Wn}:∀{υ:ai (et×d0)}{m:et->d3 d0},(∀v,(x,v)∉υ)->ς zj υ m x=m x
 |[],_,_=>rfl
 |(n,v)::r,m,h=>by
  unfold ς;rw[OQ λw hw=>h w (w0p _ hw)]
  split
  all_goals grind
theorem OR{zj:et->d3 Wn}{x:et}{v:d0}:∀{P:ai et}{vs:ai d0}{i:aO}{m:et->d3 d0},P.xZ->P[i]?=ab x->vs[i]?=ab v->zj x=ab .local ->
  τ zj (P.xR vs) m x=ab v
 |[],_,_,_,_,h,_,_=>by simp at h
 |_::_,[],_,_,_,_,h,_=>by simp at h
 |p::P,w::vs,0,m,nd,h1,h2,hk=>by
  simp at h1 h2;subst h1;subst h2;show τ zj ((p,w)::P.xR vs) m p=_;unfold τ;rw[OP λv hv=>(w2e.mp nd).1 (w3i hv).1,nZ hk]
  simp
 |p::P,w::vs,i+1,m,nd,h1,h2,hk=>by
  show τ zj ((p,w)::P.xR vs) m x=_;unfold τ;exact OR (i:=i) (w2e.mp nd).2 (by simpa using h1) (by simpa using h2) hk
theorem OS{zj:et->d3 Wn}{x:et}{v:d0}:∀{P:ai et}{vs:ai d0}{i:aO}{m:et->d3 d0},P.xZ->P[i]?=ab x->vs[i]?=ab v->zj x≠ab .local ->
  ς zj (P.xR vs) m x=ab v
 |[],_,_,_,_,h,_,_=>by simp at h
 |_::_,[],_,_,_,_,h,_=>by simp at h
 |p::P,w::vs,0,m,nd,h1,h2,hk=>by
  simp at h1 h2;subst h1;subst h2;show ς zj ((p,w)::P.xR vs) m p=_;unfold ς;rw[OQ λv hv=>(w2e.mp nd).1 (w3i hv).1,r5 hk]
  simp
 |p::P,w::vs,i+1,m,nd,h1,h2,hk=>by
  show ς zj ((p,w)::P.xR vs) m x=_;unfold ς;exact OS (i:=i) (w2e.mp nd).2 (by simpa using h1) (by simpa using h2) hk
def _l(N:ai et)(vs:ai V):St:=vs.a6 ab++ai.w8 (N.aj-vs.aj) none
def i9(CX:mY)(P:xc)(w:vr)(K:Fg)(mg:et->d3 d0)(k_:g0)(N:ai et)(t_:et)(fv:zF)(f:fy)(cd:d0)(A:C_)(tB:ai S')(s:p5)(H:Hp)(E:XK):Cx where
 je:=P
 w:=w
 K:=K
 mg:=mg
 k_:=k_
 A:=A.ZJ (ZZ t_ fv s.bj.f'.dS f cd)
 N:=N
 ay:=s
 aF:=H
 dt:=ZZ t_ fv s.bj.f'.dS f cd
 tB:=tB
 WZ:=ZZ t_ fv s.bj.f'.dS f cd::tB
 ex:=[]
 MT:=true
 fn:=λ_=>true
 pn:=[]
 xe:=λe s'=>oP (qX P w) (A.ZJ (ZZ t_ fv s.bj.f'.dS f cd)) (leaving (ZZ t_ fv s.bj.f'.dS f cd) e) (λ_ iT=>CX tB H s E e iT) (λe' iT=>CX tB H s E e' iT) s'
def PQ{sc:zF}{n:aO}(h:sc.qW.g6 x=ab .uL):∃c,(Þ n sc.qW []).g6 x=ab c:=by
 have q:=n9.W.zb9 sc.qW n [] (.jd h);exact w4k.mp q
def za0{P:xc}{ps:ai et}{t_:et}{fv:zF}{f:fy}{cd:d0}{tB:ai S'}{s1:p5}{E:XK}{vs:ai V}
  (S:f6 N ps fv)(hd:A.YV=none)(e0:i8 P w K mg k_ A tB s H)(hl:vs.aj=ps.aj)(r:uw vs us)
  (x:InCallC s s.bj.f'.dS (τ (ZZ t_ fv s.bj.f'.dS f cd).zj (ps.xR us) λ_=>none) (Þ (s.bj.f'.dS+1) fv.qW []) (ς (ZZ t_ fv s.bj.f'.dS f cd).zj (ps.xR us) λ_=>none) s1):
  j3 (i9 CX P w K mg k_ N t_ fv f cd A tB s H E) [] (_l N vs) H s1:=by
 have dP:ps.aj<=N.aj:=by have:=ZQ ai.aj S.pre;rw[w3b]at this;omega
 let⟨h1,tk,rfl,hk⟩:=x.done;have ud:∀b:fy,b∉(i9 CX P w K mg k_ N t_ fv f cd A tB s H E).ex:=λb z=>uz (show b∈([]:ai fy)from z) (by simp)
 refine⟨⟨e0.Yv,S.zc,rfl,rfl,w0f _,λy z c h1 h2=>?_,λy hy=>?_,λy c _ h=>?_,λ_=>hd,C_.zcu e0.YH,.lb ⟨rfl,rfl⟩,λb z=>uz z (ud b),e0.bs,e0.o7,λb _ _=>ud b,λb z=>uz z (ud b),e0.fQ,e0.qx,e0._m⟩,
  rfl,e0.Td,Un.Yc hk,⟨_,x.toInCall.ns,λi y v h1 h2 h3=>?_⟩,λy c h=>⟨_,x.uL y c h⟩,e0.aQ.xK (w0f _),λy c h=>?_,λp hp=>uz (show p∈([]:ai (fy×sT))from hp) (by simp),e0.aQ.Yc hk,?_⟩
 .exact name_of_addr x.apart (n9.Z2 h1) (n9.Z2 h2)
 .have hy:fv.qW.g6 y=ab .uL\/fv.qW.g6 y=ab .tD:=hy;rcases hy with hy|hy
  .exact PQ hy
  .exact uz rfl (S.lM _ (n9.Z2 hy))
 .exact w3p (x._U y c (n9.Z2 h))
 .have hi:i<vs.aj:=by
   unfold _l at h2
   by_cases hi:i<vs.aj
   .exact hi
   .rw[w1l (by simpa using hi)]at h2;rw[w4o]at h2;split at h2<;>cases h2
  have ha:vs[i]?=ab v:=by
   unfold _l at h2;rw[w2d (by simpa using hi),w0s]at h2;cases e:vs[i]? with
   |none=>rw[e]at h2;cases h2
   |ab a=>rw[e]at h2;cases (h2);rfl
  let⟨u,hu,rv⟩:=r.Ff ha
  have hp:ps[i]?=ab y:=by
   rw[<- S.pre,ai.getElem?_take_of_lt (by omega)];exact h1
  have MV:ps.xZ:=by rw[<- S.pre];exact S.nd.sublist (ai.take_sublist _ _)
  refine⟨u,rv,?_⟩;rcases S.Ϗ y (w0w hp)with k|k
  .exact .jd ⟨k,OR MV hp hu k⟩
  .let⟨c,e⟩:=PQ (n:=s.bj.f'.dS+1) k;refine .lb ⟨.jd k,c,e,?_⟩;have q:=x.uL y c e;rw[OS MV hp hu (by show fv.qW.g6 y≠_;rw[k];decide)]at q;exact q
 .exact e0.aQ.xK (w3p (x._U y c (n9.Z2 h)))
 .unfold _l;show _=N.aj;rw[w1e,w0a,w2f];omega
def UH{P:xc}{k:aO}{f:fy}{name t_:et}{uu:Z7}{uG:ai Mu}{fv:zF}{dV kV Yr pm eM ct oc:d0}{an od:d3 fy}
  {vt:yb (d3 d0)}{ps:ai et}(lk:K.g6 f=ab ⟨oc,od,.Zo (n9.W._X name t_ uu uG fv dV kV Yr pm an eM ct),vt⟩)(fg:n9.W._F K eM t_=true)(S:f6 N ps fv)
  (uN:∀vs H Q E,sp vs H Q E->vs.aj=ps.aj)
  (Af:∀(A:C_)(tB:ai S')(s:p5)(H:Hp)(vs:ai V)(Q:VK)(E:XK),br k (A.ZJ (ZZ t_ fv s.bj.f'.dS f eM))->sp vs H Q E ->
   ∃t,l7 (i9 CX P w K mg k_ N t_ fv f eM A tB s H E) uG t/\t {nx:=λ_ H'=>Q .aB H',rt:=Q} (_l N vs) H):
  eT P w K mg k_ CX (k+1) f (n9.W._X name t_ uu uG fv dV kV Yr pm an eM ct) ps sp:=by
 refine⟨uN,λA tB s H args us vs Q E hr e0 hb r sN=>?_⟩
 have hl:=uN _ _ _ _ sN;have KX:K.In s.bj:=e0.Yv.AN.YW λb o e=>(e0.bs b o e).1
 have lim:s.bj.Ö:=e0.Yv.ë.YW λb o e=>(e0.bs b o e).1
 have Aq:∀y∈ps.xR us,fv.qW.g6 y.1=ab .local\/(fv.qW.g6 y.1=ab .uL/\((Þ (s.bj.f'.dS+1) fv.qW []).g6 y.1).z_=true):=fun⟨n,v⟩ hy=>by
  rcases S.Ϗ n (w3i hy).1 with q|q
  .exact .jd q
  .exact .lb ⟨q,n9.W.zb9 _ _ _ (.jd q)⟩
 refine codeAny_call_function hr.ql (KX _ _ lk) rfl S.co S.gen rfl (n9.W.codeRec_of KX fg) (hb _ _ _ _ ?_)
 refine wpAny_newFunctionEnv_cells S.zc Aq λdt he s1 x=>?_
 subst he;refine⟨lim.YW x.toInCall.xW,codeAny_func ?_⟩
 let⟨t,ht,hq⟩:=Af A tB s H vs Q E (hr.ZJ _) sN;have I:j3 (i9 CX P w K mg k_ N t_ fv f eM A tB s H E) [] (_l N vs) H s1:=za0 S hr.hd e0 hl r x;refine Zs (ht [] s1 (_l N vs) H _ I hq) (λfl s' hs=>?_) λe s' hs=>hs
 have xT:∀{aJ:St}{H':Hp}{v:V}{u:d0},j3 (i9 CX P w K mg k_ N t_ fv f eM A tB s H E) [] aJ H' s'->uI v u->Q v H'->CE tB P w H s Q u s':=
  λ{aJ H' v u} J rv q=>⟨v,H',J.os,J.Td,J.k_,J.aQ,rv,q⟩
 cases fl with
 |CJ u=>
  let⟨v,aJ,H',J,rv,q⟩:=hs;exact xT J rv q
 |next=>
  let⟨aJ,H',J,q⟩:=hs;exact xT (v:=V.aB) (u:=d0.none) J rfl q
 |_r=>
  let⟨_,_,_,q⟩:=hs;exact vk.oa q
 |_s=>
  let⟨_,_,_,q⟩:=hs;exact vk.oa q
section
variable{t:TA}{id T:Yq}{r:ai V->Hp->VK->Prop}
def JP(r:ai V->Hp->VK->Prop)(t:TA):TE:=λσ H Q=>t σ H λvs H1=>r vs H1 Q
def Ke(hc:cZ X (.w4 id) r)(hg:Gl X x)(hm:X.mg x=none)(hv:_E x=ab (.w4 id))(ha:PA X (e::es) t)(hn:autoParam (x≠"__name__") jK)(jT:autoParam ((x==("__debug__":et))=false) jK)
  (he:autoParam (pg (e::es) X.dt=(false,eval e X.dt)::pg es X.dt) jJ)(dP:autoParam ((y0 gw (pg es X.dt)).uJ (·.1)=false) jJ):PE X (.wO (.oh x p) (e::es) [] gw) (JP r t):=by
 intro dN s σ H Q I h;refine γ (pY I hg hm hv ?_ hn jT);exact CG.Fe.callWith_builtin1 (bq (ha gw dN s σ H _ I h) λus s1 ⟨vs,H1,I1,r1,q1⟩=>hc dN s1 σ H1 vs us Q I1 r1 q1) he dP
def OT(hc:cZ X (.ke T) r)(hg:Gl X x)(hm:X.mg x=none)(hv:_E x=ab (.ke T))(ha:PA X (e::es) t)(hn:autoParam (x≠"__name__") jK)(jT:autoParam ((x==("__debug__":et))=false) jK)
  (he:autoParam (pg (e::es) X.dt=(false,eval e X.dt)::pg es X.dt) jJ)(dP:autoParam ((y0 gw (pg es X.dt)).uJ (·.1)=false) jJ):PE X (.wO (.oh x p) (e::es) [] gw) (JP r t):=by
 intro dN s σ H Q I h;refine γ (pY I hg hm hv ?_ hn jT);exact CG.Fe.χ (bq (ha gw dN s σ H _ I h) λus s1 ⟨vs,H1,I1,r1,q1⟩=>hc dN s1 σ H1 vs us Q I1 r1 q1) he dP
end
end L2
namespace HT
open PySem PyProof.Rows
section
variable{je:xc}{w:vr}{A:C_}{E:d0->p5->Prop}{s:p5}
def zdG{t b:fy}{vs ws:ai d0}{Q:d0->p5->Prop}(ht:Z8 s.bj t vs.l8)(hb:Z8 s.bj b ws.l8)(hv:vs≠[])
  (h1:ws=[]->Q (.dr t) s)(h2:ws≠[]->Q (.dr s.bj.f'.dS) {s with bj:=s.bj.tM {o4:=.ke "tuple", pJ:=.p7 (vs++ws).l8}})
  (hsz:vs.aj+ws.aj<=wm):oP (qX je w) A (ZH .Add (.dr t) (.dr b)) Q E s:=by
 let⟨⟨o4,dd,pJ,sl⟩,ho,hc,n,hd⟩:=id ht;let⟨⟨zQ,u6,data2,yR⟩,sL,du,n2,YQ⟩:=id hb;simp only at hc hd du YQ;subst hc hd du YQ;have e:vs.l8++ws.l8=(vs++ws).l8:=by simp
 by_cases hw:ws=[]
 .exact Ċ ⟨_,ho,rfl⟩ ⟨_,sL,rfl⟩ Ş ŧ n9.F.ũ n9.F.ő (n9.F.Ń _ _)
   (tuple_addW1 t b vs.l8 ws.l8 n n2 dd u6 sl yR (by simpa using hv) (by simp[hw])) ⟨ho,sL,h1 hw⟩
 .refine Ċ ⟨_,ho,rfl⟩ ⟨_,sL,rfl⟩ Ş ŧ n9.F.ũ n9.F.ő (n9.F.Ń _ _)
   (tuple_addW2 t b vs.l8 ws.l8 n n2 dd u6 sl yR (by simpa using hv) (by simpa using hw) (by rw[w0e,w0e];exact hsz)) ⟨ho,sL,?_⟩
  rw[e];exact h2 hw
def cA(n d:aO):d3 a7->aO
 |none=>d
 |ab v=>if v<0 then(v+(n:a7)).uh else min v.uh n
theorem mL(n d:aO):cA n d none=d:=rfl
def iu(n d k:aO):cA n d (ab (k:a7))=min k n:=by
 show(if(k:a7)<0 then((k:a7)+(n:a7)).uh else min (k:a7).uh n)=min k n;rw[r5 (by omega),w2b]
def z93(n d:aO)(hd:d<=n)(o:d3 a7):cA n d o<=n:=by
 cases o with
 |none=>exact hd
 |ab v=>
  show(if v<0 then(v+(n:a7)).uh else min v.uh n)<=n
  by_cases hv:v<0
  .rw[nZ hv];omega
  .rw[r5 hv];exact w4u _ _
def QK(v:a7)(n d:aO):(if v<0 then max (v+(n:a7)) 0 else min v (n:a7))=((cA n d (ab v):aO):a7):=by
 show(if v<0 then max (v+(n:a7)) 0 else min v (n:a7))=(((if v<0 then(v+(n:a7)).uh else min v.uh n):aO):a7)
 grind
def zbF(lo hi:d3 a7)(n:aO):uK.ZX.Ũ lo hi 1 (n:a7)=(((cA n 0 lo:aO):a7),((cA n n hi:aO):a7)):=by
 have h1:¬((1:a7)<0):=by omega
 unfold uK.ZX.Ũ;simp only[h1,_t];refine Prod.ext ?_ ?_
 .cases lo with
  |none=>rfl
  |ab v=>exact QK v n 0
 .cases hi with
  |none=>rfl
  |ab v=>exact QK v n n
def zbG(i j:aO):uK.ZX.Ĝ (i:a7) (j:a7) 1=j-i:=by
 unfold uK.ZX.Ĝ
 grind
def N'{v:d0}{o:d3 a7}{Q:d3 a7->p5->Prop}(p:η v o)(h:Q o s):oP (qX je w) A (uK.ZX.slicePartIndex v) Q E s:=by
 cases p with
 |none=>exact zdq h
 |aT i t=>exact slicePart_int h
def W'{sl:fy}{vl vu:d0}{lo hi:d3 a7}{n:aO}{Q:a7×a7×aO->p5->Prop}(hs:s.bj.Ą sl vl vu .none)(pl:η vl lo)(pu:η vu hi)
  (h:Q (((cA n 0 lo:aO):a7),1,cA n n hi-cA n 0 lo) s):oP (qX je w) A (uK.ZX.zdp (.dr sl) (vX (n:a7))) Q E s:=by
 let⟨os,t5,tV,CW⟩:=id hs;unfold uK.ZX.zdp uK.ZX.sliceFields;refine ny (ny (ZV t5 CW (x:=vl) rfl (ny (ZV t5 CW (x:=vu) rfl (ny (ZV t5 CW (x:=.none) rfl (ui ?_)))))));refine ny (zdq ?_);show oP _ _ (if((1:a7)==0)=true then _ else _) _ _ s;rw[r5 (by decide)];refine ny (N' pl (ny (N' pu (ny (ui ?_)))));show oP _ _ (match uK.ZX.Ũ lo hi 1 (n:a7)with|(lo,hi)=>vX (lo,(1:a7),uK.ZX.Ĝ lo hi 1)) _ _ s;rw[zbF lo hi n];show oP _ _ (vX (((cA n 0 lo:aO):a7),(1:a7),uK.ZX.Ĝ ((cA n 0 lo:aO):a7) ((cA n n hi:aO):a7) 1)) _ _ s;rw[zbG];exact ui h
def y82(xs:yb d0)(i k:aO):((ai.CC k).Ϥ fun(m:aO)=>xs[((i:a7)+(m:a7)*1).uh]?).l8=((xs.wL.xO i).wj k).l8:=by
 have e:(fun(m:aO)=>xs[((i:a7)+(m:a7)*1).uh]?)=λm=>xs[i+m]?:=by
  funext m
  have:((i:a7)+(m:a7)*1).uh=i+m:=by omega
  rw[this]
 rw[e];have:=pick_run xs i k;rw[ai.filterMap_map]at this;have e2:((λx=>xs[x]?) ∘ λx=>i+x)=λm=>xs[i+m]?:=rfl
 rw[e2]at this;rw[this]
def zcB{t sl:fy}{ro:yb d0}{vl vu:d0}{lo hi:d3 a7}{Q:d0->p5->Prop}(ht:Z8 s.bj t ro)(hs:s.bj.Ą sl vl vu .none)(pl:η vl lo)(pu:η vu hi)
  (hw:¬(cA ro.dS 0 lo=0/\cA ro.dS ro.dS hi=ro.dS))
  (h:Q (.dr s.bj.f'.dS) {s with bj:=s.bj.tM {o4:=.ke "tuple", pJ:=.p7 ((ro.wL.xO (cA ro.dS 0 lo)).wj (cA ro.dS ro.dS hi-cA ro.dS 0 lo)).l8}})
  (hsz:ro.dS<=wm):oP (qX je w) A (ϋ (.dr t) (.dr sl)) Q E s:=by
 have kM:sizeOk (.p7 ((ro.wL.xO (cA ro.dS 0 lo)).wj (cA ro.dS ro.dS hi-cA ro.dS 0 lo)).l8):=by
  show((ro.wL.xO (cA ro.dS 0 lo)).wj (cA ro.dS ro.dS hi-cA ro.dS 0 lo)).l8.dS<=wm;rw[w0e,w3b,w3u,w3z];exact w1a (w4u _ _) (w1a (aO.sub_le _ _) hsz)
 have hj:cA ro.dS ro.dS hi<=ro.dS:=z93 _ _ (w0f _) hi;let⟨os,t5,tV,CW⟩:=id hs;have Vx:s._S (.dr sl) "slice":=⟨os,t5,tV⟩;unfold ϋ;try with_reducible refine ZW ?_
 first|refine ny (ui ?_)|skip
 refine ny (wpAny_sequenceKey ht.Zr (by decide) ?_)
 refine ny (Ð (name:=et.YM "__getitem__") ht.Zr CG.Fe.ğ
  (ü CG.Fe.ğ ht.Zr entry_tuple_getitem ?_ (args_tuple_getitem _ _)))
 show oP _ _ (uK.Yg.tupleItemsOf (.dr t) >>= _) _ _ s;refine ny (tupleItemsOf_ ht ?_);refine ny (ź Vx ?_);rw[nZ (by decide)];refine ny (W' hs pl pu ?_)
 have VT:¬((((cA ro.dS 0 lo:aO):a7)==0&&(1:a7)==1&&(cA ro.dS ro.dS hi-cA ro.dS 0 lo)==ro.dS)=true):=by
  intro q;rw[w0q,w0q]at q;have q1:((cA ro.dS 0 lo:aO):a7)=0:=ċ q.1.1;have q2:cA ro.dS ro.dS hi-cA ro.dS 0 lo=ro.dS:=ċ q.2;exact hw ⟨by omega,by omega⟩
 show oP _ _ (if(((cA ro.dS 0 lo:aO):a7)==0&&(1:a7)==1&&(cA ro.dS ro.dS hi-cA ro.dS 0 lo)==ro.dS)=true then _ else _) _ _ s;rw[r5 VT,y82]
 first
  |exact ny (m:=uK.Yg.Ï _) (Γ (ui ⟨_,rfl,ui h⟩) kM)
  |exact ny (m:=uK.Yg.Ï _) (Γ (ny (ui (ui ⟨_,rfl,ui h⟩))) kM)
  |exact ny (ny (m:=uK.Yg.Ï _) (Γ (ui (ui ⟨_,rfl,ui h⟩)) kM))
  |exact ny (ny (m:=uK.Yg.Ï _) (Γ (ui ⟨_,rfl,ui h⟩) kM))
end
end HT
namespace L2
open PySem PySem.Spec PyProof.Rows
variable{A:C_}{X:Cx}{H:Hp}{dN:ai (fy×sT)}{xs:ai V}{aw us:ai d0}{n:aO}{s:p5}{σ:St}{α:Type}{x:V}{v:d0}
abbrev TO:=St->Hp->(d3 a7->Hp->Prop)->Prop
def PO(X:Cx)(e:d3 p6)(t:TO):Prop:=
 ∀(dN:ai (fy×sT))(s:p5)(σ:St)(H:Hp)(Q:d3 a7->Hp->Prop),j3 X dN σ H s->t σ H Q ->
  oP (qX X.je X.w) X.A (evalPart e X.dt) (λu s'=>∃o H',j3 X dN σ H' s'/\η u o/\Q o H') X.xe s
def zdM:TO:=λ_ H Q=>Q none H
def Cn(t:TE):TO:=λσ H Q=>t σ H λx H1=>∃i,x=.aT i/\Q (ab i) H1
section
variable{e:p6}{te:TE}{lo hi:d3 p6}{tl th:TO}{gw p2:vW}
def z33:PO X none zdM:=by
 intro dN s σ H Q I h;rw[zco];exact ui ⟨none,H,I,.none,h⟩
def z34(h:PE X e te):PO X (ab e) (Cn te):=by
 intro dN s σ H Q I hw;rw[evalPart_some];refine bq (h dN s σ H _ I hw) λu s1 ⟨x,H1,I1,r1,q1⟩=>?_
 let⟨i,rfl,q⟩:=q1;let⟨t,rfl⟩:=r1;exact⟨ab i,H1,I1,.aT i t,q⟩
def uU(X:Cx)(r:V->d3 a7->d3 a7->Hp->VK->Prop):Prop:=
 ∀(dN:ai (fy×sT))(s:p5)(σ:St)(H:Hp)(x:V)(v vl vu:d0)(lo hi:d3 a7)(sl:fy)(Q:VK),j3 X dN σ H s->uI x v->s.bj.Ą sl vl vu .none->η vl lo->η vu hi->r x lo hi H Q ->
  ∃T id,ĭ (.ke T) "__getitem__"=vX (ab (.w4 id))/\s._S v T/\oP (qX X.je X.w) X.A (ϋ v (.dr sl)) (EP X dN σ Q) X.xe s
def uU.or{r r':V->d3 a7->d3 a7->Hp->VK->Prop}(h:uU X r)(h':uU X r'):uU X (λx lo hi H Q=>r x lo hi H Q\/r' x lo hi H Q):=by
 intro dN s σ H x v vl vu lo hi sl Q I rx hs pl pu q;rcases q with q|q
 .exact h dN s σ H x v vl vu lo hi sl Q I rx hs pl pu q
 .exact h' dN s σ H x v vl vu lo hi sl Q I rx hs pl pu q
def WT(r:V->d3 a7->d3 a7->Hp->VK->Prop)(te:TE)(tl th:TO):TE:=λσ H Q=>te σ H λx H1=>tl σ H1 λl H2=>th σ H2 λu H3=>r x l u H3 Q
def y83{r:V->d3 a7->d3 a7->Hp->VK->Prop}(hr:uU X r)(he:PE X e te)(hl:PO X lo tl)(hu:PO X hi th):PE X (.Yb e (.ZX lo hi none p2) gw) (WT r te tl th):=by
 intro dN s σ H Q I h;refine ŀ (bq (he dN s σ H _ I h) λv s1 ⟨x,H1,I1,r1,q1⟩=>?_)
 refine wpAny_Slice (bq (hl dN s1 σ H1 _ I1 q1) λvl s2 ⟨l,H2,I2,pl,q2⟩=>bq (hu dN s2 σ H2 _ I2 q2) λvu s3 ⟨u,H3,I3,pu,q3⟩=>?_)
 rw[zco];refine ui ?_;have I4:j3 X dN σ H3 {s3 with bj:=s3.bj.tM {o4:=.ke "slice", pJ:=.MU #[vl,vu,.none]}}:=I3.Yc (t':=s3.tK) λb ob q=>g0.w6 _ q
 let⟨T,id,hT,ht,hg⟩:=hr dN {s3 with bj:=s3.bj.tM {o4:=.ke "slice", pJ:=.MU #[vl,vu,.none]}} σ H3 x v vl vu l u s3.bj.f'.dS Q I4 r1 (g0.Ą.vd ..) pl pu q3;show oP (qX X.je X.w) X.A (ŭ e (.ZX lo hi none p2) v (.dr s3.bj.f'.dS)) (EP X dN σ Q) X.xe {s3 with bj:=s3.bj.tM {o4:=.ke "slice", pJ:=.MU #[vl,vu,.none]}};exact ů (ops:=[.dr s3.bj.f'.dS,v]) ht hT hg (by with_unfolding_all rfl)
def ko(xs:ai V)(lo hi:d3 a7):ai V:=(xs.xO (HT.cA xs.aj 0 lo)).wj (HT.cA xs.aj xs.aj hi-HT.cA xs.aj 0 lo)
def NW(xs:ai V)(lo hi:d3 a7):(ko xs lo hi).aj<=xs.aj:=by
 unfold ko;rw[w3b,w3u];exact w1a (w4u _ _) (aO.sub_le _ _)
def JJ(K:Fg):V->d3 a7->d3 a7->Hp->VK->Prop:=λx lo hi H Q=>∃a xs,x=.dr a/\bK K H a xs /\
 ¬(HT.cA xs.aj 0 lo=0/\HT.cA xs.aj xs.aj hi=xs.aj)/\∀p,H p=none->Q (.dr p) (oL H p (.gs (ko xs lo hi)))
def z94:uU X (JJ X.K):=by
 intro dN s σ H x v vl vu lo hi sl Q I rx hs pl pu h;let⟨a,xs,rfl,hx,hw,q⟩:=h;cases rx;let⟨aw,r,ht,hz⟩:=I.Tc hx;have wZ:aw.l8.dS=xs.aj:=by rw[w0e];exact r.aj.symm
 refine⟨"tuple", _,CG.Fe.ğ.g6,ht.Zr,?_⟩;refine HT.zcB ht hs pl pu (by rw[wZ];exact hw) ?_ (by rw[wZ];exact hz);rw[wZ];refine⟨.dr s.bj.f'.dS,_,I.JN (t':=s.tK) (o:=.gs (ko xs lo hi)) (λb ob q=>g0.w6 _ q) (w0f _) ?_,rfl,q _ (I.aQ.xK (w0f _))⟩
 exact⟨w1a (NW xs lo hi) hz,_,(r.xO (HT.cA xs.aj 0 lo)).wj (HT.cA xs.aj xs.aj hi-HT.cA xs.aj 0 lo),Z8.vd _ _,_,g0.A2 _ rfl,rfl⟩
def rK(K:Fg):R2:=λx y H Q=>∃a b xs ys,x=.dr a/\y=.dr b/\bK K H a xs/\bK K H b ys/\xs≠[]/\xs.aj+ys.aj<=wm /\
 (ys=[]->Q (.dr a) H)/\(ys≠[]->∀p,H p=none->Q (.dr p) (oL H p (.gs (xs++ys))))
def uw.lK(r:uw xs us):us=[]↔xs=[]:=by
 cases r with
 |so=>simp
 |qT _ _=>simp
def zdP:fK X (ZH .Add) (rK X.K):=by
 intro dN s σ H x y v u Q I rx ry h;let⟨a,b,xs,ys,rfl,rfl,ha,hb,hx,hz,q1,q2⟩:=h;cases rx;cases ry;let⟨aw,r1,p1,_⟩:=I.Tc ha;let⟨fm,r2,p2,_⟩:=I.Tc hb;refine HT.zdG p1 p2 (λz=>hx (r1.lK.mp z)) (λz=>⟨.dr a,H,I,rfl,q1 (r2.lK.mp z)⟩) (λz=>?_) (by rw[<- r1.aj,<- r2.aj];exact hz)
 refine⟨.dr s.bj.f'.dS,_,I.JN (t':=s.tK) (o:=.gs (xs++ys)) (λb ob q=>g0.w6 _ q) (w0f _) ?_,rfl,q2 (λw=>z (r2.lK.wa w)) _ (I.aQ.xK (w0f _))⟩
 exact⟨by rw[w1e];exact hz,_,r1.Wi r2,Z8.vd _ _,_,g0.A2 _ rfl,rfl⟩
end
def oC(n:aO)(i:a7):d3 aO:=if 0<=i then(if i<n then ab i.uh else none)else if -(n:a7)<=i then ab (i+n).uh else none
def eu(xs:ai α)(i:a7):d3 α:=(oC xs.aj i).r7 λj=>xs[j]?
def QL{i:a7}{j:aO}(h:oC n i=ab j):seqIndex? i n=ab j/\j<n/\-(n:a7)<=i/\i<n:=by
 unfold oC at h
 by_cases h0:0<=i
 .rw[nZ h0]at h
  by_cases h1:i<n
  .rw[nZ h1]at h
   grind [Ŧ]
  grind
 .rw[r5 h0]at h
  by_cases h1:-(n:a7)<=i
  .rw[nZ h1]at h
   grind [ť]
  grind
def Kz{xs:ai α}{i:a7}{v:α}(h:eu xs i=ab v):∃j,seqIndex? i xs.aj=ab j/\xs[j]?=ab v/\j<xs.aj/\-(xs.aj:a7)<=i/\i<xs.aj:=by
 unfold eu at h;cases e:oC xs.aj i with
 |none=>rw[e]at h;cases h
 |ab j=>
  rw[e]at h;let⟨h1,h2,h3,h4⟩:=QL e;exact⟨j,h1,h,h2,h3,h4⟩
def pU{xs:ai α}{j:aO}{v:α}(h:xs[j]?=ab v):eu xs (j:a7)=ab v:=by
 have hj:j<xs.aj:=(w0b.mp h).1
 simp_all [oC,eu]
def g9(b:p6):Prop:=∀o i,ħ b false o i=š [o,i] (ϋ o i)
def qg(X:Cx)(r:R2):Prop:=
 ∀(ZC Z4:p6)(dN:ai (fy×sT))(s:p5)(σ:St)(H:Hp)(x y:V)(v u:d0)(Q:VK),j3 X dN σ H s->uI x v->uI y u->r x y H Q ->
  ħ Z4 false v u=š [v,u] (ϋ v u)->oP (qX X.je X.w) X.A (ŭ ZC Z4 v u) (EP X dN σ Q) X.xe s
def v5(X:Cx)(id:Yq)(r:V->ai V->Hp->VK->Prop):Prop:=
 ∀(dN:ai (fy×sT))(s:p5)(σ:St)(H:Hp)(x:V)(xs:ai V)(v:d0)(us:ai d0)(Q:VK),j3 X dN σ H s->uI x v->uw xs us->r x xs H Q ->
  oP (qX X.je X.w) X.A (zb (.w4 id) (v::us)) (EP X dN σ Q) X.xe s
section
variable{a b:p6}{ta tb:TE}{gw:vW}
def qg.or{r r':R2}(h:qg X r)(h':qg X r'):qg X (λx y H Q=>r x y H Q\/r' x y H Q):=by
 intro ZC Z4 dN s σ H x y v u Q I rx ry q hs;rcases q with q|q
 .exact h ZC Z4 dN s σ H x y v u Q I rx ry q hs
 .exact h' ZC Z4 dN s σ H x y v u Q I rx ry q hs
def EX{r:R2}(hr:qg X r)(ha:PE X a ta)(hb:PE X b tb)(hs:g9 b):PE X (.Yb a b gw) (Cm r ta tb):=by
 intro dN s σ H Q I h;exact ŀ (we ha hb I h λv u s2 x y H2 I2 rx ry q=>hr a b dN s2 σ H2 x y v u Q I2 rx ry q (hs _ _))
def BY(K:Fg):R2:=λx y H Q=>∃p xs i v,x=.dr p/\y=.aT i/\bD K H p xs/\eu xs i=ab v/\Q v H
def B0(K:Fg):R2:=λx y H Q=>∃p xs i v,x=.dr p/\y=.aT i/\bK K H p xs/\eu xs i=ab v/\Q v H
def BZ:R2:=λx y H Q=>∃z i c,x=.str z/\y=.aT i/\z.aj<=wm/\eu z.Yp.wL i=ab c/\Q (.str ⟨#[c]⟩) H
def zdH:qg X (BY X.K):=by
 intro ZC Z4 dN s σ H x y v u Q I rx ry h hs;let⟨p,xs,i,z,rfl,rfl,hq,he,q⟩:=h;cases rx;let⟨t,rfl⟩:=ry;let⟨aw,r,pl,hz⟩:=I.xm hq;let⟨j,h1,h2,h3,h4,h5⟩:=Kz he;let⟨w,ew,uE⟩:=r.Ff h2;have hl:=r.aj;have hn:=fU;have xT:EP X dN σ Q w s:=⟨z,H,I,uE,q⟩
 by_cases h0:0<=i
 .have hj:i.uh=j:=by
   rw[Ŧ h0 h5]at h1;exact d3.ab.zT h1
  exact item_listR pl.zD h0 (by omega) (by rw[hj];simpa using ew) xT hs
 .have hj:(i+(aw.l8.dS:a7)).uh=j:=by
   rw[ť (by omega) h4]at h1;rw[w0e,<- hl];exact d3.ab.zT h1
  exact zdy (x:=w) pl.zD.Zr zdw.g6
   (wpAny_getItem_list_neg (Q:=λr s'=>r=w/\EP X dN σ Q r s') pl.zD (by omega) (by rw[w0e]<;>omega) (by omega) (by rw[hj];simpa using ew) ⟨rfl,xT⟩) hs
def qM:qg X (B0 X.K):=by
 intro ZC Z4 dN s σ H x y v u Q I rx ry h hs;let⟨p,xs,i,z,rfl,rfl,hq,he,q⟩:=h;cases rx;let⟨t,rfl⟩:=ry;let⟨aw,r,pl,hz⟩:=I.Tc hq;let⟨j,h1,h2,h3,h4,h5⟩:=Kz he;let⟨w,ew,uE⟩:=r.Ff h2;have hl:=r.aj;have hn:=fU;have xT:EP X dN σ Q w s:=⟨z,H,I,uE,q⟩
 exact zdy (x:=w) pl.Zr ğ.g6
  (getItem_tuple (j:=j) (Q:=λr s'=>r=w/\EP X dN σ Q r s') pl (by omega) (by omega) (by rw[w0e,<- hl];exact h1) (by simpa using ew) ⟨rfl,xT⟩) hs
def z95:qg X BZ:=by
 intro ZC Z4 dN s σ H x y v u Q I rx ry h hs;let⟨z,i,c,rfl,rfl,hz,he,q⟩:=h;let⟨t,rfl⟩:=rx;let⟨t',rfl⟩:=ry;let⟨j,h1,h2,h3,h4,h5⟩:=Kz he;have hl:z.Yp.wL.aj=z.aj:=by simp[et.aj]
 rw[hl]at h1 h4 h5;have hn:=fU
 exact ů (typeIs_str s z t) slot_str_getitem.g6 (getItem_str (c:=c) (by
  grind) (by rw[h1];simpa using h2) ⟨.str ⟨#[c]⟩,H,I.Ym _,⟨_,rfl⟩,q⟩) hs
def NJ(K:Fg):R2:=λx y H Q=>BY K x y H Q\/B0 K x y H Q\/BZ x y H Q
theorem RI:qg X (NJ X.K):=zdH.or (qM.or z95)
def zbH(aw:ai d0)(n j:aO)(u:d0):sT.Yt (·.zdo j u) {o4:=.ke "list", pJ:=.p7 aw.l8 n}={o4:=.ke "list", pJ:=.p7 (aw.rk j u).l8 n}:=by
 simp[sT.Yt]
def j3.dI{p:fy}(I:j3 X dN σ H s)(h:H p=ab (.dI xs)):
  ∃(aw:ai d0)(n:aO),uw xs aw/\s.bj.ik p=ab {o4:=.ke "list", pJ:=.p7 aw.l8 n}/\xs.aj<=wm:=by
 let⟨z,aw,n,r,e⟩:=I.aQ p _ h;exact⟨aw,n,r,e,z⟩
def j3.zeq{p:fy}{ys:ai V}{its':ai d0}{n':aO}{f:sT->sT}(I:j3 X dN σ H s)(h:H p=ab (.dI xs))
  (ho:s.bj.ik p=ab {o4:=.ke "list", pJ:=.p7 aw.l8 n})(hf:f {o4:=.ke "list", pJ:=.p7 aw.l8 n}={o4:=.ke "list", pJ:=.p7 its'.l8 n'})(r:uw ys its')(hz:ys.aj<=wm)(t:aO):
  j3 X dN σ (oL H p (.dI ys)) {s with bj:=s.bj.Yn p f,tK:=t}:=by
 have e:(s.bj.Yn p f).ik p=ab {o4:=.ke "list", pJ:=.p7 its'.l8 n'}:=by
  rw[g0.zcy f ho (by rw[hf]<;>rfl),hf]
 refine I.Zl (x:=p) (e:=p) (by rw[h];trivial) (.jd rfl) (λb u hb q=>(g0._J _ _ (Ne.symm hb)).kZ q) ⟨_,e⟩ ?_
 exact⟨hz,its',n',r,e⟩
def B5:V->V->V->Hp->(Hp->Prop)->Prop:=λo i v H Q=>∃p xs k j,o=.dr p/\i=.aT k/\H p=ab (.dI xs)/\oC xs.aj k=ab j/\Q (oL H p (.dI (xs.rk j v)))
def y84:zC X B5:=by
 intro dN s σ H o i v ov iv u Q I zdl ri rv h;let⟨p,xs,k,j,rfl,rfl,hp,hj,q⟩:=h;cases zdl;let⟨t,rfl⟩:=ri;let⟨aw,n,r,ho,hz⟩:=I.dI hp;let⟨h1,h2,h3,h4⟩:=QL hj;have hl:=r.aj;have hn:=fU
 have I':j3 X dN σ (oL H p (.dI (xs.rk j v))) {s with bj:=s.bj.Yn p (sT.Yt (·.zdo j u))}:=
  I.zeq hp ho (zbH aw n j u) (r.rk rv j) (by rw[ai.length_set];exact hz) s.tK
 by_cases h0:0<=k
 .have hk:k.uh=j:=by
   rw[Ŧ h0 h4]at h1;exact d3.ab.zT h1
  exact n9.W.ki_setAt ho h0 (by omega) (by rw[w0e,<- hl];exact h4) (by rw[hk];exact⟨_,I',q⟩)
 .have hk:(k+(aw.l8.dS:a7)).uh=j:=by
   rw[ť (by omega) h3]at h1;rw[w0e,<- hl];exact d3.ab.zT h1
  exact n9.W.ki_setBack ho (by omega) (by rw[w0e,<- hl];exact h3) (by omega) (by rw[hk];exact⟨_,I',q⟩)
def zaL(lo hi:d3 a7)(n:aO):(Ϫ lo hi none n).1=((HT.cA n 0 lo:aO):a7)/\(Ϫ lo hi none n).2.1=((HT.cA n n hi:aO):a7)/\(Ϫ lo hi none n).2.2=1:=by
 refine⟨?_,?_,rfl⟩
 .cases lo with
  |none=>simp[Ϫ,HT.cA]
  |ab i=>
   simp only[Ϫ,HT.cA,d3.getD_none,show(1:a7)>0 by decide,Zz]
   grind
 .cases hi with
  |none=>simp[Ϫ,HT.cA]
  |ab i=>
   simp only[Ϫ,HT.cA,d3.getD_none,show(1:a7)>0 by decide,Zz]
   grind
def XS(aw:ai d0)(lo hi:d3 a7):slicePick aw.l8 lo hi none=((aw.xO (HT.cA aw.aj 0 lo)).wj (HT.cA aw.aj aw.aj hi-HT.cA aw.aj 0 lo)).l8:=by
 let⟨h1,h2,h3⟩:=zaL lo hi aw.l8.dS;unfold slicePick;rw[h1,h2,h3];simp only[sliceRange_one,pick_run,w0e]<;>rfl
def JI(K:Fg):V->d3 a7->d3 a7->Hp->VK->Prop:=λx lo hi H Q=>∃a xs,x=.dr a/\bD K H a xs/\∀p,H p=none->Q (.dr p) (oL H p (.dI (ko xs lo hi)))
def zdK:uU X (JI X.K):=by
 intro dN s σ H x v vl vu lo hi sl Q I rx hs pl pu h;let⟨a,xs,rfl,hx,q⟩:=h;cases rx;let⟨aw,r,ht,hz⟩:=I.xm hx;have wZ:=r.aj;refine⟨"list", _,zdw.g6,ht.zD.Zr,?_⟩;refine wpAny_getItem_list_slice ht.zD hs pl pu .none (by simp) ?_ (by grind);rw[XS,<- wZ];refine⟨.dr s.bj.f'.dS,_,I.JN (t':=s.tK) (o:=.dI (ko xs lo hi)) (λb ob q=>g0.w6 _ q) (w0f _) ?_,rfl,q _ (I.aQ.xK (w0f _))⟩
 exact⟨w1a (NW xs lo hi) hz,_,0,(r.xO (HT.cA xs.aj 0 lo)).wj (HT.cA xs.aj xs.aj hi-HT.cA xs.aj 0 lo),g0.A2 _ rfl⟩
def gB:V->ie
 |.aB=>true
 |.bl _=>true
 |.aT _=>true
 |.str _=>true
 |_=>false
def sC:V->V->ie
 |.aB,.aB=>true
 |.bl a,.bl b=>a==b
 |.bl a,.aT b=>(if a then 1 else 0)==b
 |.aT a,.bl b=>a==(if b then 1 else 0)
 |.aT a,.aT b=>a==b
 |.str a,.str b=>a==b
 |_,_=>false
def z96{y:V}{u:d0}(ry:uI y u)(rx:uI x v)(zcw:gB y=true)(fx:gB x=true):yl.Wh A s u v (sC y x):=by
 cases y with
 |aB=>
  cases ry;cases x with
  |aB=>cases rx;exact yl.Wh.same _
  |bl b=>cases rx;exact yl.Wh.ì b
  |aT b=>let⟨t,rfl⟩:=rx;exact yl.Wh.ş b t
  |str b=>let⟨t,rfl⟩:=rx;exact yl.Wh.Š b t
  |_=>exact uz (show false=true from fx) w1h
 |bl a=>
  cases ry;cases x with
  |aB=>cases rx;exact yl.Wh.Ý a
  |bl b=>cases rx;exact yl.Wh.Ϸ a b
  |aT b=>let⟨t,rfl⟩:=rx;exact yl.Wh.ņ a b t
  |str b=>let⟨t,rfl⟩:=rx;exact yl.Wh.Ň a b t
  |_=>exact uz (show false=true from fx) w1h
 |aT a=>
  let⟨t',rfl⟩:=ry;cases x with
  |aB=>cases rx;exact yl.Wh.ŗ a t'
  |bl b=>cases rx;exact yl.Wh.Ŗ a t' b
  |aT b=>let⟨t,rfl⟩:=rx;exact yl.Wh.æ a t' b t
  |str b=>let⟨t,rfl⟩:=rx;exact yl.Wh.č a t' b t
  |_=>exact uz (show false=true from fx) w1h
 |str a=>
  let⟨t',rfl⟩:=ry;cases x with
  |aB=>cases rx;exact yl.Wh.Ŭ a t'
  |bl b=>cases rx;exact yl.Wh.ū a t' b
  |aT b=>let⟨t,rfl⟩:=rx;exact yl.Wh.ĥ a t' b t
  |str b=>let⟨t,rfl⟩:=rx;exact yl.Wh.Ħ a t' b t
  |_=>exact uz (show false=true from fx) w1h
 |_=>exact uz (show false=true from zcw) w1h
def nr(x:V)(u:d0):ie:=match u with
 |.none=>sC .aB x
 |.xN b=>sC (.bl b) x
 |.aT i _=>sC (.aT i) x
 |.str z _=>sC (.str z) x
 |_=>false
def RJ{y:V}{u:d0}(r:uI y u)(f:gB y=true):nr x u=sC y x:=by
 cases y with
 |aB=>cases r;rfl
 |bl b=>cases r;rfl
 |aT i=>let⟨t,rfl⟩:=r;rfl
 |str z=>let⟨t,rfl⟩:=r;rfl
 |_=>exact uz (show false=true from f) w1h
theorem BJ:∀{xs:ai V}{us:ai d0},uw xs us->xs.t9 gB=true->us.uJ (nr x)=xs.uJ λy=>sC y x
 |_,_,.so,_=>rfl
 |y::xs,u::us,.qT r t,f=>by
  rw[w2v,w0q]at f;rw[w2w,w2w,RJ r f.1,BJ t f.2]
theorem By(rx:uI x v)(fx:gB x=true):∀{xs:ai V}{us:ai d0},uw xs us->xs.t9 gB=true->∀u∈us,yl.Wh A s u v (nr x u)
 |_,_,.so,_=>λu hu=>by cases hu
 |y::xs,u::us,.qT r t,f=>λu' hu=>by
  rw[w2v,w0q]at f;rcases w0i.mp hu with rfl|hu
  .rw[RJ r f.1];exact z96 r rx f.1 fx
  .exact By rx fx t f.2 u' hu
def C6(x:V)(xs:ai V):ie:=xs.uJ λy=>sC y x
def Eo(K:Fg)(neg:ie):R2:=λx y H Q=>∃p xs,y=.dr p/\(bD K H p xs\/bK K H p xs)/\gB x=true/\xs.t9 gB=true/\Q (.bl (if neg then !C6 x xs else C6 x xs)) H
def za1:fK X (ZI .In) (Eo X.K false):=by
 intro dN s σ H x y v u Q I rx ry h;let⟨p,xs,rfl,hq,fx,fs,q⟩:=h;cases ry;rcases hq with hq|hq
 .let⟨aw,r,pl,hz⟩:=I.xm hq;refine yl.in_listAt (nr x) pl.zD (λw hw=>By rx fx r fs w (by simpa using hw)) ⟨.bl _,H,I,rfl,?_⟩
  rw[show aw.l8.uJ (nr x)=aw.uJ (nr x) by simp,BJ r fs];exact q
 .let⟨aw,r,pl,hz⟩:=I.Tc hq;refine yl.in_tupleAt (nr x) pl (λw hw=>By rx fx r fs w (by simpa using hw)) ⟨.bl _,H,I,rfl,?_⟩
  rw[show aw.l8.uJ (nr x)=aw.uJ (nr x) by simp,BJ r fs];exact q
def zaM:fK X (ZI .Z9) (Eo X.K true):=by
 intro dN s σ H x y v u Q I rx ry h;let⟨p,xs,rfl,hq,fx,fs,q⟩:=h;cases ry;rcases hq with hq|hq
 .let⟨aw,r,pl,hz⟩:=I.xm hq;refine yl.notIn_listAt (nr x) pl.zD (λw hw=>By rx fx r fs w (by simpa using hw)) ⟨.bl _,H,I,rfl,?_⟩
  rw[show aw.l8.uJ (nr x)=aw.uJ (nr x) by simp,BJ r fs];exact q
 .let⟨aw,r,pl,hz⟩:=I.Tc hq;refine yl.notIn_tupleAt (nr x) pl (λw hw=>By rx fx r fs w (by simpa using hw)) ⟨.bl _,H,I,rfl,?_⟩
  rw[show aw.l8.uJ (nr x)=aw.uJ (nr x) by simp,BJ r fs];exact q
def zaN:cZ X (.ke "list") (λxs H Q=>∃p ys,xs=[.dr p]/\(bD X.K H p ys\/bK X.K H p ys)/\∀l,H l=none->Q (.dr l) (oL H l (.dI ys))):=by
 intro dN s σ H xs us Q I r h;let⟨p,ys,rfl,hq,q⟩:=h;let⟨u,rfl,rx⟩:=_n r;cases rx
 have xT:∀(aw:ai d0),uw ys aw->ys.aj<=wm->∀(h':g0)(c':aO),(∀b o',s.bj.ik b=ab o'->h'.ik b=ab o') ->
   h'.ik s.bj.f'.dS=ab {o4:=.ke "list", xg:=none,pJ:=.p7 aw.l8 c',YN:=#[]}->EP X dN σ Q (.dr s.bj.f'.dS) {s with bj:=h'}:=λaw r' hz h' c' kp e=>
  ⟨.dr s.bj.f'.dS,_,I.JN (t':=s.tK) kp (w0f _) (show aU X.je X.w _ h' _ (.dI ys)from⟨hz,aw,c',r',e⟩),rfl,q _ (I.aQ.xK (w0f _))⟩
 rcases hq with hq|hq
 .let⟨aw,r',pl,hz⟩:=I.xm hq;have wZ:=r'.aj;let⟨o,ho,hc,n,hd⟩:=pl.zD;exact zb8 p (.jd rfl) ho hc hd (λh' c' kp e=>xT aw r' hz h' c' kp e) (by simp only[w0e]<;>omega)
 .let⟨aw,r',pl,hz⟩:=I.Tc hq;have wZ:=r'.aj;let⟨o,ho,hc,n,hd⟩:=pl;exact zb8 p (.lb rfl) ho hc hd (λh' c' kp e=>xT aw r' hz h' c' kp e) (by simp only[w0e]<;>omega)
def XT:cZ X (.ke "tuple") (λxs H Q=>∃p ys,xs=[.dr p]/\((bD X.K H p ys/\∀l,H l=none->Q (.dr l) (oL H l (.gs ys)))\/(bK X.K H p ys/\Q (.dr p) H))):=by
 intro dN s σ H xs us Q I r h;let⟨p,ys,rfl,h⟩:=h;let⟨u,rfl,rx⟩:=_n r;cases rx;rcases h with⟨hq,q⟩|⟨hq,q⟩
 .let⟨aw,r',pl,hz⟩:=I.xm hq;have wZ:=r'.aj;refine call_tuple_list pl.zD (λh' kp=>?_) (by grind)
  have I1:j3 X dN σ H {s with bj:=h'}:=I.Yc (t':=s.tK) kp
  have I2:j3 X dN σ (oL H h'.f'.dS (.gs ys)) {s with bj:=h'.tM {o4:=.ke "tuple", pJ:=.p7 aw.l8}}:=
   I1.JN (t':=s.tK) (λb o e=>g0.w6 _ e) (w0f _) (show aU X.je X.w _ _ _ (.gs ys)from⟨hz,aw,r',Z8.vd _ _,_,g0.A2 _ rfl,rfl⟩)
  exact⟨.dr h'.f'.dS,_,I2,rfl,q _ (I1.aQ.xK (w0f _))⟩
 .let⟨aw,r',pl,hz⟩:=I.Tc hq;exact call_tuple_same pl ⟨.dr p,H,I,rfl,q⟩
def NT(K:Fg)(T:Yq)(x:V)(H:Hp):Prop:=match x with
 |.str _=>T="str"
 |.aT _=>T="int"
 |.dr p=>(T="list" /\ ∃xs,bD K H p xs)\/(T="tuple" /\ ∃o,K.g6 p=ab o/\o.o4=.ke "tuple" /\ o.xg=none) \/
   (T="dict" /\ ((∃kvs,H p=ab (.dK kvs))\/∃sh kvs bc,H p=ab (.dT sh kvs bc)))\/(T="set" /\ ∃S n,H p=ab (.rk S n))
 |_=>vk
def z97{T:Yq}(I:j3 X dN σ H s)(r:uI x v)(ty:NT X.K T x H):
  s._S v T/\∀a,v=.dr a->∃ob,s.bj.ik a=ab ob/\ob.xg=none:=by
 cases x with
 |str z=>
  let⟨t,rfl⟩:=r;cases(show T="str" from ty);exact⟨typeIs_str s z t,λ_ e=>nomatch e⟩
 |aT i=>
  let⟨t,rfl⟩:=r;cases(show T="int" from ty);exact⟨ø s i t,λ_ e=>nomatch e⟩
 |dr p=>
  cases r;rcases ty with⟨rfl,xs,hq⟩|⟨rfl,o,hk,hc,hd⟩|⟨rfl,hk⟩|⟨rfl,S,n,hk⟩
  .let⟨aw,_,pl,_⟩:=I.xm hq;refine⟨pl.zD.Zr,λa e=>?_⟩
   cases e;let⟨o,n,e,c,hd,_⟩:=pl;exact⟨o,e,hd⟩
  .refine⟨⟨o,I.mw p o hk,hc⟩,λa e=>?_⟩
   cases e;exact⟨o,I.mw _ o hk,hd⟩
  .have z:∃o,s.bj.ik p=ab o/\o.ż:=by
    rcases hk with⟨kvs,hk⟩|⟨sh,kvs,bc,hk⟩
    .let⟨_,_,_,_,o,_,_,e,ex,_⟩:=I.aQ p _ hk;exact⟨o,e,ex⟩
    .let⟨_,_,_,_,_,o,_,_,e,ex,_⟩:=I.aQ p _ hk;exact⟨o,e,ex⟩
   let⟨o,e,ex⟩:=z;refine⟨⟨o,e,ex.1⟩,λa e2=>?_⟩
   cases e2;exact⟨o,e,ex.2.1⟩
  .let⟨o,_,_,_,e,ex,_⟩:=I.aQ p _ hk;refine⟨⟨o,e,ex.1⟩,λa e2=>?_⟩
   cases e2;exact⟨o,e,ex.2.1⟩
 |_=>exact vk.oa ty
def NQ(K:Fg)(T:Yq)(r:V->ai V->Hp->VK->Prop)(to:TE)(t:TA):TE:=λσ H Q=>to σ H λx H1=>NT K T x H1/\t σ H1 λxs H2=>r x xs H2 Q
variable{o e:p6}{es:ai p6}{to:TE}{t:TA}{name:et}{Yo bh:vW}{T id:Yq}{r:V->ai V->Hp->VK->Prop}
def Lv(pa:ſ T)(xM:Slot T name id)(Gw:Ŵ (.w4 id)=vX (.ke "method_descriptor"))(hm:v5 X id r)(ho:PE X o to)(ha:PA X (e::es) t)
  (dg:autoParam (Κ o name X.dt (eval o X.dt)=eval o X.dt) jJ)
  (bY:autoParam (((y0 bh (pg (e::es) X.dt)).t9 (λx=>!x.1)&&(Λ bh (Ρ [] X.dt)).t9 (λx=>x.1.z_)
   && decide ((e::es).aj+([]:ai Zd).aj+(if([]:ai Zd).U7 then 0 else 1)<30))=true) jJ)
  (dj:autoParam ((Yo.Ο==bh.Yd)=true) jJ)(hs:autoParam (pg (e::es) X.dt=(false,eval e X.dt)::pg es X.dt) jJ)(bT:autoParam ((y0 bh (pg es X.dt)).uJ (·.1)=false) jJ):
  PE X (.wO (._o o name Yo) (e::es) [] bh) (NQ X.K T r to t):=by
 intro dN s σ H Q I h;refine wpAny_Call_method_late dg bY dj rfl (bq (ho dN s σ H _ I h) λv s1 ⟨x,H1,I1,r1,ty,q1⟩=>?_)
 let⟨h1,h2⟩:=z97 I1 r1 ty;refine⟨T,id,pa,xM,Gw,h1,h2,?_⟩;have hA:=ha bh dN s1 σ H1 _ I1 q1;rw[hs]at hA |-
 refine Zc.callWith_builtin (by show(false||(y0 bh (pg es X.dt)).uJ (·.1))=false;rw[bT]<;>rfl) (Zc.evalArgs_plain ?_);exact bq hA λus s2 ⟨vs,H2,I2,r2,q2⟩=>hm dN s2 σ H2 x vs v us Q I2 r1 r2 q2
/- xs.Wi(e),xm.index on a zeL Tc .. are v5 facts of 06m -/
end
def Fi(X:Cx)(id:Yq)(r:V->ai V->Hp->VK->Prop):Prop:=
 ∀(dN:ai (fy×sT))(s:p5)(σ:St)(H:Hp)(x:V)(xs:ai V)(v:d0)(us:ai d0)(Q:VK),j3 X dN σ H s->uI x v->uw xs us->r x xs H Q ->
  oP (qX X.je X.w) X.A (zb (.w4 id) (v::us)) (EP X dN σ Q) X.xe s
theorem uw.YE(h:uw [x] us):∃u,us=[u]/\uI x u:=_n h
def uw.We(h:uw xs us):uw xs.We us.We:=by
 induction h with
 |so=>exact .so
 |qT r t ih=>rw[w2x,w2x];exact uw.Wi ih (.qT r .so)
theorem uw.yW(h:uw xs us):∀k:aO,uw (ai.w8 k xs).Ys (ai.w8 k us).Ys
 |0=>.so
 |k+1=>by
  rw[w2n,w2n,w3l,w3l];exact uw.Wi h (uw.yW h k)
theorem Jd(aw:ai d0):∀(k:aO)(tG:ai d0),
  ai.zx (λx1 x2=>x1++x2) tG.l8 (ai.w8 k aw.l8)=(tG++(ai.w8 k aw).Ys).l8
 |0,tG=>by simp
 |k+1,tG=>by
  have e:tG.l8++aw.l8=(tG++aw).l8:=by simp
  have e2:(tG++aw)++(ai.w8 k aw).Ys=tG++(ai.w8 (k+1) aw).Ys:=by
   grind
  rw[<- e2,<- Jd aw k (tG++aw),<- e,w2n,w2g]
section
variable{l b:fy}{ys zs:ai V}
def j3.AW{its':ai d0}{f:yb d0->yb d0}{t':aO}(I:j3 X dN σ H s)(hH:H l=ab (.dI xs))
  (e:s.bj.ik l=ab {o4:=.ke "list", pJ:=.p7 aw.l8 n})(hf:f aw.l8=its'.l8)(hv:uw ys its')(hz:ys.aj<=wm):
  j3 X dN σ (oL H l (.dI ys)) {s with bj:=s.bj.Yn l (sT.Yt f),tK:=t'}:=by
 have q:=n9.IsL.Yn e f;rw[hf]at q;refine I.Zl (x:=l) (e:=l) (by rw[hH];exact trivial) (.jd rfl) (λb' u hb hu=>(g0._J s.bj (sT.Yt f) (Ne.symm hb)).kZ hu) ⟨_,q⟩ ?_
 exact⟨hz,its',_,hv,q⟩
theorem j3.AV{t':aO}(I:j3 X dN σ H s)(hv:uw ys aw)(hz:ys.aj<=wm):
  j3 X dN σ (oL H s.bj.f'.dS (.dI ys)) {s with bj:=s.bj.tM {o4:=.ke "list", pJ:=.p7 aw.l8},tK:=t'}:=
 I.JN (λ_ _ q=>g0.w6 _ q) (w0f _) ⟨hz,aw,0,hv,g0.A2 _ rfl⟩
theorem j3.xK(I:j3 X dN σ H s):H s.bj.f'.dS=none:=I.aQ.xK (w0f _)
def j3.AX(I:j3 X dN σ H s)(hH:H l=ab (.dI xs)):xs.aj<=wm/\∃(aw:ai d0)(n:aO),uw xs aw/\xs.aj=aw.aj/\s.bj.ik l=ab {o4:=.ke "list", pJ:=.p7 aw.l8 n}:=by
 let⟨z,aw,n,r,e⟩:=I.aQ l _ hH;exact⟨z,aw,n,r,r.aj,e⟩
def mI(h:n<=wm):uK.ai.È n=false:=by
 grind [uK.ai.È]
end
def oM:V->ai V->Hp->VK->Prop:=λx vs H Q=>∃l xs y,x=.dr l/\vs=[y]/\H l=ab (.dI xs)/\xs.aj<wm/\Q .aB (oL H l (.dI (xs++[y])))
def Je:Fi X "list.append" oM:=by
 intro dN s σ H x vs v us Q I rx rv h;let⟨l,xs,y,rfl,rfl,hH,hz,q⟩:=h;cases rx;let⟨u,rfl,ru⟩:=rv.YE;let⟨z,aw,n,r,hl,e⟩:=I.AX hH;refine _W F.zdu ⟨_,e,rfl⟩ F.entry_list_append (F.args_list_append_2 _ _) (n9.list_append l aw.l8 n u (by grind)) ⟨e,?_⟩;refine⟨.aB,_,I.AW (its':=aw++[u]) hH e (by simp) (r.Wi (.qT ru .so)) ?_,rfl,q⟩
 grind
def KA(xs:ai α)(k:aO):(ai.w8 k xs).Ys.aj=k*xs.aj:=by
 simp_all
end L2
namespace yV
open PySem PySem.W PySem.Calls PyProof.Rows
def Xa{P:Ø}{h:g0}:∀(ns:ai a7)(vs:ai d0),WellAll P h vs (ns.a6 YG.aT)->Ϙ vs ns:=by
 intro ns
 induction ns with
 |so=>
  intro vs w;rw[w1x]at w;cases w;exact .so
 |qT n ns ih=>
  intro vs w;rw[w0m]at w;cases w with
  |qT a b=>
   cases a;exact .qT _ _ (ih _ b)
def OU{l:Θ}{n:aO}(hn:l.É=ab n){P:Ø}{h:g0}{args:ai YG}{ù:ai d0}
  (ph:l.ot.ϑ.claim.pre args=true)(qJ:WellAll P h ù args):
  ∃a vs ns,ù=[d0.dr a]/\args=[YG.xm (ns.a6 YG.aT)]/\h.ik a=ab {o4:=.ke "list", pJ:=.p7 vs.l8}/\Ϙ vs ns/\ns.aj<=n:=by
 have VY:Ù.hasAll [] args [.xm .aT]=true:=(pre_splitW ph).1;have hc:l.pre.SA [] {args:=args}=true:=(pre_splitW ph).2;let⟨d,r,rfl,h1,h2⟩:=hasAllW_cons VY;obtain rfl:=hasAllW_nil h2;let⟨xs,rfl,h3⟩:=hasW_list h1;let⟨ns,rfl⟩:=items_int h3
 have wZ:ns.aj<=n:=by
  unfold Θ.pre at hc
  have h4:(WTm.not (.lt (.lit (.aT (n:a7))) (.uN (.arg 0)))).SA [] {args:=[.xm (ns.a6 .aT)]}=true:=by
   have h4:=(holds_andW hc).1;rw[hn]at h4;exact h4
  have h5:=condW_of h4 (w_not (w_lt w_lit (w_len_list (w_arg rfl))));rw[w0a]at h5;refine w4v λq=>?_
  have q':(n:a7)<((ns.aj:aO):a7):=by omega
  first
   |(rw[ϣ q']at h5;exact uz h5 (by decide))
   |(simp at h5;omega)
 cases qJ with
 |qT w1 w2=>
  cases w2;cases w1 with
  |xm ho qA=>exact⟨_,_,ns,rfl,rfl,ho,Xa ns _ qA,wZ⟩
theorem OV(l:Θ)(args:ai YG):l.ot.ϑ.claim.post args (.xN true) args=true:=
 postW_of (r:=l.ot.ϑ) (X:=(true==true))
  (show Ù.A' [] (.xN true) .xN=true by first|rfl|decide|simp[Ù.A',Ù.arms,Ù.armsAll])
  (show(WTm.eq .res (.lit (.xN true))).ZC [] {args:=args,res:=ab (.xN true),ϡ:=args}=ab (.xN (true==true))from w_eq_bool (w_res rfl) w_lit) rfl
def zcP{l:Θ}{n:aO}{q:xc}{_Y:ai et}{XP:(et->d3 d0)->g0->Prop}{YP:vr->g0->Prop}{d:ĺ}
  (hn:l.É=ab n)(tW:d.uu.À=[])
  (zb:∀(w:vr)(ay aD:p5)(mg mb:et->d3 d0)(fa:fy)(o:sT)(pm cd Yr:d0)(a:fy)(vs:ai d0)(ns:ai a7),
   Ground q _Y [] XP w ay mg mb aD.bj->YP w aD.bj ->
   aD.bj.ik fa=ab o->o.pJ=.Zo (docDef d.name d.uu d.uG d.fv pm cd Yr)->aD.bj.Ĺ cd d.name->mg d.name=ab (.dr fa) ->
   aD.bj.ik a=ab {o4:=.ke "list", pJ:=.p7 vs.l8}->Ϙ vs ns->ns.aj<=n->aD.YI=#[] ->
   Zn (qX l.je w) ZY (.zb (.dr fa) ⟨[.dr a],[]⟩) (λr s'=>r=.ok (.CJ (.xN true))/\Ϝ aD.bj s'.bj/\s'.os=aD.os/\Z6 s'.YI) aD):
  Ú q _Y XP YP l.ot.ϑ d [] (λf vs=>n9.zb f vs):=by
 intro w ay aD mg mb G Y fa o pm cd Yr dV kV ho hd fg hD hmg hg args ù as ph Av VV qJ VO;obtain rfl:dV=.none:=ā.none hD tW;obtain rfl:kV=.none:=ā.noKw hD;let⟨a,vs,ns,rfl,rfl,nH,ό,wZ⟩:=OU hn ph qJ;refine enter_call (Ν (zb w ay aD mg mb fa o pm cd Yr a vs ns G Y ho (fd_plain hd) fg hmg nH ό wZ hg) λr s' hq=>?_)
 let⟨rfl,h2,h3,h4⟩:=hq;exact⟨.jd ⟨.xN true,.xN true,[],rfl,λ_=>rfl,.xN true,OV l _,λ_=>⟨ai.Zf.so,λ_ hm=>(nomatch hm)⟩⟩,h2,h3,h4⟩
section
variable{je:xc}{w:vr}{A:C_}{E:d0->p5->Prop}{s:p5}{K:Frag}
def ledger(h:g0)(L d:fy):ai (fy×sT):=(ai.CC h.f'.dS).Ϥ λa=>if a=L\/a=d then none else(h.ik a).a6 λo=>(a,o)
end
end yV
namespace L2
open PySem PySem.Spec PyProof.Rows
theorem Jf:∀{vs:ai d0}{ns:ai a7},Ϙ vs ns->uw (ns.a6 V.aT) vs
 |_,_,.so=>.so
 |_,_,.qT n t h=>.qT ⟨t,rfl⟩ (Jf h)
def v7(H:Hp):Prop:=∀b,H b=none\/∃o xs,H b=ab (.cK o (.dI xs))
def y85{P:xc}{w:vr}{K:Fg}{mg mb:et->d3 d0}{CX:mY}{k:aO}{fa a:fy}{fd:Zv}{x:et}{sp:Sp}{aD:p5}{vs:ai d0}{ns:ai a7}
  (KX:K.In aD.bj)(lV:aD.bj.Ns Yi mg)(hb:aD.bj.Ns Ϲ mb)(yo:∀x:et,x≠"__name__"->mb x=_E x)(wJ:aD.bj.Ö)(hg:aD.YI=#[])
  (ha:aD.bj.ik a=ab {o4:=.ke "list", pJ:=.p7 vs.l8})(hi:Ϙ vs ns)(hl:ns.aj<=wm)(hr:br k ZY)
  (F:∀k_:g0,K.In k_->k_.Ns Yi mg->eT P w K mg k_ CX k fa fd [x] sp)(mm:∀(s:p5)(u:d0),_Q s fd ⟨[u],[]⟩ [(x,u)])
  (sN:∀H:Hp,v7 H->bD K H a (ns.a6 V.aT)->sp [.dr a] H (λv _=>v=.bl true) λ_ _ _=>vk)
  (wD:∀H e s',CX [] H aD (λ_ _ _=>vk) e s'->vk)(Ab:gQ K=true):
  Zn (qX P w) ZY (.zb (.dr fa) ⟨[.dr a],[]⟩) (λr s'=>r=.ok (.CJ (.xN true))/\Ϝ aD.bj s'.bj/\s'.os=aD.os/\Z6 s'.YI) aD:=by
 have rv:=Jf hi;have AO:=hi.aj
 have ϻ:∀H:Hp,v7 H->bD K H a (ns.a6 V.aT)->eh P w H aD.bj->(∀b,H b≠none->b=a)->(H a≠none->K.g6 a=none) ->
   Zn (qX P w) ZY (.zb (.dr fa) ⟨[.dr a],[]⟩) (λr s'=>r=.ok (.CJ (.xN true))/\Ϝ aD.bj s'.bj/\s'.os=aD.os/\Z6 s'.YI) aD:=by
  intro H hO hS aQ hA hK;have f7:∀{b:fy}{o:sT},aD.bj.ik b=ab o->H b=none->(gN aD.bj H).ik b=ab o:=λe n=>Py e n
  have ud:∀{b:fy}{o:sT}{es:yb DictEntry}{ep:aO},aD.bj.ik b=ab o->o.pJ=.xg es ep->H b=none:=λ{b o es ep} e d=>by
   grind
  have ue:∀{b:fy}{m:et->d3 d0},aD.bj.Ns b m->(gN aD.bj H).Ns b m:=λ{b m} ⟨o,es,ep,e,d,r⟩=>⟨o,es,ep,f7 e (ud e d),d,r⟩
  have Aa:K.In (gN aD.bj H):=λb o e=>f7 (KX b o e) (by
   grind)
  have hM:θ K mg (gN aD.bj H):=⟨Aa,ue lV,⟨mb,ue hb,yo⟩,let ⟨mc,h1,h2⟩:=wJ;⟨mc,ue h1,h2⟩⟩;have e0:i8 P w K mg (gN aD.bj H) ZY [] aD H:=⟨rfl,hM,λb o e=>QH e,aO.le_of_eq (ON _ _),trivial,λb hb=>uz (show b∈([]:ai fy)from hb) (by simp),aQ,.Ê hg,.WX Ab⟩
  refine Ν ((F _ Aa (ue lV)).nN ZY [] aD H ⟨[.dr a],[]⟩ [.dr a] [.dr a] _ _ hr e0 (mm aD (.dr a)) (.qT rfl .so) (sN H hO hS)) λr s' h=>?_
  cases r with
  |_H e=>exact(wD H e s' h).oa
  |ok fl=>
   cases fl with
   |next=>exact vk.oa h
   |_r=>exact vk.oa h
   |_s=>exact vk.oa h
   |CJ u=>
    let⟨v,H',os,Td,un,t4,r',q⟩:=h;have q':v=.bl true:=q;subst q';obtain rfl:u=d0.xN true:=r';refine⟨rfl,Ϝ.of_keep λb o e=>?_,os,Td⟩
    cases q:H b with
    |none=>exact un.xW b o e q (by intro z;exact uz (show b∈([]:ai fy)from z) (by simp)) (by simp)
    |ab u=>
     rcases hO b with z|⟨ob,xs,z⟩
     .rw[q]at z;cases z
     .have z2:=un.aX b ob _ z;let⟨e1,_⟩:=aQ b _ z;let⟨e2,_⟩:=t4 b _ z2
      grind
 cases hk:K.g6 a with
 |ab o=>
  have e:=KX a o hk;rw[ha]at e;cases e;refine ϻ (λ_=>none) (λ_=>.jd rfl) (.lb ⟨_,vs.l8,_,hk,rfl,rfl,rfl,by grind,by simpa using rv⟩) (λb u z=>by grind) (λb z=>uz rfl z) λz=>uz rfl z
 |none=>
  refine ϻ (λb=>if b=a then ab (.cK {o4:=.ke "list", pJ:=.p7 vs.l8} (.dI (ns.a6 V.aT)))else none) (λb=>?_) (.jd (.lb ⟨{o4:=.ke "list", pJ:=.p7 vs.l8},nZ rfl⟩)) (λb u z=>?_) (λb z=>?_) λ_=>hk
  .grind
  .by_cases hb:b=a
   .have z':=(nZ hb).symm.kZ z;cases z';subst hb;exact⟨ha,by grind,vs,_,rv,ha⟩
   grind
  grind
abbrev LK{K:Fg}{h:g0}(_:K.In h):Fg:=K
def z35{l:n9.W.Θ}{n k:aO}{q:xc}{_Y:ai et}{XP:(et->d3 d0)->g0->Prop}{YP:vr->g0->Prop}{d:ĺ}{K:Ø->Fg}{CX:vr->mY}{sp:vr->Sp}{x:et}
  (hn:l.É=ab n)(sJ:n<=wm)(tW:d.uu.À=[])(hr:br k ZY)
  (hY:∀(w:vr)(h:g0),YP w h->(K w.uu).In h)
  (F:∀(w:vr)(mg:et->d3 d0)(fa:fy)(h:g0),(K w.uu).In h->h.Ns Yi mg->mg d.name=ab (.dr fa) ->
   ∃fd:Zv,(∀(s:p5)(u:d0),_Q s fd ⟨[u],[]⟩ [(x,u)]) /\
    ∀k_:g0,(K w.uu).In k_->k_.Ns Yi mg->eT l.je w (K w.uu) mg k_ (CX w) k fa fd [x] (sp w))
  (sN:∀(w:vr)(H:Hp)(a:fy)(ns:ai a7),ns.aj<=n->v7 H->bD (K w.uu) H a (ns.a6 V.aT)->sp w [.dr a] H (λv _=>v=.bl true) λ_ _ _=>vk)
  (wD:∀(w:vr)(H:Hp)(s:p5)(e:d0)(s':p5),CX w [] H s (λ_ _ _=>vk) e s'->vk)(Ab:∀w:vr,gQ (K w.uu)=true):
  n9.W.Ú q _Y XP YP l.ot.ϑ d [] (λf vs=>n9.zb f vs):=by
 refine yV.zcP hn tW λw ay aD mg mb fa o pm cd Yr a vs ns G Y ho hd fg hmg nH ό wZ hg=>?_
 have KX:=hY w _ Y;let⟨fd,hb,hF⟩:=F w mg fa _ KX G.T.g hmg;exact y85 KX G.T.g G.T.b G.T.ϸ G.T.ë hg nH ό (w1a wZ sJ) hr hF hb (λH hO hS=>sN w H a ns wZ hO hS) (λH e s'=>wD w H aD e s') (Ab w)
end L2
/- THE ze5 zeP (shape; LID, My.* are ze4):
   My.aH: a structure of p_ addresses JX zfG zeX qW (classes, zfF); My._a K t: a structure (Prop) of p_ equations over K;
   My.zew : {K} {implicit addresses ..} (e1 : Τ K Yi "law" = ab (ab (.dr f))) (e2 : K.g6 f = ab ⟨oc, od, .Zo (_X "law" "law" uu uG fv dV kV Yr pm an eM ct), sl⟩) (e3 : _F K eM "law" = true) .. : ∃ t, My._a K t
set_option maxRecDepth 100000 in
set_option maxHeartbeats 0 in
def n9.Ā.zfs : n9.Ā.zef.Holds := by
 w_on; o_law; k_head; (case hw => w_witness2)
 k_fill
 refine L2.z35 (l := n9.Ā.zef) (n := 63) (k := 40) (x := "script") (CX := λw => ..) (sp := λ_ => My.zeU) rfl (by decide) rfl ⟨rfl, by decide, by decide⟩ (λw h Y => n9.W.kIn_of Y) ?F ?S ?C
 case F =>
  intro w mg fa h KX G hmg
  have T : ∃ t, My._a (L2.LK KX) t := by
   dsimp only [L2.LK]                          -- K zfe ze1 as «<heap const> w.params» for k_is;refine' My.zew ?e1 ?e2 ?e3 ..
   (case e1 => n9.W.k_is)                    -- in p_ order: a name -> aw address -> aw Ĕ -> aw parts
   (case e2 => n9.W.k_is)
   ..
  let⟨t, T⟩:= T;have e0 := hmg.symm.kZ (n9.W.mg_of KX G T.law);cases e0                                       -- fa is p_ zeW ku address;exact ⟨_, λs u => .Ê rfl, λk_ kb nb => My.zdZ T kb nb⟩     -- if «.of_eq rfl» comes too early: refine' ⟨_, ?b, λk_ kb nb => My.zdZ T kb nb⟩; exact λs u => .Ê rfl
 case S => exact λw H a ns hl hO hS => ..
 case C => exact ..
(p_ tactic k_is A' no namespace: Zl k_is) -/
namespace L2
open PySem PySem.Spec PyProof.Rows
variable{f:fy}{X:Cx}{e JM:p6}{fd:Zv}{H H':Hp}{es zS:ai p6}{js:ai aO}{gw:vW}{K:Fg}{s:p5}{σ:St}{t_ x:et}{te:TE}{wi:TI}{tc:TT}
def eI(s:Mu):Z7:=match s with
 |.Ă _ a _ _ _ _ _ _ _ _=>a
 |_=>{posonlyargs:=[],args:=[],vararg:=none,kwonlyargs:=[],kw_defaults:=[],kwarg:=none,À:=[]}
def cS(s:Mu):ai Mu:=match s with
 |.Ă _ _ b _ _ _ _ _ _ _=>b
 |_=>[]
def a9(s:Mu):zF:=match s with
 |.Ă _ _ _ _ _ _ sc _ _ _=>sc
 |_=>{zc:=.ZK,qW:=[],è:=false,ç:=false}
abbrev S5:mY:=λ_ _ _ _ _ _=>vk
abbrev E0:XK:=λ_ _ _=>vk
structure zo(K:Fg)(x t_:et)(st:Mu)(f:fy)(fd:Zv):Prop where
 ex:∃(oc:d0)(od:d3 fy)(kV Yr pm:d0)(an:d3 fy)(eM ct:d0)(vt:yb (d3 d0)),
  fd=n9.W._X x t_ (eI st) (cS st) (a9 st) .none kV Yr pm an eM ct/\K.g6 f=ab ⟨oc,od,.Zo fd,vt⟩/\n9.W._F K eM t_=true
 kp:_L K (.dr f)=true
section
variable{P:xc}{w:vr}{mg:et->d3 d0}{k_:g0}
def zo.υ{st:Mu}{ps:ai et}(F:zo K x t_ st f fd)
  (h:∀(kV Yr pm:d0)(an:d3 fy)(eM ct:d0)(us:ai d0),us.aj=ps.aj->ρ (n9.W._X x t_ (eI st) (cS st) (a9 st) .none kV Yr pm an eM ct) ⟨us,[]⟩=vX (ps.xR us)):ZO K fd ps []:=by
 let⟨oc,od,kV,Yr,pm,an,eM,ct,vt,rfl,lk,fg⟩:=F.ex;exact .t9 (h kV Yr pm an eM ct)
theorem RK{st:Mu}{oc:d0}{od an:d3 fy}{vt:yb (d3 d0)}{kV Yr pm eM ct:d0}(l:K.g6 f=ab ⟨oc,od,.Zo (n9.W._X x t_ (eI st) (cS st) (a9 st) .none kV Yr pm an eM ct),vt⟩)
  (c:n9.W._F K eM t_=true)(k:_L K (.dr f)=true):zo K x t_ st f (n9.W._X x t_ (eI st) (cS st) (a9 st) .none kV Yr pm an eM ct):=⟨⟨oc,od,kV,Yr,pm,an,eM,ct,vt,rfl,l,c⟩,k⟩
end
theorem pv(i:aO)(hN:autoParam (X.N[i]?=ab x) jJ)(hv:autoParam (kD X.dt.fv x) jN)(hd:autoParam ((x==("__debug__":et))=false) jK)
  (fg:autoParam ((x==("__classdict__":et))=false) jK):PE X (.oh x gw) (r_ i):=z9l hN hv hd fg
def ao(H H':Hp):Prop:=∀b o,H b=ab o->H' b=ab o
theorem ao.t8(H:Hp):ao H H:=λ_ _ h=>h
theorem ao.kZ{H1 H2:Hp}(a:ao H H1)(b:ao H1 H2):ao H H2:=λc o h=>b c o (a c o h)
def ao.tD(e:ao H H'){l:fy}(h:H' l=d3.none):H l=d3.none:=by
 cases q:H l with
 |none=>rfl
 |ab o=>
  rw[e l o q]at h;cases h
def ao.p7{a:fy}{xs:ai V}(e:ao H H')(h:bD K H a xs):bD K H' a xs:=by
 rcases h with(h|⟨o,h⟩)|h
 .exact .jd (.jd (e _ _ h))
 .exact .jd (.lb ⟨o,e _ _ h⟩)
 .exact .lb h
set_option maxHeartbeats 4000000
structure S_(tB:ai S')(H H':Hp)(h h':g0)(e:fy)(o4:d0)(B:g0):Prop where
 fl:∃a0,g0.FlyingW B tB e o4 a0 h'
 w5:∀b o,h.ik b=ab o->H b=none->b∉gM tB->B.ik b=ab o
 qa:∀b u o,H' b=ab u->h'.ik b=ab o->B.ik b=ab o
 t9:∀b o,h.ik b=ab o->b∈gM tB\/∃o',B.ik b=ab o'
 vd:h.ik e=none
def fe(P:xc)(w:vr):mY:=λtB H s E ev s'=>∃(e:fy)(o4:d0)(H':Hp)(B:g0),
 ev=.dr e/\s'.os=s.os/\Z6 s'.YI/\Un (gM tB) [] H H' s.bj s'.bj/\eh P w H' s'.bj/\S_ tB H H' s.bj s'.bj e o4 B/\E o4 none H'
def eW(CX:mY)(X:Cx)(EE:L2.St->XK):Prop:=∀(dN:ai (fy×sT))(σ:St)(H:Hp)(s:p5)(e:d0)(s':p5),j3 X dN σ H s->CX X.WZ H s (EE σ) e s'->X.xe e s'
def z36{dN:ai (fy×sT)}{s':p5}{e:fy}{o4:d0}{B qz:g0}{a0:d0}
  (I:j3 (i9 CX P w K mg k_ N t_ fv f cd A tB ay aF E) dN σ H s)(J:j3 (i9 CX P w K mg k_ N t_ fv f cd A tB ay aF E) dN σ H' s')
  (w5:∀b o,s.bj.ik b=ab o->H b=none->b∉gM (ZZ t_ fv ay.bj.f'.dS f cd::tB)->B.ik b=ab o)
  (qa:∀b u o,H' b=ab u->s'.bj.ik b=ab o->B.ik b=ab o)
  (t9:∀b o,s.bj.ik b=ab o->b∈gM (ZZ t_ fv ay.bj.f'.dS f cd::tB)\/∃o',B.ik b=ab o')
  (vd:s.bj.ik e=none)
  (fl:g0.FlyingW B tB e o4 a0 qz)(up:s'.bj.UpToSlots qz)(hE:E o4 none H'):
  fe P w tB aF ay E (.dr e) {s' with bj:=qz}:=by
 have xh:∀b o,ay.bj.ik b=ab o->b∉gM tB->b∉gM (ZZ t_ fv ay.bj.f'.dS f cd::tB):=λb o q nb hb=>by
  rcases w0i.mp (show b∈ay.bj.f'.dS::gM tB from hb)with z|z
  .exact uz (g0.xX q) (by rw[z];exact w2c _)
  .exact nb z
 have zW:∀b:fy,b∉([]:ai fy):=λb z=>nomatch z
 have xM:∀b o,ay.bj.ik b=ab o->b∈gM tB->∃sl,qz.ik b=ab {o with YN:=sl}:=λb o q hb=>by
  let⟨sl,e1⟩:=J.k_.xM b o q (J.ok.qx b hb) hb (zW b);let⟨_,o2,e2,nd⟩:=J.fQ.Yj hb
  rw[e1]at e2;cases e2;let⟨xS,e3⟩:=up b _ e1 nd;exact⟨xS,e3⟩
 refine⟨e,o4,H',B,rfl,J.os,J.Td,⟨λb o q n hb hx=>?_,λb o q n hb hx=>xM b o q hb,λb o q n hx=>J.k_.tD b o q n hx,λb o q hx=>?_,J.k_.iD,J.k_.aX,J.k_.fX⟩,λa o q=>?_,⟨⟨a0,fl⟩,λb o q n hb=>?_,λb u o q z=>?_,λb o q=>?_,?_⟩,hE⟩
 .exact fl.1 b o (w5 b o (I.k_.xW b o q n hb hx) (I.k_.tD b o q n hx) (xh b o q hb))
 .by_cases hb:b∈gM tB
  .let⟨sl,z⟩:=xM b o q hb;exact⟨_,z⟩
  .let⟨o1,e1⟩:=I.k_.Zp b o q hx;rcases t9 b o1 e1 with z|⟨o',z⟩
   .exact uz z (xh b o q hb)
   .exact⟨o',fl.1 b o' z⟩
 .refine(J.aQ a o q).cF (λb u hb z=>?_) (λ_ z=>z) λ_ _ _ z=>z
  rcases hb with rfl|hb
  .exact fl.1 _ _ (qa b o u q z)
  .exact fl.1 _ _ (qa b _ u hb z)
 .exact w5 b o (I.k_.xW b o q n hb (zW b)) (I.k_.tD b o q n (zW b)) (xh b o q hb)
 .let⟨o1,e1⟩:=(J.aQ b u q).Ff;have e2:=qa b u o1 q e1;have e3:=fl.1 b o1 e2;rw[e3]at z;cases z;exact e2
 .let⟨o1,e1⟩:=I.k_.Zp b o q (zW b);rcases t9 b o1 e1 with z|z
  .by_cases hb:b∈gM tB
   .exact .jd hb
   .exact uz z (xh b o q hb)
  .exact .lb z
 .cases q:ay.bj.ik e with
  |none=>rfl
  |ab o=>
   let⟨o1,e1⟩:=I.k_.Zp e o q (zW e);rw[vd]at e1;cases e1
def Be:eW (fe P w) (i9 (fe P w) P w K mg k_ N t_ fv f cd A tB ay aF E) (λ_=>E):=by
 intro dN σ H s ev s' I hx;let⟨e,o4,H',B,rfl,t5,hg,un,aQ,pQ,hE⟩:=hx;have J:=I.u0 (ch:=[]) t5 un aQ hg (λb hb=>nomatch hb)
 let⟨a0,fl⟩:=pQ.fl;refine wpAny_leaves_onW (k_:=B) I.ok.YH rfl fl λqz Vm up=>?_
 exact z36 I J pQ.w5 pQ.qa pQ.t9 pQ.vd Vm up hE
theorem Bf:eW (fe P w) X (λ_=>E0):=λ_ _ _ _ _ _ _ h=>by
 let⟨_,_,_,_,_,_,_,_,_,_,z⟩:=h;exact vk.oa z
def rY(sp:Sp)(tN:ai V)(EE:L2.St->XK)(t:TA):TE:=λσ H Q=>t σ H λvs H1=>sp (vs++tN) H1 Q (EE σ)
section
variable{CX:mY}{k:aO}{C:fy}{ps:ai et}{sp:Sp}{tN:ai V}{ds:ai d0}{EE:L2.St->XK}{m:et}{p:vW}{o:p6}{ta:TE}{t:TA}
def z37(F:eT X.je X.w X.K X.mg X.k_ CX k f fd ps sp)(hr:br k X.A)(hb:ZO X.K fd ps ds)(hd:uw tN ds)(hx:eW CX X EE)
  (I:j3 X dN σ H s)(r:uw vs us)(h:sp (vs++tN) H Q (EE σ)):oP (qX X.je X.w) X.A (zb (.dr f) us) (EP X dN σ Q) X.xe s:=by
 have r2:uw (vs++tN) (us++ds):=r.Wi hd;have hl:(us++ds).aj=ps.aj:=by rw[<- r2.aj];exact F.uN _ _ _ _ h
 refine Ϭ (Ν (F.nN X.A X.WZ s H ⟨us,[]⟩ (us++ds) (vs++tN) Q (EE σ) hr I.qv (hb s us I.mw hl) r2 h) λr s' hq=>?_)
 cases r with
 |_H e=>exact hx dN σ H s e s' I hq
 |ok fl=>
  cases fl with
  |CJ u=>exact I.ϡ hq
  |next=>exact vk.oa hq
  |_r=>exact vk.oa hq
  |_s=>exact vk.oa hq
def y86(F:eT X.je X.w X.K X.mg X.k_ CX k f fd ps sp)(hr:br k X.A)(hg:Gl X x)(hm:X.mg x=ab (.dr f))(hk:_L X.K (.dr f)=true)(hb:ZO X.K fd ps ds)(hd:uw tN ds)(hx:eW CX X EE)
  (ha:PA X (e::es) t)(jT:autoParam ((x==("__debug__":et))=false) jK)(he:autoParam (pg (e::es) X.dt=(false,eval e X.dt)::pg es X.dt) jJ)(dP:autoParam ((y0 gw (pg es X.dt)).uJ (·.1)=false) jJ):
  PE X (.wO (.oh x p) (e::es) [] gw) (rY sp tN EE t):=by
 intro dN s σ H Q I h;refine γ (Ej I hg hm ?_ jT);refine n9.W.callWith_K (h₀:=X.k_) I.ok.Yv.AN hk (bq (ha gw dN s σ H _ I h) λus s1 ⟨vs,H1,I1,r,q⟩=>⟨I1.mw,?_⟩) he dP
 exact z37 F hr hb hd hx I1 r q
end
abbrev si:ai d0:=[.ke "ValueError", .ke "Exception", .ke "BaseException", .ke "object"]
inductive zeE(h:g0)(C A:fy):Prop
 |mk (nm qn N bs FL sn p9 zbX col dd k0 k1 k2 k3 k5 mN) (e:h.ik C=ab (excClassObj nm qn C N bs (.dr A::si) FL sn p9 zbX col dd k0 k1 k2 k3 k5 "ValueError.__new__")) (n:h.Ns N mN) (i:mN "__init__"=none) (T:OwnTail h si (.dr A::si)):zeE h C A
def wq(e:fy)(o4:d0):HO:=.ext λh=>∃o vs,h.ik e=ab o/\o.o4=o4/\o.pJ=.MU vs
abbrev Cx.hn(X:Cx)(e:fy):Cx:={X with A:=X.A.mark (ab (.dr e)),MT:=false,xe:=λ_ _=>vk}
structure zey(k:aO)(A:C_):Prop where
 dp:A.ql+3*k+5<ţ
 un:A.zd+16*k+200<zm
 gd:A.guards=ab []
structure zeI(P:xc)(w:vr)(K:Fg)(mg:et->d3 d0)(k_:g0)(k:aO)(f:fy)(fd:Zv)(ps:ai et)(sp:Sp):Prop where
 uN:∀vs H Q E,sp vs H Q E->vs.aj=ps.aj
 nN:∀(A:C_)(tB:ai S')(s:p5)(H:Hp)(args:Args)(us:ai d0)(vs:ai V)(Q:VK),zey k A->i8 P w K mg k_ A tB s H->_Q s fd args (ps.xR us)->uw vs us->sp vs H Q E0 ->
  Zn (qX P w) A (.zb (.dr f) args) (CR S5 tB P w H s Q E0) s
abbrev Cx.cp(X:Cx)(Nc:ai et)(fv:zF)(cl:ai (et×fy))(C:fy)(ay:p5)(aF:Hp)(ex:ai fy):Cx:=
 {X with N:=Nc,ay:=ay,aF:=aF,dt:=ĉ fv cl C X.dt,tB:=X.WZ,ex:=ex,fn:=λy=>fv.qW.g6 y==ab .uL,pn:=[],xe:=λ_ _=>vk}
theorem Ik:∀(qW:ai (et×Wn))(tG:ai (et×fy)),(∀x∈qW,x.2=.tD->∃c,dt.Yh.g6 x.1=ab c) ->
  ∃cl,(ϥ qW tG fun(x:et×Wn) (r:ai (et×fy))=>(if(x.2==Wn.tD)=true then(Ŋ dt x.1 >>= λa=>vX (Ζ.ϯ ((x.1,a)::r)))else vX (Ζ.ϯ r):_R (Ζ (ai (et×fy)))))=vX cl /\
   (∀x c,cl.g6 x=ab c->tG.g6 x=ab c\/dt.Yh.g6 x=ab c)/\(∀x,((x,Wn.tD)∈qW\/(tG.g6 x).z_=true)->(cl.g6 x).z_=true)
 |[],tG,_=>⟨tG,rfl,λx c h=>.jd h,λx h=>h.oa (λz=>nomatch z) id⟩
 |(n,k)::r,tG,h=>by
  by_cases hk:k=.tD
  .subst hk;let⟨c,hc⟩:=h (n,.tD) w1b rfl;let⟨cl,e1,e2,e3⟩:=Ik r ((n,c)::tG) λx hx=>h x (w0p _ hx)
   refine⟨cl,?_,λx d hd=>?_,λx hx=>?_⟩
   .rw[w3g];have:Ŋ dt n=vX c:=by unfold Ŋ;rw[hc]
    grind
   all_goals grind
  .let⟨cl,e1,e2,e3⟩:=Ik r tG λx hx=>h x (w0p _ hx)
   grind
def Bs(h:∀x∈fv.qW,x.2=.tD->∃c,dt.Yh.g6 x.1=ab c):
  ∃cl,ć fv dt=vX cl/\(∀x c,cl.g6 x=ab c->dt.Yh.g6 x=ab c)/\∀x,(x,Wn.tD)∈fv.qW->∃c,cl.g6 x=ab c:=by
 let⟨cl,e1,e2,e3⟩:=Ik fv.qW [] h
 grind [d3.isSome_iff_exists,ć]
theorem Il{dt : S'} : ∀ {qW : ai (et × Wn)} {x : et}, (∀ y ∈ qW, y.2 = .uL -> y.1 ≠ x) ->
    ((qW.a6 λ(n, k) => if (k == Wn.tD && dt.fv.zc == .ZK && dt.zj n == ab .uL) then (n, Wn.uL) else (n, k)).g6 x = ab .uL \/
     (qW.a6 λ(n, k) => if (k == Wn.tD && dt.fv.zc == .ZK && dt.zj n == ab .uL) then (n, Wn.uL) else (n, k)).g6 x = ab .tD) -> (x, Wn.tD) ∈ qW
  | [], x, _, h => by grind
  | (n, k) :: r, x, hc, h => by
    have ih := @Il dt r x λy hy => hc y (w0p _ hy)
    grind
def OW{je:xc}{w:vr}{A:C_}{R:Result->p5->Prop}{Wk x9:p6}{fv:zF}{it tG:d0}{dt:S'}(I:aO->p5->Prop)
  (YT:∀n s,I n s->oP (qX je w) A (Φ it) (λr s1=>match r with
   |none=>R (.ok .next) s1
   |ab v=>oP (qX je w) A (Đ Wk it v) (λ_ s2=>oP (qX je w) A (_b Wk dt v) (λ_ s3=>
     oP (qX je w) A (ϥ zS true λc r=>if r=true then do let ok <- Ç c dt (eval c dt);vX (Ζ.ϯ ok)else vX (Ζ.ϯ r)) (λok s4=>
      if ok=true then oP (qX je w) A (eval JM dt) (λx s5=>oP (qX je w) A (zb (.w4 "list.append") [tG,x]) (λ_ s6=>∃m,m<n/\I m s6) (λ_ _=>vk) s5) (λ_ _=>vk) s4
      else ∃m,m<n/\I m s4) (λ_ _=>vk) s3) (λ_ _=>vk) s2) (λ_ _=>vk) s1) (λ_ _=>vk) s)
  (n:aO)(h:I n s):Zn (qX je w) A (.Ŏ (.Zm JM [⟨Wk,x9,zS,0⟩] fv gw) 0 it tG dt) R s:=by
 refine codeAny_loop rfl I (λn s hI=>?_) n h
 show oP _ A ((compTurn (.Zm JM [⟨Wk,x9,zS,0⟩] fv gw) 0 it tG dt).onRaise (λx=>do noteFrame x dt;theTreesLotGoes x)) _ _ s
 refine wpAny_noted ?_;rw[compTurn_list];refine ny (Ķ (ny (Zs (YT n s hI) (λr s1 h1=>?_) λ_ _ z=>z.oa)))
 cases r with
 |none=>exact ui h1
 |ab v=>
  refine ny (Zs h1 (λ_ s2 h2=>?_) λ_ _ z=>z.oa)
  refine ny (Zs h2 (λ_ s3 h3=>?_) λ_ _ z=>z.oa)
  refine ny (Zs h3 (λok s4 h4=>?_) λ_ _ z=>z.oa)
  cases ok with
  |false=>exact ui ⟨rfl,h4⟩
  |true=>exact ny (ny (Zs h4 (λx s5 h5=>ny (Zs h5 (λ_ s6 h6=>ui (ui ⟨rfl,h6⟩)) λ_ _ z=>z.oa)) λ_ _ z=>z.oa))
def pj(js:ai aO)(σ:St):St:=js.a6 λj=>(σ[j]?).hX none
def z98{i:aO}(h:(pj js σ)[i]?=ab (ab v)):∃j,js[i]?=ab j/\σ[j]?=ab (ab v):=by
 grind [pj]
def sy(X:Cx)(zS:ai p6)(t:TT):Prop:=
 ∀(dN:ai (fy×sT))(s:p5)(σ:St)(H:Hp)(Q:ie->Hp->Prop),j3 X dN σ H s->t σ H Q ->
  oP (qX X.je X.w) X.A (ϥ zS true λc r=>if r=true then do let ok <- Ç c X.dt (eval c X.dt);vX (Ζ.ϯ ok)else vX (Ζ.ϯ r)) (TP X dN σ Q) X.xe s
def JW:TT:=λ_ H Q=>Q true H
theorem z38:sy X [] JW:=λdN s σ H Q I h=>wpAny_tests_nil ⟨H,I,h⟩
theorem z39(h:PT X c t):sy X [c] t:=λdN s σ H Q I hq=>wpAny_tests_one (h dN s σ H Q I hq)
def Kp(σ aJ:St):Prop:=∀(i:aO) v,σ[i]?=ab (ab v)->aJ[i]?=ab (ab v)
theorem Kp.YE{v:V}:Kp (ai.w8 1 none++σ) (ab v::σ):=λi u h=>by
 cases i with
 |Yf=>cases h
 |Ye i=>exact h
theorem Kp.two{v u:V}:Kp (ai.w8 2 none++σ) (ab v::ab u::σ):=λi w h=>by
 match i,h with
 |0,h=>cases h
 |1,h=>cases h
 |i+2,h=>exact h
def i6(wi:TI)(nl:aO)(js:ai aO)(g:TG)(tc:TT)(te:TE):TE:=λσ H Q=>wi σ H λJ H1=>∀D,H1 D=none->∃W:aO->aO->Hp->Prop,(∃m,W 0 m (oL H1 D (.dI [])))/\∀i m H2,W i m H2 ->
 (J.stop i H2/\Q (.dr D) H2)\/(J.go i H2/\∀x H3,J.lX i H2 x H3->g x (ai.w8 nl none++pj js σ) H3 λsu H4=>Kp (ai.w8 nl none++pj js σ) su/\tc su H4 λb H5=>
  if b=true then te su H5 λy H6=>∃ys,H6 D=ab (.dI ys)/\ys.aj<wm/\∃m',m'<m/\W (i+1) m' (oL H6 D (.dI (ys++[y])))else ∃m',m'<m/\W (i+1) m' H5)
section
variable{Wk x9:p6}{fv:zF}{g:TG}
def OX{x0:et}
  (I:j3 X dN σ H s)(pT:∀b∈fp,eU X dN H b)(C2:∀b∈fp,∃o,s.bj.ik b=ab o/\∀v,o.pJ≠.uL v)
  (hk:fv.zc=.ZK)(FG:∀x,((Β fv X.dt).qW.g6 x=ab .uL\/(Β fv X.dt).qW.g6 x=ab .tD)->∃c,cl.g6 x=ab c)(fh:∀x c,cl.g6 x=ab c->X.dt.Yh.g6 x=ab c\/(x=x0/\c=s.bj.f'.dS+2/\∃v,h1.Η c v))(mW:∀y∈Nf,∃c,cl.g6 y=ab c/\X.dt.Yh.g6 y=ab c)
  (FI:∀x c,fv.qW.g6 x=ab .uL->cl.g6 x=ab c->s.bj.f'.dS+1<=c)
  (hj:∀(i j:aO) y,Nf[i]?=ab y->js[i]?=ab j->X.N[j]?=ab y)(wZ:js.aj=Nf.aj)
  (nu:∀y∈Nf,(y,Wn.tD)∈fv.qW/\kD X.dt.fv y/\X.dt.zj y≠ab .local)
  (jg:∀y∈Nf,(Β fv X.dt).qW.g6 y=ab .uL\/(Β fv X.dt).qW.g6 y=ab .tD)
  (hn:h1.Ns (s.bj.f'.dS+1) mC)(JZ:∀b u,(s.bj.tM {o4:=.ke "list", xg:=none,pJ:=.p7 ([]:ai d0).l8}).ik b=ab u->h1.ik b=ab u):
  j3 (X.cp (Nl++Nf) fv cl (s.bj.f'.dS+1) {s with bj:=s.bj.tM {o4:=.ke "list", xg:=none,pJ:=.p7 ([]:ai d0).l8}} (oL H s.bj.f'.dS (.dI [])) fp) [] (ai.w8 Nl.aj none++pj js σ) (oL H s.bj.f'.dS (.dI [])) {s with bj:=h1,tK:=tk}:=by
 have fD:H s.bj.f'.dS=none:=I.aQ.xK (w0f _);have Ψ:∀b u,s.bj.ik b=ab u->(s.bj.tM {o4:=.ke "list", xg:=none,pJ:=.p7 ([]:ai d0).l8}).ik b=ab u:=λb u q=>g0.w6 _ q
 have vU:(s.bj.tM {o4:=.ke "list", xg:=none,pJ:=.p7 ([]:ai d0).l8}).f'.dS=s.bj.f'.dS+1:=g0.ZN ..;have up:∀b u,s.bj.ik b=ab u->h1.ik b=ab u:=λb u q=>JZ b u (Ψ b u q)
 have zfd:∀b o,s.bj.ik b=ab o->b≠s.bj.f'.dS:=λb o q=>w0t (g0.xX q)
 have yk:∀b o,s.bj.ik b=ab o->H b=none->oL H s.bj.f'.dS (.dI []) b=none:=λb o q n=>by grind [aN]
 have Gi:eh X.je X.w (oL H s.bj.f'.dS (.dI [])) (s.bj.tM {o4:=.ke "list", xg:=none,pJ:=.p7 ([]:ai d0).l8}):=
  I.aQ.JN Ψ (w0f _) ⟨w1g _,[],_,.so,g0.A2 _ rfl⟩
 have qm:∀c v,s.bj.Η c v->h1.Η c v:=λc v ⟨o,q,r⟩=>⟨o,up _ _ q,r⟩
 have L6:∀x c,X.dt.Yh.g6 x=ab c->c<s.bj.f'.dS:=λx c e=>by
  let⟨v,o,q,_⟩:=I.uL x c e;exact g0.xX q
 have FZ:∀x y c,cl.g6 x=ab c->cl.g6 y=ab c->x=y:=λx y c e1 e2=>by
  rcases fh x c e1 with z1|⟨a1,b1,_⟩<;>rcases fh y c e2 with z2|⟨a2,b2,_⟩
  .exact I.ok.zT x y c z1 z2
  .exact uz (b2 ▸ L6 x c z1) (w3m.wa (w4w _ 2))
  .exact uz (b1 ▸ L6 y c z2) (w3m.wa (w4w _ 2))
  .rw[a1,a2]
 refine⟨⟨I.ok.Yv,hk,I.ok._i,I.ok.blt,(by show(s.bj.tM _).f'.dS<=_;rw[vU];exact w0f _),FZ,λx hx=>FG x hx,(λx c z q=>by show(s.bj.tM _).f'.dS<=_;rw[vU];exact FI x c (by simpa using z) q),I.ok.hd,I.ok.YH,.jd rfl,λb hb=>⟨?_,λx c e=>?_⟩,λb o q=>?_,?_,λb o q hb=>?_,λb hb Ad=>?_,?_,λb hb=>?_,(I.ok._m.un I.k_).JN fD⟩,
  rfl,I.Td,Un.Yc JZ,⟨mC,hn,λi y v e1 e2 e3=>?_⟩,λx c e=>?_,?_,λx c e=>?_,λp hp=>(by cases hp),Gi.Yc JZ,?_⟩
 .let⟨o,q,_⟩:=C2 b hb;exact w0t (w1s (g0.xX q))
 .rcases fh x c e with z|⟨_,rfl,_⟩
  .exact(pT b hb).2.2.2.2.1 x c z
  .let⟨o,q,_⟩:=C2 b hb;exact(w0t (w1s (w1s (g0.xX q)))).symm
 .let⟨q1,q2⟩:=I.bs b o q
  grind
 .show X.k_.f'.dS<=(s.bj.tM _).f'.dS;rw[vU];exact aO.le_succ_of_le (w1a I.ok.o7 I.sz)
 .rcases(pT b hb).2.2.2.1 with z|z
  .exact I.ok.xl b o q z
  .let⟨q1,_⟩:=I.ok.bs b o q;exact uz (g0.xX q1) (w3m.wa z)
 .rcases w0i.mp (I.j_ b Ad)with z|z
  .exact(pT b hb).2.1 z
  .exact(pT b hb).2.2.1 z
 .exact I.WZ.of_keeps λb o q _=>⟨o,Ψ _ _ q,rfl⟩
 .let⟨_,o,q,_⟩:=I.WZ.Yj hb;exact yk b o q (I.oS b hb)
 ·-- p_ qW
  have Ft:(ai.w8 Nl.aj none++pj js σ)[i]?=ab (ab v):=e2;have zU:(Nl++Nf)[i]?=ab y:=e1
  by_cases hi:i<Nl.aj
  .grind
  .have sF:Nl.aj<=i:=w3m.mp hi;rw[w1l (by simpa using sF)]at Ft;rw[w1l sF]at zU;rw[w2f]at Ft;let⟨j,ej,Vj⟩:=z98 Ft;have Vs:=hj _ _ _ zU ej;let⟨nC,hv,VS⟩:=nu y (w0w zU);let⟨m,hm,hl⟩:=I.Zi;let⟨u,r,l⟩:=hl j y v Vs Vj hv;refine⟨u,r,?_⟩;rcases l with⟨k,_⟩|⟨k,c,ec,z⟩
   .exact uz k VS
   .let⟨c',tO,this⟩:=mW y (w0w zU);rw[ec]at this;cases this;exact .lb ⟨jg y (w0w zU),c,tO,qm _ _ z⟩
 .rcases fh x c e with z|⟨_,_,z⟩
  .let⟨v,z⟩:=I.uL x c z;exact⟨v,qm _ _ z⟩
  .exact z
 .show oL H s.bj.f'.dS (.dI []) (s.bj.f'.dS+1)=none;rw[aN (w3v _)];exact I.aQ.xK (w4p _)
 .rcases fh x c e with z|⟨_,rfl,_⟩
  .let⟨v,o,q,_⟩:=I.uL x c z;exact yk c o q (I.fu x c z)
  .show oL H s.bj.f'.dS (.dI []) (s.bj.f'.dS+2)=none;rw[aN (w2t (aO.lt_add_of_pos_right (by decide)))];exact I.aQ.xK (w4w _ 2)
 .grind [pj]
def PR
  (I:j3 X dN σ H s)(pT:∀b∈fp,eU X dN H b)(C2:∀b∈fp,∃o,s.bj.ik b=ab o/\∀v,o.pJ≠.uL v)
  (hk:fv.zc=.ZK)(d8:∀y∈fv.qW,y.2≠.uL)(fh:∀x c,cl.g6 x=ab c->X.dt.Yh.g6 x=ab c)(mW:∀x,(x,Wn.tD)∈fv.qW->∃c,cl.g6 x=ab c)
  (hj:∀(i j:aO) y,Nf[i]?=ab y->js[i]?=ab j->X.N[j]?=ab y)(wZ:js.aj=Nf.aj)
  (nu:∀y∈Nf,(y,Wn.tD)∈fv.qW/\kD X.dt.fv y/\X.dt.zj y≠ab .local)
  (jg:∀y∈Nf,(Β fv X.dt).qW.g6 y=ab .uL\/(Β fv X.dt).qW.g6 y=ab .tD)
  (hn:h1.Ns (s.bj.f'.dS+1) mC)(hs:g0.Z_ (s.bj.f'.dS+1) ((s.bj.tM {o4:=.ke "list", xg:=none,pJ:=.p7 ([]:ai d0).l8}).tM {o4:=.ke "dict", pJ:=.xg #[]}) h1):
  j3 (X.cp (Nl++Nf) fv cl (s.bj.f'.dS+1) {s with bj:=s.bj.tM {o4:=.ke "list", xg:=none,pJ:=.p7 ([]:ai d0).l8}} (oL H s.bj.f'.dS (.dI [])) fp) [] (ai.w8 Nl.aj none++pj js σ) (oL H s.bj.f'.dS (.dI [])) {s with bj:=h1,tK:=tk}:=by
 refine OX (x0:="") I pT C2 hk (λx hx=>mW x (Il (λy hy z=>uz z (d8 y hy)) hx)) (λx c e=>.jd (fh x c e)) (λy hy=>?_) (λx c e=>uz rfl (d8 _ (n9.Z2 e))) hj wZ nu jg hn λb u q=>?_
 .let⟨c,e⟩:=mW y (nu y hy).1;exact⟨c,e,fh y c e⟩
 .have bZ:=g0.xX q;rw[g0.ZN]at bZ;exact(hs.2 b (w0t bZ)).kZ (g0.w6 _ q)
def RL{aJ:St}
  (I:j3 X dN σ H s)(pT:∀b∈fp,eU X dN H b)
  (J:j3 (X.cp Nc fv cl (s.bj.f'.dS+1) {s with bj:=s.bj.tM {o4:=.ke "list", xg:=none,pJ:=.p7 ([]:ai d0).l8}} (oL H s.bj.f'.dS (.dI [])) fp) [] aJ H' s')
  (hs:g0.Z_ (s.bj.f'.dS+1) s'.bj h'):j3 X dN σ H' {s' with bj:=h'}:=by
 have fD:H s.bj.f'.dS=none:=I.aQ.xK (w0f _);have Ψ:∀b u,s.bj.ik b=ab u->(s.bj.tM {o4:=.ke "list", xg:=none,pJ:=.p7 ([]:ai d0).l8}).ik b=ab u:=λb u q=>g0.w6 _ q
 have vq:∀b o,s.bj.ik b=ab o->b≠s.bj.f'.dS+1:=λb o q=>w0t (w1s (g0.xX q))
 have yk:∀b o,s.bj.ik b=ab o->H b=none->oL H s.bj.f'.dS (.dI []) b=none:=λb o q n=>by rw[aN (w0t (g0.xX q))];exact n
 have w5:∀b u,H b=ab u->oL H s.bj.f'.dS (.dI []) b=ab u:=λb u q=>by rw[aN (gU q fD)];exact q
 have B:Un (gM X.WZ) fp (oL H s.bj.f'.dS (.dI [])) H' (s.bj.tM {o4:=.ke "list", xg:=none,pJ:=.p7 ([]:ai d0).l8}) s'.bj:=J.k_;have hC:H' (s.bj.f'.dS+1)=none:=J.tD;refine I.u0 (s':={s' with bj:=h'}) (ch:=fp) (J.os.kZ rfl) ⟨λb o q n hb hx=>?_,λb o q n hb hx=>?_,λb o q n hx=>B.tD b o (Ψ _ _ q) (yk b o q n) hx,λb o q hx=>?_,λb xs q=>B.iD b xs (w5 _ _ q),λb o u q=>B.aX b o u (w5 _ _ q),λb ps q=>B.fX b ps (w5 _ _ q)⟩ (λa o q=>?_) J.Td λb hb=>?_
 .exact(hs.2 b (vq b o q)).kZ (B.xW b o (Ψ _ _ q) (yk b o q n) hb hx)
 .let⟨sl,z⟩:=B.xM b o (Ψ _ _ q) (yk b o q n) hb hx;exact⟨sl,(hs.2 b (vq b o q)).kZ z⟩
 .let⟨o',z⟩:=B.Zp b o (Ψ _ _ q) hx;exact⟨o',(hs.2 b (vq b o q)).kZ z⟩
 .refine(J.aQ a o q).cF (λc v hc z=>(hs.2 c ?_).kZ z) (λ_ z=>z) λ_ _ _ z=>z
  grind
 .let⟨_,f1,f2,f3,f4,f5⟩:=pT b hb
  grind
structure jk(x:et)(sc:zF):Prop where
 Ϗ:sc.qW.g6 x=ab .uL
 YE:∀n cl,Þ n sc.qW cl=(x,n)::cl
 Bc:∀h:g0,pushCells h sc.qW=h.tM {o4:=.ke "cell", pJ:=.uL none}
 only:∀y∈sc.qW,y.2=.uL->y.1=x
 Wm:(x,Wn.tD)∉sc.qW
def zdd{E:d0->p5->Prop}{M:Model}{A:C_}{Μ:d0}{Q:S'->p5->Prop}{x0:et}{dt:S'}{å ϸ:fy}{Ō:ai (et×fy)}{Zo:d3 fy}(S:jk x0 fv)
  (hQ:∀h',h'.Ns s.bj.f'.dS (λ_=>none)->h'.Η (s.bj.f'.dS+1) none->(∀b o,s.bj.ik b=ab o->h'.ik b=ab o) ->
   Q (newEnv fv s.bj.f'.dS å ((x0,s.bj.f'.dS+1)::Ō) t_ Zo Μ (ab dt) ϸ) {s with bj:=h'}):
  oP M A (zc1 fv å Ō [] t_ Zo Μ (ab dt) ϸ) Q E s:=by
 simp only[zc1,d3.isSome_some,Zz];refine ny (wpAny_alloc ?_);refine ny (wpAny_layCells _ (λname zc Yh=>by grind) _ _ _ _ ?_)
 rw[show({s with bj:=s.bj.tM {o4:=.ke "dict", pJ:=.xg #[]}}:p5).bj.f'.dS=s.bj.f'.dS+1 from g0.ZN ..,S.YE,S.Bc]
 have ic:((s.bj.tM {o4:=.ke "dict", pJ:=.xg #[]}).tM {o4:=.ke "cell", pJ:=.uL none}).Η (s.bj.f'.dS+1) none:=by
  have e:=g0.A2 (s.bj.tM {o4:=.ke "dict", pJ:=.xg #[]}) (o:={o4:=.ke "cell", pJ:=.uL none}) rfl;rw[g0.ZN]at e;exact⟨_,e,rfl⟩
 have kp:∀b o,(s.bj.tM {o4:=.ke "dict", pJ:=.xg #[]}).ik b=ab o->((s.bj.tM {o4:=.ke "dict", pJ:=.xg #[]}).tM {o4:=.ke "cell", pJ:=.uL none}).ik b=ab o:=λb o e=>g0.w6 _ e
 refine ny ?_;rw[w4i];exact ui (ui (hQ _ ((g0.Ns.vd s.bj (.ke "dict")).YW kp) ic λb o e=>kp b o (g0.w6 _ e)))
def z4a{Nl Nf : ai et}(hc : X.MT = true)(hi : PI X Wk x9 wi)
    (hk : fv.zc = .ZK)(d8 : (∀ y ∈ fv.qW, y.2 ≠ .uL) \/ ∃ x0, jk x0 fv)(nG : ∀ x ∈ fv.qW, x.2 = .local -> fv.qW.g6 x.1 = ab .local)
    (cL : ∀ x ∈ fv.qW, x.2 = .tD -> X.dt.zj x.1 = ab .uL \/ X.dt.zj x.1 = ab .tD)
    (hj : ∀ (i j : aO) y, Nf[i]? = ab y -> js[i]? = ab j -> X.N[j]? = ab y)(wZ : js.aj = Nf.aj)
    (nu : ∀ y ∈ Nf, (y, Wn.tD) ∈ fv.qW /\ kD X.dt.fv y /\ X.dt.zj y ≠ ab .local)
    (jg : ∀ y ∈ Nf, (Β fv X.dt).qW.g6 y = ab .uL \/ (Β fv X.dt).qW.g6 y = ab .tD)
    (hg : ∀ cl C ay aF ex, PG (X.cp (Nl ++ Nf) fv cl C ay aF ex) Wk g)(ht : ∀ cl C ay aF ex, sy (X.cp (Nl ++ Nf) fv cl C ay aF ex) zS tc)(he : ∀ cl C ay aF ex, PE (X.cp (Nl ++ Nf) fv cl C ay aF ex) JM te)
    (hs : ∀ x, ZR x9 X.dt x = vX x := by intro _; rfl) :
    PE X (.Zm JM [⟨Wk, x9, zS, 0⟩] fv gw) (i6 wi Nl.aj js g tc te) := by
  intro dN s σ H Q I h;let⟨cl, e5, fh, mW⟩:= Bs (fv := fv) (dt := X.dt) λx hx hf => I.ok.A' x.1 (cL x hx hf)
  rw [eval_ListComp];refine zd4 (use := none) rfl hs e5 hk nG (bq (hi dN s σ H _ I h) λv s1 h1 => bq h1 λC9 s2 h2 => ?_)
  let⟨it, fp, tn, J, H2, e, I2, T, iU, f2, rd⟩:= h2;subst e;have vU : (s2.bj.tM { o4 := .ke "list", xg := none, pJ := .p7 ([] : ai d0).l8 }).f'.dS = s2.bj.f'.dS + 1 := g0.ZN ..;have fD : H2 s2.bj.f'.dS = none := I2.aQ.xK (w0f _);let⟨W, ⟨m0, w0⟩, YT⟩:= rd s2.bj.f'.dS fD;have pB := T.Wd 0 s2.bj iU
  have xb : ∀ (cl : ai (et × fy)) (dU : g0) (tk : aO), j3 (X.cp (Nl ++ Nf) fv cl (s2.bj.f'.dS + 1) { s2 with bj := s2.bj.tM { o4 := .ke "list", xg := none, pJ := .p7 ([] : ai d0).l8 } } (oL H2 s2.bj.f'.dS (.dI [])) fp) [] (ai.w8 Nl.aj none ++ pj js σ) (oL H2 s2.bj.f'.dS (.dI [])) { s2 with bj := dU, tK := tk } ->
      (∀ b u, s2.bj.ik b = ab u -> dU.ik b = ab u) -> Zn (qX X.je X.w) X.A (.compStart (.Zm JM [⟨Wk, x9, zS, 0⟩] fv gw) 0 (.dr it) (.dr s2.bj.f'.dS) (ĉ fv cl (s2.bj.f'.dS + 1) X.dt))
        (ŏ (qX X.je X.w) X.A X.xe none (EP X dN σ Q) (.dr s2.bj.f'.dS) (s2.bj.f'.dS + 1)) { s2 with bj := dU, tK := tk } := by
   intro cl dU tk IS J0;have B9 : tn 0 dU := T.xW 0 s2.bj dU iU λb hb o q => J0 b o q
   have GV : ∀ b ∈ fp, oL H2 s2.bj.f'.dS (.dI []) b = none := λb hb => by
     let⟨o, q, _⟩:= pB b hb;rw [aN (w0t (g0.xX q))];exact (f2 b hb).1
   have j9 : ∀ {H' : Hp}, (∀ b ∈ fp, H' b = none) -> ∀ b ∈ fp, eU (X.cp (Nl ++ Nf) fv cl (s2.bj.f'.dS + 1) { s2 with bj := s2.bj.tM { o4 := .ke "list", xg := none, pJ := .p7 ([] : ai d0).l8 } } (oL H2 s2.bj.f'.dS (.dI [])) fp) [] H' b := λhn b hb => by
     refine ⟨hn b hb, (IS.ok.CN b hb).1, IS.ok.tP b hb, .jd hb, (IS.ok.CN b hb).2, λp hp => (by cases hp)⟩
   have ϧ : ∀ s4 : p5, s4 = { s2 with bj := dU, tK := tk } ->
       Zn (qX X.je X.w) X.A (.Ŏ (.Zm JM [⟨Wk, x9, zS, 0⟩] fv gw) 0 (.dr it) (.dr s2.bj.f'.dS) (ĉ fv cl (s2.bj.f'.dS + 1) X.dt))
         (ŏ (qX X.je X.w) X.A X.xe none (EP X dN σ Q) (.dr s2.bj.f'.dS) (s2.bj.f'.dS + 1)) s4 := by
     rintro s4 rfl;refine OW (λn s' => ∃ i H', j3 (X.cp (Nl ++ Nf) fv cl (s2.bj.f'.dS + 1) { s2 with bj := s2.bj.tM { o4 := .ke "list", xg := none, pJ := .p7 ([] : ai d0).l8 } } (oL H2 s2.bj.f'.dS (.dI [])) fp) [] (ai.w8 Nl.aj none ++ pj js σ) H' s' /\ tn i s'.bj /\ (∀ b ∈ fp, H' b = none) /\ W i n H') ?_ m0 ⟨0, _, IS, B9, GV, w0⟩
     rintro n s3 ⟨i, H3, I3, vT, u_, w3⟩;rcases YT i n H3 w3 with ⟨stop, qn⟩ | ⟨go, Zb⟩
     . refine bq (T.done (X.cp (Nl ++ Nf) fv cl (s2.bj.f'.dS + 1) { s2 with bj := s2.bj.tM { o4 := .ke "list", xg := none, pJ := .p7 ([] : ai d0).l8 } } (oL H2 s2.bj.f'.dS (.dI [])) fp) rfl rfl rfl hc i [] s3 _ H3 _ I3 (j9 u_) vT stop) λr s5 ⟨hr, I5⟩ => ?_
       subst hr;let⟨m5, Gb, _⟩:= I5.Zi;refine ⟨m5, Gb, λh' jf => ⟨.dr s2.bj.f'.dS, H3, RL I2 f2 I5 jf, rfl, qn⟩⟩
     . refine bq (T.ZS (X.cp (Nl ++ Nf) fv cl (s2.bj.f'.dS + 1) { s2 with bj := s2.bj.tM { o4 := .ke "list", xg := none, pJ := .p7 ([] : ai d0).l8 } } (oL H2 s2.bj.f'.dS (.dI [])) fp) rfl rfl rfl hc i [] s3 _ H3 _ I3 (j9 u_) vT go) λr s5 ⟨u, hr, h5⟩ => ?_
       subst hr;refine bq h5 λ_ s6 ⟨x, H6, I6, r6, y6, xU, Fy⟩ => ?_
       have E_ := I6.í (j9 Fy) (T.Wd _ _ xU);refine bq (hg _ _ _ _ _ _ s6 _ H6 x u _ E_ r6 (Zb x H6 y6)) λ_ s7 ⟨lS, H7, I7, kp, q7⟩ => ?_
       refine bq (ht _ _ _ _ _ _ s7 lS H7 _ I7 q7) λok s8 ⟨H8, I8, q8⟩ => ?_
       have _V : ∀ {yf : St} {H9 : Hp} {s9 : p5}, j3 (X.cp (Nl ++ Nf) fv cl (s2.bj.f'.dS + 1) { s2 with bj := s2.bj.tM { o4 := .ke "list", xg := none, pJ := .p7 ([] : ai d0).l8 } } (oL H2 s2.bj.f'.dS (.dI [])) fp) ([] ++ iS fp s6.bj) yf H9 s9 ->
           Kp (ai.w8 Nl.aj none ++ pj js σ) yf -> (∃ m', m' < n /\ W (i + 1) m' H9) -> ∃ m, m < n /\ ∃ i H', j3 (X.cp (Nl ++ Nf) fv cl (s2.bj.f'.dS + 1) { s2 with bj := s2.bj.tM { o4 := .ke "list", xg := none, pJ := .p7 ([] : ai d0).l8 } } (oL H2 s2.bj.f'.dS (.dI [])) fp) [] (ai.w8 Nl.aj none ++ pj js σ) H' s9 /\ tn i s9.bj /\ (∀ b ∈ fp, H' b = none) /\ W i m H' := λ{yf H9 s9} I9 hw ⟨m', hm, w9⟩ => by
         refine ⟨m', hm, i + 1, H9, I9.e_.weak (by rw [I9.uN, <- IS.uN]) hw, T.xW _ _ _ xU λb hb o q => (I9.YS (b, o) (w0l _ (w0l _ (xy hb q)))).1, λb hb => ?_, w9⟩
         let⟨o, q, d⟩:= T.Wd _ _ xU b hb;exact (I9.YS (b, o) (w0l _ (w0l _ (xy hb q)))).2.1
       cases ok with
       | false => exact _V I8 kp (by simpa using q8)
       | true =>
         have I_ := by simpa only [Zz] using q8
         refine bq (he _ _ _ _ _ _ s8 lS H8 _ I8 I_) λy s9 ⟨yv, H9, I9, r9, ys, hD, hz, q9⟩ => ?_
         refine bq (Je _ s9 lS H9 (.dr s2.bj.f'.dS) [yv] (.dr s2.bj.f'.dS) [y] (λv H' => v = .aB /\ H' = oL H9 s2.bj.f'.dS (.dI (ys ++ [yv]))) I9 rfl (.qT r9 .so) ⟨_, ys, yv, rfl, rfl, hD, hz, rfl, rfl⟩) λ_ WH ⟨_, Ta, E9, _, _, Fs⟩ => ?_
         subst Fs;exact _V E9 kp q9
   exact zca (ϧ _ rfl) (T.self X.A 0 _ _ _ B9 (ϧ _ rfl))
  refine Γ ?_;rcases d8 with d8 | ⟨x0, S⟩
  . refine Ÿ d8 (by intro y hy; simp at hy) (λdU d9 fk => ?_) hk
    dsimp only at d9 fk |-
    rw [vU] at d9 fk |-
    exact xb cl dU _ (PR I2 f2 pB hk d8 fh mW hj wZ nu jg d9 fk) λb u q => (fk.2 b (w0t (w1s (g0.xX q)))).kZ (g0.w6 _ (g0.w6 _ q))
  . refine zdd S λdU d9 ic up => ?_
    dsimp only at d9 ic up |-
    rw [vU] at d9 ic |-
    have lk : ∀ y, y ≠ x0 -> ((x0, s2.bj.f'.dS + 1 + 1) :: cl).g6 y = cl.g6 y := λy hy => by grind
    have l0 : ((x0, s2.bj.f'.dS + 1 + 1) :: cl).g6 x0 = ab (s2.bj.f'.dS + 1 + 1) := by simp [ai.g6]
    refine xb _ dU _ (OX (x0 := x0) I2 f2 pB hk (λy hy => ?_) (λy c e => ?_) (λy hy => ?_) (λy c e1 e2 => ?_) hj wZ nu jg d9 up) λb u q => up b u (g0.w6 _ q)
    . by_cases z : y = x0
      . exact ⟨_, by rw [z]; exact l0⟩
      . let⟨c, q⟩:= mW y (Il (λk hk hc => by rw [S.only k hk hc]; exact Ne.symm z) hy)
        exact ⟨c, (lk y z).kZ q⟩
    . by_cases z : y = x0
      . subst z
        have : c = s2.bj.f'.dS + 1 + 1 := d3.ab.zT (e.symm.kZ l0);exact .lb ⟨rfl, this, _, this ▸ ic⟩
      . exact .jd (fh y c ((lk y z).symm.kZ e))
    . have z : y ≠ x0 := λe => S.Wm (e ▸ (nu y hy).1)
      let⟨c, q⟩:= mW y (nu y hy).1;exact ⟨c, (lk y z).kZ q, fh y c q⟩
    . have z : y = x0 := S.only _ (n9.Z2 e1) rfl
      subst z;have : c = s2.bj.f'.dS + 1 + 1 := d3.ab.zT (e2.symm.kZ l0);exact this ▸ w4p _
end
theorem Im{dt:S'}:∀{qW:ai (et×Wn)}{x:et},qW.g6 x=ab .tD ->
  (qW.a6 fun(n,k)=>if(k==Wn.tD&&dt.fv.zc==.ZK&&dt.zj n==ab .uL)then(n,Wn.uL)else(n,k)).g6 x=ab .uL \/
  (qW.a6 fun(n,k)=>if(k==Wn.tD&&dt.fv.zc==.ZK&&dt.zj n==ab .uL)then(n,Wn.uL)else(n,k)).g6 x=ab .tD
 |[],x,h=>by cases h
 |(n,k)::r,x,h=>by
  have ih:=@Im dt r x
  grind
def cP(sc fv:zF)(N Nf:ai et)(js:ai aO):ie:=
 fv.zc==.ZK&&fv.qW.t9 (λy=>y.2 != .uL)&&fv.qW.t9 (λy=>y.2 != .local||fv.qW.g6 y.1==ab .local) &&
 fv.qW.t9 (λy=>y.2 != .tD||sc.qW.g6 y.1==ab .uL||sc.qW.g6 y.1==ab .tD)&&js.aj==Nf.aj &&
 (ai.CC js.aj).t9 (λi=>match js[i]?,Nf[i]? with|ab j,ab y=>N[j]?==ab y|_,_=>true) &&
 Nf.t9 (λy=>fv.qW.g6 y==ab .tD&&(sc.qW.g6 y==ab .uL||sc.qW.g6 y==ab .tD))
def f9(sc fv:zF)(N Nf:ai et)(js:ai aO):ie:=
 fv.zc==.ZK&&fv.qW.t9 (λy=>y.2 != .local||fv.qW.g6 y.1==ab .local) &&
 fv.qW.t9 (λy=>y.2 != .tD||sc.qW.g6 y.1==ab .uL||sc.qW.g6 y.1==ab .tD)&&js.aj==Nf.aj &&
 (ai.CC js.aj).t9 (λi=>match js[i]?,Nf[i]? with|ab j,ab y=>N[j]?==ab y|_,_=>true) &&
 Nf.t9 (λy=>fv.qW.g6 y==ab .tD&&(sc.qW.g6 y==ab .uL||sc.qW.g6 y==ab .tD))
def OY{Wk x9:p6}{fv sc:zF}{g:TG}{Nl Nf N:ai et}(hc:X.MT=true)(hi:PI X Wk x9 wi)
  (d8:(∀y∈fv.qW,y.2≠.uL)\/∃x0,jk x0 fv)(ok:f9 sc fv N Nf js=true)
  (hg:∀cl C ay aF ex,PG (X.cp (Nl++Nf) fv cl C ay aF ex) Wk g)(ht:∀cl C ay aF ex,sy (X.cp (Nl++Nf) fv cl C ay aF ex) zS tc)(he:∀cl C ay aF ex,PE (X.cp (Nl++Nf) fv cl C ay aF ex) JM te)
  (hsc:autoParam (X.dt.fv=sc) jJ)(hN:autoParam (X.N=N) jJ)(hs:∀x,ZR x9 X.dt x=vX x:=by intro _;rfl):
  PE X (.Zm JM [⟨Wk,x9,zS,0⟩] fv gw) (i6 wi Nl.aj js g tc te):=by
 unfold f9 at ok;simp only[w0q,w1c,_e,Ϣ,w1r,w0y]at ok;obtain⟨⟨⟨⟨⟨k1,k3⟩,k4⟩,k5⟩,k6⟩,k7⟩:=ok;have zc:∀x,X.dt.zj x=sc.qW.g6 x:=λx=>by rw[<- hsc];rfl
 refine z4a hc hi k1 d8 (λx hx hl=>(k3 x hx).ϩ λz=>z hl) (λx hx hf=>?_) (λi j y e1 e2=>?_) k5 (λy hy=>?_) (λy hy=>?_) hg ht he hs
 .grind
 .grind
 .let⟨z1,z2⟩:=k7 y hy;refine⟨n9.Z2 z1,?_,?_⟩
  .rw[hsc];rcases z2 with z|z
   .exact .lb (.jd z)
   .exact .lb (.lb z)
  grind
 .exact Im (k7 y hy).1
def Kf{Wk x9:p6}{fv sc:zF}{g:TG}{Nl Nf N:ai et}(hc:X.MT=true)(hi:PI X Wk x9 wi)
  (ok:cP sc fv N Nf js=true)
  (hg:∀cl C ay aF ex,PG (X.cp (Nl++Nf) fv cl C ay aF ex) Wk g)(ht:∀cl C ay aF ex,sy (X.cp (Nl++Nf) fv cl C ay aF ex) zS tc)(he:∀cl C ay aF ex,PE (X.cp (Nl++Nf) fv cl C ay aF ex) JM te)
  (hsc:autoParam (X.dt.fv=sc) jJ)(hN:autoParam (X.N=N) jJ)(hs:∀x,ZR x9 X.dt x=vX x:=by intro _;rfl):
  PE X (.Zm JM [⟨Wk,x9,zS,0⟩] fv gw) (i6 wi Nl.aj js g tc te):=by
 unfold cP at ok;simp only[w0q]at ok;obtain⟨⟨⟨⟨⟨⟨k1,k2⟩,k3⟩,k4⟩,k5⟩,k6⟩,k7⟩:=ok;exact OY hc hi (.jd (by simpa using k2)) (by unfold f9;simp only[w0q];exact⟨⟨⟨⟨⟨k1,k3⟩,k4⟩,k5⟩,k6⟩,k7⟩) hg ht he hsc hN hs
abbrev TF:=et->St->Hp->(et->Hp->Prop)->Prop
def PF(X:Cx)(es:ai p6)(t:TF):Prop:=∀(tG:et)(dN:ai (fy×sT))(s:p5)(σ:St)(H:Hp)(Q:et->Hp->Prop),j3 X dN σ H s->t tG σ H Q ->
 Joins (qX X.je X.w) X.A X.xe (evalEach es X.dt) tG (λxH s'=>xH.aj<=wm/\∃H',j3 X dN σ H' s'/\Q xH H') s
def y87(hc:X.MT=true):cZ X (.w4 "all") (λxs H Q=>∃p ys,xs=[.dr p]/\bD X.K H p ys/\(∀y∈ys,∃b,y=.bl b)/\Q (.bl (ys.t9 λy=>decide (y=.bl true))) H):=by
 intro dN s σ H xs us Q I r h;let⟨p,ys,rfl,hq,hb,q⟩:=h;let⟨u,rfl,rx⟩:=_n r;cases rx;let⟨aw,r',pl,hz⟩:=I.xm hq;have hl:=pl.zD;have bZ:p<s.bj.f'.dS:=by let⟨_,e,_⟩:=hl;exact g0.xX e
 have hh:X.A.Ba.YV=none:=I.ok.hd hc;refine call_all_walk (Δ hl ⟨s.bj.f'.dS,[s.bj.f'.dS,p],[s.bj.f'.dS],_,_,_,λi=>decide (ys[i]?=ab (.bl true)),rfl,ξ.xm hh s.bj.f'.dS p (w0t bZ) aw.l8,⟨⟨_,g0.A2 _ rfl,rfl,rfl⟩,hl.tM _⟩,?_,λh' tk kp=>?_⟩)
 .intro i v s1 Q1 E1 hv hQ;have oA:aw[i]?=ab v:=by simpa using hv
  have hi:i<ys.aj:=by rw[r'.aj];exact(w0b.mp oA).1
  let⟨u,hu,ru⟩:=r'.Ff (w0c hi);rw[oA]at hu;cases hu;let⟨b,eb⟩:=hb ys[i] (w1j hi);rw[eb]at ru;cases ru;refine Ε ?_
  have e:decide (ys[i]?=ab (V.bl true))=b:=by
   rw[w0c hi,eb];cases b<;>simp
  rw[<- e];exact hQ
 .have e:(ai.CC aw.l8.dS).t9 (λi=>decide (ys[i]?=ab (V.bl true)))=ys.t9 λy=>decide (y=.bl true):=by
   rw[w1v,w1c,w1c];constructor
   .intro hA y hy;let⟨i,hi,rfl⟩:=w3d hy;have z:=hA i (by rw[w0y,w0e,<- r'.aj];exact hi);rw[w0c hi]at z
    simpa using z
   .intro hA i hi;rw[w0y,w0e,<- r'.aj]at hi;have z:=hA ys[i] (w1j hi);rw[w0c hi]
    simpa using z
  refine⟨.bl _,H,I.Yc (t':=tk) λb o ow=>kp b o (λz=>?_) (g0.w6 _ ow),rfl,e ▸ q⟩
  rw[w1i]at z;exact uz (g0.xX ow) (by rw[z];exact w2c _)
namespace tE
variable{X:Cx}{e:p6}{EE:L2.St->XK}{es:ai p6}{gw:vW}{K:Fg}{x:et}{te:TE}
def A8:ĭ (.ke "list_reverseiterator") "__len__"=vX none:=by rw[Į,Ć];kernel_rfl
def hint:ĭ (.ke "list_reverseiterator") "__length_hint__"=vX (ab (.w4 "list_reverseiterator.__length_hint__")):=by rw[Į,Ć];kernel_rfl
section
variable{St:aO->p5->Prop}
def zan(W:WalksS je w A.Ba I fp wr G n P St)(hT:∀i s,St i s->s._S (.dr I) "list_reverseiterator")(ky:St 0 s)(pT:∀b∈fp,b<s.bj.f'.dS)(hI:I∈fp)
  (hQ:∀s' tG,Õ wr G s s'->Ô P tG n->Q tG.wL s')(hn:n<=wm):oP (qX je w) A (ō (.dr I)) Q E s:=by
 have Mi:s.bj.f'.dS∉fp:=λhm=>w2c _ (pT _ hm)
 have Vw:s.bj.f'.dS≠I:=λe=>Mi (e ▸ hI)
 unfold ō;refine ny (wpAny_runValue (à F.entry_proto_collect ?_));rw[C_.į F.plain_proto_collect _];show oP _ A.Ba (newList [] >>= λl=>_V (.w4 "list.__iadd__" ⟨[l,.dr I],[]⟩)) _ _ s
 refine ny (Γ ?_);refine ui ⟨Ë F.zdc _,à F.entry_list_iadd ?_⟩;rw[C_.į F.zdc _];have mq:=W.ä 0 s (s.bj.tM {o4:=.ke "list", pJ:=.p7 ([]:ai d0).l8}) s.tK ky (w0f _) λb _ o e=>g0.w6 _ e
 have Vu:(s.bj.tM {o4:=.ke "list", pJ:=.p7 ([]:ai d0).l8}).ik s.bj.f'.dS=ab {o4:=.ke "list", pJ:=.p7 ([]:ai d0).l8}:=g0.A2 _ rfl;have h1:uK.ai.listSameRef (.dr s.bj.f'.dS) (.dr I)=false:=by simp[uK.ai.listSameRef,Vw]
 show oP _ A.Ba (uK.ai.zcQ (.dr s.bj.f'.dS) (.dr I) (.dr s.bj.f'.dS)) _ _ _;unfold uK.ai.zcQ;refine ny (ź (hT 0 _ mq) ?_);rw[r5 (by rw[h1];decide)];refine ny (W.self 0 _ _ _ mq ?_);refine ny (ZW ?_);unfold uK.ai.listLengthHint;refine ny (ĵ (hT 0 _ mq) A8 ?_);show oP _ A.Ba (specialOf (d0.dr I) (et.YM "__length_hint__") >>= _) _ _ _;refine ny (ĵ (hT 0 _ mq) hint ?_)
 (generalize ox:("list_reverseiterator.__length_hint__":Yq)=MN;(fail_if_success (clear ox MN));wp_delta;rw[show splitId MN=ab ("list_reverseiterator", "__length_hint__")from by subst ox;decide +kernel];subst ox)
 refine ny (ŷ (b:=true) (hT 0 _ mq) (by rw[Ś];kernel_rfl) ?_);refine ui ?_;rw[r5 (by decide)];refine ui ⟨Ë F.plain_extend_loop _,codeAny_extend_loopS W hn _ Mi _ n 0 _ _ _ rfl (w1g _) mq Vu (Ô.so P) λs' o6 c' hm Ac nv=>?_⟩
 show oP _ A (load s.bj.f'.dS >>= _) _ _ s';refine ny (wpAny_load Ac ?_);exact ui (hQ s' o6 (Õ.drop_new (o:={o4:=.ke "list", pJ:=.p7 ([]:ai d0).l8}) (tk:=s.tK) hm (w0f _)) nv)
end
open AutoSeq1 (wpAny_loadPart')
def zbI(hh:A.YV=none)(gm:l≠I)(ZL:s.bj.ļ I l ((ro.dS:a7)-1))(hl:s.bj._C l ro)(hsz:ro.dS<=wm)
  (hQ:∀s' tG,Õ [I] (λa b=>b=a) s s'->Ô (λi v=>ro[ro.dS-1-i]?=ab v) tG ro.dS->Q tG.wL s'):oP (qX je w) A (ō (.dr I)) Q E s:=by
 have bZ:∀b∈[I,l],b<s.bj.f'.dS:=λb hb=>by
  rcases w0i.mp hb with z|z
  .rw[z];let⟨_,e,_⟩:=ZL;exact g0.xX e
  .rw[w1i.mp z];let⟨_,e,_⟩:=hl;exact g0.xX e
 exact zan (ξ.listRev (A:=A.Ba) hh I l gm ro).toS (λ_ _ st=>st.2.1.Zr) ⟨w1g _,by simpa using ZL,hl⟩ bZ w1b hQ hsz
theorem XU(I l)(ro)(gm:l≠I)(hsz:ro.dS<=wm):
  _D (uK.«tuple.__new__» ⟨[.ke "tuple", .dr I],[]⟩)
   (λA R s=>A.YV=none/\s.bj.ļ I l ((ro.dS:a7)-1)/\s.bj._C l ro/\∀(s':p5)(tG:yb d0),Õ [I] (λa b=>b=a) s s'->Ô (λi v=>ro[ro.dS-1-i]?=ab v) tG ro.dS ->
    R (.ok (.CJ (.dr s'.bj.f'.dS))) {s' with bj:=s'.bj.tM {o4:=.ke "tuple", pJ:=.p7 tG}}):=
 ._M λje w A R s h=>by
  let⟨hh,ZL,hl,h⟩:=h;have qH:=sub_tuple_self;have ze0:=init_tuple_lookup;have hmh:=madeHere_tuple;have hT:s._S (.dr I) "list_reverseiterator":=ZL.Zr;have VL:A.Ba.YV=none:=hh
  wp_walk using ź hT,zbI VL gm ZL hl hsz
  intro s' tG hm nv;show oP _ _ (uK.Yg.Ï tG.wL.l8 >>= λv=>CJ v) _ _ _
  unfold uK.Yg.Ï;refine ny (Γ ?_ (show tG.wL.l8.dS<=wm by simp only[w5h];rw[nv.1];exact hsz));refine ui ⟨_,rfl,?_⟩
  simp_all
def zdg(hh:A.YV=none)(gm:l≠I)(ZL:s.bj.ļ I l ((ro.dS:a7)-1))(hl:s.bj._C l ro)(hsz:ro.dS<=wm)
  (h:∀(h':g0)(tk:aO)(tG:yb d0),(∀b o,b≠I->s.bj.ik b=ab o->h'.ik b=ab o)->Ô (λi v=>ro[ro.dS-1-i]?=ab v) tG ro.dS->Q (.dr h'.f'.dS) {s with bj:=h'.tM {o4:=.ke "tuple", pJ:=.p7 tG},tK:=tk}):
  oP (qX je w) A (zb (.ke "tuple") [.dr I]) Q E s:=by
 refine ŉ F.called_tuple (by decide) (F.typeCall_tuple_1 _) (F.newCall_tuple_1 _) (λWd=>F.zb2 Wd _) F.entry_tuple_new
  (XU I l ro gm hsz) ⟨hh,ZL,hl,λs' tG hm nv=>⟨⟨_,g0.A2 _ rfl,rfl⟩,?_⟩⟩
 rw[Õ.eq_with hm];exact h s'.bj s'.tK tG (λb o hb e=>hm.bj b o (λz=>hb (w1i.mp z)) e) nv
end tE
def zdN(K:Fg)(te:TE):TE:=λσ H Q=>te σ H λx H1=>∃p ys,x=.dr p/\bD K H1 p ys/\∀l,H1 l=none->Q (.dr l) (oL H1 l (.gs ys.We))
def za2{p1 p2 uj lN:vW}(hc:X.MT=true)(F_:X.mg "tuple"=none)(sI:X.mg "reversed"=none)(he:PE X e te)(FU:autoParam (Gl X "tuple") jJ)(qD:autoParam (Gl X "reversed") jJ)
  (oz:autoParam (pg [.wO (.oh "reversed" p2) [e] [] lN] X.dt=(false,eval (.wO (.oh "reversed" p2) [e] [] lN) X.dt)::pg [] X.dt) jJ)(gT:autoParam (pg [e] X.dt=(false,eval e X.dt)::pg [] X.dt) jJ):
  PE X (.wO (.oh "tuple" p1) [.wO (.oh "reversed" p2) [e] [] lN] [] uj) (zdN X.K te):=by
 intro dN s σ H Q I h;refine γ (pY I FU F_ CG.Fe._p.«tuple» ?_ (by decide));refine CG.Fe.χ ?_ oz rfl;rw[oz];show oP _ _ (Î ((false,eval (.wO (.oh "reversed" p2) [e] [] lN) X.dt)::y0 uj (pg [] X.dt))) _ _ s;refine Zc.ô ?_;refine γ (pY I qD sI CG.Fe._p.«reversed» ?_ (by decide));refine CG.Fe.χ ?_ gT rfl;rw[gT];show oP _ _ (Î ((false,eval e X.dt)::y0 lN (pg [] X.dt))) _ _ s;refine Zc.ô (bq (he dN s σ H _ I h) λv s1 ⟨x,H1,I1,rx,p,ys,ex,hq,q⟩=>Zc.õ ?_)
 subst ex;cases rx;let⟨aw,r',pl,hz⟩:=I1.xm hq;have hl:=pl.zD;have bZ:p<s1.bj.f'.dS:=by let⟨_,e,_⟩:=hl;exact g0.xX e
 refine call_reversed_list hl ?_;refine Zc.õ ?_;have hh:X.A.YV=none:=I1.ok.hd hc;refine tE.zdg (ro:=aw.l8) hh (w0t bZ) ⟨_,g0.A2 _ rfl,rfl,rfl⟩ (hl.tM _) (by simp only[w0e];rw[<- r'.aj];exact hz) λh' tk tG kp nv=>?_
 have up:∀b o,s1.bj.ik b=ab o->h'.ik b=ab o:=λb o ow=>kp b o (w0t (g0.xX ow)) (g0.w6 _ ow)
 have I2:j3 X dN σ H1 {s1 with bj:=h',tK:=tk}:=I1.Yc (t':=tk) up
 have ea:tG=aw.We.l8:=by
  let⟨n1,n2⟩:=nv;apply yb.ext';apply w2h;intro i
  by_cases hi:i<aw.aj
  .have sF:i<tG.dS:=by rw[n1];simpa using hi
   have z:=n2 i tG[i] (by simp[sF]);simp only[w0e,ai.getElem?_toArray]at z;rw[ai.getElem?_reverse hi,z];simp[sF]
  .rw[w3q (by simp at n1 |-;omega),w3q (by simp;omega)]
 subst ea
 have I3:j3 X dN σ (oL H1 h'.f'.dS (.gs ys.We)) {s1 with bj:=h'.tM {o4:=.ke "tuple", pJ:=.p7 aw.We.l8},tK:=tk}:=
  I2.JN (t':=tk) (λb o e=>g0.w6 _ e) (w0f _) (show aU X.je X.w _ _ _ (.gs ys.We)from⟨by rw[w4a];exact hz,aw.We,r'.We,Z8.vd _ _,_,g0.A2 _ rfl,rfl⟩)
 exact⟨.dr h'.f'.dS,_,I3,rfl,q _ (I2.aQ.xK (w0f _))⟩
open PySem PySem.Spec PyProof.Rows
structure iG(K:Fg)(D:fy):Prop where
 ga:_I K (.dr D) "__getattribute__"=ab (ab (.w4 "BaseException.__getattribute__"))
 gt:_I K (.dr D) "__getattr__"=ab none
 cl:_I K (.dr D) "__class__"=ab (ab (.w4 "object.__class__"))
 zcz:Ģ K (.w4 "object.__class__") "__get__"=ab (ab (.w4 "getset_descriptor.__get__"))
 tk:Ű K (.w4 "object.__class__")=ab true
 mo:n9.W.Ϩ K D (.ke "object")=ab true
 mb:n9.W.Ϩ K D (.ke "BaseException")=ab true
 cd:(n9.W.Ĉ K D).z_=true
def jQ(K:Fg)(D:fy):ie:=
 _I K (.dr D) "__getattribute__"==ab (ab (.w4 "BaseException.__getattribute__"))&&_I K (.dr D) "__getattr__"==ab none &&
 _I K (.dr D) "__class__"==ab (ab (.w4 "object.__class__"))&&Ģ K (.w4 "object.__class__") "__get__"==ab (ab (.w4 "getset_descriptor.__get__")) &&
 Ű K (.w4 "object.__class__")==ab true&&n9.W.Ϩ K D (.ke "object")==ab true&&n9.W.Ϩ K D (.ke "BaseException")==ab true&&(n9.W.Ĉ K D).z_
def iG.of{D:fy}(h:jQ K D=true):iG K D:=by
 unfold jQ at h;simp only[w0q,_e]at h;obtain⟨⟨⟨⟨⟨⟨⟨h1,h2⟩,h3⟩,h4⟩,h5⟩,h6⟩,h7⟩,h8⟩:=h;exact⟨h1,h2,h3,h4,h5,h6,h7,h8⟩
def ϲ(e D:fy)(h:g0):Prop:=∃o vs,h.ik e=ab o/\o.o4=.dr D/\o.pJ=.MU vs
section
variable{A:C_}{s:p5}{e:fy}
open PySem.W Builtin Builtin.ObjectAttr Builtin.Getset_descriptor
def EC(p:ϲ e D h):Ϛ M h (Ŵ (.dr e)) (.dr D):=by
 let⟨o,vs,h1,h2,h3⟩:=p;exact h2 ▸ (Ϛ.ld h1).ϵ .now
def y88(X:K.In h)(C:iG K D):Ϛ M h (find (.dr e) (.dr D) "__class__") (.r7 (.w4 "getset_descriptor.__get__") (.w4 "object.__class__")):=by
 have L1:=Ŝ (M:=M) X C.cl;have L2:Ϛ M h (getOf (ab (.w4 "object.__class__"))) (ab (.w4 "getset_descriptor.__get__")):=looks_specialIn X C.zcz;have L3:=looks_takesIn (M:=M) X C.tk;refine L1.ϵ (L2.ϵ ?_);exact(show Ϛ M h (dataDescriptor? (ab (.w4 "object.__class__")) (ab (.w4 "getset_descriptor.__get__"))) (ab (.w4 "getset_descriptor.__get__", .w4 "object.__class__"))from L3.ϵ .now).ϵ (Ϛ.tag .now)
def z4b(X:K.In s.bj)(p:ϲ e D s.bj)(hm:Ϩ K D (.ke "object")=ab true)
  (h:R (.ok (.CJ (.dr D))) s):Zn (qX je w) A (.zb (.w4 "getset_descriptor.__get__") ⟨[.w4 "object.__class__", .dr e,tp],[]⟩) R s:=by
 let⟨hh,g,zfi,t,os⟩:=s;have L0:=EC (M:=qX je w) p;have L1:=looks_mroIn (M:=qX je w) X hm;refine zb' KF.slot_gs._w KF.entry_gs (KF.slot_gs.check _ _ _ _ _ _ _ _ KF.type_class (KF.args_gs _ _ _) ?_);unfold uK.«getset_descriptor.__get__» descrGet;rw[dga_obj];refine ny (ui ?_);unfold descrGetter descrCheckInstance descrNameAndClass Ř;simp only[KF.owner_class]
 repeat lk
 refine⟨Code.quiet_builtin _ (by decide +kernel),à KF.entry_class ?_⟩;unfold uK.«object.__class__» shownTypeOf
 repeat lk
 exact h
def za3{M:Model}{vp:d0}{Q:Unit->p5->Prop}{h:g0}{g:yb Ļ}{d:Drawn}{t:aO}{os:OsState}(X:K.In h)(p:ϲ e D h)(hm:Ϩ K D (.ke "BaseException")=ab true)(hq:Q () ⟨h,g,d,t,os⟩):
  oP M A (zb_ "BaseException.__getattribute__" ⟨[.dr e,vp],[]⟩) Q E ⟨h,g,d,t,os⟩:=by
 have hk:builtinKind "BaseException.__getattribute__"=ab .xM:=by decide +kernel
 have zdX:splitId "BaseException.__getattribute__"=ab ("BaseException", "__getattribute__"):=by decide +kernel
 have L0:=EC (M:=M) p;have L1:=looks_mroIn (M:=M) X hm;have LI:Ϛ M h (Ř (.dr e) (.ke "BaseException")) true:=L0.ϵ L1;have ha:=n9.F.args_bexc_ga (.dr e) vp;simp only[zb_,hk,zdX];refine ny (LI.at ?_);rw[r5 (by decide)];unfold Û at ha;split
 .rename_i sig hs;rw[hs]at ha;exact ϭ ha hq
 .exact ui hq
def za4(X:K.In s.bj)(p:ϲ e D s.bj)(C:iG K D)(h:Q (ab (.dr D)) {s with tK:=s.tK+1}):oP (qX je w) A (getAttr? (.dr e) "__class__") Q E s:=by
 let⟨hh,g,d,t,os⟩:=s;have L0:=EC (M:=qX je w) p;have L1:=Ŝ (M:=qX je w) X C.ga;have L2:=Ŝ (M:=qX je w) X C.gt;have L3:=y88 (M:=qX je w) (e:=e) X C;unfold getAttr? getAttrBy? getAttrBy;refine ny (wpAny_mkText (ny (û (ZW (ny (L0.at (ny (L1.at ?_))))))));have qK:(d0.w4 "BaseException.__getattribute__"==d0.w4 "object.__getattribute__")=false:=by decide +kernel
 have GA:(onTheHeap (d0.dr D)&&d0.w4 "BaseException.__getattribute__"==d0.w4 "object.__getattribute__")=false:=by rw[qK];rfl
 dsimp only;rw[r5 (by rw[GA];decide)];unfold getAttrByItsOwn hookBefore;rw[nZ (by rfl)];refine ny (L2.at ?_);refine ny (û (ZW ?_));unfold callGetattribute;rw[r5 (by decide)];unfold boundAndCalled;have f3:=n9.F.zcp.ga.r7 (.dr e);refine ny (ϭ f3 ?_);refine Ϭ (zb' n9.F.zcp.ga._w F.entry_bexc_ga (za3 (K:=K) (D:=D) X p C.mb ?_));unfold uK.«object.__getattribute__»;refine ny (ϭ (a:=(d0.dr e,[d0.str (et.YM "__class__") t])) (by rfl) ?_);dsimp only;refine ny (ϭ (a:=et.YM "__class__") (by rfl) ?_);refine ny (L0.at (ny (L3.at ?_)));dsimp only;unfold bindTo;refine ny (ZW (Ϭ (z4b (K:=K) (D:=D) X p C.mo ?_)));dsimp only;refine ui ?_;dsimp only;refine ϭ (a:=d0.dr D) (by rfl) ?_;exact ui h
theorem y89(C:iG K D):KitX K (.dr e) (.dr D) (ϲ e D) where
 ty:=λ_ _ _ p=>EC p
 it:=λM h X p=>by
  have wG:=C.cd;unfold Ĉ at wG;split at wG
  .rename_i c' d' U9 xS ho;intro zeK Q' E' s' k q;unfold isType loadHead;exact ny (wpAny_loadPart (k _ _ (X _ _ ho)) (ui q))
  .cases wG
 ne:=λh tp dd aw n sl X V0=>by
  refine w2l.wa λq=>?_
  have e1:D=tp:=d0.dr.zT (_e.mp q);subst e1;have wG:=C.cd;unfold Ĉ at wG;split at wG
  .rename_i c' d' U9 xS ho;have z:=(X _ _ ho).symm.kZ V0;cases z
  .cases wG
 ca:=λX p k=>za4 X p C k
end
def yZ:V->d0->Prop
 |.ty n,c=>c=.ke n
 |.dr a,c=>c=.dr a
 |_,_=>vk
structure sv(P:xc)(w:vr)(K:Fg)(mg:et->d3 d0)(k_:g0)(k:aO)(x:et)(ps:ai et)(sp:Sp):Prop where
 ex:∃f fd,eT P w K mg k_ (fe P w) k f fd ps sp/\mg x=ab (.dr f)/\_L K (.dr f)=true/\ZO K fd ps []
structure ze3(P:xc)(w:vr)(K:Fg)(mg:et->d3 d0)(k_:g0)(k:aO)(x:et)(ps:ai et)(sp:Sp):Prop where
 ex:∃f fd,zeI P w K mg k_ k f fd ps sp/\mg x=ab (.dr f)/\_L K (.dr f)=true/\ZO K fd ps []
structure At(K:Fg)(mg:et->d3 d0)(x:et)(st:Mu)(ps:ai et):Prop where
 ex:∃f fd,zo K x x st f fd/\mg x=ab (.dr f)/\ZO K fd ps []
section
variable{k:aO}{ps:ai et}{sp:Sp}{p:vW}{t:TA}
def K_(C:sv X.je X.w X.K X.mg X.k_ k x ps sp)(hr:br k X.A)(hx:eW (fe X.je X.w) X EE)(ha:PA X (e::es) t)(hg:autoParam (Gl X x) jJ)
  (jT:autoParam ((x==("__debug__":et))=false) jK)(he:autoParam (pg (e::es) X.dt=(false,eval e X.dt)::pg es X.dt) jJ)(dP:autoParam ((y0 gw (pg es X.dt)).uJ (·.1)=false) jJ):
  PE X (.wO (.oh x p) (e::es) [] gw) (rY sp [] EE t):=by
 let⟨f,fd,F,m,kp,b⟩:=C.ex;exact y86 F hr hg m kp b .so hx ha jT he dP
end
section
variable{t:TA}{Yw p:vW}
theorem yP(i:aO)(hN:X.N.xZ)(he:PE X e te)(hi:autoParam (X.N[i]?=ab x) jJ)(hx:autoParam (YU X.dt.fv x) jM)(hs:autoParam (Zk e (ab (.oh x Yw)) gw.Yd X.dt=vX false) jJ)(hf:autoParam (X.fn x=true\/X.dt.fv.qW.g6 x=ab .local) jL):
  PS X (.Zu [.oh x Yw] e gw) (rX te (bL i)):=z9w hN hi hx he hs hf
theorem uC(i:aO)(hN:X.N.xZ)(hi:autoParam (X.N[i]?=ab x) jJ)(hx:autoParam (YU X.dt.fv x) jM)(hf:autoParam (X.fn x=true\/X.dt.fv.qW.g6 x=ab .local) jL):PG X (.oh x gw) (bL i):=z3y hN hi hx hf
theorem RM{o:p6}{to:TE}{Yo:vW}(ho:PE X o to)(ha:PA X (e::es) t)(dg:autoParam (Κ o "append" X.dt (eval o X.dt)=eval o X.dt) jJ)
  (bY:autoParam (((y0 gw (pg (e::es) X.dt)).t9 (λx=>!x.1)&&(Λ gw (Ρ [] X.dt)).t9 (λx=>x.1.z_)&&decide ((e::es).aj+([]:ai Zd).aj+(if([]:ai Zd).U7 then 0 else 1)<30))=true) jJ)
  (dj:autoParam ((Yo.Ο==gw.Yd)=true) jJ)(hs:autoParam (pg (e::es) X.dt=(false,eval e X.dt)::pg es X.dt) jJ)(bT:autoParam ((y0 gw (pg es X.dt)).uJ (·.1)=false) jJ):
  PE X (.wO (._o o "append" Yo) (e::es) [] gw) (NQ X.K "list" oM to t):=Lv n9.F.Ė n9.F.zdu n9.F.type_list_append Je ho ha dg bY dj hs bT
end
theorem vz(h:H p=none)(o):ao H (oL H p o):=λb u q=>by rw[aN (gU q h)];exact q
def ao.gs(e:ao H H')(h:bK K H a xs):bK K H' a xs:=by
 rcases h with(h|⟨o,h⟩)|h
 .exact .jd (.jd (e _ _ h))
 .exact .jd (.lb ⟨o,e _ _ h⟩)
 .exact .lb h
abbrev rL(o:sT):HO:=.cK o (.ku 0)
abbrev mf(o:sT)(q:et)(c:fy):HO:=.cK o (.n0 #[.xN false,.str q 0,.dr c])
abbrev ll(o:sT):HO:=.cK o (.ext λ_=>j')
abbrev Cs:=ai (fy×sT)
def dE(H:Hp)(cs:Cs):Hp:=λb=>match cs.g6 b with
 |ab _=>none
 |none=>H b
def bQ(H:Hp)(cs:Cs):Hp:=λb=>match cs.g6 b with
 |ab o=>ab (ll o)
 |none=>H b
def xD(h:cs.g6 b=ab o):dE H cs b=none:=by unfold dE;rw[h]
def mK(h:cs.g6 b=none):dE H cs b=H b:=by unfold dE;rw[h]
def pE(h:cs.g6 b=ab o):bQ H cs b=ab (ll o):=by unfold bQ;rw[h]
def ir(h:cs.g6 b=none):bQ H cs b=H b:=by unfold bQ;rw[h]
def Bz(h:H b=none):dE H cs b=none:=by unfold dE;split<;>first|rfl|exact h
def bA(H:Hp)(cs:Cs):Prop:=∀b o,cs.g6 b=ab o->H b=ab (ll o)
def bA.xH(c:bA H cs)(h:H b=none):cs.g6 b=none:=by
 cases q:cs.g6 b with
 |none=>rfl
 |ab o=>rw[c b o q]at h;cases h
def bA.xn(c:bA H cs)(h:H b=ab u)(n:∀o,u≠ll o):cs.g6 b=none:=by
 cases q:cs.g6 b with
 |none=>rfl
 |ab o=>rw[c b o q]at h;grind
def bA.c_(c:bA H cs)(h:H b=ab u)(n:∀o,u≠ll o):dE H cs b=ab u:=by rw[mK (c.xn h n)];exact h
def Lw(h:dE H cs b=ab u):H b=ab u/\cs.g6 b=none:=by
 unfold dE at h;split at h
 .cases h
 .rename_i q;exact⟨h,q⟩
theorem NX(t:eC u):∀o,u≠ll o:=λo z=>by subst z;exact t
theorem eh.rm(x:eh P w H h)(c:bA H cs):eh P w (dE H cs) h:=λa u e=>by
 let⟨e1,_⟩:=Lw e;exact(x a u e1).cF (λb v _ q=>q) (λb q=>c.c_ q λo z=>nomatch z) λb v t q=>c.c_ q (NX t)
theorem eh.add(x:eh P w H h)(hc:∀b o,cs.g6 b=ab o->H b=none/\h.ik b=ab o):eh P w (bQ H cs) h:=λa u e=>by
 cases q:cs.g6 a with
 |ab o=>
  rw[pE q]at e;cases e;exact⟨(hc a o q).2,trivial,⟨o,(hc a o q).2⟩,λ_ _ _ _=>trivial⟩
 |none=>
  rw[ir q]at e
  have xH:∀b v,H b=ab v->bQ H cs b=ab v:=λb v z=>by
   cases q2:cs.g6 b with
   |ab o=>rw[(hc b o q2).1]at z;cases z
   |none=>rw[ir q2];exact z
  exact(x a u e).cF (λb v _ q=>q) (λb q=>xH b _ q) λb v t q=>xH b v q
def z4c(x:eh P w H h)(e:H f=ab (mf o q c)):h.ik f=ab o/\h.Ĺ (.dr c) q:=by
 let⟨h1,h2⟩:=(show h.ik f=ab o/\aU P w H h f (.n0 #[.xN false,.str q 0,.dr c])from x f _ e);refine⟨h1,?_⟩;rcases h2 with⟨_,_,p0,_⟩|⟨q',c',oc,ob,vs,t,_,p1,p2,h3,h4,h5,_⟩
 .cases p0
 .cases p1;cases p2;exact⟨c,oc,vs,t,rfl,(show h.ik c=ab oc/\_ from x c _ h3).1,h4,h5⟩
theorem Un.Yh(u:Un fs ex (dE H cs) H' h h')(c:bA H cs):Un fs ex H (bQ H' cs) h h' where
 xW:=λb o q n hb hx=>u.xW b o q (Bz n) hb hx
 xM:=λb o q n hb hx=>u.xM b o q (Bz n) hb hx
 tD:=λb o q n hx=>by rw[ir (c.xH n)];exact u.tD b o q (Bz n) hx
 Zp:=u.Zp
 iD:=λb xs q=>by
  have z:=c.xn q λo z=>nomatch z
  rw[ir z];exact u.iD b xs (by rw[mK z];exact q)
 aX:=λb o v q=>by
  cases z:cs.g6 b with
  |ab o'=>
   rw[pE z];rw[c b o' z]at q;exact q
  |none=>rw[ir z];exact u.aX b o v (by rw[mK z];exact q)
 fX:=λb ps q=>by
  have z:=c.xn q λo z=>nomatch z
  rw[ir z];exact u.fX b ps (by rw[mK z];exact q)
def Un.gb(u:Un fs ex (bQ H cs) H' h h')(aQ:eh P w H' h')(hc:∀b o,cs.g6 b=ab o->H b=none/\h.ik b=ab o):Un fs ex H (dE H' cs) h h':=by
 have MO:∀b o,cs.g6 b=ab o->H' b=ab (ll o)/\h'.ik b=ab o:=λb o z=>by
  have q:=u.aX b o _ (pE z);exact⟨q,(show h'.ik b=ab o/\_ from aQ b _ q).1⟩
 refine⟨λb o q n hb hx=>?_,λb o q n hb hx=>?_,λb o q n hx=>?_,u.Zp,λb xs q=>?_,λb o v q=>?_,λb ps q=>?_⟩
 .cases z:cs.g6 b with
  |ab o'=>
   have:=(hc b o' z).2;rw[q]at this;cases this;exact(MO b _ z).2
  |none=>exact u.xW b o q (by rw[ir z];exact n) hb hx
 .cases z:cs.g6 b with
  |ab o'=>
   have:=(hc b o' z).2;rw[q]at this;cases this;exact⟨o.YN,(MO b _ z).2⟩
  |none=>exact u.xM b o q (by rw[ir z];exact n) hb hx
 .cases z:cs.g6 b with
  |ab o'=>exact xD z
  |none=>rw[mK z];exact u.tD b o q (by rw[ir z];exact n) hx
 .have z:cs.g6 b=none:=by
   cases z:cs.g6 b with
   |ab o'=>rw[(hc b o' z).1]at q;cases q
   |none=>rfl
  rw[mK z];exact u.iD b xs (by rw[ir z];exact q)
 .have z:cs.g6 b=none:=by
   cases z:cs.g6 b with
   |ab o'=>rw[(hc b o' z).1]at q;cases q
   |none=>rfl
  rw[mK z];exact u.aX b o v (by rw[ir z];exact q)
 .have z:cs.g6 b=none:=by
   cases z:cs.g6 b with
   |ab o'=>rw[(hc b o' z).1]at q;cases q
   |none=>rfl
  rw[mK z];exact u.fX b ps (by rw[ir z];exact q)
abbrev eO(t_:et)(fv:zF)(f:fy)(cd:d0)(cl:ai (et×fy))(s:p5):S':=n9.W.envX t_ fv s.bj.f'.dS f cd cl
def kF(P:xc)(w:vr)(K:Fg)(mg:et->d3 d0)(k_:g0)(N:ai et)(t_:et)(fv:zF)(f:fy)(cd:d0)(cl:ai (et×fy))(A:C_)(tB:ai S')(s:p5)(H:Hp):Cx where
 je:=P
 w:=w
 K:=K
 mg:=mg
 k_:=k_
 A:=A.ZJ (eO t_ fv f cd cl s)
 N:=N
 ay:=s
 aF:=H
 dt:=eO t_ fv f cd cl s
 tB:=tB
 WZ:=eO t_ fv f cd cl s::tB
 ex:=[]
 MT:=true
 fn:=λ_=>false
 pn:=[]
 xe:=λ_ _=>vk
structure gZ(ps Nf:ai et)(sc:zF):Prop where
 zc:sc.zc=.ZK
 co:sc.ç=false
 gen:sc.è=false
 nd:ps.xZ
 qY:∀y∈sc.qW,y.2≠.uL
 Ϗ:∀x∈ps,sc.qW.g6 x=ab .local
 fr:∀y∈Nf,sc.qW.g6 y=ab .tD
structure jr(cl:ai (et×fy))(Nf:ai et)(sc:zF)(zs:ai V)(h:g0)(cs:Cs):Prop where
 zT:∀x y c,cl.g6 x=ab c->cl.g6 y=ab c->x=y
 A':∀x,(x,Wn.tD)∈sc.qW->∃c,cl.g6 x=ab c
 t9:∀x c,cl.g6 x=ab c->∃o,cs.g6 c=ab o
 ou:∀c o,cs.g6 c=ab o->h.ik c=ab o/\∃v,o.pJ=.uL v
 vV:∀(i:aO) y z,Nf[i]?=ab y->zs[i]?=ab z->∃c o u,cl.g6 y=ab c/\cs.g6 c=ab o/\o.pJ=.uL (ab u)/\uI z u
section
variable{P:xc}{w:vr}{ps:ai et}{f:fy}{cl:ai (et×fy)}{s:p5}{us:ai d0}
def y9a{v:d0}:∀{ps:ai et}{us:ai d0}{i:aO},ps.xZ->ps[i]?=ab x->us[i]?=ab v->(ps.xR us).We.g6 x=ab v:=by
 intro ps us i nd h1 h2;have hm:(x,v)∈(ps.xR us).We:=ai.mem_reverse.wa (w0w (i:=i) (by rw[w4j];exact⟨h1,h2⟩))
 have hn:((ps.xR us).We.a6 (·.1)).xZ:=by
  rw[ai.map_reverse];show ai.Zf (·≠·) _;rw[ai.pairwise_reverse];refine ai.Zf.uM (λh=>Ne.symm h) (show((ps.xR us).a6 (·.1)).xZ from ?_)
  exact nd.sublist (by
   clear hm h1 h2
   induction ps generalizing us with
   |so=>simp
   |qT p ps ih=>cases us with
    |so=>simp
    |qT u us=>simpa using ih (us:=us) (w2e.mp nd).2)
 generalize (ps.xR us).We=l at hm hn
 induction l with
 |so=>cases hm
 |qT p l ih=>
  let⟨y,z⟩:=p;rw[w3w];rcases w0i.mp hm with e|sI
  .cases e;simp
  .have gm:(x==y)=false:=by
    rw[϶];rintro rfl;exact(w2e.mp hn).1 (w0u.wa ⟨(x,v),sI,rfl⟩)
   rw[gm];exact ih sI (w2e.mp hn).2
def z4d{dU:g0}{tk:aO}(S:gZ ps Nf fv)(C:jr cl Nf fv zs s.bj cs)(hd:A.YV=none)(e0:i8 P w K mg k_ A tB s H)(hn:∀c o,cs.g6 c=ab o->H c=none)
  (hl:vs.aj=ps.aj)(hz:zs.aj=Nf.aj)(r:uw vs us)
  (ns:dU.Ns s.bj.f'.dS (λx=>(ps.xR us).We.g6 x))(hs:g0.Z_ s.bj.f'.dS (s.bj.tM {o4:=.ke "frame", pJ:=.xg #[]}) dU):
  j3 (kF P w K mg k_ (ps++Nf) t_ fv f cd cl A tB s H) [] (vs.a6 ab++zs.a6 ab) H {s with bj:=dU,tK:=tk}:=by
 have hk:∀b o,s.bj.ik b=ab o->dU.ik b=ab o:=λb o e=>hs.x8 b o (w0t (g0.xX e)) (g0.w6 _ e)
 have ud:∀b:fy,b∉([]:ai fy):=λb z=>nomatch z
 have lM:∀x c,cl.g6 x=ab c->H c=none/\∃o,s.bj.ik c=ab o/\∃v,o.pJ=.uL v:=λx c e=>by
  let⟨o,q⟩:=C.t9 x c e;exact⟨hn c o q,o,C.ou c o q⟩
 refine⟨⟨e0.Yv,S.zc,rfl,rfl,w0f _,C.zT,λy hy=>?_,(λx c z=>nomatch z),λ_=>hd,C_.zcu e0.YH,.lb ⟨rfl,rfl⟩,λb z=>uz z (ud b),e0.bs,e0.o7,λb _ _=>ud b,λb z=>uz z (ud b),e0.fQ,e0.qx,e0._m⟩,
  rfl,e0.Td,Un.Yc hk,⟨_,ns,λi y v h1 h2 h3=>?_⟩,λy c h=>?_,e0.aQ.xK (w0f _),λy c h=>(lM y c h).1,λp hp=>uz (show p∈([]:ai (fy×sT))from hp) (by simp),e0.aQ.Yc hk,?_⟩
 .have hy:fv.qW.g6 y=ab .uL\/fv.qW.g6 y=ab .tD:=hy;rcases hy with hy|hy
  .exact uz rfl (S.qY _ (n9.Z2 hy))
  .exact C.A' y (n9.Z2 hy)
 .have h1:(ps++Nf)[i]?=ab y:=h1
  by_cases hi:i<ps.aj
  .rw[w2d (by simpa [hl]using hi),w0s]at h2;rw[w2d hi]at h1
   have ha:vs[i]?=ab v:=by
    cases e:vs[i]? with
    |none=>rw[e]at h2;cases h2
    |ab a=>rw[e]at h2;cases (h2);rfl
   let⟨u,hu,rv⟩:=r.Ff ha;exact⟨u,rv,.jd ⟨S.Ϗ y (w0w h1),y9a S.nd h1 hu⟩⟩
  .have sF:ps.aj<=i:=w3m.mp hi;rw[w1l (by simpa [hl]using sF),w0s,w0a,hl]at h2;rw[w1l sF]at h1
   have ha:zs[i-ps.aj]?=ab v:=by
    cases e:zs[i-ps.aj]? with
    |none=>rw[e]at h2;cases h2
    |ab a=>rw[e]at h2;cases (h2);rfl
   let⟨c,o,u,e1,e2,e3,e4⟩:=C.vV _ _ _ h1 ha;exact⟨u,e4,.lb ⟨.lb (S.fr y (w0w h1)),c,e1,o,hk _ _ (C.ou c o e2).1,e3⟩⟩
 .let⟨_,o,q,v,d⟩:=lM y c h;exact⟨v,o,hk _ _ q,d⟩
 .show _=(ps++Nf).aj;simp[hl,hz]
def z4e
  (hr:br (k+1) A)(e0:i8 P w K mg k_ A tB s H)(hf:H f=ab (mf (ZM name t_ uu uG fv cl pm c' eS) t_ c'))
  (S:gZ ps Nf fv)(CI:bA H cs)(C:jr cl Nf fv zs s.bj cs)(mm:ρ (ê name t_ uu uG fv cl pm (.dr c') eS) ⟨us,[]⟩=vX (ps.xR us))
  (hl:vs.aj=ps.aj)(hz:zs.aj=Nf.aj)(r:uw vs us)
  (hb:PE (kF P w K mg k_ (ps++Nf) t_ fv f (.dr c') cl A tB s (dE H cs)) uG t)(hq:t (vs.a6 ab++zs.a6 ab) (dE H cs) λv H'=>(∀b o,cs.g6 b=ab o->H' b=none)->Q v (bQ H' cs)):
  Zn (qX P w) A (.zb (.dr f) ⟨us,[]⟩) (CR CX tB P w H s Q E) s:=by
 have lim:s.bj.Ö:=e0.Yv.ë.YW λb o e=>(e0.bs b o e).1
 let⟨VH,fg⟩:=z4c e0.aQ hf
 have e1:i8 P w K mg k_ A tB s (dE H cs):=⟨e0.YH,e0.Yv,λb o q=>⟨(e0.bs b o q).1,Bz (e0.bs b o q).2⟩,e0.o7,e0.fQ,λb hb=>Bz (e0.qx b hb),e0.aQ.rm CI,e0.Td,λa q P m=>by
  let⟨ps,e,p⟩:=e0._m a q P m;exact⟨ps,CI.c_ e (λo z=>nomatch z),p⟩⟩
 refine n9.W.kla_callFunE hr.ql VH rfl S.co S.gen rfl fg ?_;rw[mm];refine ui (Ÿ S.qY (λy hy=>S.Ϗ y.1 (w3i hy).1) (λdU lV MD=>⟨lim.xK _ MD,?_⟩) S.zc)
 show Zn _ _ (.expr uG (eO t_ fv f (.dr c') cl s)) _ _;have I:=z4d (tk:=s.tK+(ps.xR us).aj) (t_:=t_) (f:=f) (cd:=.dr c') S C hr.hd e1 (λc o q=>xD q) hl hz r lV MD
 refine n9.W.kla_codeExpr (Zs (hb [] _ _ _ _ I hq) (λu s' jf=>?_) λe s' z=>vk.oa z)
 let⟨v,H',J,rv,q⟩:=jf;have un:Un (gM tB) [] (dE H cs) H' s.bj s'.bj:=J.k_;refine⟨v,bQ H' cs,J.os,J.Td,un.Yh CI,J.aQ.add λb o z=>?_,rv,q λb o z=>un.tD b o (C.ou b o z).1 (xD z) (by simp)⟩
 have nf:b∉gM tB:=λhb=>by
  have:=e0.qx b hb;rw[CI b o z]at this;cases this
 have g:=(C.ou b o z).1;exact⟨un.tD b o g (xD z) (by simp),un.xW b o g (xD z) nf (by simp)⟩
end
def sx(P:xc)(w:vr)(K:Fg)(mg:et->d3 d0)(k_:g0)(CX:mY)(k:aO)(sp:V->ai V->Hp->VK->XK->Prop):Prop:=∀(x:V)(vs:ai V)(H:Hp)(Q:VK)(E:XK),sp x vs H Q E ->
 ∃f oc od fd sl u,x=.dr f/\H f=ab (.cK ⟨oc,od,.Zo fd,sl⟩ u)/\∀(A:C_)(tB:ai S')(s:p5)(us:ai d0),br k A->i8 P w K mg k_ A tB s H->uw vs us ->
  Zn (qX P w) A (.zb (.dr f) ⟨us,[]⟩) (CR CX tB P w H s Q E) s
def Fb(H:Hp)(x:V):Prop:=∃f oc od fd sl u,x=.dr f/\H f=ab (.cK ⟨oc,od,.Zo fd,sl⟩ u)
def zem(sp:V->ai V->Hp->VK->XK->Prop)(EE:L2.St->XK)(tv:TE)(t:TA):TE:=λσ H Q=>tv σ H λx H1=>Fb H1 x/\t σ H1 λvs H2=>sp x vs H2 Q (EE σ)
section
variable{CX:mY}{k:aO}{sp:V->ai V->Hp->VK->XK->Prop}{p:vW}{tv:TE}{t:TA}
def y9b(F:sx X.je X.w X.K X.mg X.k_ CX k sp)(hr:br k X.A)(hv:PE X (.oh x p) tv)(hx:eW CX X EE)(ha:PA X (e::es) t)
  (he:autoParam (pg (e::es) X.dt=(false,eval e X.dt)::pg es X.dt) jJ)(dP:autoParam ((y0 gw (pg es X.dt)).uJ (·.1)=false) jJ):
  PE X (.wO (.oh x p) (e::es) [] gw) (zem sp EE tv t):=by
 intro dN s σ H Q I h;refine γ (bq (hv dN s σ H _ I h) λu s1 ⟨y,H1,I1,ry,⟨f,oc,od,fd,sl,zfw,ey,ef⟩,q⟩=>?_)
 subst ey;obtain rfl:u=d0.dr f:=ry;refine n9.W.callWith_F ⟨oc,od,fd,sl,(show s1.bj.ik f=ab _/\_ from I1.aQ f _ ef).1⟩ (bq (ha gw dN s1 σ H1 _ I1 q) λus s2 ⟨vs,H2,I2,r,q2⟩=>?_) he dP
 let⟨zcq,Wo,Wq,Vl,xS,u',Me,Vc,nN⟩:=F _ _ _ _ _ q2;cases Me;refine⟨⟨Wo,Wq,Vl,xS,(show s2.bj.ik f=ab _/\_ from I2.aQ f _ Vc).1⟩,Ϭ (Ν (nN X.A X.WZ s2 us hr I2.qv r) λr s' hq=>?_)⟩
 cases r with
 |_H e=>exact hx dN σ H2 s2 e s' I2 hq
 |ok fl=>
  cases fl with
  |CJ u=>exact I2.ϡ hq
  |next=>exact vk.oa hq
  |_r=>exact vk.oa hq
  |_s=>exact vk.oa hq
end
def zbJ{Yw:vW}{a b:a7}{c cv:d0}(l:ai d0)(h:Ł l)(z:Ϻ Yw (l++[_x a,_x b,c])=ab cv):Ϻ Yw l=ab cv\/cv=c:=by
 fun_induction Ł l with
 |case1=>
  simp only[w4b,Ϻ,_x]at z;split at z
  .cases z;exact .lb rfl
  .cases z
 |case2 x t y u v xb ih=>
  simp only[ai.cons_append,Ϻ]at z |-
  split at z
  .rename_i hc;rw[nZ hc];exact .jd z
  .rename_i hc;rw[r5 hc];exact ih h z
 |case3=>exact h.oa
def _z(h:g0)(mg:et->d3 d0):Prop:=∃bm ob,mg "__builtins__"=ab (.dr bm)/\bm≠Ϲ/\h.ik bm=ab ob/\ob.o4=.ke "module" /\ ob.xg=ab Ϲ/\ob.pJ=._w
def oi(X:Cx)(uu:Z7)(uG:p6)(fv:zF)(a8:ai (et×fy))(f:fy)(H H':Hp):Prop:=ć fv X.dt=vX a8/\∃(H1:Hp)(pm eS:d0)(c':fy),(H1=H\/∃c oc,H c=none/\H1=oL H c (rL oc))/\H1 f=none /\
 H'=oL H1 f (mf (ZM "<lambda>" (X.dt.t_++"<lambda>") uu uG fv a8 pm c' eS) (X.dt.t_++"<lambda>") c')
def Cf(X:Cx)(uu:Z7)(uG:p6)(fv:zF):TE:=λ_ H Q=>∀f a8 H',oi X uu uG fv a8 f H H'->Q (.dr f) H'
structure ϛ(X:Cx):Prop where
 ex:∃c P a,X.dt.Μ=.dr c/\á X.K c P=true/\(a,ip P (X.dt.t_++"<lambda>"))∈X.K
 bm:_z X.k_ X.mg
def RN(M:ϛ X)(lB:â uu X.dt=([],[]))(cL:∀x∈fv.qW,x.2=.tD->X.dt.zj x.1=ab .uL\/X.dt.zj x.1=ab .tD):
  PE X (.Ze uu uG fv eA) (Cf X uu uG fv):=by
 intro dN s σ H Q I h;let⟨a8,e5,_,_⟩:=Bs (fv:=fv) (dt:=X.dt) λx hx hf=>I.ok.A' x.1 (cL x hx hf)
 let⟨c,P,a,vb,pR,Ay⟩:=M.ex;have Mt:=n9.W.codeHd_of_K I.Yv.AN pR;let⟨ps,hP,p0,p1⟩:=I.ok._m a _ P Ay;let⟨_v,eP⟩:=I.k_.fX P ps hP
 have q0:(ps++_v)[0]?=ab (.xN true):=by
  rw[w1z (by let⟨z,_⟩:=w2j.mp p0;exact z)];exact p0
 have q1:(ps++_v)[1]?=ab (.str (X.dt.t_++"<lambda>") 0):=by
  rw[w1z (by let⟨z,_⟩:=w2j.mp p1;exact z)];exact p1
 have zc6:aU X.je X.w H s.bj P (.n0 (ps++_v)):=I.aQ P _ eP;rcases zc6 with⟨q,qs,r0,r1,g1,tr,cd⟩|⟨_,_,_,_,_,_,r0,_⟩
 case lb=>rw[q0]at r0;cases r0
 rw[q1]at r1;cases r1;have nP:∀b,H b=none->b≠P:=λb n z=>by rw[z,eP]at n;cases n
 have VJ:Yi≠P:=by
  let⟨o,es,ep,e,_⟩:=I.Yv._i;exact nP _ (I.bs _ o e).2
 have hB:s.bj.BuiltinsAt X.mg P:=by
  let⟨bm,ob,b1,b2,b3,b4,b5,b6⟩:=M.bm;refine⟨bm,ob,b1,b2,λz=>?_,nP _ (I.bs bm ob b3).2,(I.bs bm ob b3).1,b4,b5,b6⟩
  let⟨o,es,ep,e,d,_⟩:=I.Yv._i;rw[z,e]at b3;cases b3;rw[d]at b6;cases b6
 have lV:=I.Yv._i.YW I.bk;refine n9.W.kla_eval lB ?_;cases hc:Ϻ eA qs.wL with
 |ab cv=>
  let⟨c',oc,vs,t,rfl,k1,k2,k3⟩:=cd eA cv hc;refine n9.W.kla_makeFunctionHit (mg:=X.mg) e5 I.ok._i lV vb (Mt.YW I.bk) g1 tr hc hB λeS h' tk hk hsz=>?_
  have fr:H h'.f'.dS=none:=I.aQ.xK hsz;refine⟨.dr h'.f'.dS,_,I.JN (t':=tk) (λb u e=>g0.w6 _ (hk b u e)) hsz ?_,rfl,h _ a8 _ ⟨e5,H,(X.mg "__name__").hX .none,eS,c',.jd rfl,fr,rfl⟩⟩
  exact⟨g0.A2 _ rfl,.lb ⟨_,c',oc,_,vs,t,rfl,rfl,rfl,by rw[aN (gU k1 fr)];exact k1,k2,k3,g0.A2 _ rfl⟩⟩
 |none=>
  refine n9.W.kla_makeFunction (mg:=X.mg) e5 I.ok._i lV vb (Mt.YW I.bk) g1 tr hc VJ hB λc' eS h' tk hx Ms bZ Gq ME=>?_
  let⟨c2,oc,vs,t,ec,wK,hd,hv⟩:=Gq;cases ec;have fc:H c'=none:=I.aQ.xK Ms;have gm:∀b u,H b=ab u->b≠c':=λb u z=>gU z fc
  have kp:∀b o,H b=none->s.bj.ik b=ab o->h'.ik b=ab o:=λb o n e=>hx b o (nP b n) e
  have Gh:eh X.je X.w (oL H c' (rL oc)) h':=λa u e=>by
   by_cases ha:a=c'
   .subst ha;rw[bN]at e;cases e;exact⟨wK,oc,wK⟩
   .rw[aN ha]at e
    by_cases Mj:a=P
    .subst Mj;rw[eP]at e;cases e;refine .jd ⟨_,_,q0,q1,ME,?_,λgw cv z=>?_⟩
     .rw[w5l];exact TriplesOk_snoc _ _ _ _ tr
     .rw[w5l]at z;rcases zbJ _ tr z with z|z
      .let⟨d,od,zdS,td,k0,k1,k2,k3⟩:=cd gw cv z;exact⟨d,od,zdS,td,k0,by rw[aN (gm d _ k1)];exact k1,k2,k3⟩
      .exact⟨c',oc,vs,t,z,bN,hd,hv⟩
    .refine(I.aQ a u e).cF (λb v hb q=>hx b v ?_ q) (λb q=>by rw[aN (gm b _ q)];exact q) λb v _ q=>by rw[aN (gm b _ q)];exact q
     rcases hb with rfl|hb
     .exact Mj
     .rintro rfl;rw[eP]at hb;cases hb
  have un:Un X.fs [] H (oL H c' (rL oc)) s.bj h':=by
   refine⟨λb o q n _ _=>kp b o n q,λb o q n _ _=>⟨o.YN,kp b o n q⟩,λb o q n _=>?_,λb o q _=>?_,λb xs q=>by rw[aN (gm b _ q)];exact q,λb o u q=>by rw[aN (gm b _ q)];exact q,λb qs q=>⟨#[],by rw[aN (gm b _ q),q];simp⟩⟩
   .rw[aN (w0t (w1d (g0.xX q) Ms))];exact n
   .by_cases hb:b=P
    .subst hb;exact⟨_,ME⟩
    .exact⟨o,hx b o hb q⟩
  have I1:j3 X dN σ (oL H c' (rL oc)) {s with bj:=h',tK:=tk}:=I.un un Gh;have f1:oL H c' (rL oc) h'.f'.dS=none:=I1.aQ.xK (w0f _);refine⟨.dr h'.f'.dS,_,I1.JN (t':=tk) (λb u e=>g0.w6 _ e) (w0f _) ?_,rfl,h _ a8 _ ⟨e5,_,(X.mg "__name__").hX .none,eS,c',.lb ⟨c',oc,fc,rfl⟩,f1,rfl⟩⟩
  exact⟨g0.A2 _ rfl,.lb ⟨_,c',oc,_,vs,t,rfl,rfl,rfl,by rw[aN (gU bN f1)];exact bN,hd,hv,g0.A2 _ rfl⟩⟩
theorem NY{α:Type}{k:fy}{v:α}:∀{l:ai (fy×α)},(k,v)∈l->∃v',l.g6 k=ab v'
 |[],h=>nomatch h
 |(a,b)::l,h=>by
  rw[w3w]
  by_cases e:(k==a)=true
  .rw[e];exact⟨b,rfl⟩
  .rw[w2l.wa e];rcases w0i.mp h with z|z
   .cases z;simp at e
   .exact NY z
def d4(a8:ai (et×fy))(h:g0):Cs:=(a8.a6 (·.1)).Ϥ λx=>(a8.g6 x).r7 λc=>(h.ik c).a6 λo=>(c,o)
def Ip(e:(d4 a8 h).g6 c=ab o):∃x,a8.g6 x=ab c/\h.ik c=ab o:=by
 let⟨x,_,hx⟩:=w3h.mp (n9.W.mem_of_lookupK e)
 grind [d3.bind_eq_some_iff,d3.map_eq_some_iff]
def D0(e:a8.g6 x=ab c)(g:h.ik c=ab o):(d4 a8 h).g6 c=ab o:=by
 have hm:(c,o)∈d4 a8 h:=w3h.wa ⟨x,w0u.wa ⟨(x,c),n9.Z2 e,rfl⟩,by grind⟩;let⟨o',e'⟩:=NY hm
 grind [Ip]
structure kY(a8:ai (et×fy))(Nf:ai et)(fv:zF)(js:ai aO)(σ:St)(H:Hp)(cs:Cs):Prop where
 zT:∀x y c,a8.g6 x=ab c->a8.g6 y=ab c->x=y
 A':∀x,(x,Wn.tD)∈fv.qW->∃c,a8.g6 x=ab c
 t9:∀x c,a8.g6 x=ab c->∃o,cs.g6 c=ab o
 ou:∀c o,cs.g6 c=ab o->H c=none/\∃v,o.pJ=.uL v
 vV:∀(i:aO) y j z,Nf[i]?=ab y->js[i]?=ab j->σ[j]?=ab (ab z)->∃c o u,a8.g6 y=ab c/\cs.g6 c=ab o/\o.pJ=.uL (ab u)/\uI z u
def zao{e:d0}(hc:∀b o,cs.g6 b=ab o->H b=none/\s.bj.ik b=ab o)
  (x:fe P w tB (bQ H cs) s (λc o H'=>E c o (dE H' cs)) e s'):fe P w tB H s E e s':=by
 let⟨e,o4,H',B,rfl,t5,hg,un,aQ,pQ,hE⟩:=x;have CI:bA H' cs:=λb o z=>un.aX b o _ (pE z)
 refine⟨e,o4,dE H' cs,B,rfl,t5,hg,un.gb aQ hc,aQ.rm CI,⟨pQ.fl,λb o q n nb=>?_,λb u o q z=>pQ.qa b u o (Lw q).1 z,pQ.t9,pQ.vd⟩,hE⟩
 cases z:cs.g6 b with
 |ab o'=>
  have:=(hc b o' z).2;rw[q]at this;cases this;exact pQ.qa b _ o (CI b o z) ((show s'.bj.ik b=ab o/\_ from aQ b _ (CI b o z)).1)
 |none=>exact pQ.w5 b o q (by rw[ir z];exact n) nb
def j5(h:(vX a:_R α)=vX b):a=b:=by
 first
  |exact n9._R.j5 h
  |(injection h)
  |(cases h;rfl)
section
variable{k:aO}{f:fy}{fd:Zv}{ps:ai et}{sp:Sp}
def z4f{σ:St}(F:eT X.je X.w X.K X.mg X.k_ (fe X.je X.w) k f fd ps sp)(hr:br k X.A)(hb:ZO X.K fd ps [])(hx:eW (fe X.je X.w) X EE)
  (I:j3 X dN σ H s)(hc:∀b o,cs.g6 b=ab o->H b=none/\s.bj.ik b=ab o)(hv:∀b o,cs.g6 b=ab o->b∉gM X.WZ)(hn:∀b o,cs.g6 b=ab o->X.k_.ik b=none)(r:uw vs us)
  (h:sp vs (bQ H cs) (λv H'=>Q v (dE H' cs)) λc o H'=>EE σ c o (dE H' cs)):oP (qX X.je X.w) X.A (zb (.dr f) us) (EP X dN σ Q) X.xe s:=by
 have hl:us.aj=ps.aj:=by rw[<- r.aj];exact F.uN _ _ _ _ h
 have e0:=I.qv
 have xH:∀b,H b=none->(∀o,cs.g6 b≠ab o)->bQ H cs b=none:=λb n z=>by
  cases q:cs.g6 b with
  |ab o=>exact uz q (z o)
  |none=>rw[ir q];exact n
 have e1:i8 X.je X.w X.K X.mg X.k_ X.A X.WZ s (bQ H cs):=by
  refine⟨e0.YH,e0.Yv,λb o q=>⟨(e0.bs b o q).1,xH b (e0.bs b o q).2 λo' z=>?_⟩,e0.o7,e0.fQ,λb hb=>xH b (e0.qx b hb) λo z=>?_,e0.aQ.add hc,e0.Td,λa q P m=>?_⟩
  .grind
  .exact hv b o z hb
  .let⟨ps,e,p⟩:=e0._m a q P m;refine⟨ps,?_,p⟩;cases z:cs.g6 P with
   |ab o=>grind
   |none=>rw[ir z];exact e
 have yo:=hb s us I.mw (by grind);rw[w1q]at yo;refine Ϭ (Ν (F.nN X.A X.WZ s (bQ H cs) ⟨us,[]⟩ us vs _ _ hr e1 yo r h) λr s' hq=>?_)
 cases r with
 |_H e=>exact hx dN σ H s e s' I (zao hc hq)
 |ok fl=>
  cases fl with
  |CJ u=>
   let⟨v,H',os,Td,un,aQ,rv,q⟩:=hq;have CI:bA H' cs:=λb o z=>un.aX b o _ (pE z)
   exact I.ϡ ⟨v,dE H' cs,os,Td,un.gb aQ hc,aQ.rm CI,rv,q⟩
  |next=>exact vk.oa hq
  |_r=>exact vk.oa hq
  |_s=>exact vk.oa hq
def zq(sp:Sp)(X:Cx)(fv:zF)(Nf:ai et)(js:ai aO)(E:XK)(σ:St)(Q:VK)(vs:ai V)(H2:Hp):Prop:=∃a8,ć fv X.dt=vX a8/\∀cs,kY a8 Nf fv js σ H2 cs ->
 sp vs (bQ H2 cs) (λv H'=>Q v (dE H' cs)) λc o H'=>E c o (dE H' cs)
def zdj(sp:Sp)(X:Cx)(uu:Z7)(uG:p6)(fv:zF)(Nf:ai et)(js:ai aO)(EE:L2.St->XK)(te:TE):TE:=λσ H Q=>te σ H λv1 H1=>∀f a8 H2,oi X uu uG fv a8 f H1 H2->zq sp X fv Nf js (EE σ) σ Q [v1,.dr f] H2
def zbK{uu:Z7}{uG:p6}{fv:zF}{eA p:vW}{Nf:ai et}{js:ai aO}(F:eT X.je X.w X.K X.mg X.k_ (fe X.je X.w) k f fd ps sp)(hr:br k X.A)(hg:Gl X x)(hm:X.mg x=ab (.dr f))(hk:_L X.K (.dr f)=true)
  (hb:ZO X.K fd ps [])(hx:eW (fe X.je X.w) X EE)(M:ϛ X)(qC:∀y,X.fn y=true)(he:PE X e te)(lB:â uu X.dt=([],[]))
  (cL:∀x∈fv.qW,x.2=.tD->X.dt.zj x.1=ab .uL\/X.dt.zj x.1=ab .tD)
  (nu:∀(i j:aO) y,Nf[i]?=ab y->js[i]?=ab j->X.N[j]?=ab y/\(y,Wn.tD)∈fv.qW/\kD X.dt.fv y/\X.dt.zj y≠ab .local)
  (jT:autoParam ((x==("__debug__":et))=false) jK)(ky:autoParam (pg [e,.Ze uu uG fv eA] X.dt=(false,eval e X.dt)::pg [.Ze uu uG fv eA] X.dt) jJ)
  (wM:autoParam (pg [.Ze uu uG fv eA] X.dt=(false,eval (.Ze uu uG fv eA) X.dt)::pg [] X.dt) jJ)(dP:autoParam ((y0 gw (pg [.Ze uu uG fv eA] X.dt)).uJ (·.1)=false) jJ):
  PE X (.wO (.oh x p) [e,.Ze uu uG fv eA] [] gw) (zdj sp X uu uG fv Nf js EE te):=by
 intro dN s σ H Q I h;have ha:PA X [e,.Ze uu uG fv eA] (rZ te (rZ (Cf X uu uG fv) Cj)):=rG he (rG (RN M lB cL) xC wM) ky;refine γ (Ej I hg hm ?_ jT);refine n9.W.callWith_K (h₀:=X.k_) I.ok.Yv.AN hk (bq (ha gw dN s σ H (zq sp X fv Nf js (EE σ) σ Q) I h) λus s1 ⟨vs,H2,I2,r,a8,e5,q⟩=>⟨I2.mw,?_⟩) ky dP
 let⟨eX,nA,fh,mW⟩:=Bs (fv:=fv) (dt:=X.dt) λx hx hf=>I.ok.A' x.1 (cL x hx hf)
 obtain rfl:eX=a8:=j5 (nA.symm.kZ e5)
 have VE:∀b o,(d4 eX s1.bj).g6 b=ab o->∃x,X.dt.Yh.g6 x=ab b/\s1.bj.ik b=ab o:=λb o z=>by
  let⟨x,h1,h2⟩:=Ip z;exact⟨x,fh x b h1,h2⟩
 have kL:∀b o,(d4 eX s1.bj).g6 b=ab o->H2 b=none/\s1.bj.ik b=ab o:=λb o z=>by
  let⟨x,h1,h2⟩:=VE b o z;exact⟨I2.fu x b h1,h2⟩
 have sE:∀b o,(d4 eX s1.bj).g6 b=ab o->X.ay.bj.f'.dS<=b:=λb o z=>by
  let⟨x,h1,h2⟩:=VE b o z;exact I2.ok.zP x b (qC x) h1
 refine z4f (cs:=d4 eX s1.bj) F hr hb hx I2 kL (λb o z hb=>?_) (λb o z=>g0.ŕ (w1a I2.ok.o7 (sE b o z))) r (q _ ⟨λx y c e1 e2=>I2.ok.zT x y c (fh x c e1) (fh y c e2),mW,λx c e=>?_,λc o e=>⟨(kL c o e).1,?_⟩,λi y j z e1 e2 e3=>?_⟩)
 .rcases w0i.mp (I2.j_ b hb)with e|Ad
  .let⟨x,h1,_⟩:=VE b o z;exact I2.tL x b h1 e
  .let⟨_,o',q',_⟩:=I2.ok.fQ.Yj Ad
   exact uz (g0.xX q') (w3m.wa (sE b o z))
 .let⟨v,o,g,_⟩:=I2.uL x c (fh x c e);exact⟨o,D0 e g⟩
 .let⟨x,h1,h2⟩:=VE c o e;let⟨v,o',g,d⟩:=I2.uL x c h1;rw[h2]at g;cases g;exact⟨v,d⟩
 .let⟨n1,n2,n3,n4⟩:=nu i j y e1 e2;let⟨m,hm,hl⟩:=I2.Zi;let⟨u,ru,l⟩:=hl j y z n1 e3 n3;rcases l with⟨k1,_⟩|⟨k1,c,ec,o,g,d⟩
  .exact uz k1 n4
  .let⟨c',tO⟩:=mW y n2;have e4:=fh y c' tO;rw[ec]at e4;cases e4;exact⟨c,o,u,tO,D0 tO g,d,ru⟩
end
set_option maxHeartbeats 1000000
def Sh.C7:Sh->ie
 |.YZ .aT=>true
 |_=>false
def Sh.sO:Sh->ie
 |.aT=>true
 |.str=>true
 |_=>false
end L2
namespace D
open PySem L2
variable{a:fy}{G G' H:Hp}{EE:L2.St->XK}{es:ai p6}{vs:ai V}{i:aO}{gw Yw:vW}{K:Fg}{σ:St}{x:et}
abbrev Sv:=a7 ⊕ ie
inductive Dd where
 |k (kvs:ai (Ya×Sv))
structure Lm where
 t_:et
 uu:Z7
 uG:p6
 fv:zF
 nf:ai et
set_option genInjectivity true in
inductive W where
 |aB|bl (b:ie)|aT (i:a7)|str (x:et)|gs (xs:ai W)|dI (xs:ai W)|Yu (c:d0)|aV (kvs:Dd)|dw (fz:ie) (sh:Sh) (ks:ai Kx) (ws:ai W)|fn (i:aO) (l:Lm) (ws:ai W)
variable{ws:ai W}{w:W}
inductive SK where
 |w5 (w:W)|vd (w:W)|tG (ws:ai W)|n5 (us ws vs:ai W)|tn (us:ai W) (cb:ai (ai W))|pt (us ws:ai W) (w:W)|fz (w:W)|ym (w:W)
inductive S where
 |no|fr (w:W)|ku (io:d3 aO) (ws:ai W)|aV (kvs:Dd)|dW (us ws vs:ai W)|YL (cb:ai (ai W))|dw (sh:Sh) (ks:ai Kx) (ws:ai W)|x (k:SK)
def SK._w:SK->d3 W
 |.w5 w=>ab w
 |.vd w=>ab w
 |_=>none
def SK.VE:SK->d3 W
 |.w5 w=>ab w
 |.vd w=>ab w
 |.tG ws=>ab (.dI ws)
 |_=>none
def sV:Sv->V
 |.jd i=>.aT i
 |.lb b=>.bl b
def wX{κ:Type}(kvs:ai (κ×Sv)):ai (κ×V):=kvs.a6 λp=>(p.1,sV p.2)
def dO:Dd->HO
 |.k kvs=>.dK (wX kvs)
def AJ:HO->ie
 |.dK _=>true
 |_=>false
theorem nS(h:AJ u=false):dO d≠u:=λz=>by
 subst z;cases d<;>cases h
def cf(G:Hp):ai Kx->ai fy->Prop
 |[],[]=>j'
 |k::ks,b::bs=>bV G k (.dr b)/\cf G ks bs
 |[],_::_=>vk
 |_::_,[]=>vk
theorem cf.k8(e:ao G G'):∀{ks:ai Kx}{bs:ai fy},cf G ks bs->cf G' ks bs
 |[],[],_=>trivial
 |k::ks,b::bs,h=>⟨bV.YW (λ_ _ _ z=>e _ _ z) k h.1,cf.k8 e h.2⟩
 |[],_::_,h=>h.oa
 |_::_,[],h=>h.oa
def MS:Kx->Ya
 |.aT i=>.jd i
 |.str x=>.lb x
 |_=>.jd 0
def GK:Sh->Kx->Prop
 |.aT,k=>∃i,k=.aT i
 |.str,k=>∃x,k=.str x
 |_,_=>vk
def mU(sh:Sh)(kvs:ai (Kx×V))(bc:ai fy):HO:=if sh.sO=true then .dK (kvs.a6 λp=>(MS p.1,p.2))else .dT sh kvs bc
def GG:HO->ie
 |.dK _=>true
 |.dT _ _ _=>true
 |_=>false
theorem rD(h:GG u=false):mU sh kvs bc≠u:=λz=>by
 subst z;unfold mU at h;split at h<;>cases h
theorem yQ(h:sh.sO=false):mU sh kvs bc=.dT sh kvs bc:=r5 (by grind)
def bH(sh:Sh)(G:Hp)(ks:ai Kx)(bc:ai fy):Prop:=if sh.sO=true then ∀k∈ks,GK sh k else cf G ks bc
def bH.k8(e:ao G G')(h:bH sh G ks bs):bH sh G' ks bs:=by
 unfold bH at h |-
 split at h
 .grind
 .rename_i hi;rw[r5 hi];exact h.k8 e
def bH.g(h:bH sh G ks bs)(hi:sh.sO=false):cf G ks bs:=by
 simp_all [bH]
def bH.of(h:cf G ks bs)(hi:sh.sO=false):bH sh G ks bs:=by
 simp_all [bH]
def oZ(fz:ie)(G:Hp)(a:fy)(sh:Sh)(kvs:ai (Kx×V))(bc:ai fy):Prop:=if fz=true then ∃o,G a=ab (.cK o (mU sh kvs bc))else G a=ab (mU sh kvs bc)
def oZ.ex(h:oZ fz G a sh kvs bc):∃o,G a=ab o:=by
 grind [oZ]
def oZ.k8(e:ao G G')(h:oZ fz G a sh kvs bc):oZ fz G' a sh kvs bc:=by
 cases fz with
 |true=>let⟨o,h⟩:=h;exact⟨o,e _ _ h⟩
 |false=>exact e _ _ h
structure fZ(G:Hp)(cl:ai (et×fy))(l:Lm)(zs:ai V)(cs:Cs):Prop where
 zT:∀x y c,cl.g6 x=ab c->cl.g6 y=ab c->x=y
 A':∀x,(x,Wn.tD)∈l.fv.qW->∃c,cl.g6 x=ab c
 t9:∀x c,cl.g6 x=ab c->∃o,cs.g6 c=ab o
 ou:∀c o,cs.g6 c=ab o->G c=ab (ll o)/\∃v,o.pJ=.uL v
 vV:∀(i:aO) y z,l.nf[i]?=ab y->zs[i]?=ab z->∃c o u,cl.g6 y=ab c/\cs.g6 c=ab o/\o.pJ=.uL (ab u)/\uI z u
 uN:zs.aj=l.nf.aj
theorem fZ.k8(e:ao G G')(h:fZ G cl l zs cs):fZ G' cl l zs cs:=⟨h.zT,h.A',h.t9,λc o q=>⟨e _ _ (h.ou c o q).1,(h.ou c o q).2⟩,h.vV,h.uN⟩
def zeH(G:Hp)(l:Lm)(cl:ai (et×fy))(f:fy):Prop:=∃pm c' eS,G f=ab (mf (ZM "<lambda>" l.t_ l.uu l.uG l.fv cl pm c' eS) l.t_ c')
inductive ju(v:V)(P Q:fy->ai V->Prop):Prop where
 |mk (a:fy) (xs:ai V) (h:v=.dr a) (p:P a xs) (q:Q a xs):ju v P Q
inductive m6(xs:ai V)(P:V->Prop)(Q:ai V->Prop):Prop where
 |mk (x:V) (r:ai V) (h:xs=x::r) (p:P x) (q:Q r):m6 xs P Q
mutual
noncomputable def Rep(K:Fg)(G:Hp):W->V->Prop
 |.aB,v=>v=.aB
 |.bl b,v=>v=.bl b
 |.int i,v=>v=.int i
 |.str x,v=>v=.str x
 |.tup ws,v=>ju v (bK K G) λ_ xs=>ah K G ws xs
 |.lst ws,v=>ju v (bD K G) λ_ xs=>ah K G ws xs
 |.exc c,v=>∃e,v=.ref e/\G e=some (wq e c)
 |.aV kvs,v=>∃e,v=.ref e/\G e=some (dO kvs)
 |.dw fz sh ks ws,v=>∃a kvs bc,v=.ref a/\oZ fz G a sh kvs bc/\kvs.map (·.1)=ks/\bH sh G ks bc/\ah K G ws (kvs.map (·.2))
 |.fn _ l ws,v=>∃f cl zs cs,v=.ref f/\zeH G l cl f/\fZ G cl l zs cs/\ah K G ws zs
noncomputable def ah(K:Fg)(G:Hp):List W->List V->Prop
 |[],xs=>xs=[]
 |w::ws,xs=>m6 xs (Rep K G w) (ah K G ws)
end
mutual
theorem Rep.mono{K:Fg}{G G':Hp}(e:ao G G'):∀(w:W){v:V},Rep K G w v->Rep K G' w v
 |.aB,v,h=>h
 |.bl b,v,h=>h
 |.int i,v,h=>h
 |.str x,v,h=>h
 |.tup ws,v,h=>by
  let⟨a,xs,rfl,q,r⟩:=h;exact⟨a,xs,rfl,e.tup q,ah.mono e ws r⟩
 |.lst ws,v,h=>by
  let⟨a,xs,rfl,q,r⟩:=h;exact⟨a,xs,rfl,e.seq q,ah.mono e ws r⟩
 |.exc c,v,h=>by
  let⟨a,rfl,q⟩:=h;exact⟨a,rfl,e _ _ q⟩
 |.aV kvs,v,h=>by
  let⟨a,rfl,q⟩:=h;exact⟨a,rfl,e _ _ q⟩
 |.dw fz sh ks ws,v,h=>by
  let⟨a,kvs,bc,rfl,h1,h2,h3,h4⟩:=h;exact⟨a,kvs,bc,rfl,h1.mono e,h2,h3.mono e,ah.mono e ws h4⟩
 |.fn i l ws,v,h=>by
  let⟨f,cl,zs,cs,rfl,⟨pm,c',eS,h1⟩,h2,h3⟩:=h;exact⟨f,cl,zs,cs,rfl,⟨pm,c',eS,e _ _ h1⟩,h2.mono e,ah.mono e ws h3⟩
theorem ah.mono{K:Fg}{G G':Hp}(e:ao G G'):∀(ws:List W){xs:List V},ah K G ws xs->ah K G' ws xs
 |[],xs,h=>h
 |w::ws,xs,h=>by
  let⟨x,r,rfl,h1,h2⟩:=h;exact⟨x,r,rfl,Rep.mono e w h1,ah.mono e ws h2⟩
end
theorem ah.aj:∀{ws:ai W}{xs:ai V},ah K G ws xs->xs.aj=ws.aj
 |[],xs,h=>by cases h;rfl
 |w::ws,xs,h=>by
  let⟨x,r,rfl,_,h2⟩:=h;simp[ah.aj h2]
theorem ah.Ff:∀{ws:ai W}{xs:ai V}{i:aO}{w:W},ah K G ws xs->ws[i]?=ab w->∃x,xs[i]?=ab x/\qk K G w x
 |[],xs,i,w,h,e=>by simp at e
 |w'::ws,xs,0,w,h,e=>by
  let⟨x,r,rfl,h1,h2⟩:=h;simp at e;subst e;exact⟨x,rfl,h1⟩
 |w'::ws,xs,i+1,w,h,e=>by
  let⟨x,r,rfl,h1,h2⟩:=h;let⟨y,e1,e2⟩:=ah.Ff (i:=i) h2 (by simpa using e);exact⟨y,by simpa using e1,e2⟩
theorem ah.jc:∀{ws:ai W}{xs:ai V}{i:aO}{x:V},ah K G ws xs->xs[i]?=ab x->∃w,ws[i]?=ab w/\qk K G w x:=λ{ws xs i x} h e=>by
 have hl:=h.aj;have hi:i<xs.aj:=(w0b.mp e).1;have e2:ws[i]?=ab ws[i]:=w0c (by omega);let⟨y,e3,r⟩:=h.Ff e2;rw[e]at e3;cases e3;exact⟨_,e2,r⟩
theorem ah.Wi:∀{ws ws':ai W}{xs i7:ai V},ah K G ws xs->ah K G ws' i7->ah K G (ws++ws') (xs++i7)
 |[],ws',xs,i7,h,h'=>by cases h;exact h'
 |w::ws,ws',xs,i7,h,h'=>by
  let⟨x,r,rfl,h1,h2⟩:=h;exact⟨x,r++i7,rfl,h1,ah.Wi h2 h'⟩
theorem ah.YE{x:V}(h:qk K G w x):ah K G [w] [x]:=⟨x,[],rfl,h,rfl⟩
theorem ah.wj:∀(n:aO){ws:ai W}{xs:ai V},ah K G ws xs->ah K G (ws.wj n) (xs.wj n)
 |0,_,_,_=>rfl
 |n+1,[],_,h=>by cases h;rfl
 |n+1,w::ws,_,h=>by
  let⟨x,r,rfl,h1,h2⟩:=h;exact⟨x,r.wj n,rfl,h1,ah.wj n h2⟩
theorem ah.xO:∀(n:aO){ws:ai W}{xs:ai V},ah K G ws xs->ah K G (ws.xO n) (xs.xO n)
 |0,_,_,h=>h
 |n+1,[],_,h=>by cases h;rfl
 |n+1,w::ws,_,h=>by
  let⟨x,r,rfl,h1,h2⟩:=h;exact ah.xO n h2
theorem ah.We:∀{ws:ai W}{xs:ai V},ah K G ws xs->ah K G ws.We xs.We
 |[],_,h=>by cases h;rfl
 |w::ws,_,h=>by
  let⟨x,r,rfl,h1,h2⟩:=h;rw[w2x,w2x];exact(ah.We h2).Wi (.YE h1)
theorem ah.rk:∀(i:aO){ws:ai W}{xs:ai V}{w:W}{x:V},ah K G ws xs->qk K G w x->ah K G (ws.rk i w) (xs.rk i x)
 |_,[],_,_,_,h,_=>by cases h;rfl
 |0,w'::ws,_,w,x,h,q=>by
  let⟨y,r,rfl,h1,h2⟩:=h;exact⟨x,r,rfl,q,h2⟩
 |i+1,w'::ws,_,w,x,h,q=>by
  let⟨y,r,rfl,h1,h2⟩:=h;exact⟨y,r.rk i x,rfl,h1,ah.rk i h2 q⟩
structure Zt where
 H:Hp
 G:Hp
 io:ai fy
variable{Z:Zt}
def gj(Z:Zt)(G H:Hp)(l:fy)(o:sT)(ys:ai V):Prop:=H l=ab (.cK o (.dI ys))/\G l=none/\Z.H l=none
def dy(K:Fg)(Z:Zt)(G H:Hp):ai fy->ai (ai W)->Prop
 |[],[]=>j'
 |l::ls,ws::cb=>(∃o ys,gj Z G H l o ys/\ah K G ws ys)/\dy K Z G H ls cb
 |[],_::_=>vk
 |_::_,[]=>vk
inductive b8(K:Fg)(Z:Zt)(G H:Hp)(cb:ai (ai W))(v:d3 V):Prop where
 |mk (a:fy) (ls:ai fy) (h1:v=ab (.dr a)) (h2:G a=ab (.dI (ls.a6 V.dr))) (h3:ls.xZ) (h4:dy K Z G H ls cb):b8 K Z G H cb v
theorem dy.yy(sg:ao G G')(hf:∀l o ys,H l=ab (.cK o (.dI ys))->G l=none->Z.H l=none->H' l=ab (.cK o (.dI ys))/\G' l=none/\Z'.H l=none):∀{ls:ai fy}{cb:ai (ai W)},dy K Z G H ls cb->dy K Z' G' H' ls cb
 |[],[],_=>trivial
 |l::ls,ws::cb,⟨⟨o,ys,⟨h1,h2,h3⟩,h4⟩,h⟩=>⟨⟨o,ys,hf l o ys h1 h2 h3,ah.k8 sg ws h4⟩,h.yy sg hf⟩
 |[],_::_,h=>h.oa
 |_::_,[],h=>h.oa
def b8.yy(q:b8 K Z G H cb v)(sg:ao G G')(hf:∀l o ys,H l=ab (.cK o (.dI ys))->G l=none->Z.H l=none->H' l=ab (.cK o (.dI ys))/\G' l=none/\Z'.H l=none):b8 K Z' G' H' cb v:=by
 let⟨a,ls,h1,h2,h3,h4⟩:=q;exact⟨a,ls,h1,sg _ _ h2,h3,h4.yy sg hf⟩
def LL(ws:ai W)(xs:ai V):Prop:=(∀w∈ws,∃us,w=.dI us)->xs.xZ
mutual
noncomputable def dR(K:Fg)(Z:Zt)(G:Hp):W->V->Prop
 |.aB,v=>v=.aB
 |.bl b,v=>v=.bl b
 |.int i,v=>v=.int i
 |.str x,v=>v=.str x
 |.tup ws,v=>ju v (bK K G) λ_ xs=>aY K Z G ws xs
 |.lst ws,v=>ju v (λa xs=>G a=some (.lst xs)) λa xs=>Z.H a=none/\aY K Z G ws xs/\LL ws xs
 |.exc _,_=>False
 |.aV _,_=>False
 |.dw fz sh ks ws,v=>∃a kvs bc,v=.ref a/\oZ fz G a sh kvs bc/\Z.H a=none/\kvs.map (·.1)=ks/\bH sh G ks bc/\aY K Z G ws (kvs.map (·.2))
 |.fn _ _ _,_=>False
noncomputable def aY(K:Fg)(Z:Zt)(G:Hp):List W->List V->Prop
 |[],xs=>xs=[]
 |w::ws,xs=>m6 xs (dR K Z G w) (aY K Z G ws)
end
mutual
theorem dR.rep{K:Fg}{Z:Zt}{G:Hp}:∀(w:W){v:V},dR K Z G w v->Rep K G w v
 |.aB,_,h=>h
 |.bl _,_,h=>h
 |.int _,_,h=>h
 |.str _,_,h=>h
 |.tup ws,_,⟨a,xs,e,q,r⟩=>⟨a,xs,e,q,aY.ed ws r⟩
 |.lst ws,_,⟨a,xs,e,q,_,r,_⟩=>⟨a,xs,e,.inl (.inl q),aY.ed ws r⟩
 |.exc _,_,h=>h.elim
 |.aV _,_,h=>h.elim
 |.dw _ _ _ ws,_,⟨a,kvs,bc,e,q,_,h1,h2,r⟩=>⟨a,kvs,bc,e,q,h1,h2,aY.ed ws r⟩
 |.fn _ _ _,_,h=>h.elim
theorem aY.ed{K:Fg}{Z:Zt}{G:Hp}:∀(ws:List W){vs:List V},aY K Z G ws vs->ah K G ws vs
 |[],_,h=>h
 |w::ws,_,⟨x,r,e,p,q⟩=>⟨x,r,e,dR.rep w p,aY.ed ws q⟩
end
mutual
theorem dR.move{K:Fg}{Z Z':Zt}{G G':Hp}(sg:ao G G')(hz:∀a o,G a=some o->Z.H a=none->Z'.H a=none):∀(w:W){v:V},dR K Z G w v->dR K Z' G' w v
 |.aB,_,h=>h
 |.bl _,_,h=>h
 |.int _,_,h=>h
 |.str _,_,h=>h
 |.tup ws,_,⟨a,xs,e,q,r⟩=>⟨a,xs,e,sg.tup q,aY.move sg hz ws r⟩
 |.lst ws,_,⟨a,xs,e,q,n,r,nd⟩=>⟨a,xs,e,sg _ _ q,hz _ _ q n,aY.move sg hz ws r,nd⟩
 |.exc _,_,h=>h.elim
 |.aV _,_,h=>h.elim
 |.dw _ _ _ ws,_,⟨a,kvs,bc,e,q,n,h1,h2,r⟩=>⟨a,kvs,bc,e,q.mono sg,(let ⟨_,z⟩:=q.ex;hz _ _ z n),h1,h2.mono sg,aY.move sg hz ws r⟩
 |.fn _ _ _,_,h=>h.elim
theorem aY.move{K:Fg}{Z Z':Zt}{G G':Hp}(sg:ao G G')(hz:∀a o,G a=some o->Z.H a=none->Z'.H a=none):∀(ws:List W){vs:List V},aY K Z G ws vs->aY K Z' G' ws vs
 |[],_,h=>h
 |w::ws,_,⟨x,r,e,p,q⟩=>⟨x,r,e,dR.move sg hz w p,aY.move sg hz ws q⟩
end
def dH(K:Fg)(Z:Zt)(G:Hp)(sh:Sh)(ws:ai W)(vs:ai V):Prop:=if sh.C7=true then aY K Z G ws vs else ah K G ws vs
def dH.ed(h:dH K Z G sh ws vs):ah K G ws vs:=by
 grind [dH,aY.ed]
def dH.of(hs:sh.C7=false)(h:ah K G ws vs):dH K Z G sh ws vs:=by
 simp_all [dH]
def dH.so:dH K Z G sh [] []:=by
 unfold dH;split<;>rfl
def dH.yy{Z':Zt}{sh:Sh}(h:dH K Z G sh ws vs)(sg:ao G G')(hz:∀a o,G a=ab o->Z.H a=none->Z'.H a=none):dH K Z' G' sh ws vs:=by
 unfold dH at h |-
 split at h
 .rename_i q;rw[nZ q];exact aY.yy sg hz ws h
 .rename_i q;rw[r5 q];exact ah.k8 sg ws h
inductive gH(K:Fg)(Z:Zt)(G H:Hp)(sh:Sh)(ks:ai Kx)(ws:ai W)(v:d3 V):Prop where
 |mk (a:fy) (kvs:ai (Kx×V)) (bc:ai fy) (h1:v=ab (.dr a)) (h2:H a=ab (mU sh kvs bc)) (h3:G a=none) (h4:Z.H a=none) (h5:kvs.a6 (·.1)=ks) (h6:bH sh G ks bc) (h7:dH K Z G sh ws (kvs.a6 (·.2))):gH K Z G H sh ks ws v
def gH.yy{Z':Zt}{H':Hp}{sh:Sh}{ks:ai Kx}{v:d3 V}(q:gH K Z G H sh ks ws v)(sg:ao G G')(hf:∀a kvs bc,H a=ab (mU sh kvs bc)->G a=none->Z.H a=none->H' a=ab (mU sh kvs bc)/\G' a=none/\Z'.H a=none)(hz:∀a o,G a=ab o->Z.H a=none->Z'.H a=none:=by intro _ _ _ z;exact z):gH K Z' G' H' sh ks ws v:=by
 let⟨a,kvs,bc,h1,h2,h3,h4,h5,h6,h7⟩:=q;let⟨k1,k2,k3⟩:=hf a kvs bc h2 h3 h4;exact⟨a,kvs,bc,h1,k1,k2,k3,h5,h6.k8 sg,h7.yy sg hz⟩
inductive uP(K:Fg)(Z:Zt)(G H:Hp)(ws:ai W)(v:d3 V):Prop where
 |mk (a:fy) (o:sT) (xs:ai V) (h1:v=ab (.dr a)) (h2:gj Z G H a o xs) (h3:aY K Z G ws xs) (h4:LL ws xs):uP K Z G H ws v
inductive qj(K:Fg)(Z:Zt)(G H:Hp)(us ws vs:ai W)(v:d3 V):Prop where
 |mk (t l:fy) (o:sT) (xs ys zs:ai V) (h1:v=ab (.dr t)) (h2:Z.G t=ab (.gs (xs++.dr l::zs))) (h3:G t=ab (.gs (xs++.dr l::zs))) (h4:gj Z G H l o ys) (h5:ah K Z.G us xs/\ah K Z.G ws ys/\ah K Z.G vs zs) (h6:ah K G us xs/\ah K G ws ys/\ah K G vs zs):qj K Z G H us ws vs v
inductive zG(K:Fg)(Z:Zt)(G H:Hp)(us:ai W)(cb:ai (ai W))(v:d3 V):Prop where
 |mk (t l:fy) (o:sT) (ls:ai fy) (xs:ai V) (h1:v=ab (.dr t)) (h2:G t=ab (.gs (xs++[.dr l]))) (h3:gj Z G H l o (ls.a6 V.dr)) (h4:ls.xZ/\l∉ls) (h5:ah K G us xs) (h6:dy K Z G H ls cb):zG K Z G H us cb v
inductive zE(K:Fg)(Z:Zt)(G H:Hp)(us ws:ai W)(w:W)(v:d3 V):Prop where
 |mk (p t l:fy) (o:sT) (xs ys:ai V) (x:V) (h1:v=ab (.dr p)) (h2:G p=ab (.gs [.dr t,x])) (h3:G t=ab (.gs (xs++[.dr l]))) (h4:gj Z G H l o ys) (h5:ah K G us xs) (h6:ah K G ws ys) (h7:qk K G w x):zE K Z G H us ws w v
inductive uQ(xs:ai V)(as:ai fy)(P:V->ai fy->Prop)(Q:ai V->ai fy->Prop):Prop where
 |mk (x:V) (r:ai V) (b c:ai fy) (h:xs=x::r) (h':as=b++c) (p:P x b) (q:Q r c):uQ xs as P Q
inductive zt(as:ai fy)(a:fy)(Q:ai fy->Prop):Prop where
 |mk (bs:ai fy) (h:as=a::bs) (q:Q bs):zt as a Q
mutual
noncomputable def ei(K:Fg)(Z:Zt)(G H:Hp):W->V->List Addr->Prop
 |.aB,v,as=>v=.aB/\as=[]
 |.bl b,v,as=>v=.bl b/\as=[]
 |.int i,v,as=>v=.int i/\as=[]
 |.str x,v,as=>v=.str x/\as=[]
 |.tup ws,v,as=>ju v (bK K G) λ_ xs=>cO K Z G H ws xs as
 |.lst ws,v,as=>ju v (λa xs=>∃o,gj Z G H a o xs) λa xs=>zt as a (cO K Z G H ws xs)
 |.exc _,_,_=>False
 |.aV _,_,_=>False
 |.dw _ _ _ _,_,_=>False
 |.fn _ _ _,_,_=>False
noncomputable def cO(K:Fg)(Z:Zt)(G H:Hp):List W->List V->List Addr->Prop
 |[],xs,as=>xs=[]/\as=[]
 |w::ws,xs,as=>uQ xs as (ei K Z G H w) (cO K Z G H ws)
end
mutual
theorem ei.move{K:Fg}{Z Z':Zt}{G G' H H':Hp}(sg:ao G G'):∀(w:W){v:V}{as:List Addr},(∀l o ys,l∈as->gj Z G H l o ys->gj Z' G' H' l o ys)->ei K Z G H w v as->ei K Z' G' H' w v as
 |.aB,_,_,_,h=>h
 |.bl _,_,_,_,h=>h
 |.int _,_,_,_,h=>h
 |.str _,_,_,_,h=>h
 |.tup ws,_,_,hf,⟨a,xs,e,q,r⟩=>⟨a,xs,e,sg.tup q,cO.move sg ws hf r⟩
 |.lst ws,_,_,hf,⟨a,xs,e,⟨o,q⟩,⟨bs,e2,r⟩⟩=>by
  subst e2;exact⟨a,xs,e,⟨o,hf _ _ _ (w1b ..) q⟩,bs,rfl,cO.move sg ws (λl o ys z=>hf l o ys (w0p _ z)) r⟩
 |.exc _,_,_,_,h=>h.elim
 |.aV _,_,_,_,h=>h.elim
 |.dw _ _ _ _,_,_,_,h=>h.elim
 |.fn _ _ _,_,_,_,h=>h.elim
theorem cO.move{K:Fg}{Z Z':Zt}{G G' H H':Hp}(sg:ao G G'):∀(ws:List W){vs:List V}{as:List Addr},(∀l o ys,l∈as->gj Z G H l o ys->gj Z' G' H' l o ys)->cO K Z G H ws vs as->cO K Z' G' H' ws vs as
 |[],_,_,_,h=>h
 |w::ws,_,_,hf,⟨x,r,b,c,e,e2,p,q⟩=>by
  subst e2;exact⟨x,r,b,c,e,rfl,ei.move sg w (λl o ys z=>hf l o ys (w2k _ z)) p,cO.move sg ws (λl o ys z=>hf l o ys (w0l _ z)) q⟩
end
mutual
theorem ei.rep{K:Fg}{Z:Zt}{G G' H:Hp}(sg:ao G G')(hf:∀l o ys,gj Z G H l o ys->G' l=some (.cK o (.lst ys))):∀(w:W){v:V}{as:List Addr},ei K Z G H w v as->Rep K G' w v
 |.aB,_,_,h=>h.1
 |.bl _,_,_,h=>h.1
 |.int _,_,_,h=>h.1
 |.str _,_,_,h=>h.1
 |.tup ws,_,_,⟨a,xs,e,q,r⟩=>⟨a,xs,e,sg.tup q,cO.ed sg hf ws r⟩
 |.lst ws,_,_,⟨a,xs,e,⟨o,q⟩,⟨bs,_,r⟩⟩=>⟨a,xs,e,.inl (.inr ⟨o,hf _ _ _ q⟩),cO.ed sg hf ws r⟩
 |.exc _,_,_,h=>h.elim
 |.aV _,_,_,h=>h.elim
 |.dw _ _ _ _,_,_,h=>h.elim
 |.fn _ _ _,_,_,h=>h.elim
theorem cO.ed{K:Fg}{Z:Zt}{G G' H:Hp}(sg:ao G G')(hf:∀l o ys,gj Z G H l o ys->G' l=some (.cK o (.lst ys))):∀(ws:List W){vs:List V}{as:List Addr},cO K Z G H ws vs as->ah K G' ws vs
 |[],_,_,h=>h.1
 |w::ws,_,_,⟨x,r,b,c,e,_,p,q⟩=>⟨x,r,e,ei.rep sg hf w p,cO.ed sg hf ws q⟩
end
mutual
theorem ei.yn{K:Fg}{Z:Zt}{G H:Hp}:∀(w:W){v:V}{as:List Addr},ei K Z G H w v as->∀{l:Addr},l∈as->∃o ys,gj Z G H l o ys
 |.aB,_,_,h,_,m=>by rw[h.2]at m;cases m
 |.bl _,_,_,h,_,m=>by rw[h.2]at m;cases m
 |.int _,_,_,h,_,m=>by rw[h.2]at m;cases m
 |.str _,_,_,h,_,m=>by rw[h.2]at m;cases m
 |.tup ws,_,_,⟨a,xs,e,q,r⟩,_,m=>cO.yn ws r m
 |.lst ws,_,_,⟨a,xs,e,⟨o,q⟩,⟨bs,e2,r⟩⟩,l,m=>by
  subst e2;rcases w0i.mp m with rfl|m
  .exact⟨o,xs,q⟩
  .exact cO.yn ws r m
 |.exc _,_,_,h,_,_=>h.elim
 |.aV _,_,_,h,_,_=>h.elim
 |.dw _ _ _ _,_,_,h,_,_=>h.elim
 |.fn _ _ _,_,_,h,_,_=>h.elim
theorem cO.yn{K:Fg}{Z:Zt}{G H:Hp}:∀(ws:List W){vs:List V}{as:List Addr},cO K Z G H ws vs as->∀{l:Addr},l∈as->∃o ys,gj Z G H l o ys
 |[],_,_,h,_,m=>by rw[h.2]at m;cases m
 |w::ws,_,_,⟨x,r,b,c,e,e2,p,q⟩,l,m=>by
  subst e2;rcases w2s.mp m with m|m
  .exact ei.yn w p m
  .exact cO.yn ws q m
end
inductive zp(K:Fg)(Z:Zt)(G H:Hp)(w:W)(v:d3 V):Prop where
 |mk (u:V) (as:ai fy) (h1:v=ab u) (h2:as.xZ) (h3:ei K Z G H w u as):zp K Z G H w v
inductive uS(K:Fg)(Z:Zt)(G H:Hp)(w:W)(v:d3 V):Prop where
 |mk (u:V) (as:ai fy) (h1:v=ab u) (h2:as.xZ) (h3:ei K Z Z.G H w u as) (h4:ei K Z G H w u as):uS K Z G H w v
def m9(K:Fg)(Z:Zt)(G H:Hp):SK->d3 V->Prop
 |.w5 w,v=>∃u,v=ab u/\qk K Z.G w u/\qk K G w u
 |.vd w,v=>∃u,v=ab u/\dR K Z G w u
 |.tG ws,v=>uP K Z G H ws v
 |.n5 us ws vs,v=>qj K Z G H us ws vs v
 |.tn us cb,v=>zG K Z G H us cb v
 |.pt us ws w,v=>zE K Z G H us ws w v
 |.fz w,v=>zp K Z G H w v
 |.ym w,v=>uS K Z G H w v
def m9.yy(q:m9 K Z G H k v)(sg:ao G G')(hf:∀l o ys,H l=ab (.cK o (.dI ys))->G l=none->Z.H l=none->H' l=ab (.cK o (.dI ys))/\G' l=none/\Z.H l=none):m9 K Z G' H' k v:=by
 cases k with
 |w5 w=>let⟨u,h1,h2,h3⟩:=q;exact⟨u,h1,h2,qk.k8 sg w h3⟩
 |vd w=>let⟨u,h1,h2⟩:=q;exact⟨u,h1,dR.yy sg (λ_ _ _ z=>z) w h2⟩
 |tG ws=>let⟨a,o,xs,h1,⟨h2,h3,h4⟩,h5,h6⟩:=q;exact⟨a,o,xs,h1,hf _ _ _ h2 h3 h4,aY.yy sg (λ_ _ _ z=>z) ws h5,h6⟩
 |tn us cb=>let⟨t,l,o,ls,xs,h1,h2,⟨h3,h4,h5⟩,h6,h7,h8⟩:=q;exact⟨t,l,o,ls,xs,h1,sg _ _ h2,hf _ _ _ h3 h4 h5,h6,ah.k8 sg us h7,h8.yy sg hf⟩
 |pt us ws w=>let⟨p,t,l,o,xs,ys,x,h1,h2,h3,⟨h4,h5,h6⟩,h7,h8,h9⟩:=q;exact⟨p,t,l,o,xs,ys,x,h1,sg _ _ h2,sg _ _ h3,hf _ _ _ h4 h5 h6,ah.k8 sg us h7,ah.k8 sg ws h8,qk.k8 sg w h9⟩
 |fz w=>let⟨u,as,h1,h2,h3⟩:=q;exact⟨u,as,h1,h2,ei.yy sg w (λl o ys _ ⟨k1,k2,k3⟩=>hf l o ys k1 k2 k3) h3⟩
 |ym w=>let⟨u,as,h1,h2,h3,h4⟩:=q;exact⟨u,as,h1,h2,ei.yy (.t8 _) w (λl o ys hm k=>⟨(hf l o ys k.1 (let ⟨_,_,z⟩:=ei.yn w h4 hm;z.2.1) k.2.2).1,k.2.1,k.2.2⟩) h3,ei.yy sg w (λl o ys _ ⟨k1,k2,k3⟩=>hf l o ys k1 k2 k3) h4⟩
 |n5 us ws vs=>let⟨t,l,o,xs,ys,zs,h1,h2,h3,⟨h4,h5,h6⟩,h7,h8,h9,tS⟩:=q;exact⟨t,l,o,xs,ys,zs,h1,h2,sg _ _ h3,hf _ _ _ h4 h5 h6,h7,ah.k8 sg us h8,ah.k8 sg ws h9,ah.k8 sg vs tS⟩
def tu(Z:Zt):d3 aO->fy->Prop
 |none,a=>Z.H a=none
 |ab j,a=>Z.io[j]?=ab a
def tu.io(h:tu Z b a):a∈Z.io\/Z.H a=none:=by
 cases b with
 |none=>exact .lb h
 |ab j=>exact .jd (w0w h)
inductive uT(K:Fg)(Z:Zt)(G H:Hp)(b:d3 aO)(ws:ai W)(v:d3 V):Prop where
 |mk (a:fy) (xs:ai V) (h1:v=ab (.dr a)) (h2:H a=ab (.dI xs)) (h3:G a=none) (h4:tu Z b a) (h5:ah K G ws xs):uT K Z G H b ws v
inductive uR(Z:Zt)(G H:Hp)(kvs:Dd)(v:d3 V):Prop where
 |mk (a:fy) (h1:v=ab (.dr a)) (h2:H a=ab (dO kvs)) (h3:G a=none) (h4:Z.H a=none):uR Z G H kvs v
inductive uV(K:Fg)(Z:Zt)(G H:Hp)(us ws vs:ai W)(v:d3 V):Prop where
 |mk (t l:fy) (o:sT) (xs ys zs:ai V) (h1:v=ab (.dr t)) (h2:G t=ab (.gs (xs++.dr l::zs))) (h3:H l=ab (.cK o (.dI ys))) (h4:G l=none) (h5:Z.H l=none) (h6:ah K G us xs/\ah K G ws ys/\ah K G vs zs):uV K Z G H us ws vs v
def c7(K:Fg)(Z:Zt)(G H:Hp):S->d3 V->Prop
 |.no,_=>j'
 |.fr w,v=>∃u,v=ab u/\qk K G w u
 |.ku b ws,v=>uT K Z G H b ws v
 |.aV kvs,v=>uR Z G H kvs v
 |.dW us ws vs,v=>uV K Z G H us ws vs v
 |.YL cb,v=>b8 K Z G H cb v
 |.dw sh ks ws,v=>gH K Z G H sh ks ws v
 |.x k,v=>m9 K Z G H k v
structure pZ(K:Fg)(Z:Zt)(G:Hp)(σ:St)(H:Hp)(e:ai S):Prop where
 p9:ao G H
 xM:∀(i:aO)(s:S),e[i]?=ab s->c7 K Z G H s (σ[i]?.hX none)
 uN:e.aj=σ.aj
 kq:∀(i j:aO)(b b':d3 aO)(ws ws':ai W)(a:fy),e[i]?=ab (.ku b ws)->e[j]?=ab (.ku b' ws')->σ[i]?=ab (ab (.dr a))->σ[j]?=ab (ab (.dr a))->i=j
 VB:∀a o,Z.H a=ab o->a∉Z.io->H a=ab o
 kz:∀a∈Z.io,H a≠none
 gen:∀a,Z.H a≠none->G a=Z.G a
inductive pM(K:Fg)(Z:Zt)(σ:St)(H:Hp)(P:Hp->ai S->Prop):Prop where
 |mk (G:Hp) (e:ai S) (r:pZ K Z G σ H e) (h:P G e):pM K Z σ H P
structure aK(G H G' H':Hp):Prop where
 hh:ao H H'
 gg:ao G G'
 p9:ao G' H'
 vd:∀a,H a≠none->G' a=G a
theorem aK.t8(s:ao G H):aK G H G H:=⟨.t8 _,.t8 _,s,λ_ _=>rfl⟩
theorem aK.kZ(x:aK G H G1 H1)(y:aK G1 H1 G2 H2):aK G H G2 H2:=
 ⟨x.hh.kZ y.hh,x.gg.kZ y.gg,y.p9,λa h=>by
  rw[y.vd a,x.vd a h];cases q:H a with
  |none=>exact uz q h
  |ab o=>rw[x.hh a o q];simp⟩
def za5(e:ao H H')(h:H a≠none):H' a≠none:=by
 cases q:H a with
 |none=>exact uz q h
 |ab o=>rw[e a o q];simp
theorem aK.JN(s:ao G H){D:fy}(h:H D=none)(o:HO):aK G H (oL G D o) (oL H D o) where
 hh:=vz h o
 gg:=vz (s.tD h) o
 p9:=λb u e=>by
  by_cases hb:b=D
  .subst hb;rw[bN]at e |-;exact e
  .rw[aN hb]at e |-;exact s b u e
 vd:=λa ha=>by rw[aN (λz=>ha (by rw[z];exact h))]
theorem aK.ox(s:ao G H)(h:H D=none)(o):aK G H G (oL H D o) where
 hh:=vz h o
 gg:=.t8 _
 p9:=λb u e=>by
  have:=s b u e;rw[aN (gU this h)];exact this
 vd:=λa ha=>rfl
theorem pZ.zR(r:pZ K Z G σ H e)(g:aK G H G' H'):pZ K Z G' σ H' e where
 p9:=g.p9
 xM:=λi s h=>by
  have q:=r.xM i s h;cases s with
  |no=>trivial
  |fr w=>
   let⟨u,h1,h2⟩:=q;exact⟨u,h1,qk.k8 g.gg w h2⟩
  |ku b ws=>
   let⟨a,xs,h1,h2,h3,h4,h5⟩:=q;exact⟨a,xs,h1,g.hh _ _ h2,by rw[g.vd a (by rw[h2];simp)];exact h3,h4,ah.k8 g.gg ws h5⟩
  |aV kvs=>
   let⟨a,h1,h2,h3,h4⟩:=q;exact⟨a,h1,g.hh _ _ h2,by rw[g.vd a (by rw[h2];simp)];exact h3,h4⟩
  |dW us ws vs=>
   let⟨t,l,o,xs,ys,zs,h1,h2,h3,h4,h5,h6,h7,h8⟩:=q;exact⟨t,l,o,xs,ys,zs,h1,g.gg _ _ h2,g.hh _ _ h3,by rw[g.vd l (by rw[h3];simp)];exact h4,h5,ah.k8 g.gg us h6,ah.k8 g.gg ws h7,ah.k8 g.gg vs h8⟩
  |YL cb=>exact b8.yy q g.gg λl o ys h1 h2 h3=>⟨g.hh _ _ h1,by rw[g.vd l (by rw[h1];simp)];exact h2,h3⟩
  |x k=>exact m9.yy q g.gg λl o ys h1 h2 h3=>⟨g.hh _ _ h1,by rw[g.vd l (by rw[h1];simp)];exact h2,h3⟩
  |dw sh ks ws=>exact gH.yy q g.gg λl o ys h1 h2 h3=>⟨g.hh _ _ h1,by rw[g.vd l (by rw[h1];simp)];exact h2,h3⟩
 uN:=r.uN
 kq:=r.kq
 VB:=λa o h n=>g.hh _ _ (r.VB a o h n)
 kz:=λa h=>za5 g.hh (r.kz a h)
 gen:=λa h=>by
  have:H a≠none:=by
   cases q:Z.H a with
   |none=>exact uz q h
   |ab o=>
    by_cases hi:a∈Z.io
    .exact r.kz a hi
    .rw[r.VB a o q hi];simp
  rw[g.vd a this];exact r.gen a h
def pZ.ku(r:pZ K Z G σ H e){b:d3 aO}(h:e[i]?=ab (.ku b ws)):∃a xs,σ[i]?=ab (ab (.dr a))/\H a=ab (.dI xs)/\G a=none/\(tu Z b a)/\ah K G ws xs:=by
 let⟨a,xs,h1,h2,h3,h4,h5⟩:=r.xM i _ h;refine⟨a,xs,?_,h2,h3,h4,h5⟩;cases q:σ[i]? with
 |none=>rw[q]at h1;cases h1
 |ab z=>rw[q]at h1;rw[show z=ab (V.dr a)from h1]
def pZ.fr(r:pZ K Z G σ H e)(h:e[i]?=ab (.fr w)):∃v,σ[i]?=ab (ab v)/\qk K G w v:=by
 let⟨v,h1,h2⟩:=r.xM i _ h;refine⟨v,?_,h2⟩;cases q:σ[i]? with
 |none=>rw[q]at h1;cases h1
 |ab z=>rw[q]at h1;rw[show z=ab v from h1]
def pZ.at(r:pZ K Z G σ H e){s:S}{v:V}(h:e[i]?=ab s)(hs:c7 K Z G H s (σ[i]?.hX none)->σ[i]?.hX none=ab v):σ[i]?=ab (ab v):=by
 have h1:=hs (r.xM i _ h);cases q:σ[i]? with
 |none=>rw[q]at h1;cases h1
 |ab z=>rw[q]at h1;rw[show z=ab v from h1]
def pZ._w(r:pZ K Z G σ H e){k:SK}(h:e[i]?=ab (.x k))(hk:k._w=ab w):∃v,σ[i]?=ab (ab v)/\qk K G w v:=by
 have q:=r.xM i _ h;cases k with
 |w5 w'=>cases hk;let⟨v,h1,_,h2⟩:=q;exact⟨v,r.at h λ_=>h1,h2⟩
 |vd w'=>cases hk;let⟨v,h1,h2⟩:=q;exact⟨v,r.at h λ_=>h1,dR.yW _ h2⟩
 |_=>cases hk
def pZ.mut(r:pZ K Z G σ H e){b:d3 aO}{ws':ai W}{i7:ai V}(h:e[i]?=ab (.ku b ws))(ha:σ[i]?=ab (ab (.dr a)))(q:ah K G ws' i7):pZ K Z G σ (oL H a (.dI i7)) (e.rk i (.ku b ws')):=by
 let⟨a',xs,h1,h2,h3,h4,h5⟩:=r.ku h;rw[ha]at h1;cases h1;have hi:i<e.aj:=(w0b.mp h).1;refine⟨λc o z=>?_,λj s z=>?_,by simpa using r.uN,λj k b1 b2 w1 w2 c z1 z2 z3 z4=>?_,λc o z n=>?_,λc z=>?_,r.gen⟩
 .rw[aN (gU z h3)];exact r.p9 c o z
 .by_cases hj:j=i
  .subst hj;rw[w0k hi]at z;cases z;exact⟨a,i7,by rw[ha];rfl,bN,h3,h4,q⟩
  .rw[w0h (λz=>hj z.symm)]at z
   have y:=r.xM j s z;cases s with
   |no=>trivial
   |fr w=>exact y
   |ku b2 w2=>
    let⟨c,ys,y1,y2,y3,y4,y5⟩:=y;refine⟨c,ys,y1,?_,y3,y4,y5⟩;rw[aN];exact y2;rintro rfl;let⟨c',_,z1,_⟩:=r.ku z;rw[z1]at y1;cases y1;exact hj (r.kq j i _ _ _ _ _ z h z1 ha)
   |aV kvs=>
    let⟨c,y1,y2,y3,y4⟩:=y;refine⟨c,y1,?_,y3,y4⟩;rw[aN (eR y2 h2 (nS rfl))];exact y2
   |dW us w2 vs=>
    let⟨t,l,o,n6,ys,zs,y1,y2,y3,y4,y5,y6⟩:=y;refine⟨t,l,o,n6,ys,zs,y1,y2,?_,y4,y5,y6⟩;rw[aN (eR y3 h2 (λz=>nomatch z))];exact y3
   |YL cb=>exact b8.yy y (.t8 _) λl o ys k1 k2 k3=>⟨by rw[aN (eR k1 h2 (λz=>nomatch z))];exact k1,k2,k3⟩
   |x k=>exact m9.yy y (.t8 _) λl o ys k1 k2 k3=>⟨by rw[aN (eR k1 h2 (λz=>nomatch z))];exact k1,k2,k3⟩
   |dw sh ks ws=>exact gH.yy y (.t8 _) λl o ys k1 k2 k3=>⟨by rw[aN (eR k1 h2 (rD rfl))];exact k1,k2,k3⟩
 .have w5:∀(k:aO)(bb:d3 aO)(ww:ai W),(e.rk i (S.ku b ws'))[k]?=ab (.ku bb ww)->∃b' w',e[k]?=ab (.ku b' w'):=λk bb ww z=>by
   by_cases hk:k=i
   .subst hk;exact⟨_,_,h⟩
   .rw[w0h (λz=>hk z.symm)]at z;exact⟨_,_,z⟩
  let⟨_,_,q1⟩:=w5 _ _ _ z1;let⟨_,_,q2⟩:=w5 _ _ _ z2;exact r.kq _ _ _ _ _ _ _ q1 q2 z3 z4
 .by_cases hc:c=a
  .subst hc;exfalso;rcases h4.io with h4|h4
   .exact n h4
   .rw[h4]at z;cases z
  .rw[aN hc];exact r.VB c o z n
 .by_cases hc:c=a
  .subst hc;rw[bN];simp
  .rw[aN hc];exact r.kz c z
def pZ.Ŕ(r:pZ K Z G σ H e)(h:e[i]?=ab (.ku none ws)):∃v G',σ[i]?=ab (ab v)/\ao G G'/\qk K G' (.dI ws) v/\pZ K Z G' σ H (e.rk i (.fr (.dI ws))):=by
 let⟨a,xs,h1,h2,h3,h4,h5⟩:=r.ku h;have h4:Z.H a=none:=h4;have sg:ao G (oL G a (.dI xs)):=vz h3 _;have hi:i<e.aj:=(w0b.mp h).1;have rp:qk K (oL G a (.dI xs)) (.dI ws) (.dr a):=⟨a,xs,rfl,bD.of bN,ah.k8 sg ws h5⟩;refine⟨.dr a,oL G a (.dI xs),h1,sg,rp,⟨λc o z=>?_,λj s z=>?_,by simpa using r.uN,λj k b1 b2 w1 w2 c z1 z2 z3 z4=>?_,r.VB,r.kz,λc z=>?_⟩⟩
 .by_cases hc:c=a
  .grind [bN]
  .rw[aN hc]at z;exact r.p9 c o z
 .by_cases hj:j=i
  .subst hj;rw[w0k hi]at z;cases z;exact⟨.dr a,by rw[h1];rfl,rp⟩
  .rw[w0h (λz=>hj z.symm)]at z
   have y:=r.xM j s z;cases s with
   |no=>trivial
   |fr w=>
    let⟨u,y1,y2⟩:=y;exact⟨u,y1,qk.k8 sg w y2⟩
   |ku b2 w2=>
    let⟨c,ys,y1,y2,y3,y4,y5⟩:=y;refine⟨c,ys,y1,y2,?_,y4,ah.k8 sg w2 y5⟩;rw[aN];exact y3;rintro rfl;let⟨c',_,z1,_⟩:=r.ku z;rw[z1]at y1;cases y1;exact hj (r.kq j i _ _ _ _ _ z h z1 h1)
   |aV kvs=>
    let⟨c,y1,y2,y3,y4⟩:=y;refine⟨c,y1,y2,?_,y4⟩;rw[aN (eR y2 h2 (nS rfl))];exact y3
   |dW us w2 vs=>
    let⟨t,l,o,n6,ys,zs,y1,y2,y3,y4,y5,y6,y7,y8⟩:=y;refine⟨t,l,o,n6,ys,zs,y1,sg _ _ y2,y3,?_,y5,ah.k8 sg us y6,ah.k8 sg w2 y7,ah.k8 sg vs y8⟩;rw[aN (eR y3 h2 (λz=>nomatch z))];exact y4
   |YL cb=>exact b8.yy y sg λl o ys k1 k2 k3=>⟨k1,by rw[aN (eR k1 h2 (λz=>nomatch z))];exact k2,k3⟩
   |x k=>exact m9.yy y sg λl o ys k1 k2 k3=>⟨k1,by rw[aN (eR k1 h2 (λz=>nomatch z))];exact k2,k3⟩
   |dw sh ks ws=>exact gH.yy y sg λl o ys k1 k2 k3=>⟨k1,by rw[aN (eR k1 h2 (rD rfl))];exact k2,k3⟩
 .have w5:∀(k:aO)(bb:d3 aO)(ww:ai W),(e.rk i (S.fr (W.dI ws)))[k]?=ab (.ku bb ww)->e[k]?=ab (.ku bb ww):=λk bb ww z=>by
   grind
  exact r.kq _ _ _ _ _ _ _ (w5 _ _ _ z1) (w5 _ _ _ z2) z3 z4
 .by_cases hc:c=a
  .grind
  .rw[aN hc];exact r.gen c z
def kj(σ:St)(e:ai S)(a:fy):Prop:=∀(j:aO)(b:d3 aO)(ws:ai W),e[j]?=ab (.ku b ws)->σ[j]?≠ab (ab (.dr a))
def pZ.rk(r:pZ K Z G σ H e){v:V}(q:qk K G w v):pZ K Z G (σ.rk i (ab v)) H (e.rk i (.fr w)):=by
 refine⟨r.p9,λj s z=>?_,by simpa using r.uN,λj k b1 b2 w1 w2 c z1 z2 z3 z4=>?_,r.VB,r.kz,r.gen⟩
 .by_cases hj:j=i
  .subst hj
   have hi:j<e.aj:=by
    have:=(w0b.mp z).1;simpa using this
   rw[w0k hi]at z;cases z;rw[w0k (by rw[<- r.uN];exact hi)];exact⟨v,rfl,q⟩
  .rw[w0h (λz=>hj z.symm)]at z |-
   exact r.xM j s z
 .have w5:∀(k:aO)(bb:d3 aO)(ww:ai W),(e.rk i (S.fr w))[k]?=ab (.ku bb ww)->k≠i/\e[k]?=ab (.ku bb ww):=λk bb ww z=>by
   by_cases hk:k=i
   .subst hk
    have hi:k<e.aj:=by
     have:=(w0b.mp z).1;simpa using this
    rw[w0k hi]at z;cases z
   .rw[w0h (λz=>hk z.symm)]at z;exact⟨hk,z⟩
  let⟨n1,q1⟩:=w5 _ _ _ z1;let⟨n2,q2⟩:=w5 _ _ _ z2;rw[w0h (λz=>n1 z.symm)]at z3
  rw[w0h (λz=>n2 z.symm)]at z4
  exact r.kq _ _ _ _ _ _ _ q1 q2 z3 z4
def pZ.zei(r:pZ K Z G σ H e){xs:ai V}(h2:H a=ab (.dI xs))(h3:G a=none)(h4:Z.H a=none)(hf:kj σ e a)(q:ah K G ws xs):pZ K Z G (σ.rk i (ab (.dr a))) H (e.rk i (.ku none ws)):=by
 refine⟨r.p9,λj s z=>?_,by simpa using r.uN,λj k b1 b2 w1 w2 c z1 z2 z3 z4=>?_,r.VB,r.kz,r.gen⟩
 .by_cases hj:j=i
  .subst hj
   have hi:j<e.aj:=by
    have:=(w0b.mp z).1;simpa using this
   rw[w0k hi]at z;cases z;rw[w0k (by rw[<- r.uN];exact hi)];exact⟨a,xs,rfl,h2,h3,h4,q⟩
  .rw[w0h (λz=>hj z.symm)]at z |-
   exact r.xM j s z
 .have both:∀(k:aO)(bb:d3 aO)(ww:ai W),(e.rk i (S.ku none ws))[k]?=ab (.ku bb ww)->(σ.rk i (ab (.dr a)))[k]?=ab (ab (.dr c))->(k=i/\c=a)\/(k≠i/\e[k]?=ab (.ku bb ww)/\σ[k]?=ab (ab (.dr c))/\c≠a):=λk bb ww z y=>by
   by_cases hk:k=i
   .subst hk
    have hi:k<e.aj:=by
     have:=(w0b.mp z).1;simpa using this
    rw[w0k (by rw[<- r.uN];exact hi)]at y;cases y;exact .jd ⟨rfl,rfl⟩
   .rw[w0h (λz=>hk z.symm)]at z y
    exact .lb ⟨hk,z,y,λe=>hf k bb ww z (by rw[y,e])⟩
  rcases both _ _ _ z1 z3 with⟨e1,c1⟩|⟨n1,q1,p1,c1⟩<;>rcases both _ _ _ z2 z4 with⟨e2,c2⟩|⟨n2,q2,p2,c2⟩
  .rw[e1,e2]
  .exact uz c1 c2
  .exact uz c2 c1
  .exact r.kq _ _ _ _ _ _ _ q1 q2 p1 p2
def pZ.forget(r:pZ K Z G σ H e)(hl:e'.aj=e.aj)(h:∀(i:aO)(s:S),e'[i]?=ab s->s=.no\/e[i]?=ab s):pZ K Z G σ H e':=by
 refine⟨r.p9,λj s z=>?_,by rw[hl];exact r.uN,λj k b1 b2 w1 w2 c z1 z2 z3 z4=>?_,r.VB,r.kz,r.gen⟩
 .rcases h j s z with rfl|q
  .trivial
  .exact r.xM j s q
 .rcases h _ _ z1 with q1|q1
  .cases q1
  .rcases h _ _ z2 with q2|q2
   .cases q2
   .exact r.kq _ _ _ _ _ _ _ q1 q2 z3 z4
set_option genInjectivity true in
inductive R(α:Type) where
 |ok (a:α) (e:ai S)|ex (c:d0) (e:ai S)|no
abbrev iw(α:Type):=ai S->R α
variable{dA:iw (ai W)}
def R.r7{α β:Type}:R α->(α->ai S->R β)->R β
 |.ok a e,k=>k a e
 |.ex c e,_=>.ex c e
 |.no,_=>.no
def R.SA(r:R α)(P:α->ai S->Prop)(E:d0->ai S->Prop):Prop:=match r with
 |.ok a e=>P a e
 |.ex c e=>E c e
 |.no=>vk
def R.ar{r:R α}{P:β->ai S->Prop}:(r.r7 k).SA P E↔r.SA (λa e=>(k a e).SA P E) E:=by
 cases r<;>rfl
def R.SA.uM{r:R α}(h:r.SA P E)(p:∀a e,P a e->P' a e)(x:∀c e,E c e->E' c e):r.SA P' E':=by
 cases r with
 |ok a e=>exact p a e h
 |ex c e=>exact x c e h
 |no=>exact h
def bp(o:d3 α)(e:ai S):R α:=match o with
 |ab a=>.ok a e
 |none=>.no
def aZ{P:α->ai S->Prop}:(bp o e).SA P E↔∃a,o=ab a/\P a e:=by
 cases o with
 |none=>exact⟨λh=>h.oa,fun⟨_,h,_⟩=>nomatch h⟩
 |ab a=>exact⟨λh=>⟨a,rfl,h⟩,fun⟨_,h,q⟩=>by cases h;exact q⟩
set_option genInjectivity true in
inductive SR where
 |nx (e:ai S)|rt (s:S) (e:ai S)|bk (e:ai S)|ct (e:ai S)|ex (c:d0) (e:ai S)|no
section
variable(K:Fg)(Z:Zt)(EE:L2.St->XK)
abbrev XH(σ:St)(G:Hp):d0->ai S->Prop:=λc e'=>∀G' H',pZ K Z G' σ H' e'->ao G G'->EE σ c none H'
def gE(d:iw W):TE:=λσ H Q=>pM K Z σ H λG e=>(d e).SA (λw e'=>∀G' v H',pZ K Z G' σ H' e'->ao G G'->qk K G' w v->Q v H') (XH K Z EE σ G)
def qQ(d:iw (ai W)):TA:=λσ H Q=>pM K Z σ H λG e=>(d e).SA (λws e'=>∀G' vs H',pZ K Z G' σ H' e'->ao G G'->ah K G' ws vs->Q vs H') (XH K Z EE σ G)
def Z1(d:iw ie):TT:=λσ H Q=>pM K Z σ H λG e=>(d e).SA (λb e'=>∀G' H',pZ K Z G' σ H' e'->ao G G'->Q b H') (XH K Z EE σ G)
def oE(d:iw (ai W)):TE:=λσ H Q=>pM K Z σ H λG e=>(d e).SA (λws e'=>∀G' a xs H',pZ K Z G' σ H' e'->ao G G'->H' a=ab (.dI xs)->G' a=none->Z.H a=none->kj σ e' a->ah K G' ws xs->Q (.dr a) H') (XH K Z EE σ G)
def bC(D:_B)(G:Hp):SR->Prop
 |.nx e'=>∀G' aJ H',pZ K Z G' aJ H' e'->ao G G'->D.nx aJ H'
 |.bk e'=>∀G' aJ H',pZ K Z G' aJ H' e'->ao G G'->D.bk aJ H'
 |.ct e'=>∀G' aJ H',pZ K Z G' aJ H' e'->ao G G'->D.ct aJ H'
 |.rt s e'=>∀G' aJ v H',pZ K Z G' aJ H' e'->ao G G'->c7 K Z G' H' s (ab v)->D.rt v H'
 |.ex c e'=>∀G' aJ H',pZ K Z G' aJ H' e'->ao G G'->EE aJ c none H'
 |.no=>vk
def fA(d:ai S->SR):TS:=λD σ H=>pM K Z σ H λG e=>bC K Z EE D G (d e)
end
section
variable(Z:Zt)(X:Cx)(EE:L2.St->XK)
def DE(e:p6)(d:iw W):Prop:=PE X e (gE X.K Z EE d)
def DF(e:p6)(d:iw (ai W)):Prop:=PE X e (oE X.K Z EE d)
def DT(e:p6)(d:iw ie):Prop:=PT X e (Z1 X.K Z EE d)
def DW(e:p6)(d:iw ie):Prop:=PW X e (Z1 X.K Z EE d)
def DA(es:ai p6)(d:iw (ai W)):Prop:=PA X es (qQ X.K Z EE d)
def DS(st:Mu)(d:ai S->SR):Prop:=PS X st (fA X.K Z EE d)
def m7(gf:ai Mu)(d:ai S->SR):Prop:=l7 X gf (fA X.K Z EE d)
end
theorem PE.k8(h:PE X e t)(i:∀σ H Q,t' σ H Q->t σ H Q):PE X e t':=λdN s σ H Q I q=>h dN s σ H Q I (i σ H Q q)
theorem PT.k8(h:PT X e t)(i:∀σ H Q,t' σ H Q->t σ H Q):PT X e t':=λdN s σ H Q I q=>h dN s σ H Q I (i σ H Q q)
theorem PW.k8(h:PW X e t)(i:∀σ H Q,t' σ H Q->t σ H Q):PW X e t':=λwh dN s σ H Q I q=>h wh dN s σ H Q I (i σ H Q q)
theorem PA.k8(h:PA X es t)(i:∀σ H Q,t' σ H Q->t σ H Q):PA X es t':=λp dN s σ H Q I q=>h p dN s σ H Q I (i σ H Q q)
theorem PS.k8(h:PS X st t)(i:∀D σ H,t' D σ H->t D σ H):PS X st t':=λdN s σ H D I q=>h dN s σ H D I (i D σ H q)
theorem l7.k8(h:l7 X st t)(i:∀D σ H,t' D σ H->t D σ H):l7 X st t':=λdN s σ H D I q=>h dN s σ H D I (i D σ H q)
section
variable(K:Fg)
def iE(r:R2)(f:W->W->d3 W):Prop:=∀(G H:Hp)(x y:V)(wx wy w:W)(Q:VK),ao G H->qk K G wx x->qk K G wy y->f wx wy=ab w->(∀G' v H',aK G H G' H'->qk K G' w v->Q v H')->r x y H Q
def CD(r:V->Hp->VK->Prop)(f:W->d3 W):Prop:=∀(G H:Hp)(x:V)(wx w:W)(Q:VK),ao G H->qk K G wx x->f wx=ab w->(∀G' v H',aK G H G' H'->qk K G' w v->Q v H')->r x H Q
def pO(r:ai V->Hp->VK->Prop)(f:ai W->d3 W):Prop:=∀(G H:Hp)(xs:ai V)(ws:ai W)(w:W)(Q:VK),ao G H->ah K G ws xs->f ws=ab w->(∀G' v H',aK G H G' H'->qk K G' w v->Q v H')->r xs H Q
end
def dC(w:W):iw W:=λe=>.ok w e
def af(i:aO):iw W:=λe=>match e[i]? with
 |ab (.fr w)=>.ok w e
 |ab (.ku none ws)=>.ok (.dI ws) (e.rk i (.fr (.dI ws)))
 |ab (.x k)=>match k._w with
  |ab w=>.ok w e
  |none=>.no
 |_=>.no
def aq(f:W->W->d3 W)(da db:iw W):iw W:=λe=>(da e).r7 λx e1=>(db e1).r7 λy e2=>bp (f x y) e2
def nq(f:W->d3 W)(da:iw W):iw W:=λe=>(da e).r7 λx e1=>bp (f x) e1
def ax(da:iw W):iw ie:=λe=>(da e).r7 λx e1=>match x with
 |.bl k=>.ok k e1
 |_=>.no
def jj:W->d3 ie
 |.aB=>ab false
 |.bl b=>ab b
 |.aT i=>ab (i != 0)
 |.str x=>if x.aj<=16777216 then ab ((x.aj:a7) != 0)else none
 |.gs xs=>ab (!xs.U7)
 |.dI xs=>ab (!xs.U7)
 |.Yu _=>none
 |.aV _=>none
 |.dw _ _ _ _=>none
 |.fn _ _ _=>none
def cW(da:iw W):iw ie:=λe=>(da e).r7 λx e1=>bp (jj x) e1
def iI(a b:iw ie):iw ie:=λe=>(a e).r7 λx e1=>if x=true then b e1 else .ok false e1
def lu(a b:iw ie):iw ie:=λe=>(a e).r7 λx e1=>if x=true then .ok true e1 else b e1
def eN(a:iw ie):iw ie:=λe=>(a e).r7 λx e1=>.ok (!x) e1
def jA(a b:iw W):iw W:=λe=>(a e).r7 λx e1=>match x with
 |.bl true=>b e1
 |.bl false=>.ok (.bl false) e1
 |_=>.no
def ni(a b:iw W):iw W:=λe=>(a e).r7 λx e1=>match x with
 |.bl true=>.ok (.bl true) e1
 |.bl false=>b e1
 |_=>.no
def hV(a:iw W):iw W:=λe=>(a e).r7 λx e1=>match x with
 |.bl k=>.ok (.bl (!k)) e1
 |_=>.no
def u4(c:iw ie)(a b:iw W):iw W:=λe=>(c e).r7 λx e1=>if x=true then a e1 else b e1
def ag:iw (ai W):=λe=>.ok [] e
def ae(a:iw W)(r:iw (ai W)):iw (ai W):=λe=>(a e).r7 λx e1=>(r e1).r7 λxs e2=>.ok (x::xs) e2
def a_(a:iw (ai W)):iw W:=λe=>(a e).r7 λxs e1=>if xs.aj<=16777216 then .ok (.gs xs) e1 else .no
def cR(a:iw (ai W)):iw (ai W):=λe=>(a e).r7 λxs e1=>if xs.aj<=16777216 then .ok xs e1 else .no
def dB(a:iw (ai W)):iw W:=λe=>(a e).r7 λxs e1=>.ok (.dI xs) e1
def bP(f:ai W->d3 W)(a:iw (ai W)):iw W:=λe=>(a e).r7 λxs e1=>bp (f xs) e1
section
variable{X:Cx}{a b c e:p6}{da db:iw W}{ta:iw ie}
theorem XH.kZ{G1:Hp}(s:ao G G1){c:d0}{e:ai S}(h:XH K Z EE σ G c e):XH K Z EE σ G1 c e:=λG' H' r q=>h G' H' r (s.kZ q)
theorem z99{i:a7}{j gw}:DE Z X EE (.ZD (.aT i) j gw) (dC (.aT i)):=PE.k8 K7 λσ H Q ⟨G,e,r,h⟩=>h G (.aT i) H r (.t8 _) rfl
theorem Q5b{i:ie}{j gw}:DE Z X EE (.ZD (.xN i) j gw) (dC (.bl i)):=PE.k8 T9 λσ H Q ⟨G,e,r,h⟩=>h G (.bl i) H r (.t8 _) rfl
theorem Q0a{j gw}:DE Z X EE (.ZD .none j gw) (dC .aB):=PE.k8 z9m λσ H Q ⟨G,e,r,h⟩=>h G .aB H r (.t8 _) rfl
theorem Q0b{i:et}{j gw}:DE Z X EE (.ZD (.str i) j gw) (dC (.str i)):=PE.k8 z9n λσ H Q ⟨G,e,r,h⟩=>h G (.str i) H r (.t8 _) rfl
def y9c:∀σ H Q,gE K Z EE (af i) σ H Q->r_ i σ H Q:=by
 rintro σ H Q ⟨G,e,r,h⟩;unfold af at h;split at h
 .rename_i w hw;let⟨v,h1,h2⟩:=r.fr hw;exact⟨v,h1,h G v H r (.t8 _) h2⟩
 .rename_i ws hw;let⟨v,G',h1,h2,h3,h4⟩:=r.Ŕ hw;exact⟨v,h1,h G' v H h4 h2 h3⟩
 .rename_i k hw;cases q:k._w with
  |ab w=>
   rw[q]at h;let⟨v,h1,h2⟩:=r._w hw q;exact⟨v,h1,h G v H r (.t8 _) h2⟩
  |none=>rw[q]at h;exact h.oa
 .exact h.oa
theorem dv(i:aO)(hN:autoParam (X.N[i]?=ab x) jJ)(hv:autoParam (kD X.dt.fv x) jN)(hd:autoParam ((x==("__debug__":et))=false) jK)
  (fg:autoParam ((x==("__classdict__":et))=false) jK):DE Z X EE (.oh x gw) (af i):=PE.k8 (pv i hN hv hd fg) y9c
def vE(hf:iE K r f):∀σ H Q,gE K Z EE (aq f da db) σ H Q->Cm r (gE K Z EE da) (gE K Z EE db) σ H Q:=by
 rintro σ H Q ⟨G,e,mQ,h⟩;simp only[aq,R.ar,aZ]at h;refine⟨G,e,mQ,h.uM (λx e1 h G1 v1 H1 r1 s1 p1=>?_) λ_ _ h=>h⟩
 refine⟨G1,e1,r1,h.uM (λy e2 h G2 v2 H2 r2 s2 p2=>?_) λ_ _ h=>XH.kZ s1 h⟩
 let⟨w,hw,h⟩:=h;exact hf G2 H2 v1 v2 x y w Q r2.p9 (qk.k8 s2 x p1) p2 hw λG' v H' g p=>h G' v H' (r2.zR g) ((s1.kZ s2).kZ g.gg) p
theorem vJ(ho:fK X (ZH op) r)(hf:iE X.K r f)(ha:DE Z X EE a da)(hb:DE Z X EE b db):DE Z X EE (._A a op b gw) (aq f da db):=PE.k8 (SD ho ha hb) (vE hf)
theorem xE(ho:fK X (ZI op) r)(hf:iE X.K r f)(ha:DE Z X EE a da)(hb:DE Z X EE b db)(hm:_d op b=false):DE Z X EE (.Yz a [op] [b] gw) (aq f da db):=PE.k8 (z31 ho ha hb hm) (vE hf)
def Jg(h:Z1 K Z EE (ax da) σ H Q):gE K Z EE da σ H (λx H'=>∃k,x=.bl k/\Q k H'):=by
 let⟨G,e,mQ,h⟩:=h;simp only[ax,R.ar]at h;refine⟨G,e,mQ,h.uM (λx e1 h G1 v1 H1 r1 s1 p1=>?_) λ_ _ h=>h⟩
 cases x with
 |bl k=>
  cases(show v1=V.bl k from p1);exact⟨k,rfl,h G1 H1 r1 s1⟩
 |_=>exact h.oa
theorem sW(ho:fK X (ZI op) r)(hf:iE X.K r f)(ha:DE Z X EE a da)(hb:DE Z X EE b db)(hm:_d op b=false):DT Z X EE (.Yz a [op] [b] gw) (ax (aq f da db)):=
 PT.k8 (z32 ho ha hb hm) λσ H Q h=>vE hf σ H _ (Jg h)
def QM(hf:CD K r f):∀σ H Q,gE K Z EE (nq f da) σ H Q->NS r (gE K Z EE da) σ H Q:=by
 rintro σ H Q ⟨G,e,mQ,h⟩;simp only[nq,R.ar,aZ]at h;refine⟨G,e,mQ,h.uM (λx e1 h G1 v1 H1 r1 s1 p1=>?_) λ_ _ h=>h⟩
 let⟨w,hw,h⟩:=h;exact hf G1 H1 v1 x w Q r1.p9 p1 hw λG' v H' g p=>h G' v H' (r1.zR g) (s1.kZ g.gg) p
theorem UI(ho:zI X (ŵ op) r)(hf:CD X.K r f)(ha:DE Z X EE a da):DE Z X EE (._T op a gw) (nq f da):=PE.k8 (Uc ho ha) (QM hf)
def RO(s:ao G H)(h:qk K G w v)(e:jj w=ab k):tF K v H k:=by
 cases w with
 |aB=>cases(show v=.aB from h);cases e;rfl
 |bl b=>cases(show v=.bl b from h);cases e;rfl
 |aT i=>cases(show v=.aT i from h);cases e;rfl
 |str x=>
  cases(show v=.str x from h);simp only[jj]at e;split at e
  .cases e;exact⟨by grind [LP],rfl⟩
  .cases e
 |gs ws=>
  let⟨p,xs,rfl,q,r⟩:=h;cases e;refine .lb (.jd ⟨xs,s.gs q,?_⟩);have:=r.aj
  grind
 |dI ws=>
  let⟨p,xs,rfl,q,r⟩:=h;cases e;refine .jd ⟨xs,s.p7 q,?_⟩;have:=r.aj
  grind
 |Yu _=>cases e
 |aV _=>cases e
 |dw _ _ _ _=>cases e
 |fn _ _ _=>cases e
def Q0c(ha:DE Z X EE a da)(he:∀Ω,Ç a X.dt Ω=(do let v <- Ω;ö a.gw;_K [v] (ų v)):=by intro _;rfl):DT Z X EE a (cW da):=by
 refine PT.k8 (y81 ha he) ?_;rintro σ H Q ⟨G,e,mQ,h⟩;simp only[cW,R.ar,aZ]at h;refine⟨G,e,mQ,h.uM (λx e1 h G1 v1 H1 r1 s1 p1=>?_) λ_ _ h=>h⟩
 let⟨k,hk,h⟩:=h;exact⟨k,RO r1.p9 p1 hk,h G1 H1 r1 s1⟩
def y9d:∀σ H Q,Z1 K Z EE (iI ta tb) σ H Q->B' (Z1 K Z EE ta) (Z1 K Z EE tb) σ H Q:=by
 rintro σ H Q ⟨G,e,mQ,h⟩;simp only[iI,R.ar]at h;refine⟨G,e,mQ,h.uM (λx e1 h G1 H1 r1 s1=>?_) λ_ _ h=>h⟩
 cases x with
 |true=>exact⟨G1,e1,r1,R.SA.uM (show(tb e1).SA _ _ from h) (λy e2 h G2 H2 r2 s2=>h G2 H2 r2 (s1.kZ s2)) λ_ _ h=>XH.kZ s1 h⟩
 |false=>exact(show ∀G' H',_->_->Q false H' from h) G1 H1 r1 s1
def z4g:∀σ H Q,Z1 K Z EE (lu ta tb) σ H Q->NR (Z1 K Z EE ta) (Z1 K Z EE tb) σ H Q:=by
 rintro σ H Q ⟨G,e,mQ,h⟩;simp only[lu,R.ar]at h;refine⟨G,e,mQ,h.uM (λx e1 h G1 H1 r1 s1=>?_) λ_ _ h=>h⟩
 cases x with
 |false=>exact⟨G1,e1,r1,R.SA.uM (show(tb e1).SA _ _ from h) (λy e2 h G2 H2 r2 s2=>h G2 H2 r2 (s1.kZ s2)) λ_ _ h=>XH.kZ s1 h⟩
 |true=>exact(show ∀G' H',_->_->Q true H' from h) G1 H1 r1 s1
theorem z4h(ha:DT Z X EE a ta):DW Z X EE (.YO ._P [a] gw) ta:=z3v ha
theorem Q0d(ha:DT Z X EE a ta):DW Z X EE (.YO .Or [a] gw) ta:=z9o ha
theorem Q0e{xb:ai p6}(ha:DT Z X EE a ta)(hb:DW Z X EE (.YO ._P (b::xb) gw) tb):DW Z X EE (.YO ._P (a::b::xb) gw) (iI ta tb):=PW.k8 (z9p ha hb) y9d
theorem Q5d{xb:ai p6}(ha:DT Z X EE a ta)(hb:DW Z X EE (.YO .Or (b::xb) gw) tb):DW Z X EE (.YO .Or (a::b::xb) gw) (lu ta tb):=PW.k8 (T_ ha hb) z4g
theorem Va(h:DW Z X EE a ta):DT Z X EE a ta:=PW.pt h
def Q0f(ha:DT Z X EE a ta):DT Z X EE (._T .Not a gw) (eN ta):=by
 refine PT.k8 (z9q ha) ?_;rintro σ H Q ⟨G,e,mQ,h⟩;simp only[eN,R.ar]at h;exact⟨G,e,mQ,h.uM (λx e1 h G1 H1 r1 s1=>h G1 H1 r1 s1) λ_ _ h=>h⟩
theorem Q0g{op}(h:DE Z X EE a da):DE Z X EE (.YO op [a] gw) da:=z9r h
def Q0h{xb:ai p6}(ha:DE Z X EE a da)(hb:DE Z X EE (.YO ._P (b::xb) gw) db):DE Z X EE (.YO ._P (a::b::xb) gw) (jA da db):=by
 refine PE.k8 (z9s ha hb) ?_;rintro σ H Q ⟨G,e,mQ,h⟩;simp only[jA,R.ar]at h;refine⟨G,e,mQ,h.uM (λx e1 h G1 v1 H1 r1 s1 p1=>?_) λ_ _ h=>h⟩
 cases x with
 |bl k=>
  cases(show v1=V.bl k from p1);cases k with
  |true=>exact⟨true,rfl,⟨G1,e1,r1,R.SA.uM (show(db e1).SA _ _ from h) (λy e2 h G2 v2 H2 r2 s2 p2=>h G2 v2 H2 r2 (s1.kZ s2) p2) λ_ _ h=>XH.kZ s1 h⟩⟩
  |false=>exact⟨false,rfl,(show ∀G' v H',_->_->v=V.bl false->Q v H' from h) G1 _ H1 r1 s1 rfl⟩
 |_=>exact h.oa
def Q5e{xb:ai p6}(ha:DE Z X EE a da)(hb:DE Z X EE (.YO .Or (b::xb) gw) db):DE Z X EE (.YO .Or (a::b::xb) gw) (ni da db):=by
 refine PE.k8 (Ua ha hb) ?_;rintro σ H Q ⟨G,e,mQ,h⟩;simp only[ni,R.ar]at h;refine⟨G,e,mQ,h.uM (λx e1 h G1 v1 H1 r1 s1 p1=>?_) λ_ _ h=>h⟩
 cases x with
 |bl k=>
  cases(show v1=V.bl k from p1);cases k with
  |false=>exact⟨false,rfl,⟨G1,e1,r1,R.SA.uM (show(db e1).SA _ _ from h) (λy e2 h G2 v2 H2 r2 s2 p2=>h G2 v2 H2 r2 (s1.kZ s2) p2) λ_ _ h=>XH.kZ s1 h⟩⟩
  |true=>exact⟨true,rfl,(show ∀G' v H',_->_->v=V.bl true->Q v H' from h) G1 _ H1 r1 s1 rfl⟩
 |_=>exact h.oa
def Q0i(ha:DE Z X EE a da):DE Z X EE (._T .Not a gw) (hV da):=by
 refine PE.k8 (z9t ha) ?_;rintro σ H Q ⟨G,e,mQ,h⟩;simp only[hV,R.ar]at h;refine⟨G,e,mQ,h.uM (λx e1 h G1 v1 H1 r1 s1 p1=>?_) λ_ _ h=>h⟩
 cases x with
 |bl k=>
  cases(show v1=V.bl k from p1);exact⟨k,rfl,(show ∀G' v H',_->_->v=V.bl (!k)->Q v H' from h) G1 _ H1 r1 s1 rfl⟩
 |_=>exact h.oa
def Q5f(hc:DT Z X EE c dc)(ha:DE Z X EE a da)(hb:DE Z X EE b db):DE Z X EE (.IfExp c a b gw) (u4 dc da db):=by
 refine PE.k8 (y8x hc ha hb) ?_;rintro σ H Q ⟨G,e,mQ,h⟩;simp only[u4,R.ar]at h;refine⟨G,e,mQ,h.uM (λx e1 h G1 H1 r1 s1=>?_) λ_ _ h=>h⟩
 cases x with
 |true=>exact⟨G1,e1,r1,R.SA.uM (show(da e1).SA _ _ from h) (λy e2 h G2 v2 H2 r2 s2 p2=>h G2 v2 H2 r2 (s1.kZ s2) p2) λ_ _ h=>XH.kZ s1 h⟩
 |false=>exact⟨G1,e1,r1,R.SA.uM (show(db e1).SA _ _ from h) (λy e2 h G2 v2 H2 r2 s2 p2=>h G2 v2 H2 r2 (s1.kZ s2) p2) λ_ _ h=>XH.kZ s1 h⟩
theorem Q0j:DA Z X EE [] ag:=PA.k8 xC λσ H Q ⟨G,e,r,h⟩=>h G [] H r (.t8 _) rfl
def z4i(ha:DE Z X EE e da)(hr:DA Z X EE es dA)(hs:autoParam (pg (e::es) X.dt=(false,eval e X.dt)::pg es X.dt) jJ):DA Z X EE (e::es) (ae da dA):=by
 refine PA.k8 (rG ha hr hs) ?_;rintro σ H Q ⟨G,e,mQ,h⟩;simp only[ae,R.ar]at h;refine⟨G,e,mQ,h.uM (λx e1 h G1 v1 H1 r1 s1 p1=>?_) λ_ _ h=>h⟩
 refine⟨G1,e1,r1,h.uM (λxs e2 h G2 vs H2 r2 s2 p2=>?_) λ_ _ h=>XH.kZ s1 h⟩
 exact h G2 (v1::vs) H2 r2 (s1.kZ s2) ⟨v1,vs,rfl,qk.k8 s2 x p1,p2⟩
def Q0k{x1}(h:DA Z X EE es dA):DE Z X EE (.Yg es x1 gw) (a_ dA):=by
 refine PE.k8 (K9 h) ?_;rintro σ H Q ⟨G,e,mQ,h⟩;simp only[a_,R.ar]at h;refine⟨G,e,mQ,h.uM (λws e1 h G1 vs H1 r1 s1 p1=>?_) λ_ _ h=>h⟩
 split at h
 .rename_i hl;refine⟨by rw[p1.aj,LP];exact hl,λp hp=>?_⟩
  have g:=aK.JN r1.p9 hp (.gs vs);exact(show ∀G' v H',_->_->qk X.K G' (.gs ws) v->Q v H' from h) _ (.dr p) _ (r1.zR g) (s1.kZ g.gg) ⟨p,vs,rfl,bK.of bN,ah.k8 g.gg ws p1⟩
 .exact h.oa
theorem yG{e:ai S}(r:pZ K Z G σ H e){p:fy}(hp:H p=none):kj σ e p:=λj b ws h q=>by
 let⟨a,xs,h1,h2,_⟩:=r.ku h;rw[q]at h1;cases h1;rw[hp]at h2;cases h2
def pF{e:ai S}(r:pZ K Z G σ H e){p:fy}(hp:H p=none):Z.H p=none:=by
 cases q:Z.H p with
 |none=>rfl
 |ab o=>
  by_cases hi:p∈Z.io
  .exact uz hp (r.kz p hi)
  .rw[r.VB p o q hi]at hp;cases hp
theorem Ed{e:ai S}{Q:VK}{G0:Hp}(r:pZ K Z G σ H e)(s:ao G0 G)(p1:ah K G ws vs)
  (h:∀G' a xs H',pZ K Z G' σ H' e->ao G0 G'->H' a=ab (.dI xs)->G' a=none->Z.H a=none->kj σ e a->ah K G' ws xs->Q (.dr a) H'):∀p,H p=none->Q (.dr p) (oL H p (.dI vs)):=λp hp=>by
 have g:=aK.ox r.p9 hp (.dI vs);exact h G p vs _ (r.zR g) s bN (r.p9.tD hp) (pF r hp) (yG r hp) p1
def Q0l(h:DA Z X EE es dA):DF Z X EE (.ai es gw) (cR dA):=by
 refine PE.k8 (z92 h) ?_;rintro σ H Q ⟨G,e,mQ,h⟩;simp only[cR,R.ar]at h;refine⟨G,e,mQ,h.uM (λws e1 h G1 vs H1 r1 s1 p1=>?_) λ_ _ h=>h⟩
 split at h
 .rename_i hl;exact⟨by rw[p1.aj,LP];exact hl,Ed r1 s1 p1 h⟩
 .exact h.oa
def pZ.ò{e:ai S}(r:pZ K Z G σ H e){a:fy}{xs:ai V}(h:H a=ab (.dI xs))(hg:G a=none)(hz:Z.H a=none)(hf:kj σ e a):ao G (oL G a (.dI xs))/\pZ K Z (oL G a (.dI xs)) σ H e:=by
 have sg:ao G (oL G a (.dI xs)):=vz hg _;refine⟨sg,⟨λc o z=>?_,λj s z=>?_,r.uN,r.kq,r.VB,r.kz,λc z=>?_⟩⟩
 .by_cases hc:c=a
  .subst hc;rw[bN]at z;cases z;exact h
  .rw[aN hc]at z;exact r.p9 c o z
 .have y:=r.xM j s z;cases s with
  |no=>trivial
  |fr w=>
   let⟨u,y1,y2⟩:=y;exact⟨u,y1,qk.k8 sg w y2⟩
  |ku b2 w2=>
   let⟨c,ys,y1,y2,y3,y4,y5⟩:=y;refine⟨c,ys,y1,y2,?_,y4,ah.k8 sg w2 y5⟩;rw[aN];exact y3;rintro rfl;let⟨c',_,z1,_⟩:=r.ku z;rw[z1]at y1;cases y1;exact hf j b2 w2 z z1
  |aV kvs=>
   let⟨c,y1,y2,y3,y4⟩:=y;refine⟨c,y1,y2,?_,y4⟩;rw[aN (eR y2 h (nS rfl))];exact y3
  |dW us w2 vs=>
   let⟨t,l,o,n6,ys,zs,y1,y2,y3,y4,y5,y6,y7,y8⟩:=y;refine⟨t,l,o,n6,ys,zs,y1,sg _ _ y2,y3,?_,y5,ah.k8 sg us y6,ah.k8 sg w2 y7,ah.k8 sg vs y8⟩;rw[aN (eR y3 h (λz=>nomatch z))];exact y4
  |YL cb=>exact b8.yy y sg λl o ys k1 k2 k3=>⟨k1,by rw[aN (eR k1 h (λz=>nomatch z))];exact k2,k3⟩
  |x k=>exact m9.yy y sg λl o ys k1 k2 k3=>⟨k1,by rw[aN (eR k1 h (λz=>nomatch z))];exact k2,k3⟩
  |dw sh ks ws=>exact gH.yy y sg λl o ys k1 k2 k3=>⟨k1,by rw[aN (eR k1 h (rD rfl))];exact k2,k3⟩
 .by_cases hc:c=a
  .subst hc;exact uz hz z
  .rw[aN hc];exact r.gen c z
def Q5g(h:DF Z X EE e dA):DE Z X EE e (dB dA):=by
 refine PE.k8 h ?_;rintro σ H Q ⟨G,e,mQ,h⟩;simp only[dB,R.ar]at h;refine⟨G,e,mQ,h.uM (λws e1 h G1 a xs H1 r1 s1 q1 q2 q3 q4 p1=>?_) λ_ _ h=>h⟩
 let⟨sg,rg⟩:=r1.ò q1 q2 q3 q4;exact(show ∀G' v H',_->_->qk X.K G' (.dI ws) v->Q v H' from h) _ (.dr a) _ rg (s1.kZ sg) ⟨a,xs,rfl,bD.of bN,ah.k8 sg ws p1⟩
def QN(hf:pO K r f):∀σ H Q,gE K Z EE (bP f dA) σ H Q->JP r (qQ K Z EE dA) σ H Q:=by
 rintro σ H Q ⟨G,e,mQ,h⟩;simp only[bP,R.ar,aZ]at h;refine⟨G,e,mQ,h.uM (λws e1 h G1 vs H1 r1 s1 p1=>?_) λ_ _ h=>h⟩
 let⟨w,hw,h⟩:=h;exact hf G1 H1 vs ws w Q r1.p9 p1 hw λG' v H' g p=>h G' v H' (r1.zR g) (s1.kZ g.gg) p
theorem yM{id:Yq}{p:vW}{r:ai V->Hp->VK->Prop}{f:ai W->d3 W}(hc:cZ X (.w4 id) r)(hf:pO X.K r f)(hv:_E x=ab (.w4 id))(hm:X.mg x=none)(ha:DA Z X EE (e::es) dA)(hg:autoParam (Gl X x) jJ)(hn:autoParam (x≠"__name__") jK)(jT:autoParam ((x==("__debug__":et))=false) jK)
  (he:autoParam (pg (e::es) X.dt=(false,eval e X.dt)::pg es X.dt) jJ)(dP:autoParam ((y0 gw (pg es X.dt)).uJ (·.1)=false) jJ):DE Z X EE (.wO (.oh x p) (e::es) [] gw) (bP f dA):=
 PE.k8 (Ke hc hg hm hv ha hn jT he dP) (QN hf)
theorem RP{T:Yq}{p:vW}{r:ai V->Hp->VK->Prop}{f:ai W->d3 W}(hc:cZ X (.ke T) r)(hf:pO X.K r f)(hv:_E x=ab (.ke T))(hm:X.mg x=none)(ha:DA Z X EE (e::es) dA)(hg:autoParam (Gl X x) jJ)(hn:autoParam (x≠"__name__") jK)(jT:autoParam ((x==("__debug__":et))=false) jK)
  (he:autoParam (pg (e::es) X.dt=(false,eval e X.dt)::pg es X.dt) jJ)(dP:autoParam ((y0 gw (pg es X.dt)).uJ (·.1)=false) jJ):DE Z X EE (.wO (.oh x p) (e::es) [] gw) (bP f dA):=
 PE.k8 (OT hc hg hm hv ha hn jT he dP) (QN hf)
end
def cM:ai S->SR:=λe=>.nx e
def ak(a b:ai S->SR):ai S->SR:=λe=>match a e with
 |.nx e'=>b e'
 |r=>r
def R.cH(r:R α)(k:α->ai S->SR):SR:=match r with
 |.ok a e=>k a e
 |.ex c e=>.ex c e
 |.no=>.no
def jB(d:iw W):ai S->SR:=λe=>(d e).cH λ_ e'=>.nx e'
def aG(d:iw W):ai S->SR:=λe=>(d e).cH λw e'=>.rt (.fr w) e'
def eG(d:iw (ai W)):ai S->SR:=λe=>(d e).cH λws e'=>.rt (.ku none ws) e'
def hW(i:aO):ai S->SR:=λe=>match e[i]? with
 |ab (.ku none ws)=>.rt (.ku none ws) e
 |ab (.fr w)=>.rt (.fr w) e
 |_=>.no
def aR(c:iw ie)(a b:ai S->SR):ai S->SR:=λe=>(c e).cH λx e1=>if x=true then a e1 else b e1
def aA(i:aO)(d:iw W):ai S->SR:=λe=>(d e).cH λw e'=>.nx (e'.rk i (.fr w))
def df(i:aO)(d:iw (ai W)):ai S->SR:=λe=>(d e).cH λws e'=>.nx (e'.rk i (.ku none ws))
def cV(i:aO)(b:ai S->SR):ai W->ai S->SR
 |[],e=>.nx e
 |w::ws,e=>match b (e.rk i (.fr w))with
  |.nx e'=>cV i b ws e'
  |.ct e'=>cV i b ws e'
  |.bk e'=>.nx e'
  |.rt s e'=>.rt s e'
  |.ex c e'=>.ex c e'
  |.no=>.no
def bw(c:iw ie)(b:ai S->SR):aO->ai S->SR
 |0,_=>.no
 |n+1,e=>(c e).cH λx e1=>if x=true then(match b e1 with
  |.nx e'=>bw c b n e'
  |.ct e'=>bw c b n e'
  |.bk e'=>.nx e'
  |.rt s e'=>.rt s e'
  |.ex c e'=>.ex c e'
  |.no=>.no)else .nx e1
def fq:W->d3 (ai W)
 |.gs ws=>ab ws
 |.dI ws=>ab ws
 |_=>none
def jD(i:aO)(d:iw W)(b:ai S->SR):ai S->SR:=λe=>(d e).cH λw e1=>match fq w with
 |ab ws=>cV i b ws e1
 |none=>.no
def bu(lo hi:a7):ai W:=(ai.CC (hi-lo).uh).a6 λk=>.aT (lo+(k:aO))
def pD(j:a7):ie:=aO.ble j.ώ 4611686018427387903
def rE(h:pD j=true):-(2^62)<=j/\j<2^62:=by
 have z:j.ώ<=4611686018427387903:=w3r h
 grind
theorem oK{j:a7}(h1:-1000000000<=j)(h2:j<=1000000000):pD j=true:=aO.ble_eq_true_of_le (by omega)
def dG:ai W->d3 (ai W)
 |[.aT j]=>if pD j=true then ab (bu 0 j)else none
 |_=>none
def xJ:ai W->d3 (ai W)
 |[.aT i,.aT j]=>if pD i=true/\pD j=true then ab (bu i j)else none
 |_=>none
def cJ(i:aO)(g:ai W->d3 (ai W))(d:iw (ai W))(b:ai S->SR):ai S->SR:=λe=>(d e).cH λw e1=>match g w with
 |ab ws=>cV i b ws e1
 |none=>.no
section
variable{X:Cx}{a c e:p6}{st:Mu}{xb uG:ai Mu}{d:iw W}{s1 s2:ai S->SR}
theorem bC.kZ(s:ao G G1):∀{r:SR},bC K Z EE D G r->bC K Z EE D G1 r
 |.nx e',h=>λG' aJ H' r q=>h G' aJ H' r (s.kZ q)
 |.bk e',h=>λG' aJ H' r q=>h G' aJ H' r (s.kZ q)
 |.ct e',h=>λG' aJ H' r q=>h G' aJ H' r (s.kZ q)
 |.rt w e',h=>λG' aJ v H' r q=>h G' aJ v H' r (s.kZ q)
 |.ex c e',h=>λG' aJ H' r q=>h G' aJ H' r (s.kZ q)
 |.no,h=>h
def i3{r:R α}(h:bC K Z EE D G (r.cH k)):r.SA (λa e'=>bC K Z EE D G (k a e')) (XH K Z EE σ G):=by
 cases r with
 |ok a e=>exact h
 |ex c e=>exact λG' H' r q=>h G' σ H' r q
 |no=>exact h
theorem z4j:m7 Z X EE [] cM:=l7.k8 z3w λD σ H ⟨G,e,r,h⟩=>h G σ H r (.t8 _)
def y9e:∀D σ H,fA K Z EE (ak s1 s2) D σ H->Co (fA K Z EE s1) (fA K Z EE s2) D σ H:=by
 rintro D σ H ⟨G,e,mQ,h⟩;refine⟨G,e,mQ,?_⟩;unfold ak at h;cases q:s1 e with
 |nx e'=>rw[q]at h;exact λG' aJ H' r s=>⟨G',e',r,bC.kZ s h⟩
 |bk e'=>rw[q]at h;exact h
 |ct e'=>rw[q]at h;exact h
 |rt w e'=>rw[q]at h;exact h
 |ex c e'=>rw[q]at h;exact h
 |no=>rw[q]at h;exact h
theorem y9f(h1:DS Z X EE st s1)(h2:m7 Z X EE xb s2):m7 Z X EE (st::xb) (ak s1 s2):=l7.k8 (y8y h1 h2) y9e
theorem z4k(h1:DS Z X EE st s1):m7 Z X EE [st] s1:=z3x h1
def z4l(he:DE Z X EE e d)(hs:autoParam (Zk e none gw.Yd X.dt=vX false) jJ):DS Z X EE (.p6 e gw) (jB d):=by
 refine PS.k8 (Ek he hs) ?_;rintro D σ H ⟨G,e,mQ,h⟩;exact⟨G,e,mQ,(i3 h).uM (λw e1 h G1 v1 H1 r1 s1 p1=>h G1 σ H1 r1 s1) λ_ _ h=>h⟩
def Q0m(he:DE Z X EE e d):DS Z X EE (.ϟ (ab e) gw) (aG d):=by
 refine PS.k8 (BQ he) ?_;rintro D σ H ⟨G,e,mQ,h⟩;exact⟨G,e,mQ,(i3 h).uM (λw e1 h G1 v1 H1 r1 s1 p1=>h G1 σ v1 H1 r1 s1 ⟨v1,rfl,p1⟩) λ_ _ h=>h⟩
def z4m(he:DF Z X EE e dA):DS Z X EE (.ϟ (ab e) gw) (eG dA):=by
 refine PS.k8 (BQ he) ?_;rintro D σ H ⟨G,e,mQ,h⟩;exact⟨G,e,mQ,(i3 h).uM (λw e1 h G1 a xs H1 r1 s1 q1 q2 q3 q4 p1=>h G1 σ (.dr a) H1 r1 s1 ⟨a,xs,rfl,q1,q2,q3,p1⟩) λ_ _ h=>h⟩
def z4n(i:aO){p:vW}(hN:autoParam (X.N[i]?=ab x) jJ)(hv:autoParam (kD X.dt.fv x) jN)(hd:autoParam ((x==("__debug__":et))=false) jK)
  (fg:autoParam ((x==("__classdict__":et))=false) jK):DS Z X EE (.ϟ (ab (.oh x p)) gw) (hW i):=by
 refine PS.k8 (BQ (pv i hN hv hd fg)) ?_;rintro D σ H ⟨G,e,mQ,h⟩;unfold hW at h;split at h
 .rename_i ws hw;let⟨a,xs,h1,h2,h3,h4,h5⟩:=mQ.ku hw;exact⟨.dr a,h1,h G σ _ H mQ (.t8 _) ⟨a,xs,rfl,h2,h3,h4,h5⟩⟩
 .rename_i w hw;let⟨v,h1,h2⟩:=mQ.fr hw;exact⟨v,h1,h G σ _ H mQ (.t8 _) ⟨v,rfl,h2⟩⟩
 .exact h.oa
def y9g:∀D σ H,fA K Z EE (aR dc s1 s2) D σ H->Ce (Z1 K Z EE dc) (fA K Z EE s1) (fA K Z EE s2) D σ H:=by
 rintro D σ H ⟨G,e,mQ,h⟩;refine⟨G,e,mQ,(i3 h).uM (λx e1 h G1 H1 r1 q1=>?_) λ_ _ h=>h⟩
 cases x with
 |true=>exact⟨G1,e1,r1,bC.kZ q1 h⟩
 |false=>exact⟨G1,e1,r1,bC.kZ q1 h⟩
theorem Q5h(hc:DT Z X EE c dc)(ha:m7 Z X EE p s1)(hb:m7 Z X EE q s2):DS Z X EE (.If c p q gw) (aR dc s1 s2):=PS.k8 (Ub hc ha hb) y9g
def Q0n(i:aO)(hN:X.N.xZ)(he:DE Z X EE e d)(hi:autoParam (X.N[i]?=ab x) jJ)(hx:autoParam (YU X.dt.fv x) jM)(hs:autoParam (Zk e (ab (.oh x Yw)) gw.Yd X.dt=vX false) jJ)(hf:autoParam (X.fn x=true\/X.dt.fv.qW.g6 x=ab .local) jL):
  DS Z X EE (.Zu [.oh x Yw] e gw) (aA i d):=by
 refine PS.k8 (yP i hN he hi hx hs hf) ?_;rintro D σ H ⟨G,e,mQ,h⟩;exact⟨G,e,mQ,(i3 h).uM (λw e1 h G1 v1 H1 r1 q1 p1=>h G1 _ H1 (r1.rk p1) q1) λ_ _ h=>h⟩
def Q0o(i:aO)(hN:X.N.xZ)(he:DF Z X EE e dA)(hi:autoParam (X.N[i]?=ab x) jJ)(hx:autoParam (YU X.dt.fv x) jM)(hs:autoParam (Zk e (ab (.oh x Yw)) gw.Yd X.dt=vX false) jJ)(hf:autoParam (X.fn x=true\/X.dt.fv.qW.g6 x=ab .local) jL):
  DS Z X EE (.Zu [.oh x Yw] e gw) (df i dA):=by
 refine PS.k8 (yP i hN he hi hx hs hf) ?_;rintro D σ H ⟨G,e,mQ,h⟩;exact⟨G,e,mQ,(i3 h).uM (λw e1 h G1 a xs H1 r1 s1 q1 q2 q3 q4 p1=>h G1 _ H1 (r1.zei q1 q2 q3 q4 p1) s1) λ_ _ h=>h⟩
def y9h(n)(hp:Ϟ (qX X.je X.w) X.A X.dt X.xe)(hc:DT Z X EE c dc)(hb:m7 Z X EE uG s1):DS Z X EE (.While c uG [] gw) (bw dc s1 n):=by
 refine PS.k8 (y8z hp hc hb) ?_;rintro D σ H ⟨G,e,mQ,h⟩;refine⟨λm aJ H'=>∃G' e',pZ X.K Z G' aJ H' e'/\ao G G'/\bC X.K Z EE D G (bw dc s1 m e'),⟨n,G,e,mQ,.t8 _,h⟩,?_⟩
 rintro m uO H1 ⟨G1,e1,r1,q1,h⟩;cases m with
 |Yf=>exact h.oa
 |Ye m=>
  refine⟨G1,e1,r1,(i3 (σ:=uO) h).uM (λx e2 h G2 H2 r2 q2=>?_) λ_ _ h=>XH.kZ q1 h⟩
  cases x with
  |false=>exact h G2 uO H2 r2 (q1.kZ q2)
  |true=>
   refine⟨λaJ H'=>∃G' e',pZ X.K Z G' aJ H' e'/\ao G G'/\bC X.K Z EE D G (bw dc s1 m e'),λaJ H' q=>⟨m,w4x _,q⟩,⟨G2,e2,r2,?_⟩⟩
   have sg:=q1.kZ q2;have h:bC X.K Z EE D G (match s1 e2 with|.nx e'=>bw dc s1 m e'|.ct e'=>bw dc s1 m e'|.bk e'=>.nx e'|.rt s e'=>.rt s e'|.ex c e'=>.ex c e'|.no=>.no):=h;cases q:s1 e2 with
   |nx e'=>rw[q]at h;exact λG' aJ H' r s=>⟨G',e',r,sg.kZ s,h⟩
   |ct e'=>rw[q]at h;exact λG' aJ H' r s=>⟨G',e',r,sg.kZ s,h⟩
   |bk e'=>rw[q]at h;exact λG' aJ H' r s=>h G' aJ H' r (sg.kZ s)
   |rt w e'=>rw[q]at h;exact λG' aJ v H' r s=>h G' aJ v H' r (sg.kZ s)
   |ex c e'=>rw[q]at h;exact λG' aJ H' r s=>h G' aJ H' r (sg.kZ s)
   |no=>rw[q]at h;exact h
def y9i{x:V}(r1:pZ K Z G1 σ H e1)(q1:ao G G1)(p:qk K G1 w x)(h:bC K Z EE D G (cV i s1 (w::ws) e1))
  (hN:∀G' aJ H' e',pZ K Z G' aJ H' e'->ao G G'->bC K Z EE D G (cV i s1 ws e')->N aJ H'):bL i x σ H λlR H2=>fA K Z EE s1 {D with nx:=N,ct:=N,bk:=D.nx} lR H2:=by
 refine⟨G1,e1.rk i (.fr w),r1.rk p,?_⟩;unfold cV at h;cases q:s1 (e1.rk i (.fr w))with
 |nx e'=>rw[q]at h;exact λG' aJ H' r s=>hN G' aJ H' e' r (q1.kZ s) h
 |ct e'=>rw[q]at h;exact λG' aJ H' r s=>hN G' aJ H' e' r (q1.kZ s) h
 |bk e'=>rw[q]at h;exact λG' aJ H' r s=>h G' aJ H' r (q1.kZ s)
 |rt w e'=>rw[q]at h;exact λG' aJ v H' r s=>h G' aJ v H' r (q1.kZ s)
 |ex c e'=>rw[q]at h;exact λG' aJ H' r s=>h G' aJ H' r (q1.kZ s)
 |no=>rw[q]at h;exact h
def AI(K:Fg)(tl:TE):TI:=λσ H R=>tl σ H λx H1=>∃a,x=.dr a/\(((∃xs,bD K H1 a xs)/\R (yh K a) H1)\/((∃xs,bK K H1 a xs)/\R (yi K a) H1))
def ED(hl:PE X l tl):PI X tg l (AI X.K tl):=by
 intro dN s σ H R I h;refine bq (hl dN s σ H _ I h) λv s1 ⟨x,H1,I1,r1,q1⟩=>?_
 let⟨a,e,q⟩:=q1;subst e;cases r1;rcases q with⟨⟨xs,hq⟩,q⟩|⟨⟨xs,hq⟩,q⟩
 .let⟨aw,rv,p,hz⟩:=I1.xm hq;refine Δ p.zD ?_;refine⟨s1.bj.f'.dS,[s1.bj.f'.dS],_,_,H1,rfl,I1.Yc (t':=s1.tK) λb o e=>g0.w6 _ e,zbS a _,⟨_,g0.A2 _ rfl,rfl,rfl⟩,λb hb=>?_,q⟩
  have e:b=s1.bj.f'.dS:=by simpa using hb
  subst e;exact I1.jR (w0f _) (I1.aQ.xK (w0f _))
 .let⟨aw,rv,p,hz⟩:=I1.Tc hq;refine ϒ (show s1.bj.YD a aw.l8 from p) ?_;refine⟨s1.bj.f'.dS,[s1.bj.f'.dS],_,_,H1,rfl,I1.Yc (t':=s1.tK) λb o e=>g0.w6 _ e,zbC a _,⟨_,g0.A2 _ rfl,rfl,rfl⟩,λb hb=>?_,q⟩
  have e:b=s1.bj.f'.dS:=by simpa using hb
  subst e;exact I1.jR (w0f _) (I1.aQ.xK (w0f _))
def OB{α:Type}{ws:ai α}{k:aO}{w:α}(h:ws[k]?=ab w):ws.xO k=w::ws.xO (k+1):=by
 let⟨hk,rfl⟩:=w0b.mp h;exact w2z hk
def QO(r1:pZ K Z G1 σ H1 e1)(rp:ah K G1 ws xs)(h:bC K Z EE D G1 (cV i s1 ws e1))(SQ:Hp->Prop)(tT:∀G' H',ao G1 G'->ao G' H'->SQ H'):
  ∃Pv:aO->St->Hp->Prop,Pv 0 σ H1/\(∀j σ H,j<=xs.aj->Pv j σ H->SQ H)/\(∀(j:aO) x σ H,xs[j]?=ab x->Pv j σ H->bL i x σ H λlR H2=>fA K Z EE s1 {D with nx:=Pv (j+1),ct:=Pv (j+1),bk:=D.nx} lR H2)/\∀σ H,Pv xs.aj σ H->D.nx σ H:=by
 refine⟨λj aJ H'=>∃G' e',pZ K Z G' aJ H' e'/\ao G1 G'/\bC K Z EE D G1 (cV i s1 (ws.xO j) e'),⟨G1,e1,r1,.t8 _,h⟩,?_,?_,?_⟩
 .rintro j aJ H' _ ⟨G',e',r',s',_⟩;exact tT G' H' s' r'.p9
 .rintro j x aJ H' hx ⟨G',e',r',s',h⟩;let⟨w,hw,pw⟩:=rp.jc hx;rw[OB hw]at h;exact y9i r' s' (qk.k8 s' w pw) h λeB fY l4 u7 nT iT qz=>⟨eB,u7,nT,iT,qz⟩
 .rintro aJ H' ⟨G',e',r',s',h⟩;rw[rp.aj,w3c]at h;exact h G' aJ H' r' s'
def Q0p(i:aO)(hN:X.N.xZ)(hp:Ϟ (qX X.je X.w) X.A X.dt X.xe)(hc:X.MT=true)(hl:DE Z X EE e d)(hb:m7 Z X EE uG s1)
  (hi:autoParam (X.N[i]?=ab x) jJ)(hx:autoParam (YU X.dt.fv x) jM)(hf:autoParam (X.fn x=true\/X.dt.fv.qW.g6 x=ab .local) jL)(hs:∀x,ZR e X.dt x=vX x:=by intro _;rfl):
  DS Z X EE (.For (.oh x Yw) e uG [] gw) (jD i d s1):=by
 refine PS.k8 (EF hp hc (ED hl) (uC i hN hi hx hf) hb hs) ?_;rintro D σ H ⟨G,e,mQ,h⟩;refine⟨G,e,mQ,(i3 h).uM (λw e1 h G1 v1 H1 r1 q1 p1=>?_) λ_ _ h=>h⟩
 have ZT:=λws xs (rp:ah X.K G1 ws xs) (h:bC X.K Z EE D G (cV i s1 ws e1))=>QO (i:=i) (D:=D) r1 rp (bC.kZ q1 h)
 cases w with
 |gs ws=>
  let⟨a,xs,rfl,hq,rp⟩:=p1;refine⟨a,rfl,.lb ⟨⟨xs,r1.p9.gs hq⟩,?_⟩⟩;let⟨Pv,h0,h1,h2,h3⟩:=ZT ws xs rp h (λH'=>bK X.K H' a xs) (λG' H' s s'=>ao.gs s' (ao.gs s hq))
  exact z3z Pv h0 h1 h2 h3
 |dI ws=>
  let⟨a,xs,rfl,hq,rp⟩:=p1;refine⟨a,rfl,.jd ⟨⟨xs,r1.p9.p7 hq⟩,?_⟩⟩;let⟨Pv,h0,h1,h2,h3⟩:=ZT ws xs rp h (λH'=>bD X.K H' a xs) (λG' H' s s'=>ao.p7 s' (ao.p7 s hq))
  exact y80 Pv h0 h1 h2 h3
 |_=>exact h.oa
def N5:ah K G (bu lo hi) ((ai.CC (hi-lo).uh).a6 λk=>V.aT (lo+(k:aO))):=by
 unfold bu;generalize ai.CC (hi-lo).uh=l
 induction l with
 |so=>rfl
 |qT k l ih=>exact⟨_,_,rfl,rfl,ih⟩
def QP(r1:pZ K Z G1 σ H1 e1)(h:bC K Z EE D G1 (cV i s1 (bu lo hi) e1)):
  ∃W:aO->aO->St->Hp->Prop,(∃m,W 0 m σ H1)/\∀j m σ H,W j m σ H ->
   ((pN lo (hi-lo).uh).stop j H/\D.nx σ H)\/((pN lo (hi-lo).uh).go j H/\∃N:St->Hp->Prop,(∀aJ H',N aJ H'->∃m',m'<m/\W (j+1) m' aJ H')/\∀x H',(pN lo (hi-lo).uh).lX j H x H'->bL i x σ H' λlR H2=>fA K Z EE s1 {D with nx:=N,ct:=N,bk:=D.nx} lR H2):=by
 let⟨Pv,h0,h1,h2,h3⟩:=QO (i:=i) (D:=D) r1 (N5 (lo:=lo) (hi:=hi)) h (λ_=>j') (λ_ _ _ _=>trivial)
 refine zaY Pv h0 (λj aJ H' hj p=>h2 j _ aJ H' ?_ p) (λaJ H' p=>h3 aJ H' (by simpa using p))
 simp[hj]
def z4o(i:aO){p p1 p2:vW}(hN:X.N.xZ)(hp:Ϟ (qX X.je X.w) X.A X.dt X.xe)(hc:X.MT=true)(hm:X.mg "range"=none)(ha:DA Z X EE [a] dA)(hb:m7 Z X EE uG s1)
  (hi:autoParam (X.N[i]?=ab x) jJ)(hx:autoParam (YU X.dt.fv x) jM)(hf:autoParam (X.fn x=true\/X.dt.fv.qW.g6 x=ab .local) jL)(hg:autoParam (Gl X "range") jJ)(oz:autoParam (pg [a] X.dt=[(false,eval a X.dt)]) jJ)(hs:∀x,ZR (.wO (.oh "range" p1) [a] [] p2) X.dt x=vX x:=by intro _;rfl):
  DS Z X EE (.For (.oh x p) (.wO (.oh "range" p1) [a] [] p2) uG [] gw) (cJ i dG dA s1):=by
 refine PS.k8 (EF hp hc (Jc hg hm ha oz) (uC i hN hi hx hf) hb hs) ?_;rintro D σ H ⟨G,e,mQ,h⟩;refine⟨G,e,mQ,(i3 h).uM (λws e1 h G1 vs H1 r1 q1 p1=>?_) λ_ _ h=>h⟩
 unfold dG at h;split at h
 .rename_i hh;split at hh
  .rename_i j;split at hh
   .rename_i hj;cases hh;let⟨y,r,rfl,e1,e2⟩:=p1;cases(show y=V.aT j from e1);cases(show r=[]from e2);refine⟨j,rfl,(rE hj).1,(rE hj).2,?_⟩;have z:=QP (i:=i) (D:=D) r1 (bC.kZ q1 h)
    rwa [a7.sub_zero]at z
   .cases hh
  .cases hh
 .exact h.oa
def z4p(i:aO){p p1 p2:vW}(hN:X.N.xZ)(hp:Ϟ (qX X.je X.w) X.A X.dt X.xe)(hc:X.MT=true)(hm:X.mg "range"=none)(ha:DA Z X EE [a,c] dA)(hb:m7 Z X EE uG s1)
  (hi:autoParam (X.N[i]?=ab x) jJ)(hx:autoParam (YU X.dt.fv x) jM)(hf:autoParam (X.fn x=true\/X.dt.fv.qW.g6 x=ab .local) jL)(hg:autoParam (Gl X "range") jJ)(oz:autoParam (pg [a,c] X.dt=[(false,eval a X.dt),(false,eval c X.dt)]) jJ)(gT:autoParam (pg [c] X.dt=[(false,eval c X.dt)]) jJ)(hs:∀x,ZR (.wO (.oh "range" p1) [a,c] [] p2) X.dt x=vX x:=by intro _;rfl):
  DS Z X EE (.For (.oh x p) (.wO (.oh "range" p1) [a,c] [] p2) uG [] gw) (cJ i xJ dA s1):=by
 refine PS.k8 (EF hp hc (za8 hg hm ha oz gT) (uC i hN hi hx hf) hb hs) ?_;rintro D σ H ⟨G,e,mQ,h⟩;refine⟨G,e,mQ,(i3 h).uM (λws e1 h G1 vs H1 r1 q1 p1=>?_) λ_ _ h=>h⟩
 unfold xJ at h;split at h
 .rename_i hh;split at hh
  .rename_i j k;split at hh
   .rename_i hj;cases hh;let⟨y,r,rfl,e1,y2,r2,rfl,e2,e3⟩:=p1;cases(show y=V.aT j from e1);cases(show y2=V.aT k from e2);cases(show r2=[]from e3);exact⟨j,k,rfl,⟨(rE hj.1).1,(rE hj.1).2,(rE hj.2).1,(rE hj.2).2⟩,QP (i:=i) (D:=D) r1 (bC.kZ q1 h)⟩
   .cases hh
  .cases hh
 .exact h.oa
end
open PyProof.Rows (envOfC)
inductive FR where
 |ok (s:S)|ex (c:d0)|no
def oR(K:Fg)(F:ai W->FR):Sp:=λvs H Q E=>∃G ws,ao G H/\ah K G ws vs/\match F ws with
 |.ok s=>∀G' H' v,aK G H G' H'->c7 K ⟨H,G,[]⟩ G' H' s (ab v)->Q v H'
 |.ex c=>∀H',ao H H'->E c none H'
 |.no=>vk
def SR.fn:SR->FR
 |.nx _=>.ok (.fr .aB)
 |.rt s _=>.ok s
 |.ex c _=>.ex c
 |_=>.no
def Z0(n:aO)(ws:ai W):ai S:=ws.a6 .fr++ai.w8 (n-ws.aj) .no
def PU{N:ai et}(s:ao G H)(r:ah K G ws vs):pZ K ⟨H,G,[]⟩ G (L2._l N vs) H (Z0 N.aj ws):=by
 have hl:=r.aj
 have nC:∀(i:aO)(s:S),(Z0 N.aj ws)[i]?=ab s->(s=.no)\/∃w,s=.fr w/\ws[i]?=ab w:=λi s h=>by
  unfold Z0 at h;rw[ai.getElem?_append]at h;split at h
  .rw[w0s]at h;let⟨w,h1,rfl⟩:=w0j.mp h;exact .lb ⟨w,rfl,h1⟩
  .rw[w4o]at h;split at h
   .cases h;exact .jd rfl
   .cases h
 refine⟨s,λi t h=>?_,?_,λi j b b' w1 w2 a h1 h2 _ _=>?_,λa o h _=>h,(λa h=>nomatch h),λa _=>rfl⟩
 .rcases nC i t h with rfl|⟨w,rfl,h1⟩
  .trivial
  .let⟨v,h2,h3⟩:=r.Ff h1;refine⟨v,?_,h3⟩;have hi:i<vs.aj:=(w0b.mp h2).1;unfold L2._l;rw[w2d (by simpa using hi),w0s,h2];rfl
 .unfold Z0 L2._l;simp[hl]
 .rcases nC i _ h1 with z|⟨w,z,_⟩<;>cases z
theorem pZ.gS(r:pZ K ⟨H,G,[]⟩ G' σ H' e)(s:ao G G'):aK G H G' H':=
 ⟨λa o h=>r.VB a o h (by simp),s,r.p9,λa h=>r.gen a h⟩
def RQ{F:ai W->FR}{Q:VK}{E:XK}(h:oR K F vs H Q E):∃G ws,F ws≠.no/\ah K G ws vs:=by
 let⟨G,ws,_,r,h⟩:=h;refine⟨G,ws,λz=>?_,r⟩
 rw[z]at h;exact h
def z4q{F:ai W->FR}(he:r.fn=F ws)(h:match F ws with
  |.ok s=>∀G' H' v,aK G H G' H'->c7 K ⟨H,G,[]⟩ G' H' s (ab v)->Q v H'
  |.ex c=>∀H',ao H H'->E c none H'
  |.no=>vk):bC K ⟨H,G,[]⟩ (λ_=>E) {nx:=λ_ H'=>Q .aB H',rt:=Q} G r:=by
 rw[<- he]at h;cases r with
 |nx e=>exact λG' aJ H' r s=>h G' H' .aB (r.gS s) ⟨.aB,rfl,rfl⟩
 |rt s e=>exact λG' aJ v H' r q p=>h G' H' v (r.gS q) p
 |ex c e=>exact λG' aJ H' r s=>h H' (r.gS s).hh
 |bk e=>exact h.oa
 |ct e=>exact h.oa
 |no=>exact h.oa
def av(F:ai W->FR)(dA:iw (ai W)):iw W:=λe=>(dA e).r7 λws e1=>match F ws with
 |.ok (.fr w)=>.ok w e1
 |.ok (.ku none ws')=>.ok (.dI ws') e1
 |.ok (.aV kvs)=>.ok (.aV kvs) e1
 |.ok (.dW us ws vs)=>.ok (.gs (us++.dI ws::vs)) e1
 |.ok (.x (.vd w))=>.ok w e1
 |.ok (.x (.tn us cb))=>.ok (.gs (us++[.dI (cb.a6 .dI)])) e1
 |.ex c=>.ex c e1
 |_=>.no
section
variable{X:Cx}{e:p6}{p:vW}{k:aO}{ps:ai et}{F:ai W->FR}
def PV(r1:pZ K Z G1 σ H1 e1)(g:aK G1 H1 G' H')(q:c7 K ⟨H1,G1,[]⟩ G' H' s (ab v))(hs:s=.fr w\/∃ws,s=.ku none ws/\w=.dI ws):
  ∃eB,pZ K Z eB σ H' e1/\ao G1 eB/\qk K eB w v:=by
 rcases hs with rfl|⟨ws,rfl,rfl⟩
 .let⟨u,h1,h2⟩:=q;cases h1;exact⟨G',r1.zR g,g.gg,h2⟩
 .let⟨a,xs,h1,h2,h3,h4,h5⟩:=q;cases h1;have hn:H1 a=none:=h4;let⟨sg,rg⟩:=(r1.zR g).ò h2 h3 (pF r1 hn) (yG r1 hn);exact⟨_,rg,g.gg.kZ sg,⟨a,xs,rfl,bD.of bN,ah.k8 sg ws h5⟩⟩
def za6(r1:pZ K Z G1 σ H1 e1)(g:aK G1 H1 G' H')(q:c7 K ⟨H1,G1,[]⟩ G' H' (.aV kvs) (ab v)):
  ∃eB,pZ K Z eB σ H' e1/\ao G1 eB/\qk K eB (.aV kvs) v:=by
 let⟨a,h1,h2,h3,h4⟩:=q;cases h1;have hn:H1 a=none:=h4;have r:=r1.zR g;have sg:ao G' (oL G' a (dO kvs)):=vz h3 _;refine⟨oL G' a (dO kvs),⟨λc o z=>?_,λj s z=>?_,r.uN,r.kq,r.VB,r.kz,λc z=>?_⟩,g.gg.kZ sg,⟨a,rfl,bN⟩⟩
 .by_cases hc:c=a
  .grind [bN]
  .rw[aN hc]at z;exact r.p9 c o z
 .have y:=r.xM j s z;have y1:=r1.xM j s z;cases s with
  |no=>trivial
  |fr w=>
   let⟨u,y1,y2⟩:=y;exact⟨u,y1,qk.k8 sg w y2⟩
  |ku b2 w2=>
   let⟨c,ys,x1,x2,x3,x4,x5⟩:=y;refine⟨c,ys,x1,x2,?_,x4,ah.k8 sg w2 x5⟩;rw[aN (eR x2 h2 (λz=>nS rfl z.symm))];exact x3
  |aV kv=>
   let⟨c,x1,x2,x3,x4⟩:=y;let⟨c',w1,w2,_⟩:=y1;rw[x1]at w1;cases w1;refine⟨c,x1,x2,?_,x4⟩;rw[aN (gU w2 hn)];exact x3
  |dW us w2 vs=>
   let⟨t,l,o,n6,ys,zs,x1,x2,x3,x4,x5,x6,x7,zec⟩:=y;refine⟨t,l,o,n6,ys,zs,x1,sg _ _ x2,x3,?_,x5,ah.k8 sg us x6,ah.k8 sg w2 x7,ah.k8 sg vs zec⟩;rw[aN (eR x3 h2 (λz=>nS rfl z.symm))];exact x4
  |YL cb=>exact b8.yy y sg λl o ys k1 k2 k3=>⟨k1,by rw[aN (eR k1 h2 (λz=>nS rfl z.symm))];exact k2,k3⟩
  |x k=>exact m9.yy y sg λl o ys k1 k2 k3=>⟨k1,by rw[aN (eR k1 h2 (λz=>nS rfl z.symm))];exact k2,k3⟩
  |dw sh ks ws=>
   let⟨c,kv,ka,x1,x2,x3,x4,x5,x6,x7⟩:=y;let⟨c',kv',ka',w1,w2,_⟩:=y1;rw[x1]at w1;cases w1;refine⟨c,kv,ka,x1,x2,?_,x4,x5,x6.k8 sg,x7.yy sg λ_ _ _ z=>z⟩
   rw[aN (gU w2 hn)];exact x3
 .by_cases hc:c=a
  .grind [pF]
  .rw[aN hc];exact r.gen c z
def za7{vs:ai W}(r1:pZ K Z G1 σ H1 e1)(g:aK G1 H1 G' H')(q:c7 K ⟨H1,G1,[]⟩ G' H' (.dW us ws vs) (ab v)):
  ∃eB,pZ K Z eB σ H' e1/\ao G1 eB/\qk K eB (.gs (us++.dI ws::vs)) v:=by
 let⟨t,l,o,xs,ys,zs,h1,h2,h3,h4,h5,h6,h7,h8⟩:=q;cases h1;have hn:H1 l=none:=h5;have r:=r1.zR g;have sg:ao G' (oL G' l (.cK o (.dI ys))):=vz h4 _;refine⟨oL G' l (.cK o (.dI ys)),⟨λc u z=>?_,λj s z=>?_,r.uN,r.kq,r.VB,r.kz,λc z=>?_⟩,g.gg.kZ sg,⟨t,_,rfl,bK.of (sg _ _ h2),(ah.k8 sg us h6).Wi ⟨.dr l,zs,rfl,⟨l,ys,rfl,.jd (.lb ⟨o,bN⟩),ah.k8 sg ws h7⟩,ah.k8 sg vs h8⟩⟩⟩
 .by_cases hc:c=l
  .grind [bN]
  .rw[aN hc]at z;exact r.p9 c u z
 .have y:=r.xM j s z;have y1:=r1.xM j s z;cases s with
  |no=>trivial
  |fr w=>
   let⟨u,y1,y2⟩:=y;exact⟨u,y1,qk.k8 sg w y2⟩
  |ku b2 w2=>
   let⟨c,ys,x1,x2,x3,x4,x5⟩:=y;refine⟨c,ys,x1,x2,?_,x4,ah.k8 sg w2 x5⟩;rw[aN (eR x2 h3 (λz=>nomatch z))];exact x3
  |aV kv=>
   let⟨c,x1,x2,x3,x4⟩:=y;refine⟨c,x1,x2,?_,x4⟩;rw[aN (eR x2 h3 (nS rfl))];exact x3
  |dW us w2 vs=>
   let⟨t1,l1,o1,E2,ys1,zs1,w1,WY,w3,zdT,zdU,zdV,w7,zdW⟩:=y1;have Er:=g.gg.kZ sg;refine⟨t1,l1,o1,E2,ys1,zs1,w1,Er _ _ WY,g.hh _ _ w3,?_,zdU,ah.k8 Er us zdV,ah.k8 Er w2 w7,ah.k8 Er vs zdW⟩;rw[aN (gU w3 hn),g.vd l1 (by rw[w3];simp)];exact zdT
  |YL cb=>exact b8.yy y1 (g.gg.kZ sg) λl1 o ys k1 k2 k3=>⟨g.hh _ _ k1,by rw[aN (gU k1 hn),g.vd l1 (by rw[k1];simp)];exact k2,k3⟩
  |x k=>exact m9.yy y1 (g.gg.kZ sg) λl1 o ys k1 k2 k3=>⟨g.hh _ _ k1,by rw[aN (gU k1 hn),g.vd l1 (by rw[k1];simp)];exact k2,k3⟩
  |dw sh ks ws=>exact gH.yy y1 (g.gg.kZ sg) λl1 o ys k1 k2 k3=>⟨g.hh _ _ k1,by rw[aN (gU k1 hn),g.vd l1 (by rw[k1];simp)];exact k2,k3⟩
 .by_cases hc:c=l
  .grind [pF]
  .rw[aN hc];exact r.gen c z
theorem dy.A1:∀{ls:ai fy}{cb:ai (ai W)},dy K Z G H ls cb->∀l∈ls,∃o ys,gj Z G H l o ys
 |[],_,_,_,hl=>nomatch hl
 |l::ls,ws::cb,⟨⟨o,ys,h1,_⟩,h⟩,c,hc=>by
  rcases w0i.mp hc with rfl|hc
  .exact⟨o,ys,h1⟩
  .exact h.A1 c hc
 |_::_,[],h,_,_=>h.oa
theorem dy.vO(sg:ao G G'):∀{ls:ai fy}{cb:ai (ai W)},(∀l∈ls,G' l=H l)->dy K Z G H ls cb->ah K G' (cb.a6 W.dI) (ls.a6 V.dr)
 |[],[],_,_=>rfl
 |l::ls,ws::cb,hf,⟨⟨o,ys,h1,h4⟩,h⟩=>⟨.dr l,ls.a6 V.dr,rfl,⟨l,ys,rfl,.jd (.lb ⟨o,by rw[hf l (by simp)];exact h1.1⟩),ah.k8 sg ws h4⟩,h.vO sg λc hc=>hf c (by simp[hc])⟩
 |[],_::_,_,h=>h.oa
 |_::_,[],_,h=>h.oa
def pZ.zd0(r1:pZ K Z G1 σ H1 e1)(g:aK G1 H1 G' H')(As:ai fy) [DecidablePred (·∈As)](hA:∀c∈As,(∃o ys,H' c=ab (.cK o (.dI ys)))/\G' c=none/\H1 c=none):
  ao G' (λc=>if c∈As then H' c else G' c)/\pZ K Z (λc=>if c∈As then H' c else G' c) σ H' e1:=by
 have sg:ao G' (λc=>if c∈As then H' c else G' c):=λc o z=>by
  grind
 refine⟨sg,r1.zR ⟨g.hh,g.gg.kZ sg,λc o z=>?_,λc hc=>?_⟩⟩
 .have z:(if c∈As then H' c else G' c)=ab o:=z;split at z
  .exact z
  .exact g.p9 c o z
 .show(if c∈As then H' c else G' c)=G1 c;rw[r5 (λm=>hc (hA c m).2.2)];exact g.vd c hc
def y9j{G1 H1 H':Hp}{e1:ai S}{us:ai W}{cb:ai (ai W)}{v:V}(r1:pZ K Z G1 σ H1 e1)(g:aK G1 H1 G' H')(q:c7 K ⟨H1,G1,[]⟩ G' H' (.x (.tn us cb)) (ab v)):
  ∃eB,pZ K Z eB σ H' e1/\ao G1 eB/\qk K eB (.gs (us++[.dI (cb.a6 .dI)])) v:=by
 classical
 let⟨t,l,o,ls,xs,h1,h2,⟨h3,h4,h5⟩,⟨h6,h7⟩,h8,h9⟩:=q;cases h1
 let⟨sg,r2⟩:=r1.zd0 g (l::ls) λc hc=>by
  rcases w0i.mp hc with rfl|hc
  .exact⟨⟨o,_,h3⟩,h4,h5⟩
  .let⟨o',ys,k1,k2,k3⟩:=h9.A1 c hc;exact⟨⟨o',ys,k1⟩,k2,k3⟩
 refine⟨_,r2,g.gg.kZ sg,t,_,rfl,bK.of (sg _ _ h2),(ah.k8 sg us h8).Wi ⟨.dr l,[],rfl,⟨l,_,rfl,.jd (.lb ⟨o,?_⟩),h9.vO sg λc hc=>nZ (w0p _ hc)⟩,rfl⟩⟩
 show(if l∈l::ls then H' l else G' l)=_;rw[nZ (w1b ..)];exact h3
theorem Lx(r1:pZ K Z G1 σ H1 e1)(s1:ao G G1)(h:XH K Z EE σ G c e1):∀H',ao H1 H'->EE σ c none H':=λH' sh=>
 h G1 H' (r1.zR ⟨sh,.t8 _,r1.p9.kZ sh,λ_ _=>rfl⟩) s1
def Q0q(C:sv X.je X.w X.K X.mg X.k_ k x ps (oR X.K F))(hr:br k X.A)(hx:eW (fe X.je X.w) X EE)(ha:DA Z X EE (e::es) dA)(hg:autoParam (Gl X x) jJ)
  (jT:autoParam ((x==("__debug__":et))=false) jK)(he:autoParam (pg (e::es) X.dt=(false,eval e X.dt)::pg es X.dt) jJ)(dP:autoParam ((y0 gw (pg es X.dt)).uJ (·.1)=false) jJ):
  DE Z X EE (.wO (.oh x p) (e::es) [] gw) (av F dA):=by
 refine PE.k8 (K_ C hr hx ha hg jT he dP) ?_;rintro σ H Q ⟨G,e,mQ,h⟩;simp only[av,R.ar]at h;refine⟨G,e,mQ,h.uM (λws e1 h G1 vs H1 r1 s1 p1=>?_) λ_ _ h=>h⟩
 refine⟨G1,ws,r1.p9,by rw[w1q];exact p1,?_⟩;cases q:F ws with
 |ok s=>
  rw[q]at h;intro G' H' v g sl;cases s with
  |no=>exact h.oa
  |fr w=>
   let⟨eB,r2,s2,p2⟩:=PV r1 g sl (.jd rfl);exact(show ∀G' v H',_->_->qk X.K G' w v->Q v H' from h) eB v H' r2 (s1.kZ s2) p2
  |ku b ws'=>
   cases b with
   |ab _=>exact h.oa
   |none=>
    let⟨eB,r2,s2,p2⟩:=PV r1 g sl (.lb ⟨ws',rfl,rfl⟩);exact(show ∀G' v H',_->_->qk X.K G' (.dI ws') v->Q v H' from h) eB v H' r2 (s1.kZ s2) p2
  |aV kvs=>
   let⟨eB,r2,s2,p2⟩:=za6 r1 g sl;exact(show ∀G' v H',_->_->qk X.K G' (.aV kvs) v->Q v H' from h) eB v H' r2 (s1.kZ s2) p2
  |dW us ws' NV=>
   let⟨eB,r2,s2,p2⟩:=za7 r1 g sl;exact(show ∀G' v H',_->_->qk X.K G' (.gs (us++.dI ws'::NV)) v->Q v H' from h) eB v H' r2 (s1.kZ s2) p2
  |YL _=>exact h.oa
  |x k=>
   cases k with
   |vd w=>
    let⟨u,h1,h2⟩:=sl;cases h1;exact(show ∀G' v H',_->_->qk X.K G' w v->Q v H' from h) G' _ H' (r1.zR g) (s1.kZ g.gg) (dR.yW _ h2)
   |tn us cb=>
    let⟨eB,r2,s2,p2⟩:=y9j r1 g sl;exact(show ∀G' v H',_->_->qk X.K G' (.gs (us++[.dI (cb.a6 .dI)])) v->Q v H' from h) eB v H' r2 (s1.kZ s2) p2
   |_=>exact h.oa
  |dw _ _ _=>exact h.oa
 |ex c=>
  rw[q]at h;exact Lx r1 s1 h
 |no=>rw[q]at h;exact h.oa
end
end D
namespace L2
open PySem PySem.Spec PyProof.Rows
section
variable{X:Cx}{JM Wk x9:p6}{zS:ai p6}{fv:zF}{gw:vW}{wi:TI}{g:TG}{tc:TT}{te:TE}
def y9k{Nl Nf:ai et}{js:ai aO}{y:et}{py iy:vW}{gy:TG}(hc:X.MT=true)(hi:PI X Wk x9 wi)
  (hk:fv.zc=.ZK)(d8:∀y∈fv.qW,y.2≠.uL)(nG:∀x∈fv.qW,x.2=.local->fv.qW.g6 x.1=ab .local)
  (cL:∀x∈fv.qW,x.2=.tD->X.dt.zj x.1=ab .uL\/X.dt.zj x.1=ab .tD)
  (hj:∀(i j:aO) y,Nf[i]?=ab y->js[i]?=ab j->X.N[j]?=ab y)(wZ:js.aj=Nf.aj)
  (nu:∀y∈Nf,(y,Wn.tD)∈fv.qW/\kD X.dt.fv y/\X.dt.zj y≠ab .local)
  (jg:∀y∈Nf,(Β fv X.dt).qW.g6 y=ab .uL\/(Β fv X.dt).qW.g6 y=ab .tD)
  (hg:∀cl C ay aF ex,PG (X.cp (Nl++Nf) fv cl C ay aF ex) Wk g)(ht:∀cl C ay aF ex,sy (X.cp (Nl++Nf) fv cl C ay aF ex) zS tc)(he:∀cl C ay aF ex,PE (X.cp (Nl++Nf) fv cl C ay aF ex) JM te)
  (FY:PG X (.oh y py) gy)(qI:Zk (.Zm JM [⟨Wk,x9,zS,0⟩] fv gw) (ab (.oh y py)) iy.Yd X.dt=vX true)
  (hs:∀x,ZR x9 X.dt x=vX x:=by intro _;rfl):
  PS X (.Zu [.oh y py] (.Zm JM [⟨Wk,x9,zS,0⟩] fv gw) iy) (rX (i6 wi Nl.aj js g tc te) gy):=by
 intro dN s σ H D I h;let⟨cl,e5,fh,mW⟩:=Bs (fv:=fv) (dt:=X.dt) λx hx hf=>I.ok.A' x.1 (cL x hx hf)
 rw[exec_Assign_Name_used _ _ _ _ qI];refine ny (Ķ (ny ?_));show oP _ _ (do let _ <- comprehension _ _ _ _ _ _ _ _) _ _ _;refine ny (zd4 (Q:=λ_ iT=>oP (qX X.je X.w) X.A (vX ()) (λ_ s3=>oP (qX X.je X.w) X.A (vX Flow.next) (SP X dN D) X.xe s3) X.xe iT) (use:=ab (_b (.oh y py) X.dt)) rfl hs e5 hk nG (bq (hi dN s σ H _ I h) λv s1 h1=>bq h1 λC9 s2 h2=>?_))
 let⟨it,fp,tn,J,H2,e,I2,T,iU,f2,rd⟩:=h2;subst e;refine Γ (Ÿ d8 (by intro y hy;simp at hy) (λdU d9 fk=>?_) hk)
 dsimp only at d9 fk |-
 have vU:(s2.bj.tM {o4:=.ke "list", xg:=none,pJ:=.p7 ([]:ai d0).l8}).f'.dS=s2.bj.f'.dS+1:=g0.ZN ..;rw[vU]at d9 fk |-
 have fD:H2 s2.bj.f'.dS=none:=I2.aQ.xK (w0f _);let⟨W,⟨m0,w0⟩,YT⟩:=rd s2.bj.f'.dS fD;have pB:=T.Wd 0 s2.bj iU;have IS:=PR (Nl:=Nl) (Nf:=Nf) (js:=js) (cl:=cl) (tk:=s2.tK+([]:ai (et×d0)).aj) I2 f2 pB hk d8 fh mW hj wZ nu jg d9 fk
 have J0:∀b u,s2.bj.ik b=ab u->dU.ik b=ab u:=λb u q=>by
  have bZ:=g0.xX q;exact(fk.2 b (w0t (w1s bZ))).kZ (g0.w6 _ (g0.w6 _ q))
 have B9:tn 0 dU:=T.xW 0 s2.bj dU iU λb hb o q=>J0 b o q
 have GV:∀b∈fp,oL H2 s2.bj.f'.dS (.dI []) b=none:=λb hb=>by
  let⟨o,q,_⟩:=pB b hb;rw[aN (w0t (g0.xX q))];exact(f2 b hb).1
 have j9:∀{H':Hp},(∀b∈fp,H' b=none)->∀b∈fp,eU (X.cp (Nl++Nf) fv cl (s2.bj.f'.dS+1) {s2 with bj:=s2.bj.tM {o4:=.ke "list", xg:=none,pJ:=.p7 ([]:ai d0).l8}} (oL H2 s2.bj.f'.dS (.dI [])) fp) [] H' b:=λhn b hb=>by
  refine⟨hn b hb,(IS.ok.CN b hb).1,IS.ok.tP b hb,.jd hb,(IS.ok.CN b hb).2,λp hp=>(by cases hp)⟩
 have ϧ:∀s4:p5,s4={s2 with bj:=dU,tK:=s2.tK+([]:ai (et×d0)).aj} ->
   Zn (qX X.je X.w) X.A (.Ŏ (.Zm JM [⟨Wk,x9,zS,0⟩] fv gw) 0 (.dr it) (.dr s2.bj.f'.dS) (ĉ fv cl (s2.bj.f'.dS+1) X.dt))
    (ŏ (qX X.je X.w) X.A X.xe (ab (_b (.oh y py) X.dt)) (λ_ iT=>oP (qX X.je X.w) X.A (vX ()) (λ_ s3=>oP (qX X.je X.w) X.A (vX Flow.next) (SP X dN D) X.xe s3) X.xe iT) (.dr s2.bj.f'.dS) (s2.bj.f'.dS+1)) s4:=by
  rintro s4 rfl;refine OW (λn s'=>∃i H',j3 (X.cp (Nl++Nf) fv cl (s2.bj.f'.dS+1) {s2 with bj:=s2.bj.tM {o4:=.ke "list", xg:=none,pJ:=.p7 ([]:ai d0).l8}} (oL H2 s2.bj.f'.dS (.dI [])) fp) [] (ai.w8 Nl.aj none++pj js σ) H' s'/\tn i s'.bj/\(∀b∈fp,H' b=none)/\W i n H') ?_ m0 ⟨0,_,IS,B9,GV,w0⟩
  rintro n s3 ⟨i,H3,I3,vT,u_,w3⟩;rcases YT i n H3 w3 with⟨stop,qn⟩|⟨go,Zb⟩
  .refine bq (T.done (X.cp (Nl++Nf) fv cl (s2.bj.f'.dS+1) {s2 with bj:=s2.bj.tM {o4:=.ke "list", xg:=none,pJ:=.p7 ([]:ai d0).l8}} (oL H2 s2.bj.f'.dS (.dI [])) fp) rfl rfl rfl hc i [] s3 _ H3 _ I3 (j9 u_) vT stop) λr s5 ⟨hr,I5⟩=>?_
   subst hr;let⟨m5,Gb,_⟩:=I5.Zi;let⟨o5,Vi,Vg,MA,Mq,VN,CY⟩:=id Gb;have J5:j3 X dN σ H3 s5:=RL I2 f2 I5 (h':=s5.bj) ⟨rfl,λ_ _=>rfl⟩
   have fC:eU X dN H3 (s2.bj.f'.dS+1):=I2.jR (w4p _) I5.tD;have f1:∀b∈[s2.bj.f'.dS+1],eU X dN H3 b:=λb hb=>by rw[w1i.mp hb];exact fC
   have J6:=J5.í f1 (λb hb=>by rw[w1i.mp hb];exact⟨o5,MA,λv z=>by rw[Mq]at z;cases z⟩)
   refine bq (FY _ s5 σ H3 (.dr s2.bj.f'.dS) _ _ J6 rfl qn) λ_ s6 ⟨LJ,H6,I6,q6⟩=>?_
   have pC:=I6.YS (s2.bj.f'.dS+1,o5) (w0l _ (w0l _ (xy (w1i.wa rfl) MA)));refine⟨m5,⟨o5,Vi,Vg,pC.1,Mq,VN,CY⟩,λh' jf=>ui (ui ⟨LJ,H6,?_,q6⟩)⟩
   let⟨zfj,g1,g2,g3,g4,g5⟩:=fC;exact I6.e_.Z5 (t':=s6.tK) (λb o hb e=>(jf.2 b hb).kZ e) pC.2.1 g1 g3 g4 g5
  .refine bq (T.ZS (X.cp (Nl++Nf) fv cl (s2.bj.f'.dS+1) {s2 with bj:=s2.bj.tM {o4:=.ke "list", xg:=none,pJ:=.p7 ([]:ai d0).l8}} (oL H2 s2.bj.f'.dS (.dI [])) fp) rfl rfl rfl hc i [] s3 _ H3 _ I3 (j9 u_) vT go) λr s5 ⟨u,hr,h5⟩=>?_
   subst hr;refine bq h5 λ_ s6 ⟨x,H6,I6,r6,y6,xU,Fy⟩=>?_
   have E_:=I6.í (j9 Fy) (T.Wd _ _ xU);refine bq (hg _ _ _ _ _ _ s6 _ H6 x u _ E_ r6 (Zb x H6 y6)) λ_ s7 ⟨lS,H7,I7,kp,q7⟩=>?_
   refine bq (ht _ _ _ _ _ _ s7 lS H7 _ I7 q7) λok s8 ⟨H8,I8,q8⟩=>?_
   have _V:∀{yf:St}{H9:Hp}{s9:p5},j3 (X.cp (Nl++Nf) fv cl (s2.bj.f'.dS+1) {s2 with bj:=s2.bj.tM {o4:=.ke "list", xg:=none,pJ:=.p7 ([]:ai d0).l8}} (oL H2 s2.bj.f'.dS (.dI [])) fp) ([]++iS fp s6.bj) yf H9 s9 ->
     Kp (ai.w8 Nl.aj none++pj js σ) yf->(∃m',m'<n/\W (i+1) m' H9)->∃m,m<n/\∃i H',j3 (X.cp (Nl++Nf) fv cl (s2.bj.f'.dS+1) {s2 with bj:=s2.bj.tM {o4:=.ke "list", xg:=none,pJ:=.p7 ([]:ai d0).l8}} (oL H2 s2.bj.f'.dS (.dI [])) fp) [] (ai.w8 Nl.aj none++pj js σ) H' s9/\tn i s9.bj/\(∀b∈fp,H' b=none)/\W i m H':=λ{yf H9 s9} I9 hw ⟨m',hm,w9⟩=>by
    refine⟨m',hm,i+1,H9,I9.e_.weak (by rw[I9.uN,<- IS.uN]) hw,T.xW _ _ _ xU λb hb o q=>(I9.YS (b,o) (w0l _ (w0l _ (xy hb q)))).1,λb hb=>?_,w9⟩
    let⟨o,q,d⟩:=T.Wd _ _ xU b hb;exact(I9.YS (b,o) (w0l _ (w0l _ (xy hb q)))).2.1
   cases ok with
   |false=>exact _V I8 kp (by simpa using q8)
   |true=>
    have I_:=by simpa only[Zz]using q8
    refine bq (he _ _ _ _ _ _ s8 lS H8 _ I8 I_) λy s9 ⟨yv,H9,I9,r9,ys,hD,hz,q9⟩=>?_
    refine bq (Je _ s9 lS H9 (.dr s2.bj.f'.dS) [yv] (.dr s2.bj.f'.dS) [y] (λv H'=>v=.aB/\H'=oL H9 s2.bj.f'.dS (.dI (ys++[yv]))) I9 rfl (.qT r9 .so) ⟨_,ys,yv,rfl,rfl,hD,hz,rfl,rfl⟩) λ_ WH ⟨_,Ta,E9,_,_,Fs⟩=>?_
    subst Fs;exact _V E9 kp q9
 exact zca (ϧ _ rfl) (T.self X.A 0 _ _ _ B9 (ϧ _ rfl))
end
def zbv{X:Cx}{y:et}{py iy:vW}{gy:TG}{JM Wk x9:p6}{zS:ai p6}{fv sc:zF}{gw:vW}{wi:TI}{g:TG}{tc:TT}{te:TE}{Nl Nf N:ai et}{js:ai aO}(hc:X.MT=true)(hi:PI X Wk x9 wi)
  (ok:cP sc fv N Nf js=true)
  (hg:∀cl C ay aF ex,PG (X.cp (Nl++Nf) fv cl C ay aF ex) Wk g)(ht:∀cl C ay aF ex,sy (X.cp (Nl++Nf) fv cl C ay aF ex) zS tc)(he:∀cl C ay aF ex,PE (X.cp (Nl++Nf) fv cl C ay aF ex) JM te)
  (FY:PG X (.oh y py) gy)(qI:Zk (.Zm JM [⟨Wk,x9,zS,0⟩] fv gw) (ab (.oh y py)) iy.Yd X.dt=vX true)
  (hsc:autoParam (X.dt.fv=sc) jJ)(hN:autoParam (X.N=N) jJ)(hs:∀x,ZR x9 X.dt x=vX x:=by intro _;rfl):
  PS X (.Zu [.oh y py] (.Zm JM [⟨Wk,x9,zS,0⟩] fv gw) iy) (rX (i6 wi Nl.aj js g tc te) gy):=by
 unfold cP at ok;simp only[w0q,w1c,_e,Ϣ,w1r,w0y]at ok;obtain⟨⟨⟨⟨⟨⟨k1,k2⟩,k3⟩,k4⟩,k5⟩,k6⟩,k7⟩:=ok;have zc:∀x,X.dt.zj x=sc.qW.g6 x:=λx=>by rw[<- hsc];rfl
 refine y9k hc hi k1 k2 (λx hx hl=>(k3 x hx).ϩ λz=>z hl) (λx hx hf=>?_) (λi j y e1 e2=>?_) k5 (λy hy=>?_) (λy hy=>?_) hg ht he FY qI hs
 .rw[zc];rcases k4 x hx with(z|z)|z
  .exact uz hf z
  .exact .jd z
  .exact .lb z
 .have bZ:i<js.aj:=(w0b.mp e2).1;have z:=k6 i bZ;rw[e1,e2]at z;rw[hN]
  simpa using z
 .let⟨z1,z2⟩:=k7 y hy;refine⟨n9.Z2 z1,?_,?_⟩
  .rw[hsc];rcases z2 with z|z
   .exact .lb (.jd z)
   .exact .lb (.lb z)
  .rw[zc];rcases z2 with z|z<;>(rw[z];decide)
 .exact Im (k7 y hy).1
def rJ(K:Fg):R2:=λx y H Q=>∃l b xs zs,x=.dr l/\y=.dr b/\bD K H l xs/\bD K H b zs/\xs.aj+zs.aj<=wm/\∀p,H p=none->Q (.dr p) (oL H p (.dI (xs++zs)))
def z4r:fK X (ZH .Add) (rJ X.K):=by
 intro dN s σ H x y v u Q I rx ry h;let⟨l,b,xs,zs,rfl,rfl,h1,h2,hz,q⟩:=h;cases rx;cases ry;let⟨aw,r1,p1,_⟩:=I.xm h1;let⟨fm,r2,p2,_⟩:=I.xm h2;let⟨⟨o4,dd,pJ,sl⟩,ho,hc,n,hd⟩:=id p1.zD;let⟨⟨zQ,u6,data2,yR⟩,sL,du,n2,YQ⟩:=id p2.zD;simp only at hc hd du YQ;subst hc hd du YQ;have l1:=r1.aj;have l2:=r2.aj;refine Ċ ⟨_,ho,rfl⟩ ⟨_,sL,rfl⟩ noFill_list_add seq_list_add n9.F.slot_list_add n9.F.entry_list_add (n9.F.args_list_add_2 _ _) (list_addW l b aw.l8 fm.l8 n n2 dd u6 sl yR (by grind)) ⟨ho,sL,?_⟩;have ea:aw.l8++fm.l8=(aw++fm).l8:=by simp
 rw[ea];exact⟨.dr _,_,I.AV (t':=s.tK) (r1.Wi r2) (by grind),rfl,q _ I.xK⟩
end L2
namespace D
open PySem L2
variable{A:C_}{X:Cx}{dA:iw (ai W)}{c:iw ie}{d da db:iw W}{G H:Hp}{EE:L2.St->XK}{dN:ai (fy×sT)}{_g es:ai p6}{js:ai aO}{e pe:ai S}{q:ai S->SR}{us ws:ai W}{i kt:aO}{Yo bh p1 p2 pn gw:vW}{K:Fg}{s:p5}{σ:St}{α:Type}{cv:d0}{w:W}{Z:Zt}
def Ϡ:W->W->d3 W
 |.aT i,.aT j=>ab (.aT (i+j))
 |.str x,.str y=>if x.aj+y.aj<=16777216 then ab (.str (x++y))else none
 |.gs xs,.gs ys=>if xs≠[]/\xs.aj+ys.aj<=16777216 then ab (.gs (xs++ys))else none
 |.dI xs,.dI ys=>if xs.aj+ys.aj<=16777216 then ab (.dI (xs++ys))else none
 |_,_=>none
def rV:W->W->d3 W
 |.aT i,.aT j=>ab (.aT (i-j))
 |_,_=>none
def iq:W->W->d3 W
 |.aT i,.aT j=>if(-(2^64)<i/\i<2^64)\/(-(2^64)<j/\j<2^64)then ab (.aT (i*j))else none
 |_,_=>none
def cn:W->W->d3 W
 |.aT i,.aT j=>if 0<j/\j<1073741824 then ab (.aT (i / j))else none
 |_,_=>none
def b9:W->W->d3 W
 |.aT i,.aT j=>if 0<j then ab (.aT (i%j))else none
 |_,_=>none
def rl:W->W->d3 W
 |.aT i,.aT j=>if 0<=j/\j<=1000000/\i.ώ<2^64 then ab (.aT (i^j.uh))else none
 |_,_=>none
def oF:W->W->d3 W
 |.aT i,.aT j=>ab (.bl (decide (i<j)))
 |_,_=>none
def w_:W->W->d3 W
 |.aT i,.aT j=>ab (.bl (decide (i<=j)))
 |_,_=>none
def kx:W->W->d3 W
 |.aT i,.aT j=>ab (.bl (decide (j<i)))
 |_,_=>none
def zX:W->W->d3 W
 |.aT i,.aT j=>ab (.bl (decide (j<=i)))
 |_,_=>none
def nM:W->d3 W
 |.aT i=>ab (.aT (-i))
 |_=>none
def RS:iE K (λx y H Q=>nU (λi j=>.aT (i+j)) x y H Q\/((∃i j,x=.str i/\y=.str j/\i.aj+j.aj<=wm/\Q (.str (i++j)) H)\/(rK K x y H Q\/rJ K x y H Q))) Ϡ:=by
 intro G H x y wx wy w Q s px py hf h;unfold Ϡ at hf;split at hf
 .cases hf;cases px;cases py;exact .jd ⟨_,_,rfl,rfl,h G _ H (.t8 s) rfl⟩
 .split at hf
  .rename_i hl;cases hf;cases px;cases py;exact .lb (.jd ⟨_,_,rfl,rfl,by rw[LP];exact hl,h G _ H (.t8 s) rfl⟩)
  .cases hf
 .rename_i us ws;split at hf
  .rename_i hl;cases hf;let⟨a,xs,rfl,ha,ra⟩:=px;let⟨b,ys,rfl,hb,rb⟩:=py;have l1:=ra.aj;have l2:=rb.aj;refine .lb (.lb (.jd ⟨a,b,xs,ys,rfl,rfl,s.gs ha,s.gs hb,λz=>hl.1 ?_,by rw[l1,l2,LP];exact hl.2,λz=>?_,λz p hp=>?_⟩))
   .subst z;cases us with
    |so=>rfl
    |qT _ _=>simp at l1
   .subst z
    have:ws=[]:=by cases ws with
     |so=>rfl
     |qT _ _=>simp at l2
    subst this;exact h G _ H (.t8 s) ⟨a,xs,rfl,ha,by simpa using ra⟩
   .have g:=aK.JN s hp (.gs (xs++ys));exact h _ _ _ g ⟨p,_,rfl,bK.of bN,ah.Wi (ah.k8 g.gg _ ra) (ah.k8 g.gg _ rb)⟩
  .cases hf
 .split at hf
  .rename_i hl;cases hf;let⟨a,xs,rfl,ha,ra⟩:=px;let⟨b,ys,rfl,hb,rb⟩:=py;have l1:=ra.aj;have l2:=rb.aj;refine .lb (.lb (.lb ⟨a,b,xs,ys,rfl,rfl,s.p7 ha,s.p7 hb,by rw[l1,l2,LP];exact hl,λp hp=>?_⟩))
   have g:=aK.JN s hp (.dI (xs++ys));exact h _ _ _ g ⟨p,_,rfl,bD.of bN,ah.Wi (ah.k8 g.gg _ ra) (ah.k8 g.gg _ rb)⟩
  .cases hf
 .cases hf
def Tg:iE K (nU λi j=>.aT (i-j)) rV:=by
 intro G H x y wx wy w Q s px py hf h;unfold rV at hf;split at hf
 .cases hf;cases px;cases py;exact⟨_,_,rfl,rfl,h G _ H (.t8 s) rfl⟩
 .cases hf
def Th:iE K (rI tj λi j=>.aT (i*j)) iq:=by
 intro G H x y wx wy w Q s px py hf h;unfold iq at hf;split at hf
 .split at hf
  .rename_i hc;cases hf;cases px;cases py;exact⟨_,_,rfl,rfl,hc,h G _ H (.t8 s) rfl⟩
  .cases hf
 .cases hf
def z4s:iE K (rI yX λi j=>.aT (i / j)) cn:=by
 intro G H x y wx wy w Q s px py hf h;unfold cn at hf;split at hf
 .split at hf
  .rename_i hc;cases hf;cases px;cases py;exact⟨_,_,rfl,rfl,hc,h G _ H (.t8 s) rfl⟩
  .cases hf
 .cases hf
def Ti:iE K (rI (λ_ j=>0<j) λi j=>.aT (i%j)) b9:=by
 intro G H x y wx wy w Q s px py hf h;unfold b9 at hf;split at hf
 .split at hf
  .rename_i hc;cases hf;cases px;cases py;exact⟨_,_,rfl,rfl,hc,h G _ H (.t8 s) rfl⟩
  .cases hf
 .cases hf
def Tj:iE K (rI yY λi j=>.aT (i^j.uh)) rl:=by
 intro G H x y wx wy w Q s px py hf h;unfold rl at hf;split at hf
 .split at hf
  .rename_i hc;cases hf;cases px;cases py;exact⟨_,_,rfl,rfl,hc,h G _ H (.t8 s) rfl⟩
  .cases hf
 .cases hf
def SH:iE K (nU λi j=>.bl (decide (i<j))) oF:=by
 intro G H x y wx wy w Q s px py hf h;unfold oF at hf;split at hf
 .cases hf;cases px;cases py;exact⟨_,_,rfl,rfl,h G _ H (.t8 s) rfl⟩
 .cases hf
def SJ:iE K (nU λi j=>.bl (decide (i<=j))) w_:=by
 intro G H x y wx wy w Q s px py hf h;unfold w_ at hf;split at hf
 .cases hf;cases px;cases py;exact⟨_,_,rfl,rfl,h G _ H (.t8 s) rfl⟩
 .cases hf
def SM:iE K (nU λi j=>.bl (decide (j<i))) kx:=by
 intro G H x y wx wy w Q s px py hf h;unfold kx at hf;split at hf
 .cases hf;cases px;cases py;exact⟨_,_,rfl,rfl,h G _ H (.t8 s) rfl⟩
 .cases hf
def UJ:iE K (nU λi j=>.bl (decide (j<=i))) zX:=by
 intro G H x y wx wy w Q s px py hf h;unfold zX at hf;split at hf
 .cases hf;cases px;cases py;exact⟨_,_,rfl,rfl,h G _ H (.t8 s) rfl⟩
 .cases hf
def Tn:CD K (rU λi=>.aT (-i)) nM:=by
 intro G H x wx w Q s px hf h;unfold nM at hf;split at hf
 .cases hf;cases px;exact⟨_,rfl,h G _ H (.t8 s) rfl⟩
 .cases hf
mutual
noncomputable def gK:W->W->Option Bool
 |.aB,.aB=>some true
 |.aB,.bl _=>some false|.aB,.int _=>some false|.aB,.str _=>some false|.aB,.tup _=>some false|.aB,.lst _=>some false
 |.bl a,.bl b=>some (a==b)
 |.bl a,.int b=>some ((if a then 1 else 0)==b)
 |.bl _,.aB=>some false|.bl _,.str _=>some false|.bl _,.tup _=>some false|.bl _,.lst _=>some false
 |.int a,.int b=>some (a==b)
 |.int a,.bl b=>some (a==(if b then 1 else 0))
 |.int _,.aB=>some false|.int _,.str _=>some false|.int _,.tup _=>some false|.int _,.lst _=>some false
 |.str a,.str b=>some (a==b)
 |.str _,.aB=>some false|.str _,.bl _=>some false|.str _,.int _=>some false|.str _,.tup _=>some false|.str _,.lst _=>some false
 |.tup _,.aB=>some false|.tup _,.bl _=>some false|.tup _,.int _=>some false|.tup _,.str _=>some false|.tup _,.lst _=>some false
 |.lst _,.aB=>some false|.lst _,.bl _=>some false|.lst _,.int _=>some false|.lst _,.str _=>some false|.lst _,.tup _=>some false
 |.tup xs,.tup ys=>cX xs ys
 |.lst xs,.lst ys=>cX xs ys
 |.exc _,_=>none
 |_,.exc _=>none
 |.aV _,_=>none
 |_,.aV _=>none
 |.dw _ _ _ _,_=>none
 |.fn _ _ _,_=>none
 |_,.dw _ _ _ _=>none
 |_,.fn _ _ _=>none
noncomputable def cX:List W->List W->Option Bool
 |[],[]=>some true
 |[],_::_=>some false
 |_::_,[]=>some false
 |x::xs,y::ys=>match gK x y,cX xs ys with
  |some a,some b=>some (a&&b)
  |_,_=>none
end
def aP:W->W->d3 W
 |.gs ws,.aT i=>eu ws i
 |.dI ws,.aT i=>eu ws i
 |.str z,.aT i=>if z.aj<=16777216 then(eu z.Yp.wL i).a6 λc=>.str ⟨#[c]⟩else none
 |_,_=>none
def ah.eu{i:a7}(r:ah K G ws xs)(h:L2.eu ws i=ab w):∃x,L2.eu xs i=ab x/\qk K G w x:=by
 unfold L2.eu at h |-
 rw[r.aj];cases q:oC ws.aj i with
 |none=>rw[q]at h;cases h
 |ab j=>
  rw[q]at h;exact r.Ff h
def SN:iE K (NJ K) aP:=by
 intro G H x y wx wy w Q s px py hf h;unfold aP at hf;split at hf
 .let⟨a,xs,rfl,ha,ra⟩:=px;cases py;let⟨v,hv,rv⟩:=ra.eu hf;exact .lb (.jd ⟨a,xs,_,v,rfl,rfl,s.gs ha,hv,h G v H (.t8 s) rv⟩)
 .let⟨a,xs,rfl,ha,ra⟩:=px;cases py;let⟨v,hv,rv⟩:=ra.eu hf;exact .jd ⟨a,xs,_,v,rfl,rfl,s.p7 ha,hv,h G v H (.t8 s) rv⟩
 .cases px;cases py;split at hf
  .rename_i hl;let⟨c,hc,rfl⟩:=w0j.mp hf;exact .lb (.lb ⟨_,_,c,rfl,rfl,by rw[LP];exact hl,hc,h G _ H (.t8 s) rfl⟩)
  .cases hf
 .cases hf
def S.VE:S->d3 W
 |.fr w=>ab w
 |.ku _ ws=>ab (.dI ws)
 |.no=>none
 |.aV _=>none
 |.dW _ _ _=>none
 |.YL _=>none
 |.x k=>k.VE
 |.dw _ _ _=>none
def jE(i:aO)(d:iw W):iw W:=λe=>match e[i]?.r7 S.VE with
 |none=>.no
 |ab _=>(d e).r7 λk e1=>match e1[i]?.r7 S.VE with
  |none=>.no
  |ab w=>bp (aP w k) e1
def AQ:W->d3 W
 |.str z=>if z.aj<=16777216 then ab (.aT z.aj)else none
 |.gs ws=>ab (.aT ws.aj)
 |.dI ws=>ab (.aT ws.aj)
 |_=>none
def bB:ai W->d3 W
 |[w]=>AQ w
 |_=>none
def RT:pO K (λxs H Q=>∃x n,xs=[x]/\zr K x H n/\Q (.aT n) H) bB:=by
 intro G H xs ws w Q s pr hf h;unfold bB at hf;split at hf
 .let⟨x,r,rfl,px,pr⟩:=pr;cases(show r=[]from pr);unfold AQ at hf;split at hf
  .split at hf
   .rename_i hl;cases hf;cases px;exact⟨_,_,rfl,⟨by grind [LP],rfl⟩,h G _ H (.t8 s) rfl⟩
   .cases hf
  .cases hf;let⟨a,xs,rfl,ha,ra⟩:=px;exact⟨_,_,rfl,.lb ⟨xs,s.gs ha,rfl⟩,h G _ H (.t8 s) (by rw[ra.aj];rfl)⟩
  .cases hf;let⟨a,xs,rfl,ha,ra⟩:=px;exact⟨_,_,rfl,.jd ⟨xs,s.p7 ha,rfl⟩,h G _ H (.t8 s) (by rw[ra.aj];rfl)⟩
  .cases hf
 .cases hf
def aM:W->ie
 |.aB=>true|.bl _=>true|.aT _=>true|.str _=>true|_=>false
def y9l(h:aM w=true)(p:qk K G w v):qk K G' w v:=by
 cases w with
 |aB=>exact p
 |bl b=>exact p
 |aT i=>exact p
 |str x=>exact p
 |_=>cases h
def i_(i:aO)(f:ai W->d3 W):iw W:=λe=>match e[i]?.r7 S.VE with
 |none=>.no
 |ab w=>match f [w]with
  |none=>.no
  |ab v=>match e[i]? with
   |ab (.fr _)=>.ok v e
   |_=>if aM v=true then .ok v e else .no
section
variable{a b e:p6}{p:vW}{x:et}
theorem Q5j(ha:DE Z X EE a d)(hb:DE Z X EE b db)(hs:g9 b:=by intro _ _;rfl):DE Z X EE (.Yb a b gw) (aq aP d db):=PE.k8 (EX RI ha hb hs) (vE SN)
def pZ.VE{e:ai S}(r:pZ K Z G σ H e)(h:e[i]?.r7 S.VE=ab w):∃v,σ[i]?=ab (ab v) /\
  (qk K G w v\/∃ws a xs u,(∀z,e[i]?≠ab (.fr z))/\w=.dI ws/\v=.dr a/\H a=ab u/\(u=.dI xs\/∃o,u=.cK o (.dI xs))/\G a=none/\ah K G ws xs):=by
 let⟨s,h1,h2⟩:=w1w.mp h;cases s with
 |no=>cases h2
 |aV _=>cases h2
 |dW _ _ _=>cases h2
 |YL _=>cases h2
 |dw _ _ _=>cases h2
 |fr w'=>
  cases h2;let⟨v,h3,h4⟩:=r.fr h1;exact⟨v,h3,.jd h4⟩
 |x k=>
  have q:=r.xM i _ h1;cases k with
  |w5 w'=>cases h2;let⟨v,zZ,h3⟩:=r._w h1 rfl;exact⟨v,zZ,.jd h3⟩
  |vd w'=>cases h2;let⟨v,zZ,h3⟩:=r._w h1 rfl;exact⟨v,zZ,.jd h3⟩
  |tG ws=>cases h2;let⟨a,o,xs,k1,⟨k2,k3,_⟩,k5⟩:=q;exact⟨.dr a,r.at h1 λ_=>k1,.lb ⟨ws,a,xs,_,(λz y=>by rw[h1]at y;cases y),rfl,rfl,k2,.lb ⟨o,rfl⟩,k3,aY.ed _ k5⟩⟩
  |_=>cases h2
 |ku b ws=>
  cases h2;let⟨a,xs,h3,h4,h5,h6,h7⟩:=r.ku h1;exact⟨.dr a,h3,.lb ⟨ws,a,xs,_,(λz y=>by rw[h1]at y;cases y),rfl,rfl,h4,.jd rfl,h5,h7⟩⟩
theorem y4y{K:Fg}{a:fy}{u:HO}(s:ao G H)(h:H a=ab u)(hg:G a=none):ao G (oL G a u)/\ao (oL G a u) H:=
 ⟨vz hg _,λc o z=>by
  by_cases hc:c=a
  .subst hc;rw[bN]at z;cases z;exact h
  .rw[aN hc]at z;exact s c o z⟩
def Q0w(i:aO)(hb:DE Z X EE b d)(hN:autoParam (X.N[i]?=ab x) jJ)(hv:autoParam (kD X.dt.fv x) jN)(hd:autoParam ((x==("__debug__":et))=false) jK)
  (fg:autoParam ((x==("__classdict__":et))=false) jK)(hs:g9 b:=by intro _ _;rfl):DE Z X EE (.Yb (.oh x p) b gw) (jE i d):=by
 refine PE.k8 (EX RI (pv i hN hv hd fg) hb hs) ?_;rintro σ H Q ⟨G,e,mQ,h⟩;unfold jE at h;split at h
 .exact h.oa
 .rename_i w0 V6;let⟨v,hv,_⟩:=mQ.VE V6;refine⟨v,hv,G,e,mQ,(R.ar.mp h).uM (λk e1 h G1 u H1 r1 s1 p1=>?_) λ_ _ h=>h⟩
  split at h
  .exact h.oa
  .rename_i w hw;let⟨w',hf,h2⟩:=aZ.mp h;let⟨v',oA,q⟩:=r1.VE hw;rw[hv]at oA;cases oA;rcases q with q|⟨ws,a,xs,u,he,rfl,rfl,q1,qu,q2,q3⟩
   .exact SN G1 H1 v u w k w' Q r1.p9 q p1 hf λG' v H' g p=>h2 G' v H' (r1.zR g) (s1.kZ g.gg) p
   ·-- an ZS of Bb ku xm
    unfold aP at hf;split at hf
    .rename_i heq;cases heq
    .rename_i heq;cases heq;cases p1;let⟨y,hy,ry⟩:=q3.eu hf;refine .jd ⟨a,xs,_,y,rfl,rfl,?_,hy,h2 G1 y H1 r1 s1 ry⟩;rcases qu with rfl|⟨o,rfl⟩
     .exact bD.of q1
     .exact .jd (.lb ⟨o,q1⟩)
    all_goals grind
def To{r:ai V->Hp->VK->Prop}{f:ai W->d3 W}(i:aO){id:Yq}{fn:et}(hc:cZ X (.w4 id) r)(hf:pO X.K r f)(hv:_E fn=ab (.w4 id))(hm:X.mg fn=none)
  (hN:autoParam (X.N[i]?=ab x) jJ)(jg:autoParam (kD X.dt.fv x) jN)(hd:autoParam ((x==("__debug__":et))=false) jK)(fg:autoParam ((x==("__classdict__":et))=false) jK)
  (hg:autoParam (Gl X fn) jJ)(hn:autoParam (fn≠"__name__") jK)(jT:autoParam ((fn==("__debug__":et))=false) jK)(hs:autoParam (pg [.oh x p] X.dt=(false,eval (.oh x p) X.dt)::pg [] X.dt) jJ)(dP:autoParam ((y0 gw (pg [] X.dt)).uJ (·.1)=false) jJ):
  DE Z X EE (.wO (.oh fn pn) [.oh x p] [] gw) (i_ i f):=by
 refine PE.k8 (Ke hc hg hm hv (rG (pv i hN jg hd fg) xC hs) hn jT hs dP) ?_;rintro σ H Q ⟨G,e,mQ,h⟩;unfold i_ at h;split at h
 .exact h.oa
 .rename_i w hw;split at h
  .exact h.oa
  .rename_i y hy;let⟨v,hv,q⟩:=mQ.VE hw;refine⟨v,hv,?_⟩;rcases q with q|⟨ws,a,xs,u,he,rfl,rfl,q1,qu,q2,q3⟩
   .refine hf G H [v] [w] y Q mQ.p9 (.YE q) hy λG' v H' g p=>?_
    split at h
    .exact h G' v H' (mQ.zR g) g.gg p
    .split at h
     .exact h G' v H' (mQ.zR g) g.gg p
     .exact h.oa
   .split at h
    .rename_i hz;exact uz hz (he _)
    split at h
    .rename_i hsc;let⟨s1,s2⟩:=y4y (K:=X.K) mQ.p9 q1 q2
     have Gs:bD X.K (oL G a u) a xs:=by
      rcases qu with rfl|⟨o,rfl⟩
      .exact bD.of bN
      .exact .jd (.lb ⟨o,bN⟩)
     refine hf (oL G a u) H [.dr a] [.dI ws] y Q s2 (.YE ⟨a,xs,rfl,Gs,ah.k8 s1 ws q3⟩) hy λG' v H' g p=>?_
     have g':aK G H G H':=⟨g.hh,.t8 _,mQ.p9.kZ g.hh,λ_ _=>rfl⟩
     exact(show ∀G' v H',_->_->qk X.K G' y v->Q v H' from h) G v H' (mQ.zR g') (.t8 _) (y9l hsc p)
    .exact h.oa
def fF(i:aO)(d:iw (ai W)):ai S->SR:=λe=>match e[i]? with
 |ab (.ku _ _)=>(d e).cH λws e1=>match ws,e1[i]? with
  |[w],ab (.ku b xs)=>if xs.aj<16777216 then .nx (e1.rk i (.ku b (xs++[w])))else .no
  |_,_=>.no
 |_=>.no
def Q0y(i:aO)(ha:DA Z X EE (e::es) dA)(hN:autoParam (X.N[i]?=ab x) jJ)(hv:autoParam (kD X.dt.fv x) jN)(hd:autoParam ((x==("__debug__":et))=false) jK)(fg:autoParam ((x==("__classdict__":et))=false) jK)
  (dg:autoParam (Κ (.oh x p) "append" X.dt (eval (.oh x p) X.dt)=eval (.oh x p) X.dt) jJ)
  (bY:autoParam (((y0 bh (pg (e::es) X.dt)).t9 (λx=>!x.1)&&(Λ bh (Ρ [] X.dt)).t9 (λx=>x.1.z_)&&decide ((e::es).aj+([]:ai Zd).aj+(if([]:ai Zd).U7 then 0 else 1)<30))=true) jJ)
  (dj:autoParam ((Yo.Ο==bh.Yd)=true) jJ)(hs:autoParam (pg (e::es) X.dt=(false,eval e X.dt)::pg es X.dt) jJ)(bT:autoParam ((y0 bh (pg es X.dt)).uJ (·.1)=false) jJ)
  (qI:autoParam (Zk (.wO (._o (.oh x p) "append" Yo) (e::es) [] bh) none gw.Yd X.dt=vX false) jJ):
  DS Z X EE (.p6 (.wO (._o (.oh x p) "append" Yo) (e::es) [] bh) gw) (fF i dA):=by
 refine PS.k8 (Ek (RM (pv i hN hv hd fg) ha dg bY dj hs bT) qI) ?_;rintro D σ H ⟨G,e,mQ,h⟩;unfold fF at h;split at h
 .rename_i b0 J2 tX;let⟨a,xs,h1,h2,h3,h4,h5⟩:=mQ.ku tX;refine⟨.dr a,h1,.jd ⟨rfl,xs,bD.of h2⟩,G,e,mQ,(i3 h).uM (λws e1 h G1 vs H1 r1 s1 p1=>?_) λ_ _ h=>h⟩
  split at h
  .rename_i w b ys Aj;let⟨a',zs,g1,g2,g3,g4,g5⟩:=r1.ku Aj;rw[h1]at g1;cases g1;let⟨y,r,rfl,py,pr⟩:=p1;cases(show r=[]from pr);split at h
   .rename_i hl;refine⟨a,zs,y,rfl,rfl,g2,by rw[g5.aj,LP];exact hl,?_⟩;exact h G1 σ _ (r1.mut Aj h1 (g5.Wi (.YE py))) s1
   .exact h.oa
  .exact h.oa
 .exact h.oa
end
def b7(c:iw ie)(d:iw W)(pe:ai S):ai W->d3 (ai W)
 |[]=>ab []
 |w::ws=>match c (.fr w::pe)with
  |.ok true e1=>match d e1 with
   |.ok y _=>(b7 c d pe ws).a6 (y::·)
   |_=>none
  |.ok false _=>b7 c d pe ws
  |_=>none
def cw(e:ai S)(j:aO):ai S:=match e[j]? with
 |ab (.ku none ws)=>e.rk j (.fr (.dI ws))
 |_=>e
def aX(js:ai aO)(e:ai S):ai S:=js.zx cw e
def gF(e:ai S)(j:aO):S:=match e[j]? with
 |ab (.fr w)=>.fr w
 |_=>.no
def fB(js:ai aO)(e:ai S):ai S:=js.a6 (gF e)
def iX(js:ai aO)(c:iw ie)(d:iw W)(ws:ai W)(e1:ai S):R (ai W):=
 if ws.aj<=16777216 then(match b7 c d (fB js (aX js e1)) ws with
  |ab xH=>.ok xH (aX js e1)
  |none=>.no)else .no
def ba(js:ai aO)(di:iw W)(c:iw ie)(d:iw W):iw (ai W):=λe=>(di e).r7 λw e1=>match fq w with
 |ab ws=>iX js c d ws e1
 |none=>.no
def cQ(g:ai W->d3 (ai W))(js:ai aO)(di:iw (ai W))(c:iw ie)(d:iw W):iw (ai W):=λe=>(di e).r7 λw e1=>match g w with
 |ab ws=>iX js c d ws e1
 |none=>.no
def bx:iw ie:=λe=>.ok true e
def pZ.aX(r:pZ K Z G σ H e):∀(js:ai aO),∃G',ao G G'/\pZ K Z G' σ H (aX js e):=by
 intro js
 induction js generalizing G e with
 |so=>exact⟨G,.t8 _,r⟩
 |qT j js ih=>
  have YE:∃G',ao G G'/\pZ K Z G' σ H (cw e j):=by
   unfold cw;split
   .rename_i ws hw;let⟨v,G',_,s,_,r'⟩:=r.Ŕ hw;exact⟨G',s,r'⟩
   .exact⟨G,.t8 _,r⟩
  let⟨G1,s1,r1⟩:=YE;let⟨G2,s2,r2⟩:=ih r1;exact⟨G2,s1.kZ s2,r2⟩
def pZ.block(r:pZ K Z G σ H e)(js:ai aO){x:V}(p:qk K G w x):pZ K ⟨H,G,[]⟩ G (ab x::pj js σ) H (.fr w::fB js e):=by
 have nC:∀(i:aO)(s:S),(S.fr w::fB js e)[i]?=ab s->s=.no\/∃u,s=.fr u/\((i=0/\u=w)\/∃k j,i=k+1/\js[k]?=ab j/\e[j]?=ab (.fr u)):=λi s h=>by
  cases i with
  |Yf=>cases h;exact .lb ⟨w,rfl,.jd ⟨rfl,rfl⟩⟩
  |Ye k=>
   rw[w0d]at h;unfold fB at h;rw[w0s]at h;let⟨j,h1,h2⟩:=w0j.mp h;unfold gF at h2;split at h2
   .rename_i u hu;subst h2;exact .lb ⟨u,rfl,.lb ⟨k,j,rfl,h1,hu⟩⟩
   .subst h2;exact .jd rfl
 refine⟨r.p9,λi s h=>?_,?_,λi j b b' w1 w2 a h1 h2 _ _=>?_,λa o h _=>h,(λa h=>nomatch h),λa _=>rfl⟩
 .rcases nC i s h with rfl|⟨u,rfl,⟨rfl,rfl⟩|⟨k,j,rfl,h1,h2⟩⟩
  .trivial
  .exact⟨x,rfl,p⟩
  .let⟨v,h3,h4⟩:=r.fr h2;refine⟨v,?_,h4⟩;rw[w0d];unfold pj;rw[w0s,h1];simp[h3]
 .simp[fB,pj]
 .rcases nC i _ h1 with z|⟨u,z,_⟩<;>cases z
def pZ.lJ(r:pZ K Z G σ H e)(hg:G a=none)(hz:Z.H a=none)(hi:a∉Z.io)(hf:kj σ e a)(Ax:H a=ab (.dI ls)):pZ K Z G σ (oL H a o) e:=by
 refine⟨λc u z=>?_,λj s z=>?_,r.uN,r.kq,λc u z n=>?_,λc z=>?_,r.gen⟩
 .rw[aN (gU z hg)];exact r.p9 c u z
 .have y:=r.xM j s z;cases s with
  |no=>trivial
  |fr w=>exact y
  |ku b2 w2=>
   let⟨c,ys,y1,y2,y3,y4,y5⟩:=y;refine⟨c,ys,y1,?_,y3,y4,y5⟩;rw[aN];exact y2;rintro rfl;let⟨c',_,z1,_⟩:=r.ku z;rw[z1]at y1;cases y1;exact hf j b2 w2 z z1
  |aV kvs=>
   let⟨c,y1,y2,y3,y4⟩:=y;refine⟨c,y1,?_,y3,y4⟩;rw[aN (eR y2 Ax (nS rfl))];exact y2
  |dW us w2 vs=>
   let⟨t,l,o,n6,ys,zs,y1,y2,y3,y4,y5,y6⟩:=y;refine⟨t,l,o,n6,ys,zs,y1,y2,?_,y4,y5,y6⟩;rw[aN (eR y3 Ax (λz=>nomatch z))];exact y3
  |YL cb=>exact b8.yy y (.t8 _) λl o ys k1 k2 k3=>⟨by rw[aN (eR k1 Ax (λz=>nomatch z))];exact k1,k2,k3⟩
  |x k=>exact m9.yy y (.t8 _) λl o ys k1 k2 k3=>⟨by rw[aN (eR k1 Ax (λz=>nomatch z))];exact k1,k2,k3⟩
  |dw sh ks ws=>exact gH.yy y (.t8 _) λl o ys k1 k2 k3=>⟨by rw[aN (eR k1 Ax (rD rfl))];exact k1,k2,k3⟩
 .rw[aN (gU z hz)];exact r.VB c u z n
 .by_cases hc:c=a
  .grind
  .rw[aN hc];exact r.kz c z
structure ϴ(J:It)(xs:ai V)(SQ:Hp->Prop):Prop where
 go:∀i H,SQ H->i<xs.aj->J.go i H
 lX:∀i H x H',SQ H->J.lX i H x H'->i<xs.aj->H'=H/\xs[i]?=ab x
 stop:∀i H,SQ H->xs.aj<=i->J.stop i H
theorem RU:ϴ (yh K a) xs (λH=>bD K H a xs):=
 ⟨λi H q h=>⟨xs,xs[i],q,by simp[h]⟩,λi H x H' q ⟨e,y⟩ h=>⟨e,y xs q⟩,λi H q h=>⟨xs,q,h⟩⟩
theorem Rz:ϴ (yi K a) xs (λH=>bK K H a xs):=
 ⟨λi H q h=>⟨xs,xs[i],q,by simp[h]⟩,λi H x H' q ⟨e,y⟩ h=>⟨e,y xs q⟩,λi H q h=>⟨xs,q,h⟩⟩
theorem Tp:ϴ (pN lo n) ((ai.CC n).a6 λk=>V.aT (lo+(k:aO))) (λ_=>j'):=
 ⟨λi H q h=>show i<n by simpa using h,λi H x H' q ⟨e,y⟩ h=>⟨e,by simp at h;simp[h,y]⟩,λi H q h=>show n<=i by simpa using h⟩
def KC{J:It}{xs:ai V}{SQ:Hp->Prop}{xH:ai W}{Q:VK}{G0:Hp}(W0:ϴ J xs SQ)(r1:pZ K Z G1 σ H1 e1)(s1:ao G0 G1)(rp:ah K G1 ws xs)(tT:∀G' H',ao G1 G'->ao G' H'->SQ H')(hl:ws.aj<=16777216)
  (hz:∀p,H1 p=none->p∉Z.io)(hc:b7 c d (fB js e1) ws=ab xH)
  (h:∀G' a xs H',pZ K Z G' σ H' e1->ao G0 G'->H' a=ab (.dI xs)->G' a=none->Z.H a=none->kj σ e1 a->ah K G' xH xs->Q (.dr a) H'):
  ∀D,H1 D=none->∃W:aO->aO->Hp->Prop,(∃m,W 0 m (oL H1 D (.dI [])))/\∀i m H2,W i m H2 ->
   (J.stop i H2/\Q (.dr D) H2)\/(J.go i H2/\∀x H3,J.lX i H2 x H3->bL 0 x (ai.w8 1 none++pj js σ) H3 λsu H4=>Kp (ai.w8 1 none++pj js σ) su/\(λσ H Q=>∃Z',Z1 K Z' (λ_=>E0) c σ H Q) su H4 λb H5=>
    if b=true then(λσ H Q=>∃Z',pM K Z' σ H λG e=>(d e).SA (λw e'=>∀G' v H',pZ K Z' G' σ H' e'->ao G G'->qk K G' w v->Q v H') (XH K Z' (λ_=>E0) σ G)) su H5 λy H6=>∃ys,H6 D=ab (.dI ys)/\ys.aj<wm/\∃m',m'<m/\W (i+1) m' (oL H6 D (.dI (ys++[y])))else ∃m',m'<m/\W (i+1) m' H5):=by
 intro D hD;have wZ:=rp.aj
 refine⟨λi m H2=>m=ws.aj-i/\i<=ws.aj/\∃G2 ys done xb,pZ K Z G2 σ H2 e1/\ao G1 G2/\H2 D=ab (.dI ys)/\G2 D=none/\ah K G2 done ys/\done.aj<=i/\b7 c d (fB js e1) (ws.xO i)=ab xb/\done++xb=xH,
  ⟨ws.aj,by omega,w1g _,G1,[],[],xH,r1.zR (aK.ox r1.p9 hD _),.t8 _,bN,r1.p9.tD hD,rfl,w0f _,hc,rfl⟩,?_⟩
 rintro i m H2 ⟨rfl,hi,G2,ys,done,xb,r2,s2,YQ,qD,rO,Mr,du,ho⟩;have cL:kj σ e1 D:=yG r1 hD;have AF:Z.H D=none:=pF r1 hD
 by_cases bZ:i<ws.aj
 .refine .lb ⟨W0.go i H2 (tT G2 H2 s2 r2.p9) (by omega),λx H3 hy=>?_⟩
  let⟨rfl,hx⟩:=W0.lX i H2 x H3 (tT G2 H2 s2 r2.p9) hy (by omega);let⟨w,hw,pw⟩:=rp.jc hx;rw[OB hw]at du;refine⟨Kp.YE,⟨H3,G2,[]⟩,G2,.fr w::fB js e1,r2.block js (qk.k8 s2 w pw),?_⟩;unfold b7 at du;cases qc:c (.fr w::fB js e1)with
  |no=>rw[qc]at du;cases du
  |ex _ _=>rw[qc]at du;cases du
  |ok k e2=>
   rw[qc]at du;intro G3 H5 r3 s3;have g3:=r3.gS s3;cases k with
   |false=>
    exact⟨ws.aj-(i+1),by omega,rfl,bZ,G3,ys,done,xb,r2.zR g3,s2.kZ s3,g3.hh _ _ YQ,by rw[g3.vd D (by rw[YQ];simp)];exact qD,ah.k8 s3 _ rO,by omega,du,ho⟩
   |true=>
    refine⟨⟨H3,G2,[]⟩,G3,e2,r3,?_⟩;dsimp only at du;cases qd:d e2 with
    |no=>rw[qd]at du;cases du
    |ex _ _=>rw[qd]at du;cases du
    |ok y e3=>
     rw[qd]at du;intro G4 v H6 r4 s4 p4;have g4:=r4.gS (s3.kZ s4);let⟨rN,hr,rfl⟩:=w0j.mp du;have Ah:H6 D=ab (.dI ys):=g4.hh _ _ YQ;have Am:G4 D=none:=by rw[g4.vd D (by rw[YQ];simp)];exact qD
     refine⟨ys,Ah,?_,ws.aj-(i+1),by omega,rfl,bZ,G4,ys++[v],done++[y],rN,(r2.zR g4).lJ Am AF (hz D hD) cL Ah,s2.kZ (s3.kZ s4),bN,Am,(ah.k8 (s3.kZ s4) _ rO).Wi (.YE p4),by simp;omega,hr,by rw[w4l];exact ho⟩;rw[rO.aj,LP];omega
 .have:i=ws.aj:=by omega
  subst this;rw[w3c]at du;cases du;rw[w1q]at ho;subst ho;exact .jd ⟨W0.stop _ H2 (tT G2 H2 s2 r2.p9) (by omega),h G2 D ys H2 r2 (s1.kZ s2) YQ qD AF cL rO⟩
section
variable{JM x9 a b:p6}{zS:ai p6}{fv sc:zF}{pt:vW}{x:et}{Nf N:ai et}{di:iw W}
def tq(Z:Zt)(X:Cx)(EE:L2.St->XK)(zS:ai p6)(c:iw ie):Prop:=sy X zS (Z1 X.K Z EE c)
theorem z4t:tq Z X EE [] bx:=λdN s σ H Q I ⟨G,e,r,h⟩=>z38 dN s σ H Q I (h G H r (.t8 _))
theorem z4u(h:DT Z X EE a c):tq Z X EE [a] c:=z39 h
def cT(K:Fg)(c:iw ie):TT:=λσ H Q=>∃Z',Z1 K Z' (λ_=>E0) c σ H Q
def cE(K:Fg)(d:iw W):TE:=λσ H Q=>∃Z',pM K Z' σ H λG e=>(d e).SA (λw e'=>∀G' v H',pZ K Z' G' σ H' e'->ao G G'->qk K G' w v->Q v H') (XH K Z' (λ_=>E0) σ G)
def zbs{D:_B}{r:R (ai W)}{k:W->ai S->SR}(h:bC K Z EE D G ((r.r7 λws e'=>.ok (.dI ws) e').cH k)):r.SA (λws e'=>bC K Z EE D G (k (.dI ws) e')) (XH K Z EE σ G):=by
 cases r with
 |ok a e=>exact h
 |ex c e=>exact λG' H' r q=>h G' σ H' r q
 |no=>exact h
theorem Cu(ht:∀Z' cl C ay aF ex,tq Z' (X.cp Y fv cl C ay aF ex) (λ_=>E0) zS c):∀cl C ay aF ex,sy (X.cp Y fv cl C ay aF ex) zS (cT X.K c):=λcl C ay aF ex dN s σ H Q I ⟨Z',h⟩=>ht Z' cl C ay aF ex dN s σ H Q I h
theorem Cv(he:∀Z' cl C ay aF ex,DE Z' (X.cp Y fv cl C ay aF ex) (λ_=>E0) JM d):∀cl C ay aF ex,PE (X.cp Y fv cl C ay aF ex) JM (cE X.K d):=λcl C ay aF ex dN s σ H Q I ⟨Z',h⟩=>he Z' cl C ay aF ex dN s σ H Q I h
theorem nK(r:pZ K Z G σ H e):∀p,H p=none->p∉Z.io:=λp hp hi=>r.kz p hi hp
def OC:∀σ H Q,oE K Z EE (ba js di c d) σ H Q->i6 (AI K (gE K Z EE di)) 1 js (bL 0) (cT K c) (cE K d) σ H Q:=by
 rintro σ H Q ⟨G,e,mQ,h⟩;simp only[ba,R.ar]at h;refine⟨G,e,mQ,h.uM (λw e1 h G1 v1 H1 r1 s1 p1=>?_) λ_ _ h=>h⟩
 split at h
 .rename_i ws hw;unfold iX at h;split at h
  .rename_i hl;split at h
   .rename_i xH ho;let⟨G2,s2,r2⟩:=r1.aX js;have p2:=qk.k8 s2 w p1;have io:=nK r2;cases w with
    |gs us=>
     cases hw;let⟨a,xs,rfl,hq,rp⟩:=p2;exact⟨a,rfl,.lb ⟨⟨xs,r2.p9.gs hq⟩,KC Rz r2 (s1.kZ s2) rp (λG' H' s s'=>ao.gs s' (ao.gs s hq)) hl io ho h⟩⟩
    |dI us=>
     cases hw;let⟨a,xs,rfl,hq,rp⟩:=p2;exact⟨a,rfl,.jd ⟨⟨xs,r2.p9.p7 hq⟩,KC RU r2 (s1.kZ s2) rp (λG' H' s s'=>ao.p7 s' (ao.p7 s hq)) hl io ho h⟩⟩
    |_=>cases hw
   .exact h.oa
  .exact h.oa
 .exact h.oa
def z4v(hc:X.MT=true)(hi:DE Z X EE x9 di)(ok:cP sc fv N Nf js=true)
  (ht:∀Z' cl C ay aF ex,tq Z' (X.cp ([x]++Nf) fv cl C ay aF ex) (λ_=>E0) zS c)(he:∀Z' cl C ay aF ex,DE Z' (X.cp ([x]++Nf) fv cl C ay aF ex) (λ_=>E0) JM d)
  (hg:∀cl C ay aF ex,PG (X.cp ([x]++Nf) fv cl C ay aF ex) (.oh x pt) (bL 0))
  (hsc:autoParam (X.dt.fv=sc) jJ)(hN:autoParam (X.N=N) jJ)(hs:∀x,ZR x9 X.dt x=vX x:=by intro _;rfl):
  DF Z X EE (.Zm JM [⟨.oh x pt,x9,zS,0⟩] fv gw) (ba js di c d):=by
 exact PE.k8 (Kf (Nl:=[x]) (tc:=cT X.K c) (te:=cE X.K d) hc (ED hi) ok hg (Cu ht) (Cv he) hsc hN hs) OC
def y2m(i:aO){y:et}{py iy:vW}(Vr:X.N.xZ)(hc:X.MT=true)(hi:DE Z X EE x9 di)(ok:cP sc fv N Nf js=true)
  (ht:∀Z' cl C ay aF ex,tq Z' (X.cp ([x]++Nf) fv cl C ay aF ex) (λ_=>E0) zS c)(he:∀Z' cl C ay aF ex,DE Z' (X.cp ([x]++Nf) fv cl C ay aF ex) (λ_=>E0) JM d)
  (hg:∀cl C ay aF ex,PG (X.cp ([x]++Nf) fv cl C ay aF ex) (.oh x pt) (bL 0))
  (hsc:autoParam (X.dt.fv=sc) jJ)(hN:autoParam (X.N=N) jJ)(hs:∀x,ZR x9 X.dt x=vX x:=by intro _;rfl)(VM:autoParam (X.N[i]?=ab y) jJ)(V7:autoParam (YU X.dt.fv y) jM)(VI:autoParam (X.fn y=true\/X.dt.fv.qW.g6 y=ab .local) jL)(qI:autoParam (Zk (.Zm JM [⟨.oh x pt,x9,zS,0⟩] fv gw) (ab (.oh y py)) iy.Yd X.dt=vX true) jJ):
  DS Z X EE (.Zu [.oh y py] (.Zm JM [⟨.oh x pt,x9,zS,0⟩] fv gw) iy) (aA i (dB (ba js di c d))):=by
 refine PS.k8 (zbv (Nl:=[x]) (tc:=cT X.K c) (te:=cE X.K d) hc (ED hi) ok hg (Cu ht) (Cv he) (uC i Vr VM V7 VI) qI hsc hN hs) ?_;rintro D σ H ⟨G,e,mQ,h⟩;refine OC σ H _ ⟨G,e,mQ,?_⟩;refine(zbs h).uM (λw e1 h G1 a xs H1 r1 s1 q1 q2 q3 q4 p1=>?_) λ_ _ h=>h
 let⟨sg,rg⟩:=r1.ò q1 q2 q3 q4;exact h _ _ H1 (rg.rk (v:=.dr a) ⟨a,xs,rfl,bD.of bN,ah.k8 sg w p1⟩) (s1.kZ sg)
def N6:∀σ H Q,oE K Z EE (cQ dG js dA c d) σ H Q->i6 (vh (qQ K Z EE dA)) 1 js (bL 0) (cT K c) (cE K d) σ H Q:=by
 rintro σ H Q ⟨G,e,mQ,h⟩;simp only[cQ,R.ar]at h;refine⟨G,e,mQ,h.uM (λws e1 h G1 vs H1 r1 s1 p1=>?_) λ_ _ h=>h⟩
 unfold dG at h;split at h
 .rename_i us hh;split at hh
  .rename_i j;split at hh
   .rename_i hj;cases hh;let⟨y,r,rfl,e1,e2⟩:=p1;cases(show y=V.aT j from e1);cases(show r=[]from e2);refine⟨j,rfl,(rE hj).1,(rE hj).2,?_⟩;unfold iX at h;split at h
    .rename_i hl;split at h
     .rename_i xH ho;let⟨G2,s2,r2⟩:=r1.aX js;have z:=KC (J:=pN 0 (j-0).uh) Tp r2 (s1.kZ s2) (N5 (lo:=0) (hi:=j)) (λ_ _ _ _=>trivial) hl (nK r2) ho h
      rwa [a7.sub_zero]at z
     .exact h.oa
    .exact h.oa
   .cases hh
  .cases hh
 .exact h.oa
def y9m(hc:X.MT=true)(hm:X.mg "range"=none)(ha:DA Z X EE [a] dA)(ok:cP sc fv N Nf js=true)
  (ht:∀Z' cl C ay aF ex,tq Z' (X.cp ([x]++Nf) fv cl C ay aF ex) (λ_=>E0) zS c)(he:∀Z' cl C ay aF ex,DE Z' (X.cp ([x]++Nf) fv cl C ay aF ex) (λ_=>E0) JM d)
  (hg:∀cl C ay aF ex,PG (X.cp ([x]++Nf) fv cl C ay aF ex) (.oh x pt) (bL 0))
  (FW:autoParam (Gl X "range") jJ)(oz:autoParam (pg [a] X.dt=[(false,eval a X.dt)]) jJ)(hsc:autoParam (X.dt.fv=sc) jJ)(hN:autoParam (X.N=N) jJ)(hs:∀x,ZR (.wO (.oh "range" p1) [a] [] p2) X.dt x=vX x:=by intro _;rfl):
  DF Z X EE (.Zm JM [⟨.oh x pt,.wO (.oh "range" p1) [a] [] p2,zS,0⟩] fv gw) (cQ dG js dA c d):=by
 exact PE.k8 (Kf (Nl:=[x]) (tc:=cT X.K c) (te:=cE X.K d) hc (Jc FW hm ha oz) ok hg (Cu ht) (Cv he) hsc hN hs) N6
end
mutual
noncomputable def bX:W->Nat
 |.tup ws=>bS ws+1
 |.lst ws=>bS ws+1
 |_=>0
noncomputable def bS:List W->Nat
 |[]=>0
 |w::ws=>max (bX w) (bS ws)
end
mutual
theorem BK(I:Inv X pins σ H s)(sg:ao G H):∀(w:W){w':W}{v:V}{k:Bool},Rep X.K G w v->Rep X.K G w' v->gK w w'=some k->k=true
 |.aB,w',v,k,h,h',e=>by
  cases(show v=.aB from h);cases w'<;>first|(cases e;done)|(cases h';cases e;rfl)|(exfalso;let⟨_,_,z,_⟩:=h';first|done|cases z)|(exfalso;let⟨_,z,_⟩:=h';first|done|cases z)
 |.bl b,w',v,k,h,h',e=>by
  cases(show v=.bl b from h);cases w'<;>first|(cases e;done)|(cases h';cases e;exact beq_self_eq_true _)|(exfalso;let⟨_,_,z,_⟩:=h';first|done|cases z)|(exfalso;let⟨_,z,_⟩:=h';first|done|cases z)
 |.int b,w',v,k,h,h',e=>by
  cases(show v=.int b from h);cases w'<;>first|(cases e;done)|(cases h';cases e;exact beq_self_eq_true _)|(exfalso;let⟨_,_,z,_⟩:=h';first|done|cases z)|(exfalso;let⟨_,z,_⟩:=h';first|done|cases z)
 |.str b,w',v,k,h,h',e=>by
  cases(show v=.str b from h);cases w'<;>first|(cases e;done)|(cases h';cases e;exact beq_self_eq_true _)|(exfalso;let⟨_,_,z,_⟩:=h';first|done|cases z)|(exfalso;let⟨_,z,_⟩:=h';first|done|cases z)
 |.tup ws,w',v,k,h,h',e=>by
  let⟨a,xs,rfl,q,r⟩:=h;cases w' with
  |tup ws'=>
   let⟨a',i7,z,q',r'⟩:=h';cases z;have:=I.gh (sg.tup q) (sg.tup q');subst this;exact Kg I sg ws r r' (e)
  |lst ws'=>
   let⟨a',i7,z,q',r'⟩:=h';cases z;let⟨aw,_,p1,_⟩:=I.tuple (sg.tup q);let⟨fm,_,p2,_⟩:=I.list (sg.seq q');exact absurd rfl (SeqAt.ne_of_list_tuple p2.isList (show s.heap.IsTuple a _ from p1))
  |aB=>cases h'
  |bl _=>cases h'
  |int _=>cases h'
  |str _=>cases h'
  |exc _=>cases e
  |aV _=>cases e
  |dw _ _ _ _=>cases e
  |fn _ _ _=>cases e
 |.lst ws,w',v,k,h,h',e=>by
  let⟨a,xs,rfl,q,r⟩:=h;cases w' with
  |lst ws'=>
   let⟨a',i7,z,q',r'⟩:=h';cases z;have:=I.ig (sg.seq q) (sg.seq q');subst this;exact Kg I sg ws r r' (e)
  |tup ws'=>
   let⟨a',i7,z,q',r'⟩:=h';cases z;let⟨aw,_,p1,_⟩:=I.tuple (sg.tup q');let⟨fm,_,p2,_⟩:=I.list (sg.seq q);exact absurd rfl (SeqAt.ne_of_list_tuple p2.isList (show s.heap.IsTuple a _ from p1))
  |aB=>cases h'
  |bl _=>cases h'
  |int _=>cases h'
  |str _=>cases h'
  |exc _=>cases e
  |aV _=>cases e
  |dw _ _ _ _=>cases e
  |fn _ _ _=>cases e
 |.exc c,w',v,k,h,h',e=>by cases w'<;>cases e
 |.aV c,w',v,k,h,h',e=>by cases w'<;>cases e
 |.dw _ _ _ _,w',v,k,h,h',e=>by cases w'<;>cases e
 |.fn _ _ _,w',v,k,h,h',e=>by cases w'<;>cases e
theorem Kg(I:Inv X pins σ H s)(sg:ao G H):∀(ws:List W){ws':List W}{vs:List V}{k:Bool},ah X.K G ws vs->ah X.K G ws' vs->cX ws ws'=some k->k=true
 |[],ws',vs,k,h,h',e=>by
  cases h;cases ws' with
  |nil=>cases e;rfl
  |cons _ _=>let⟨_,_,z,_⟩:=h';cases z
 |w::ws,ws',vs,k,h,h',e=>by
  let⟨x,r,rfl,h1,h2⟩:=h;cases ws' with
  |nil=>cases h'
  |cons w' ws'=>
   let⟨x',r',z,zZ,CQ⟩:=h';cases z;have e:(match gK w w',cX ws ws' with|some a,some b=>some (a&&b)|_,_=>none)=some k:=e;cases q1:gK w w' with
   |none=>rw[q1]at e;cases e
   |some b1=>
    cases q2:cX ws ws' with
    |none=>rw[q1,q2]at e;cases e
    |some b2=>
     rw[q1,q2]at e;rw[BK I sg w h1 zZ q1,Kg I sg ws h2 CQ q2]at e;cases e;rfl
end
def yH:∀{xs ys:ai W}{b:ie},cX xs ys=ab b->(∀(j:aO) x y,xs[j]?=ab x->ys[j]?=ab y->∃k,gK x y=ab k)/\b=((ai.CC (min xs.aj ys.aj)).t9 (λj=>((gK (xs.hX j .aB) (ys.hX j .aB)).hX false))&&xs.aj==ys.aj):=by
 intro xs
 induction xs with
 |so=>
  intro ys b h;refine⟨λj x y hx=>by simp at hx,?_⟩
  cases ys<;>(cases h;simp)
 |qT x xs ih=>
  intro ys b h;cases ys with
  |so=>refine⟨λj x y hx hy=>by simp at hy,?_⟩;cases h;simp
  |qT y ys=>
   have h:(match gK x y,cX xs ys with|ab a,ab b=>ab (a&&b)|_,_=>none)=ab b:=h;cases q1:gK x y with
   |none=>rw[q1]at h;cases h
   |ab b1=>
    cases q2:cX xs ys with
    |none=>rw[q1,q2]at h;cases h
    |ab b2=>
     rw[q1,q2]at h;cases h;let⟨h1,h2⟩:=ih q2;refine⟨λj x' y' hx hy=>?_,?_⟩
     .cases j with
      |Yf=>simp at hx hy;subst hx hy;exact⟨_,q1⟩
      |Ye j=>exact h1 j x' y' (by simpa using hx) (by simpa using hy)
     .rw[h2];simp only[w0z,aO.succ_min_succ,ai.range_succ_eq_map,w2v,w5a]
      have e0:(gK ((x::xs).hX 0 .aB) ((y::ys).hX 0 .aB)).hX false=b1:=by
       show(gK x y).hX false=b1;rw[q1];rfl
      rw[e0,ie.and_assoc];congr 1;congr 1;simp
theorem Jh:∀{xs:ai W}{j:aO}{x:W},xs[j]?=ab x->bX x<=bS xs
 |[],_,_,h=>by simp at h
 |y::ys,0,x,h=>by simp at h;subst h;simp only[bS];omega
 |y::ys,j+1,x,h=>by
  have:=Jh (xs:=ys) (j:=j) (by simpa using h);simp only[bS];omega
def El{xs:ai α}{x d:α}(h:xs[j]?=ab x):xs.hX j d=x:=by
 simp[ai.hX,h]
def K'(I:j3 X dN σ H s)(sg:ao G H)(hu:A.zd<zm)(n1:∀ws,w=.gs ws->∀ws',w'≠.gs ws')(n2:∀ws,w=.dI ws->∀ws',w'≠.dI ws')(h:qk X.K G w v)(h':qk X.K G w' v')(r:uI v u)(r':uI v' u')(e:gK w w'=ab b):yl.μ A s u u' b:=by
 have tl:∀{ws:ai W}{v:V}{u:d0},qk X.K G (.dI ws) v->uI v u->∃l ro,u=.dr l/\s.bj._C l ro:=λh r=>by
  let⟨a,xs,rfl,q,_⟩:=h;cases r;let⟨aw,_,p,_⟩:=I.xm (sg.p7 q);exact⟨a,_,rfl,p.zD⟩
 have tt:∀{ws:ai W}{v:V}{u:d0},qk X.K G (.gs ws) v->uI v u->∃l ro,u=.dr l/\s.bj.YD l ro:=λh r=>by
  let⟨a,xs,rfl,q,_⟩:=h;cases r;let⟨aw,_,p,_⟩:=I.Tc (sg.gs q);exact⟨a,_,rfl,p⟩
 have tn:∀{v:V}{u:d0},qk X.K G .aB v->uI v u->u=.none:=λh r=>by cases h;exact r
 have tb:∀{k:ie}{v:V}{u:d0},qk X.K G (.bl k) v->uI v u->u=.xN k:=λh r=>by cases h;exact r
 have ti:∀{k:a7}{v:V}{u:d0},qk X.K G (.aT k) v->uI v u->∃t,u=.aT k t:=λh r=>by cases h;exact r
 have ts:∀{k:et}{v:V}{u:d0},qk X.K G (.str k) v->uI v u->∃t,u=.str k t:=λh r=>by cases h;exact r
 cases w with
 |aB=>
  obtain rfl:=tn h r;cases w' with
  |aB=>obtain rfl:=tn h' r';cases e;exact .none_none
  |bl k=>obtain rfl:=tb h' r';cases e;exact .ì k
  |aT k=>let⟨t,rfl⟩:=ti h' r';cases e;exact .ş k t
  |str k=>let⟨t,rfl⟩:=ts h' r';cases e;exact .Š k t
  |gs k=>let⟨l,it,rfl,p⟩:=tt h' r';cases e;exact .none_tuple p hu
  |dI k=>let⟨l,it,rfl,p⟩:=tl h' r';cases e;exact .none_list p hu
  |Yu k=>cases e
  |aV k=>cases e
  |dw _ _ _ _=>cases e
  |fn _ _ _=>cases e
 |bl j=>
  obtain rfl:=tb h r;cases w' with
  |aB=>obtain rfl:=tn h' r';cases e;exact .Ý j
  |bl k=>obtain rfl:=tb h' r';cases e;exact .Ϸ j k
  |aT k=>let⟨t,rfl⟩:=ti h' r';cases e;exact .ņ j k t
  |str k=>let⟨t,rfl⟩:=ts h' r';cases e;exact .Ň j k t
  |gs k=>let⟨l,it,rfl,p⟩:=tt h' r';cases e;exact .bool_tuple j p hu
  |dI k=>let⟨l,it,rfl,p⟩:=tl h' r';cases e;exact .bool_list j p hu
  |Yu k=>cases e
  |aV k=>cases e
  |dw _ _ _ _=>cases e
  |fn _ _ _=>cases e
 |aT j=>
  let⟨t1,rfl⟩:=ti h r;cases w' with
  |aB=>obtain rfl:=tn h' r';cases e;exact .ŗ j t1
  |bl k=>obtain rfl:=tb h' r';cases e;exact .Ŗ j t1 k
  |aT k=>let⟨t,rfl⟩:=ti h' r';cases e;exact .æ j t1 k t
  |str k=>let⟨t,rfl⟩:=ts h' r';cases e;exact .č j t1 k t
  |gs k=>let⟨l,it,rfl,p⟩:=tt h' r';cases e;exact .int_tuple j t1 p hu
  |dI k=>let⟨l,it,rfl,p⟩:=tl h' r';cases e;exact .int_list j t1 p hu
  |Yu k=>cases e
  |aV k=>cases e
  |dw _ _ _ _=>cases e
  |fn _ _ _=>cases e
 |str j=>
  let⟨t1,rfl⟩:=ts h r;cases w' with
  |aB=>obtain rfl:=tn h' r';cases e;exact .Ŭ j t1
  |bl k=>obtain rfl:=tb h' r';cases e;exact .ū j t1 k
  |aT k=>let⟨t,rfl⟩:=ti h' r';cases e;exact .ĥ j t1 k t
  |str k=>let⟨t,rfl⟩:=ts h' r';cases e;exact .Ħ j t1 k t
  |gs k=>let⟨l,it,rfl,p⟩:=tt h' r';cases e;exact .str_tuple j t1 p hu
  |dI k=>let⟨l,it,rfl,p⟩:=tl h' r';cases e;exact .str_list j t1 p hu
  |Yu k=>cases e
  |aV k=>cases e
  |dw _ _ _ _=>cases e
  |fn _ _ _=>cases e
 |gs j=>
  let⟨l1,GH,rfl,p1⟩:=tt h r;cases w' with
  |aB=>obtain rfl:=tn h' r';cases e;exact .tuple_none p1 hu
  |bl k=>obtain rfl:=tb h' r';cases e;exact .tuple_bool k p1 hu
  |aT k=>let⟨t,rfl⟩:=ti h' r';cases e;exact .tuple_int k t p1 hu
  |str k=>let⟨t,rfl⟩:=ts h' r';cases e;exact .tuple_str k t p1 hu
  |gs k=>grind
  |dI k=>let⟨l,it,rfl,p⟩:=tl h' r';cases e;exact .tuple_list p1 p hu
  |Yu k=>cases e
  |aV k=>cases e
  |dw _ _ _ _=>cases e
  |fn _ _ _=>cases e
 |dI j=>
  let⟨l1,GH,rfl,p1⟩:=tl h r;cases w' with
  |aB=>obtain rfl:=tn h' r';cases e;exact .list_none p1 hu
  |bl k=>obtain rfl:=tb h' r';cases e;exact .list_bool k p1 hu
  |aT k=>let⟨t,rfl⟩:=ti h' r';cases e;exact .list_int k t p1 hu
  |str k=>let⟨t,rfl⟩:=ts h' r';cases e;exact .list_str k t p1 hu
  |dI k=>grind
  |gs k=>let⟨l,it,rfl,p⟩:=tt h' r';cases e;exact .list_tuple p1 p hu
  |Yu k=>cases e
  |aV k=>cases e
  |dw _ _ _ _=>cases e
  |fn _ _ _=>cases e
 |Yu j=>cases w'<;>cases e
 |aV j=>cases w'<;>cases e
 |dw _ _ _ _=>cases w'<;>cases e
 |fn _ _ _=>cases w'<;>cases e
theorem QQ(I:j3 X dN σ H s)(sg:ao G H)(hd:bX w<=0)(hu:A.zd<zm)(h:qk X.K G w v)(h':qk X.K G w' v')(r:uI v u)(r':uI v' u')(e:gK w w'=ab b):yl.μ A s u u' b:=
 K' I sg hu (λws z=>by grind [bX]) (λws z=>by grind [bX]) h h' r r' e
theorem J3(h:qk K G w v):∀x,v≠.u9 x:=λx z=>by
 subst z;cases w with
 |gs ws=>let⟨_,_,z,_⟩:=h;cases z
 |dI ws=>let⟨_,_,z,_⟩:=h;cases z
 |Yu c=>let⟨_,z,_⟩:=h;cases z
 |aV c=>let⟨_,z,_⟩:=h;cases z
 |dw _ _ _ _=>let⟨_,_,_,z,_⟩:=h;cases z
 |fn _ _ _=>let⟨_,_,_,_,z,_⟩:=h;cases z
 |_=>cases h
theorem J4{v:V}{u u':d0}{b:ie}(rv:uI v u)(hf:∀x,v≠.u9 x)(h:yl.μ A s u u' b)(hs:u=u'->b=true):yl.Wh A s u u' b:=λje w E Q hq=>by
 unfold ã;refine ZW ?_;refine ý (λsE=>?_) (λ_=>?_)
 .have hb:=hs (ċ sE);subst hb;exact ny (ÿ (ui hq))
 .have z:=ny (h je w E (λa s'=>oP (qX je w) A (truthOfDropped a) Q E s') (Ε hq))
  cases v with
  |u9 x=>exact uz rfl (hf x)
  |aB=>cases rv;exact z
  |bl _=>cases rv;exact z
  |aT _=>let⟨t,rfl⟩:=rv;exact z
  |str _=>let⟨t,rfl⟩:=rv;exact z
  |uZ _=>let⟨t,rfl⟩:=rv;exact z
  |dr _=>cases rv;exact z
  |ty _=>cases rv;exact z
def Ly(I:j3 X dN σ H s)(sg:ao G H):∀(n:aO){w w':W}{v v':V}{u u':d0}{b:ie}{A:C_},bX w<=n->A.zd+n<zm->qk X.K G w v->qk X.K G w' v'->uI v u->uI v' u'->gK w w'=ab b->yl.μ A s u u' b:=by
 intro n
 induction n with
 |Yf=>
  intro w w' v v' u u' b A hd hu h h' r r' e;exact QQ I sg hd (by omega) h h' r r' e
 |Ye n ih=>
  intro w w' v v' u u' b A hd hu h h' r r' e
  have ro:∀{ws ws':ai W}{xs i7:ai V}{aw its':ai d0}{k:ie},bS ws<=n->ah X.K G ws xs->ah X.K G ws' i7->uw xs aw->uw i7 its'->cX ws ws'=ab k ->
    ∀j (h1:j<aw.l8.dS) (h2:j<its'.l8.dS),yl.Wh A.Ba s aw.l8[j] its'.l8[j] ((gK (ws.hX j .aB) (ws'.hX j .aB)).hX false):=by
   intro ws ws' xs i7 aw its' k hd r1 r2 v1 v2 he j h1 h2;have l1:=r1.aj;have l2:=r2.aj;have m1:=v1.aj;have m2:=v2.aj;have i1:j<xs.aj:=by rw[m1];simpa using h1
   have i2:j<i7.aj:=by rw[m2];simpa using h2
   let⟨u1,e1,vQ⟩:=v1.Ff (w0c i1);let⟨u2,e2,B6⟩:=v2.Ff (w0c i2);let⟨w1,f1,p1⟩:=r1.jc (w0c i1);let⟨w2,f2,p2⟩:=r2.jc (w0c i2);let⟨b',ml⟩:=(yH he).1 j w1 w2 f1 f2;rw[El f1,El f2,ml]
   have g1:aw.l8[j]=u1:=by
    let⟨_,z⟩:=w0b.mp e1
    simpa using z
   have g2:its'.l8[j]=u2:=by
    let⟨_,z⟩:=w0b.mp e2
    simpa using z
   rw[g1,g2];have FO:bX w1<=n:=w1a (Jh f1) hd
   have Gz:A.Ba.zd+n<zm:=by
    have:A.Ba.zd=A.zd+1:=rfl;omega
   refine J4 vQ (J3 p1) (ih FO Gz p1 p2 vQ B6 ml) λz=>?_
   subst z;have:=vQ.zT B6;rw[this]at p1;exact BK I sg w1 p1 p2 ml
  cases w with
  |gs ws=>
   cases w' with
   |gs ws'=>
    let⟨a,xs,rfl,q1,r1⟩:=h;let⟨a',i7,rfl,q2,r2⟩:=h';cases r;cases r';let⟨aw,v1,p1,_⟩:=I.Tc (sg.gs q1);let⟨its',v2,p2,_⟩:=I.Tc (sg.gs q2);have e:cX ws ws'=ab b:=e;have z:=yl.μ.Ĭ (show s.bj.YD a _ from p1) (show s.bj.YD a' _ from p2) (show A.zd<zm by omega) (ro (by simp only[bX]at hd;omega) r1 r2 v1 v2 e);have l1:=r1.aj;have l2:=r2.aj;have m1:=v1.aj;have m2:=v2.aj;have eb:=(yH e).2;have n1:aw.aj=ws.aj:=by omega
    have n2:its'.aj=ws'.aj:=by omega
    rw[eb];simp only[w0e,n1,n2]at z;exact z
   |_=>exact K' I sg (by omega) (by intro ws';simp) (by intro ws';simp) h h' r r' e
  |dI ws=>
   cases w' with
   |dI ws'=>
    let⟨a,xs,rfl,q1,r1⟩:=h;let⟨a',i7,rfl,q2,r2⟩:=h';cases r;cases r';let⟨aw,v1,p1,_⟩:=I.xm (sg.p7 q1);let⟨its',v2,p2,_⟩:=I.xm (sg.p7 q2);have e:cX ws ws'=ab b:=e;have l1:=r1.aj;have l2:=r2.aj;have m1:=v1.aj;have m2:=v2.aj;have eb:=(yH e).2;have n1:aw.aj=ws.aj:=by omega
    have n2:its'.aj=ws'.aj:=by omega
    by_cases hl:ws.aj=ws'.aj
    .have z:=yl.μ.lists p1.zD p2.zD (by simp only[w0e];omega) (show A.zd<zm by omega) (ro (by simp only[bX]at hd;omega) r1 r2 v1 v2 e);rw[eb,hl];simp only[w0e,n1,hl,aO.min_self,Ņ,w4q]at z |-
     exact z
    .have z:=yl.μ.zcU (A:=A) p1.zD p2.zD (by simp only[w0e,Ϣ];omega) (show A.zd<zm by omega)
     have:b=false:=by
      rw[eb];have:(ws.aj==ws'.aj)=false:=by simp[hl]
      rw[this,w5j]
     rw[this];exact z
   |_=>exact K' I sg (by omega) (by intro ws';simp) (by intro ws';simp) h h' r r' e
  |_=>exact QQ I sg (by simp[bX]) (by omega) h h' r r' e
def J7(I:j3 X dN σ H s)(sg:ao G H)(hu:A.zd<zm)(n1:∀ws,w=.gs ws->∀ws',w'≠.gs ws')(n2:∀ws,w=.dI ws->∀ws',w'≠.dI ws')(h:qk X.K G w v)(h':qk X.K G w' v')(r:uI v u)(r':uI v' u')(e:gK w w'=ab b):yl.ϳ A s u u' (!b):=by
 have tl:∀{ws:ai W}{v:V}{u:d0},qk X.K G (.dI ws) v->uI v u->∃l ro,u=.dr l/\s.bj._C l ro:=λh r=>by
  let⟨a,xs,rfl,q,_⟩:=h;cases r;let⟨aw,_,p,_⟩:=I.xm (sg.p7 q);exact⟨a,_,rfl,p.zD⟩
 have tt:∀{ws:ai W}{v:V}{u:d0},qk X.K G (.gs ws) v->uI v u->∃l ro,u=.dr l/\s.bj.YD l ro:=λh r=>by
  let⟨a,xs,rfl,q,_⟩:=h;cases r;let⟨aw,_,p,_⟩:=I.Tc (sg.gs q);exact⟨a,_,rfl,p⟩
 have tn:∀{v:V}{u:d0},qk X.K G .aB v->uI v u->u=.none:=λh r=>by cases h;exact r
 have tb:∀{k:ie}{v:V}{u:d0},qk X.K G (.bl k) v->uI v u->u=.xN k:=λh r=>by cases h;exact r
 have ti:∀{k:a7}{v:V}{u:d0},qk X.K G (.aT k) v->uI v u->∃t,u=.aT k t:=λh r=>by cases h;exact r
 have ts:∀{k:et}{v:V}{u:d0},qk X.K G (.str k) v->uI v u->∃t,u=.str k t:=λh r=>by cases h;exact r
 cases w with
 |aB=>
  obtain rfl:=tn h r;cases w' with
  |aB=>obtain rfl:=tn h' r';cases e;exact .none_none
  |bl k=>obtain rfl:=tb h' r';cases e;exact .ì k
  |aT k=>let⟨t,rfl⟩:=ti h' r';cases e;exact .ş k t
  |str k=>let⟨t,rfl⟩:=ts h' r';cases e;exact .Š k t
  |gs k=>let⟨l,it,rfl,p⟩:=tt h' r';cases e;exact .none_tuple p hu
  |dI k=>let⟨l,it,rfl,p⟩:=tl h' r';cases e;exact .none_list p hu
  |Yu k=>cases e
  |aV k=>cases e
  |dw _ _ _ _=>cases e
  |fn _ _ _=>cases e
 |bl j=>
  obtain rfl:=tb h r;cases w' with
  |aB=>obtain rfl:=tn h' r';cases e;exact .Ý j
  |bl k=>obtain rfl:=tb h' r';cases e;exact .Ϸ j k
  |aT k=>let⟨t,rfl⟩:=ti h' r';cases e;exact .ņ j k t
  |str k=>let⟨t,rfl⟩:=ts h' r';cases e;exact .Ň j k t
  |gs k=>let⟨l,it,rfl,p⟩:=tt h' r';cases e;exact .bool_tuple j p hu
  |dI k=>let⟨l,it,rfl,p⟩:=tl h' r';cases e;exact .bool_list j p hu
  |Yu k=>cases e
  |aV k=>cases e
  |dw _ _ _ _=>cases e
  |fn _ _ _=>cases e
 |aT j=>
  let⟨t1,rfl⟩:=ti h r;cases w' with
  |aB=>obtain rfl:=tn h' r';cases e;exact .ŗ j t1
  |bl k=>obtain rfl:=tb h' r';cases e;exact .Ŗ j t1 k
  |aT k=>let⟨t,rfl⟩:=ti h' r';cases e;exact .æ j t1 k t
  |str k=>let⟨t,rfl⟩:=ts h' r';cases e;exact .č j t1 k t
  |gs k=>let⟨l,it,rfl,p⟩:=tt h' r';cases e;exact .int_tuple j t1 p hu
  |dI k=>let⟨l,it,rfl,p⟩:=tl h' r';cases e;exact .int_list j t1 p hu
  |Yu k=>cases e
  |aV k=>cases e
  |dw _ _ _ _=>cases e
  |fn _ _ _=>cases e
 |str j=>
  let⟨t1,rfl⟩:=ts h r;cases w' with
  |aB=>obtain rfl:=tn h' r';cases e;exact .Ŭ j t1
  |bl k=>obtain rfl:=tb h' r';cases e;exact .ū j t1 k
  |aT k=>let⟨t,rfl⟩:=ti h' r';cases e;exact .ĥ j t1 k t
  |str k=>let⟨t,rfl⟩:=ts h' r';cases e;exact .Ħ j t1 k t
  |gs k=>let⟨l,it,rfl,p⟩:=tt h' r';cases e;exact .str_tuple j t1 p hu
  |dI k=>let⟨l,it,rfl,p⟩:=tl h' r';cases e;exact .str_list j t1 p hu
  |Yu k=>cases e
  |aV k=>cases e
  |dw _ _ _ _=>cases e
  |fn _ _ _=>cases e
 |gs j=>
  let⟨l1,GH,rfl,p1⟩:=tt h r;cases w' with
  |aB=>obtain rfl:=tn h' r';cases e;exact .tuple_none p1 hu
  |bl k=>obtain rfl:=tb h' r';cases e;exact .tuple_bool k p1 hu
  |aT k=>let⟨t,rfl⟩:=ti h' r';cases e;exact .tuple_int k t p1 hu
  |str k=>let⟨t,rfl⟩:=ts h' r';cases e;exact .tuple_str k t p1 hu
  |gs k=>grind
  |dI k=>let⟨l,it,rfl,p⟩:=tl h' r';cases e;exact .tuple_list p1 p hu
  |Yu k=>cases e
  |aV k=>cases e
  |dw _ _ _ _=>cases e
  |fn _ _ _=>cases e
 |dI j=>
  let⟨l1,GH,rfl,p1⟩:=tl h r;cases w' with
  |aB=>obtain rfl:=tn h' r';cases e;exact .list_none p1 hu
  |bl k=>obtain rfl:=tb h' r';cases e;exact .list_bool k p1 hu
  |aT k=>let⟨t,rfl⟩:=ti h' r';cases e;exact .list_int k t p1 hu
  |str k=>let⟨t,rfl⟩:=ts h' r';cases e;exact .list_str k t p1 hu
  |dI k=>grind
  |gs k=>let⟨l,it,rfl,p⟩:=tt h' r';cases e;exact .list_tuple p1 p hu
  |Yu k=>cases e
  |aV k=>cases e
  |dw _ _ _ _=>cases e
  |fn _ _ _=>cases e
 |Yu j=>cases w'<;>cases e
 |aV j=>cases w'<;>cases e
 |dw _ _ _ _=>cases w'<;>cases e
 |fn _ _ _=>cases w'<;>cases e
theorem zbt(I:j3 X dN σ H s)(sg:ao G H)(hd:bX w<=0)(hu:A.zd<zm)(h:qk X.K G w v)(h':qk X.K G w' v')(r:uI v u)(r':uI v' u')(e:gK w w'=ab b):yl.ϳ A s u u' (!b):=
 J7 I sg hu (λws z=>by grind [bX]) (λws z=>by grind [bX]) h h' r r' e
def PX(I:j3 X dN σ H s)(sg:ao G H)(hu:A.zd+(n+1)<zm)(hd:bS ws<=n)(r1:ah X.K G ws xs)(r2:ah X.K G ws' i7)(v1:uw xs aw)(v2:uw i7 its')(he:cX ws ws'=ab k):
  ∀j (h1:j<aw.l8.dS) (h2:j<its'.l8.dS),yl.Wh A.Ba s aw.l8[j] its'.l8[j] ((gK (ws.hX j .aB) (ws'.hX j .aB)).hX false):=by
 intro j h1 h2;have l1:=r1.aj;have l2:=r2.aj;have m1:=v1.aj;have m2:=v2.aj;have i1:j<xs.aj:=by rw[m1];simpa using h1
 have i2:j<i7.aj:=by rw[m2];simpa using h2
 let⟨u1,e1,vQ⟩:=v1.Ff (w0c i1);let⟨u2,e2,B6⟩:=v2.Ff (w0c i2);let⟨w1,f1,p1⟩:=r1.jc (w0c i1);let⟨w2,f2,p2⟩:=r2.jc (w0c i2);let⟨b',ml⟩:=(yH he).1 j w1 w2 f1 f2;rw[El f1,El f2,ml]
 have g1:aw.l8[j]=u1:=by
  grind
 have g2:its'.l8[j]=u2:=by
  grind
 rw[g1,g2];have FO:bX w1<=n:=w1a (Jh f1) hd
 have Gz:A.Ba.zd+n<zm:=by
  grind
 refine J4 vQ (J3 p1) (Ly I sg n FO Gz p1 p2 vQ B6 ml) λz=>?_
 subst z;have:=vQ.zT B6
 grind [BK]
def z4w(I:j3 X dN σ H s)(sg:ao G H)(n:aO){w':W}{v v':V}{u u':d0}{b:ie}(hd:bX w<=n+1)(hu:A.zd+(n+1)<zm)(h:qk X.K G w v)(h':qk X.K G w' v')(r:uI v u)(r':uI v' u')(e:gK w w'=ab b):yl.ϳ A s u u' (!b):=by
 cases w with
 |gs ws=>
  cases w' with
  |gs ws'=>
   let⟨a,xs,rfl,q1,r1⟩:=h;let⟨a',i7,rfl,q2,r2⟩:=h';cases r;cases r';let⟨aw,v1,p1,_⟩:=I.Tc (sg.gs q1);let⟨its',v2,p2,_⟩:=I.Tc (sg.gs q2);have e:cX ws ws'=ab b:=e;have z:=yl.ϳ.Ĭ (show s.bj.YD a _ from p1) (show s.bj.YD a' _ from p2) (show A.zd<zm by omega) (PX I sg hu (by simp only[bX]at hd;omega) r1 r2 v1 v2 e);have l1:=r1.aj;have l2:=r2.aj;have m1:=v1.aj;have m2:=v2.aj;have eb:=(yH e).2;have n1:aw.aj=ws.aj:=by omega
   have n2:its'.aj=ws'.aj:=by omega
   rw[eb];simp only[w0e,n1,n2]at z;exact z
  |_=>exact J7 I sg (by omega) (by intro ws';simp) (by intro ws';simp) h h' r r' e
 |dI ws=>
  cases w' with
  |dI ws'=>
   let⟨a,xs,rfl,q1,r1⟩:=h;let⟨a',i7,rfl,q2,r2⟩:=h';cases r;cases r';let⟨aw,v1,p1,_⟩:=I.xm (sg.p7 q1);let⟨its',v2,p2,_⟩:=I.xm (sg.p7 q2);have e:cX ws ws'=ab b:=e;have l1:=r1.aj;have l2:=r2.aj;have m1:=v1.aj;have m2:=v2.aj;have eb:=(yH e).2;have n1:aw.aj=ws.aj:=by omega
   have n2:its'.aj=ws'.aj:=by omega
   by_cases hl:ws.aj=ws'.aj
   .have z:=yl.ϳ.lists p1.zD p2.zD (by simp only[w0e];omega) (show A.zd<zm by omega) (PX I sg hu (by simp only[bX]at hd;omega) r1 r2 v1 v2 e);rw[eb,hl];simp only[w0e,n1,hl,aO.min_self,Ņ,w4q]at z |-
    exact z
   .have z:=yl.ϳ.zcU (A:=A) p1.zD p2.zD (by simp only[w0e,Ϣ];omega) (show A.zd<zm by omega)
    have:b=false:=by
     rw[eb];have:(ws.aj==ws'.aj)=false:=by simp[hl]
     rw[this,w5j]
    rw[this];exact z
  |_=>exact J7 I sg (by omega) (by intro ws';simp) (by intro ws';simp) h h' r r' e
 |_=>exact zbt I sg (by simp[bX]) (by omega) h h' r r' e
def zf(x y:W):d3 W:=if bX x<=150 then(gK x y).a6 .bl else none
def BW(K:Fg):R2:=λx y H Q=>∃G wx wy b,ao G H/\bX wx<=150/\qk K G wx x/\qk K G wy y/\gK wx wy=ab b/\Q (.bl b) H
def RA(hu:X.A.zd+150<zm):fK X (ZI .Eq) (BW X.K):=by
 intro dN s σ H x y v u Q I rx ry h;let⟨G,wx,wy,b,sg,hd,hx,hy,e,q⟩:=h;exact Ly I sg 150 hd hu hx hy rx ry e _ _ _ _ ⟨.bl b,H,I,rfl,q⟩
def SO:iE K (BW K) zf:=by
 intro G H x y wx wy w Q s px py hf h;unfold zf at hf;split at hf
 .rename_i hd;let⟨b,hb,rfl⟩:=w0j.mp hf;exact⟨G,wx,wy,b,s,hd,px,py,hb,h G _ H (.t8 s) rfl⟩
 .cases hf
def YK(x y:W):d3 W:=if bX x<=150 then(gK x y).a6 λb=>.bl (!b)else none
def B3(K:Fg):R2:=λx y H Q=>∃G wx wy b,ao G H/\bX wx<=150/\qk K G wx x/\qk K G wy y/\gK wx wy=ab b/\Q (.bl (!b)) H
def RB(hu:X.A.zd+150<zm):fK X (ZI .NotEq) (B3 X.K):=by
 intro dN s σ H x y v u Q I rx ry h;let⟨G,wx,wy,b,sg,hd,hx,hy,e,q⟩:=h;exact z4w I sg 149 hd hu hx hy rx ry e _ _ _ _ ⟨.bl (!b),H,I,rfl,q⟩
def SS:iE K (B3 K) YK:=by
 intro G H x y wx wy w Q s px py hf h;unfold YK at hf;split at hf
 .rename_i hd;let⟨b,hb,rfl⟩:=w0j.mp hf;exact⟨G,wx,wy,b,s,hd,px,py,hb,h G _ H (.t8 s) rfl⟩
 .cases hf
def kO:W->W->d3 W
 |.aB,.aB=>ab (.bl true)
 |_,.aB=>ab (.bl false)
 |.bl a,.bl b=>ab (.bl (a==b))
 |_,.bl _=>ab (.bl false)
 |_,_=>none
def gp:W->W->d3 W
 |.aB,.aB=>ab (.bl false)
 |_,.aB=>ab (.bl true)
 |.bl a,.bl b=>ab (.bl (!(a==b)))
 |_,.bl _=>ab (.bl true)
 |_,_=>none
def NI:R2:=λx y H Q=>(y=.aB\/∃b,y=.bl b)/\Q (.bl (decide (x=y))) H
def B4:R2:=λx y H Q=>(y=.aB\/∃b,y=.bl b)/\Q (.bl (!decide (x=y))) H
def PY{x y:V}{v u:d0}(rx:uI x v)(ry:uI y u)(h:y=.aB\/∃b,y=.bl b):plainIs v u=true/\(v==u)=decide (x=y):=by
 rcases h with rfl|⟨b,rfl⟩
 .cases ry
  cases x<;>first
   |(cases rx;exact⟨rfl,by first|rfl|(rw[w1v];simp)⟩)
   |(let⟨t,rfl⟩:=rx;exact⟨rfl,by rw[w1v];simp⟩)
 .cases ry
  cases x<;>first
   |(cases rx;exact⟨rfl,by first|rfl|(rw[w1v];simp)⟩)
   |(let⟨t,rfl⟩:=rx;exact⟨rfl,by rw[w1v];simp⟩)
def RC:fK X (ZI .Is) NI:=by
 intro dN s σ H x y v u Q I rx ry h;let⟨hy,q⟩:=h;let⟨h1,h2⟩:=PY rx ry hy;exact wpAny_is_plain h1 (RG I q h2.symm)
def QR:fK X (ZI .IsNot) B4:=by
 intro dN s σ H x y v u Q I rx ry h;let⟨hy,q⟩:=h;let⟨h1,h2⟩:=PY rx ry hy;exact wpAny_isNot_plain h1 (RG I q (by rw[h2]))
def UK{x y:V}{wx wy:W}(px:qk K G wx x)(py:qk K G wy y)(h:kO wx wy=ab w):(y=.aB\/∃b,y=.bl b)/\w=.bl (decide (x=y)):=by
 cases wy with
 |aB=>
  cases(show y=.aB from py);refine⟨.jd rfl,?_⟩;cases wx with
  |gs ws=>let⟨_,_,rfl,_⟩:=px;cases h;simp
  |dI ws=>let⟨_,_,rfl,_⟩:=px;cases h;simp
  |Yu c=>let⟨_,rfl,_⟩:=px;cases h;simp
  |aV c=>let⟨_,rfl,_⟩:=px;cases h;simp
  |dw _ _ _ _=>let⟨_,_,_,rfl,_⟩:=px;cases h;simp
  |fn _ _ _=>let⟨_,_,_,_,rfl,_⟩:=px;cases h;simp
  |_=>cases px;cases h;simp
 |bl b=>
  cases(show y=.bl b from py);refine⟨.lb ⟨b,rfl⟩,?_⟩;cases wx with
  |gs ws=>let⟨_,_,rfl,_⟩:=px;cases h;simp
  |dI ws=>let⟨_,_,rfl,_⟩:=px;cases h;simp
  |Yu c=>let⟨_,rfl,_⟩:=px;cases h;simp
  |aV c=>let⟨_,rfl,_⟩:=px;cases h;simp
  |dw _ _ _ _=>let⟨_,_,_,rfl,_⟩:=px;cases h;simp
  |fn _ _ _=>let⟨_,_,_,_,rfl,_⟩:=px;cases h;simp
  |bl k=>cases px;cases h;cases k<;>cases b<;>rfl
  |_=>cases px;cases h;simp
 |_=>cases wx<;>cases h
def Te{x y:V}{wx wy:W}(px:qk K G wx x)(py:qk K G wy y)(h:gp wx wy=ab w):(y=.aB\/∃b,y=.bl b)/\w=.bl (!decide (x=y)):=by
 cases wy with
 |aB=>
  cases(show y=.aB from py);refine⟨.jd rfl,?_⟩;cases wx with
  |gs ws=>let⟨_,_,rfl,_⟩:=px;cases h;simp
  |dI ws=>let⟨_,_,rfl,_⟩:=px;cases h;simp
  |Yu c=>let⟨_,rfl,_⟩:=px;cases h;simp
  |aV c=>let⟨_,rfl,_⟩:=px;cases h;simp
  |dw _ _ _ _=>let⟨_,_,_,rfl,_⟩:=px;cases h;simp
  |fn _ _ _=>let⟨_,_,_,_,rfl,_⟩:=px;cases h;simp
  |_=>cases px;cases h;simp
 |bl b=>
  cases(show y=.bl b from py);refine⟨.lb ⟨b,rfl⟩,?_⟩;cases wx with
  |gs ws=>let⟨_,_,rfl,_⟩:=px;cases h;simp
  |dI ws=>let⟨_,_,rfl,_⟩:=px;cases h;simp
  |Yu c=>let⟨_,rfl,_⟩:=px;cases h;simp
  |aV c=>let⟨_,rfl,_⟩:=px;cases h;simp
  |dw _ _ _ _=>let⟨_,_,_,rfl,_⟩:=px;cases h;simp
  |fn _ _ _=>let⟨_,_,_,_,rfl,_⟩:=px;cases h;simp
  |bl k=>cases px;cases h;cases k<;>cases b<;>rfl
  |_=>cases px;cases h;simp
 |_=>cases wx<;>cases h
def SU:iE K NI kO:=by
 intro G H x y wx wy w Q s px py hf h;let⟨h1,rfl⟩:=UK px py hf;exact⟨h1,h G _ H (.t8 s) rfl⟩
def RD:iE K B4 gp:=by
 intro G H x y wx wy w Q s px py hf h;let⟨h1,rfl⟩:=Te px py hf;exact⟨h1,h G _ H (.t8 s) rfl⟩
section
variable{a b c e:p6}{p:vW}{x:et}
theorem Q01(ha:DE Z X EE a da)(hb:DE Z X EE b db):DE Z X EE (._A a .Sub b gw) (aq rV da db):=vJ z9x Tg ha hb
theorem Q02(ha:DE Z X EE a da)(hb:DE Z X EE b db):DE Z X EE (._A a .ι b gw) (aq iq da db):=vJ z9y Th ha hb
theorem z4x(ha:DE Z X EE a da)(hb:DE Z X EE b db):DE Z X EE (._A a .FloorDiv b gw) (aq cn da db):=vJ z30 z4s ha hb
theorem Q03(ha:DE Z X EE a da)(hb:DE Z X EE b db):DE Z X EE (._A a .θ b gw) (aq b9 da db):=vJ z9z Ti ha hb
theorem Q04(ha:DE Z X EE a da)(hb:DE Z X EE b db):DE Z X EE (._A a .Pow b gw) (aq rl da db):=vJ z90 Tj ha hb
theorem Q05(ha:DE Z X EE a da):DE Z X EE (._T .USub a gw) (nq nM da):=UI z91 Tn ha
theorem Q5l(ha:DE Z X EE a da)(hb:DE Z X EE b db):DE Z X EE (.Yz a [.Lt] [b] gw) (aq oF da db):=xE SE SH ha hb (cC _)
theorem Q5m(ha:DE Z X EE a da)(hb:DE Z X EE b db):DE Z X EE (.Yz a [.LtE] [b] gw) (aq w_ da db):=xE SF SJ ha hb (cC _)
theorem Q5n(ha:DE Z X EE a da)(hb:DE Z X EE b db):DE Z X EE (.Yz a [.Gt] [b] gw) (aq kx da db):=xE SG SM ha hb (cC _)
theorem Q5o(hu:X.A.zd+150<zm)(ha:DE Z X EE a da)(hb:DE Z X EE b db):DE Z X EE (.Yz a [.Eq] [b] gw) (aq zf da db):=xE (RA hu) SO ha hb (cC _)
theorem Q5p(hu:X.A.zd+150<zm)(ha:DE Z X EE a da)(hb:DE Z X EE b db):DE Z X EE (.Yz a [.NotEq] [b] gw) (aq YK da db):=xE (RB hu) SS ha hb (cC _)
theorem Q5q(ha:DE Z X EE a da)(hb:DE Z X EE b db):DE Z X EE (.Yz a [.Is] [b] gw) (aq kO da db):=xE RC SU ha hb (cC _)
theorem Q06(ha:DE Z X EE a da)(hb:DE Z X EE b db):DE Z X EE (.Yz a [.IsNot] [b] gw) (aq gp da db):=xE QR RD ha hb (cC _)
theorem Q5r(ha:DE Z X EE a da)(hb:DE Z X EE b db):DT Z X EE (.Yz a [.Lt] [b] gw) (ax (aq oF da db)):=sW SE SH ha hb (cC _)
theorem Q5s(ha:DE Z X EE a da)(hb:DE Z X EE b db):DT Z X EE (.Yz a [.LtE] [b] gw) (ax (aq w_ da db)):=sW SF SJ ha hb (cC _)
theorem Q5t(ha:DE Z X EE a da)(hb:DE Z X EE b db):DT Z X EE (.Yz a [.Gt] [b] gw) (ax (aq kx da db)):=sW SG SM ha hb (cC _)
theorem Q5u(ha:DE Z X EE a da)(hb:DE Z X EE b db):DT Z X EE (.Yz a [.GtE] [b] gw) (ax (aq zX da db)):=sW Ud UJ ha hb (cC _)
theorem Q5v(hu:X.A.zd+150<zm)(ha:DE Z X EE a da)(hb:DE Z X EE b db):DT Z X EE (.Yz a [.Eq] [b] gw) (ax (aq zf da db)):=sW (RA hu) SO ha hb (cC _)
theorem Q5w(hu:X.A.zd+150<zm)(ha:DE Z X EE a da)(hb:DE Z X EE b db):DT Z X EE (.Yz a [.NotEq] [b] gw) (ax (aq YK da db)):=sW (RB hu) SS ha hb (cC _)
theorem Q5x(ha:DE Z X EE a da)(hb:DE Z X EE b db):DT Z X EE (.Yz a [.Is] [b] gw) (ax (aq kO da db)):=sW RC SU ha hb (cC _)
theorem Q07(ha:DE Z X EE a da)(hb:DE Z X EE b db):DT Z X EE (.Yz a [.IsNot] [b] gw) (ax (aq gp da db)):=sW QR RD ha hb (cC _)
def Wu{k:aO}(h:br k A):A.zd+150<zm:=by have:=h.un;omega
def gJ(xs:ai W)(lo hi:d3 a7):ai W:=(xs.xO (HT.cA xs.aj 0 lo)).wj (HT.cA xs.aj xs.aj hi-HT.cA xs.aj 0 lo)
def ah.cut{xs:ai V}(r:ah K G ws xs)(lo hi:d3 a7):ah K G (gJ ws lo hi) (ko xs lo hi):=by
 unfold gJ ko;rw[r.aj];exact(r.xO _).wj _
def DO(Z:Zt)(X:Cx)(EE:L2.St->XK)(e:d3 p6)(d:iw (d3 a7)):Prop:=PO X e (λσ H Q=>∃G e,pZ X.K Z G σ H e/\(d e).SA (λo e'=>∀G' H',pZ X.K Z G' σ H' e'->ao G G'->Q o H') (XH X.K Z EE σ G))
def bI:iw (d3 a7):=λe=>.ok none e
def dJ(d:iw W):iw (d3 a7):=λe=>(d e).r7 λw e1=>match w with
 |.aT i=>.ok (ab i) e1
 |_=>.no
theorem PO.k8{e:d3 p6}{t t':TO}(h:PO X e t)(i:∀σ H Q,t' σ H Q->t σ H Q):PO X e t':=λdN s σ H Q I q=>h dN s σ H Q I (i σ H Q q)
theorem z4y:DO Z X EE none bI:=PO.k8 z33 λσ H Q ⟨G,e,r,h⟩=>h G H r (.t8 _)
def z4z(h:DE Z X EE e da):DO Z X EE (ab e) (dJ da):=by
 refine PO.k8 (z34 h) ?_;rintro σ H Q ⟨G,e,mQ,h⟩;simp only[dJ,R.ar]at h;refine⟨G,e,mQ,h.uM (λx e1 h G1 v1 H1 r1 s1 p1=>?_) λ_ _ h=>h⟩
 cases x with
 |aT i=>cases(show v1=V.aT i from p1);exact⟨i,rfl,h G1 H1 r1 s1⟩
 |_=>exact h.oa
def s_:W->d3 a7->d3 a7->d3 W
 |.dI ws,lo,hi=>ab (.dI (gJ ws lo hi))
 |.gs ws,lo,hi=>if ¬(HT.cA ws.aj 0 lo=0/\HT.cA ws.aj ws.aj hi=ws.aj)then ab (.gs (gJ ws lo hi))else none
 |_,_,_=>none
def mT(d:iw W)(dl dh:iw (d3 a7)):iw W:=λe=>(d e).r7 λw e1=>(dl e1).r7 λlo e2=>(dh e2).r7 λhi e3=>bp (s_ w lo hi) e3
def y9n{lo hi:d3 p6}{dl dh:iw (d3 a7)}(he:DE Z X EE e da)(hl:DO Z X EE lo dl)(hh:DO Z X EE hi dh):DE Z X EE (.Yb e (.ZX lo hi none p2) gw) (mT da dl dh):=by
 refine PE.k8 (y83 (zdK.or z94) he hl hh) ?_;rintro σ H Q ⟨G,e,mQ,h⟩;simp only[mT,R.ar,aZ]at h;refine⟨G,e,mQ,h.uM (λw e1 h G1 v1 H1 r1 s1 p1=>?_) λ_ _ h=>h⟩
 refine⟨G1,e1,r1,h.uM (λlo e2 h G2 H2 r2 s2=>?_) λ_ _ h=>XH.kZ s1 h⟩
 refine⟨G2,e2,r2,h.uM (λhi e3 h G3 H3 r3 s3=>?_) λ_ _ h=>XH.kZ (s1.kZ s2) h⟩
 let⟨y,hf,h⟩:=h;have p3:=qk.k8 (s2.kZ s3) w p1;have NK:=(s1.kZ s2).kZ s3;cases w with
 |dI ws=>
  cases hf;let⟨a,xs,rfl,q,r⟩:=p3;refine .jd ⟨a,xs,rfl,r3.p9.p7 q,λp hp=>?_⟩
  have g:=aK.JN r3.p9 hp (.dI (ko xs lo hi));exact h _ _ _ (r3.zR g) (NK.kZ g.gg) ⟨p,_,rfl,bD.of bN,ah.k8 g.gg _ (r.cut lo hi)⟩
 |gs ws=>
  simp only[s_]at hf;split at hf
  .rename_i hw;cases hf;let⟨a,xs,rfl,q,r⟩:=p3;refine .lb ⟨a,xs,rfl,r3.p9.gs q,by rw[r.aj];exact hw,λp hp=>?_⟩
   have g:=aK.JN r3.p9 hp (.gs (ko xs lo hi));exact h _ _ _ (r3.zR g) (NK.kZ g.gg) ⟨p,_,rfl,bK.of bN,ah.k8 g.gg _ (r.cut lo hi)⟩
  .cases hf
 |_=>cases hf
def WU:W->d0
 |.aB=>.ke "NoneType"
 |.bl _=>.ke "bool"
 |.aT _=>.ke "int"
 |.str _=>.ke "str"
 |.gs _=>.ke "tuple"
 |.dI _=>.ke "list"
 |.Yu c=>c
 |.aV _=>.ke "dict"
 |.dw _ _ _ _=>.ke "dict"
 |.fn _ _ _=>.ke "dict"
def jW(K:Fg)(cv:d0):W->d3 W
 |.Yu (.dr D)=>if jQ K D=true then(YR K (.dr D) cv).a6 .bl else none
 |.Yu _=>none
 |.aV _=>none
 |.dw _ _ _ _=>none
 |.fn _ _ _=>none
 |w=>(YR K (WU w) cv).a6 .bl
def z40{v:V}{u:d0}{b:ie}{Q:VK}(I:j3 X dN σ H s)(sg:ao G H)(p:qk X.K G w v)(r:uI v u)(h:jW X.K cv w=ab (.bl b))(q:Q (.bl b) H):
  oP (qX X.je X.w) X.A (zb (.w4 "isinstance") [u,cv]) (EP X dN σ Q) X.xe s:=by
 have xT:∀tk,EP X dN σ Q (.xN b) {s with tK:=tk}:=λtk=>⟨.bl b,H,I.Ym _,rfl,q⟩
 have wW:∀{t:d0},(YR X.K t cv).a6 W.bl=ab (.bl b)->YR X.K t cv=ab b:=λz=>by
  let⟨y,h1,h2⟩:=w0j.mp z;cases h2;exact h1
 cases w with
 |aB=>cases p;cases r;exact Ϧ n9.W.kitx_none I.mw j'.intro (wW h) (λz=>nomatch z) xT
 |bl y=>cases p;cases r;exact Ϧ n9.W.kitx_bool I.mw j'.intro (wW h) (λz=>nomatch z) xT
 |aT y=>cases p;let⟨t,rfl⟩:=r;exact Ϧ n9.W.kitx_int I.mw j'.intro (wW h) (λz=>nomatch z) xT
 |str y=>cases p;let⟨t,rfl⟩:=r;exact Ϧ n9.W.kitx_str I.mw j'.intro (wW h) (λz=>nomatch z) xT
 |gs ws=>
  let⟨a,xs,rfl,hq,_⟩:=p;cases r;let⟨aw,_,⟨o,h1,h2,_⟩,_⟩:=I.Tc (sg.gs hq);exact Ϧ n9.W.kitx_tuple I.mw ⟨o,h1,h2⟩ (wW h) (λz=>nomatch z) xT
 |dI ws=>
  let⟨a,xs,rfl,hq,_⟩:=p;cases r;let⟨aw,_,⟨o,n,h1,h2,_⟩,_⟩:=I.xm (sg.p7 hq);exact Ϧ n9.W.kitx_list I.mw ⟨o,h1,h2⟩ (wW h) (λz=>nomatch z) xT
 |aV c=>simp[jW]at h
 |dw _ _ _ _=>simp[jW]at h
 |fn _ _ _=>simp[jW]at h
 |Yu c=>
  let⟨e,rfl,he⟩:=p;cases r;unfold jW at h;split at h
  .rename_i D heq;cases heq;split at h
   .rename_i hC;let⟨⟨o,vs,h1,h2,h3⟩,_⟩:=(show aU X.je X.w H s.bj e (wq e (.dr D))from I.aQ e _ (sg _ _ he));exact Ϧ (y89 (iG.of hC)) I.mw ⟨o,vs,h1,h2,h3⟩ (wW h) (λz=>nomatch z) xT
   .cases h
  all_goals first|(cases h;done)|(rename_i h1 h2 h3 h4 h5;exact uz rfl (h2 c))|(rename_i h1 h2 h3 h4;exact uz rfl (h2 c))|(rename_i h1 h2 h3;exact uz rfl (h2 c))|(rename_i h1 h2;exact uz rfl (h2 c))
def iL(K:Fg)(cv:d0)(d:iw W):iw W:=λe=>(d e).r7 λw e1=>match jW K cv w with
 |ab (.bl b)=>.ok (.bl b) e1
 |_=>.no
def zbu{c:V}(hc:yZ c cv):cZ X (.w4 "isinstance") (λxs H Q=>∃x G w b,xs=[x,c]/\ao G H/\qk X.K G w x/\jW X.K cv w=ab (.bl b)/\Q (.bl b) H):=by
 intro dN s σ H xs us Q I r h;let⟨x,G,w,b,rfl,sg,p,hi,q⟩:=h;let⟨u,u2,rfl,rx,rc⟩:=vals2 r
 have ec:u2=cv:=by
  cases c with
  |ty n=>exact(show u2=d0.ke n from rc).kZ (show cv=d0.ke n from hc).symm
  |dr a=>exact(show u2=d0.dr a from rc).kZ (show cv=d0.dr a from hc).symm
  |_=>exact hc.oa
 subst ec;exact z40 I sg p rx hi q
def RE{c0:V}(hc:yZ c0 cv)(fh:PE X c (tC c0))(hm:X.mg "isinstance"=none)(he:DE Z X EE e da)(hg:autoParam (Gl X "isinstance") jJ)(hs:autoParam (pg [e,c] X.dt=(false,eval e X.dt)::pg [c] X.dt) jJ)(gT:autoParam (pg [c] X.dt=(false,eval c X.dt)::pg [] X.dt) jJ)(dP:autoParam ((y0 gw (pg [c] X.dt)).uJ (·.1)=false) jJ):
  DE Z X EE (.wO (.oh "isinstance" p) [e,c] [] gw) (iL X.K cv da):=by
 refine PE.k8 (Ke (zbu hc) hg hm CG.Fe._p.«isinstance» (rG he (rG fh xC gT) hs) (by decide) (by decide) hs dP) ?_;rintro σ H Q ⟨G,e,mQ,h⟩;simp only[iL,R.ar]at h;refine⟨G,e,mQ,h.uM (λw e1 h G1 v1 H1 r1 s1 p1=>?_) λ_ _ h=>h⟩
 split at h
 .rename_i b hb;exact⟨v1,G1,w,b,rfl,r1.p9,p1,hb,h G1 _ H1 r1 s1 rfl⟩
 .exact h.oa
theorem QS{n:et}{T:Yq}(hv:_E n=ab (.ke T))(hm:X.mg n=none)(hg:autoParam (Gl X n) jJ)(hn:autoParam (n≠"__name__") jK)(hd:autoParam ((n==("__debug__":et))=false) jK):PE X (.oh n gw) (tC (.ty T)):=z3u (v:=.ty T) hg hm hv rfl hn hd
def iV:ai W->d3 W
 |[.dI ws]=>ab (.gs ws)
 |[.gs ws]=>ab (.gs ws)
 |_=>none
def Tf:pO K (λxs H Q=>∃p ys,xs=[.dr p]/\((bD K H p ys/\∀l,H l=none->Q (.dr l) (oL H l (.gs ys)))\/(bK K H p ys/\Q (.dr p) H))) iV:=by
 intro G H xs ws w Q s pr hf h;unfold iV at hf;split at hf
 .cases hf;let⟨x,r,rfl,px,pr⟩:=pr;cases(show r=[]from pr);let⟨a,ys,rfl,ha,ra⟩:=px;refine⟨a,ys,rfl,.jd ⟨s.p7 ha,λl hl=>?_⟩⟩
  have g:=aK.JN s hl (.gs ys);exact h _ _ _ g ⟨l,ys,rfl,bK.of bN,ah.k8 g.gg _ ra⟩
 .cases hf;let⟨x,r,rfl,px,pr⟩:=pr;cases(show r=[]from pr);let⟨a,ys,rfl,ha,ra⟩:=px;exact⟨a,ys,rfl,.lb ⟨s.gs ha,h G _ H (.t8 s) ⟨a,ys,rfl,ha,ra⟩⟩⟩
 .cases hf
theorem y9o(hm:X.mg "tuple"=none)(ha:DA Z X EE [e] dA)(hg:autoParam (Gl X "tuple") jJ)(he:autoParam (pg [e] X.dt=(false,eval e X.dt)::pg [] X.dt) jJ)(dP:autoParam ((y0 gw (pg [] X.dt)).uJ (·.1)=false) jJ):DE Z X EE (.wO (.oh "tuple" p) [e] [] gw) (bP iV dA):=
 RP XT Tf CG.Fe._p.«tuple» hm ha hg (by decide) (by decide) he dP
theorem Q09(hm:X.mg "len"=none)(ha:DA Z X EE [e] dA)(hg:autoParam (Gl X "len") jJ)(he:autoParam (pg [e] X.dt=(false,eval e X.dt)::pg [] X.dt) jJ)(dP:autoParam ((y0 gw (pg [] X.dt)).uJ (·.1)=false) jJ):DE Z X EE (.wO (.oh "len" p) [e] [] gw) (bP bB dA):=
 yM PH RT n9.ň hm ha hg (by decide) (by decide) he dP
theorem z41(i:aO)(hm:X.mg "len"=none)(hN:autoParam (X.N[i]?=ab x) jJ)(jg:autoParam (kD X.dt.fv x) jN)(hd:autoParam ((x==("__debug__":et))=false) jK)(fg:autoParam ((x==("__classdict__":et))=false) jK)
  (hg:autoParam (Gl X "len") jJ)(hs:autoParam (pg [.oh x p] X.dt=(false,eval (.oh x p) X.dt)::pg [] X.dt) jJ)(dP:autoParam ((y0 gw (pg [] X.dt)).uJ (·.1)=false) jJ):DE Z X EE (.wO (.oh "len" pn) [.oh x p] [] gw) (i_ i bB):=
 To i PH RT n9.ň hm hN jg hd fg hg (by decide) (by decide) hs dP
def qR:ai W->d3 (ai W)
 |[.dI ws]=>ab ws
 |[.gs ws]=>ab ws
 |_=>none
def Ξ(dA:iw (ai W)):iw (ai W):=λe=>(dA e).r7 λws e1=>bp (qR ws) e1
def z42(hm:X.mg "list"=none)(ha:DA Z X EE [e] dA)(hg:autoParam (Gl X "list") jJ)(he:autoParam (pg [e] X.dt=(false,eval e X.dt)::pg [] X.dt) jJ)(dP:autoParam ((y0 gw (pg [] X.dt)).uJ (·.1)=false) jJ):DF Z X EE (.wO (.oh "list" p) [e] [] gw) (Ξ dA):=by
 refine PE.k8 (OT zaN hg hm CG.Fe._p.«list» ha (by decide) (by decide) he dP) ?_;rintro σ H Q ⟨G,e,mQ,h⟩;simp only[Ξ,R.ar,aZ]at h;refine⟨G,e,mQ,h.uM (λws e1 h G1 vs H1 r1 s1 p1=>?_) λ_ _ h=>h⟩
 let⟨xH,hf,h⟩:=h;unfold qR at hf;split at hf
 .cases hf;let⟨y,r,rfl,py,pr⟩:=p1;cases(show r=[]from pr);let⟨a,ys,rfl,hq,rq⟩:=py;exact⟨a,ys,rfl,.jd (r1.p9.p7 hq),Ed r1 s1 rq h⟩
 .cases hf;let⟨y,r,rfl,py,pr⟩:=p1;cases(show r=[]from pr);let⟨a,ys,rfl,hq,rq⟩:=py;exact⟨a,ys,rfl,.lb (r1.p9.gs hq),Ed r1 s1 rq h⟩
 .cases hf
def o8:ai S->SR:=λ_=>.no
theorem y9p{st:Mu}:DS Z X EE st o8:=λdN s σ H D I ⟨G,e,r,h⟩=>h.oa
end
section
variable{P:xc}{w:vr}{mg:et->d3 d0}{k_:g0}
def RF(hF:∀ws,F ws=.no)(h:oR K F vs H Q E):vk:=by
 grind [RQ]
theorem OD:∀(ns:ai a7),ah K G (ns.a6 W.aT) (ns.a6 V.aT)
 |[]=>rfl
 |n::ns=>⟨_,_,rfl,rfl,OD ns⟩
def Tq{e:d0}(z:fe P w [] H s (λ_ _ _=>vk) e s'):vk:=by
 let⟨_,_,_,_,_,_,_,_,_,_,h⟩:=z;exact h
end
section
variable{e:p6}{d:iw et}{n:aO}
def S8(Z:Zt)(X:Cx)(EE:L2.St->XK)(n:aO)(es:ai p6)(d:iw et):Prop:=PF X es (λtG σ H Q=>tG.aj+n*1000001<=16777216/\∃G e,pZ X.K Z G σ H e/\(d e).SA (λy e'=>∀G' H',pZ X.K Z G' σ H' e'->ao G G'->Q (tG++y) H') (XH X.K Z EE σ G))
end
section
variable{β:Type}{c:Prop} [Ó c]{a:α}{e':ai S}{k:α->ai S->R β}{ks:α->ai S->SR}{x y:R α}{s t:SR}{v:d0}{st:S}
theorem z43:(R.ok a e).r7 k=k a e:=rfl
theorem z44:(R.ex v e:R α).r7 k=.ex v e:=rfl
theorem z45:(R.no:R α).r7 k=.no:=rfl
def y9q:(if c then x else y).r7 k=if c then x.r7 k else y.r7 k:=by split<;>rfl
theorem y5a:(R.ok a e).cH ks=ks a e:=rfl
theorem Q1b:(R.ex v e:R α).cH ks=.ex v e:=rfl
theorem Q1c:(R.no:R α).cH ks=.no:=rfl
def z46:(if c then x else y).cH ks=if c then x.cH ks else y.cH ks:=by split<;>rfl
def SR.p7:SR->(ai S->SR)->SR
 |.nx e,b=>b e
 |r,_=>r
def Q1d{p:ai S->SR}:ak p q e=(p e).p7 q:=by
 unfold ak SR.p7;cases p e<;>rfl
theorem Q1e:(SR.nx e).p7 q=q e:=rfl
theorem Q1f:(SR.rt st e).p7 q=.rt st e:=rfl
theorem Q1g:(SR.ex v e).p7 q=.ex v e:=rfl
theorem Q1h:(SR.bk e).p7 q=.bk e:=rfl
theorem Q1i:(SR.ct e).p7 q=.ct e:=rfl
theorem Q1j:(SR.no).p7 q=.no:=rfl
def z47:(if c then s else t).p7 q=if c then s.p7 q else t.p7 q:=by split<;>rfl
theorem Q5y:(SR.nx e).fn=.ok (.fr .aB):=rfl
theorem Q5z:(SR.rt st e).fn=.ok st:=rfl
theorem Q50:(SR.ex v e).fn=.ex v:=rfl
theorem Q51:(SR.no).fn=.no:=rfl
def Q1k:(if c then s else t).fn=if c then s.fn else t.fn:=by split<;>rfl
theorem y2o:bp (ab a) e=.ok a e:=rfl
theorem y2p:bp (none:d3 α) e=.no:=rfl
def y5b{o p:d3 α}:bp (if c then o else p) e=if c then bp o e else bp p e:=by split<;>rfl
def pK(i:aO)(e:ai S):d3 S->R W
 |ab (.fr w)=>.ok w e
 |ab (.ku none ws)=>.ok (.dI ws) (e.rk i (.fr (.dI ws)))
 |ab (.x k)=>match k._w with
  |ab w=>.ok w e
  |none=>.no
 |_=>.no
def Q1l:af i e=pK i e e[i]?:=by
 unfold af pK;cases e[i]? with
 |none=>rfl
 |ab s=>cases s with
  |ku b ws=>cases b<;>rfl
  |_=>rfl
theorem z48:pK i e (ab (.x (.w5 w)))=.ok w e:=rfl
theorem z49:pK i e (ab (.x (.vd w)))=.ok w e:=rfl
theorem Q1m:pK i e (ab (.fr w))=.ok w e:=rfl
theorem z5a:pK i e (ab (.ku none ws))=.ok (.dI ws) (e.rk i (.fr (.dI ws))):=rfl
theorem U':dC w e=.ok w e:=rfl
theorem Q52{f:W->W->d3 W}:aq f da db e=(da e).r7 λx e1=>(db e1).r7 λy e2=>bp (f x y) e2:=rfl
theorem Q53{f:W->d3 W}:nq f da e=(da e).r7 λx e1=>bp (f x) e1:=rfl
def vY(e:ai S):W->R ie
 |.bl k=>.ok k e
 |_=>.no
theorem z5b:ax da e=(da e).r7 λx e1=>vY e1 x:=rfl
theorem z5c{b:ie}:vY e (.bl b)=.ok b e:=rfl
theorem Q1n:cW da e=(da e).r7 λx e1=>bp (jj x) e1:=rfl
theorem Q1o{p q:iw ie}:iI p q e=(p e).r7 λx e1=>if x=true then q e1 else .ok false e1:=rfl
theorem Q54{p q:iw ie}:lu p q e=(p e).r7 λx e1=>if x=true then .ok true e1 else q e1:=rfl
theorem Q1p{p:iw ie}:eN p e=(p e).r7 λx e1=>.ok (!x) e1:=rfl
def zJ(q:iw W)(e:ai S):W->R W
 |.bl true=>q e
 |.bl false=>.ok (.bl false) e
 |_=>.no
theorem z5d{p q:iw W}:jA p q e=(p e).r7 λx e1=>zJ q e1 x:=rfl
def Q1q{q:iw W}{b:ie}:zJ q e (.bl b)=if b=true then q e else .ok (.bl false) e:=by cases b<;>rfl
def MY(q:iw W)(e:ai S):W->R W
 |.bl true=>.ok (.bl true) e
 |.bl false=>q e
 |_=>.no
theorem Q1r{p q:iw W}:ni p q e=(p e).r7 λx e1=>MY q e1 x:=rfl
def Q55{q:iw W}{b:ie}:MY q e (.bl b)=if b=true then .ok (.bl true) e else q e:=by cases b<;>rfl
def A9(e:ai S):W->R W
 |.bl k=>.ok (.bl (!k)) e
 |_=>.no
theorem z5e{p:iw W}:hV p e=(p e).r7 λx e1=>A9 e1 x:=rfl
theorem Q1s{b:ie}:A9 e (.bl b)=.ok (.bl (!b)) e:=rfl
theorem Q56{p:iw ie}{q q':iw W}:u4 p q q' e=(p e).r7 λx e1=>if x=true then q e1 else q' e1:=rfl
theorem Q1t:ag e=.ok [] e:=rfl
theorem z5f{p:iw W}{q:iw (ai W)}:ae p q e=(p e).r7 λx e1=>(q e1).r7 λxs e2=>.ok (x::xs) e2:=rfl
theorem Q1u{p:iw (ai W)}:a_ p e=(p e).r7 λxs e1=>if xs.aj<=16777216 then .ok (.gs xs) e1 else .no:=rfl
theorem Q1v{p:iw (ai W)}:cR p e=(p e).r7 λxs e1=>if xs.aj<=16777216 then .ok xs e1 else .no:=rfl
theorem Q57{p:iw (ai W)}:dB p e=(p e).r7 λxs e1=>.ok (.dI xs) e1:=rfl
theorem Q58{f:ai W->d3 W}{p:iw (ai W)}:bP f p e=(p e).r7 λxs e1=>bp (f xs) e1:=rfl
theorem z5g{p:iw (ai W)}:Ξ p e=(p e).r7 λxs e1=>bp (qR xs) e1:=rfl
theorem Q59:cM e=.nx e:=rfl
theorem Q6a:o8 e=.no:=rfl
theorem z5h:jB d e=(d e).cH λ_ e'=>.nx e':=rfl
theorem Q1w:aG d e=(d e).cH λw e'=>.rt (.fr w) e':=rfl
theorem z5i{d:iw (ai W)}:eG d e=(d e).cH λw e'=>.rt (.ku none w) e':=rfl
def ð(e:ai S):d3 S->SR
 |ab (.ku none ws)=>.rt (.ku none ws) e
 |ab (.fr w)=>.rt (.fr w) e
 |_=>.no
def z5j:hW i e=ð e e[i]?:=by
 grind [hW,ð]
theorem z5k:ð e (ab (.ku none ws))=.rt (.ku none ws) e:=rfl
theorem Q1x:ð e (ab (.fr w))=.rt (.fr w) e:=rfl
theorem Q1y{p:iw ie}{q':ai S->SR}:aR p q q' e=(p e).cH λx e1=>if x=true then q e1 else q' e1:=rfl
theorem Q1z:aA i d e=(d e).cH λw e'=>.nx (e'.rk i (.fr w)):=rfl
theorem z5l{d:iw (ai W)}:df i d e=(d e).cH λw e'=>.nx (e'.rk i (.ku none w)):=rfl
def ft(e:ai S):FR->R W
 |.ok (.fr w)=>.ok w e
 |.ok (.ku none ws)=>.ok (.dI ws) e
 |.ok (.aV kvs)=>.ok (.aV kvs) e
 |.ok (.dW us ws vs)=>.ok (.gs (us++.dI ws::vs)) e
 |.ok (.x (.vd w))=>.ok w e
 |.ok (.x (.tn us cb))=>.ok (.gs (us++[.dI (cb.a6 .dI)])) e
 |.ex c=>.ex c e
 |_=>.no
theorem y9r{vs:ai W}:ft e (.ok (.dW us ws vs))=.ok (.gs (us++.dI ws::vs)) e:=rfl
theorem z5m{cb:ai (ai W)}:ft e (.ok (.x (.tn us cb)))=.ok (.gs (us++[.dI (cb.a6 .dI)])) e:=rfl
theorem y9s:ft e (.ok (.x (.vd w)))=.ok w e:=rfl
theorem y9t{kvs:Dd}:ft e (.ok (.aV kvs))=.ok (.aV kvs) e:=rfl
def z5n{F:ai W->FR}{d:iw (ai W)}:av F d e=(d e).r7 λws e1=>ft e1 (F ws):=by
 unfold av;congr 1
theorem z5o:ft e (.ok (.fr w))=.ok w e:=rfl
theorem y9u:ft e (.ok (.ku none ws))=.ok (.dI ws) e:=rfl
theorem z5p:ft e (.ex v)=.ex v e:=rfl
theorem z5q:ft e .no=.no:=rfl
def y9v{f g:FR}:ft e (if c then f else g)=if c then ft e f else ft e g:=by split<;>rfl
def l9(e:ai S):FR->R (ai W)
 |.ok (.ku none ws)=>.ok ws e
 |.ex c=>.ex c e
 |_=>.no
theorem y5c:l9 e (.ok (.ku none ws))=.ok ws e:=rfl
theorem y9w:l9 e (.ex v)=.ex v e:=rfl
def y5d{f g:FR}:l9 e (if c then f else g)=if c then l9 e f else l9 e g:=by split<;>rfl
def wA(i:aO)(b:ai S->SR)(e:ai S):d3 (ai W)->SR
 |ab ws=>cV i b ws e
 |none=>.no
def Q10{b:ai S->SR}:jD i d b e=(d e).cH λw e1=>wA i b e1 (fq w):=by
 unfold jD;congr 1
def z5r{g:ai W->d3 (ai W)}{d:iw (ai W)}{b:ai S->SR}:cJ i g d b e=(d e).cH λw e1=>wA i b e1 (g w):=by
 unfold cJ;congr 1
theorem y5e{b:ai S->SR}:wA i b e (ab ws)=cV i b ws e:=rfl
def SR.YT:SR->(ai S->SR)->SR
 |.nx e,k=>k e
 |.ct e,k=>k e
 |.bk e,_=>.nx e
 |.rt s e,_=>.rt s e
 |.ex c e,_=>.ex c e
 |.no,_=>.no
def uo{b:ai S->SR}:cV i b (w::ws) e=(b (e.rk i (.fr w))).YT (cV i b ws):=by
 show(match b (e.rk i (.fr w))with|.nx e'=>cV i b ws e'|.ct e'=>cV i b ws e'|.bk e'=>.nx e'|.rt s e'=>.rt s e'|.ex c e'=>.ex c e'|.no=>.no)=_;cases b (e.rk i (.fr w))<;>rfl
theorem xA:(SR.nx e).YT q=q e:=rfl
theorem z5s:(SR.ct e).YT q=q e:=rfl
theorem z5t:(SR.bk e).YT q=.nx e:=rfl
theorem Za:(SR.rt st e).YT q=.rt st e:=rfl
theorem z5u:(SR.ex v e).YT q=.ex v e:=rfl
theorem z5v:(SR.no).YT q=.no:=rfl
def y9x:(if c then s else t).YT q=if c then s.YT q else t.YT q:=by split<;>rfl
def vF{p:iw ie}{b:ai S->SR}{n:aO}:bw p b (n+1) e=(p e).cH λx e1=>if x=true then(b e1).YT (bw p b n)else .nx e1:=by
 show(p e).cH _=_;congr 1;funext x e1
 split
 .cases b e1<;>rfl
 .rfl
def jZ(k:W->R W):d3 W->R W
 |none=>.no
 |ab w=>k w
def Q11:jE i d e=jZ (λ_=>(d e).r7 λk e1=>jZ (λw=>bp (aP w k) e1) (e1[i]?.r7 S.VE)) (e[i]?.r7 S.VE):=by
 unfold jE jZ;cases e[i]?.r7 S.VE with
 |none=>rfl
 |ab w=>
  dsimp only;try congr 1
theorem y5f{k:W->R W}:jZ k (ab w)=k w:=rfl
theorem Q6b:S.VE (.fr w)=ab w:=rfl
theorem Q12:S.VE (.x (.w5 w))=ab w:=rfl
theorem Q13:S.VE (.x (.vd w))=ab w:=rfl
theorem Q14:S.VE (.x (.tG ws))=ab (.dI ws):=rfl
theorem Q15{b:d3 aO}:S.VE (.ku b ws)=ab (.dI ws):=rfl
def mh(e:ai S)(y:d3 W):d3 S->R W
 |ab (.fr _)=>bp y e
 |_=>match y with
  |none=>.no
  |ab v=>if aM v=true then .ok v e else .no
def Q16{f:ai W->d3 W}:i_ i f e=jZ (λw=>mh e (f [w]) e[i]?) (e[i]?.r7 S.VE):=by
 unfold i_ jZ;cases q:e[i]? with
 |none=>rfl
 |ab s=>
  cases s with
  |no=>rfl
  |aV _=>rfl
  |dW _ _ _=>rfl
  |YL _=>rfl
  |x k=>
   show(match k.VE with|none=>R.no|ab w=>match f [w]with|none=>R.no|ab v=>if aM v=true then R.ok v e else R.no)=jZ (λw=>mh e (f [w]) (ab (.x k))) k.VE
   cases k.VE with
   |none=>rfl
   |ab w=>
    show(match f [w]with|none=>R.no|ab v=>if aM v=true then R.ok v e else R.no)=mh e (f [w]) (ab (.x k));generalize f [w]=y;cases y<;>rfl
  |dw _ _ _=>rfl
  |fr w=>
   show(match f [w]with|none=>R.no|ab v=>R.ok v e)=mh e (f [w]) (ab (.fr w));generalize f [w]=y;cases y<;>rfl
  |ku b ws=>
   show(match f [W.dI ws]with|none=>R.no|ab v=>if aM v=true then R.ok v e else R.no)=mh e (f [W.dI ws]) (ab (.ku b ws));generalize f [W.dI ws]=y;cases y<;>rfl
theorem Q17{y:d3 W}:mh e y (ab (.fr w))=bp y e:=rfl
theorem Q6c{k:SK}{v:W}:mh e (ab v) (ab (.x k))=if aM v=true then .ok v e else .no:=rfl
theorem z5w{b:d3 aO}{v:W}:mh e (ab v) (ab (.ku b ws))=if aM v=true then .ok v e else .no:=rfl
def zL(i:aO)(e:ai S):ai W->d3 S->SR
 |[w],ab (.ku b xs)=>if xs.aj<16777216 then .nx (e.rk i (.ku b (xs++[w])))else .no
 |_,_=>.no
def xo(k:SR):d3 S->SR
 |ab (.ku _ _)=>k
 |_=>.no
def Q18{d:iw (ai W)}:fF i d e=xo ((d e).cH λws e1=>zL i e1 ws e1[i]?) e[i]?:=by
 unfold fF xo;cases e[i]? with
 |none=>rfl
 |ab s=>cases s with
  |ku b xs=>
   dsimp only;try congr 1
  |_=>rfl
theorem Q6d{k:SR}{b:d3 aO}:xo k (ab (.ku b ws))=k:=rfl
theorem Q6e{b:d3 aO}{xs:ai W}:zL i e [w] (ab (.ku b xs))=if xs.aj<16777216 then .nx (e.rk i (.ku b (xs++[w])))else .no:=rfl
theorem Q6f{dl dh:iw (d3 a7)}:mT d dl dh e=(d e).r7 λw e1=>(dl e1).r7 λlo e2=>(dh e2).r7 λhi e3=>bp (s_ w lo hi) e3:=rfl
theorem y5g:bI e=.ok none e:=rfl
def vv(e:ai S):W->R (d3 a7)
 |.aT i=>.ok (ab i) e
 |_=>.no
theorem z5x:dJ d e=(d e).r7 λw e1=>vv e1 w:=rfl
theorem y9y{i:a7}:vv e (.aT i)=.ok (ab i) e:=rfl
def AK(e:ai S):d3 W->R W
 |ab (.bl b)=>.ok (.bl b) e
 |_=>.no
def Q19:iL K cv d e=(d e).r7 λw e1=>AK e1 (jW K cv w):=by
 unfold iL;congr 1
theorem Q2a{b:ie}:AK e (ab (.bl b))=.ok (.bl b) e:=rfl
def y9z{b k:ie}(h:YR K (.ke "bool") cv=ab k):jW K cv (.bl b)=ab (.bl k):=by show(YR K (.ke "bool") cv).a6 W.bl=_;rw[h];rfl
def z5y{b:a7}{k:ie}(h:YR K (.ke "int") cv=ab k):jW K cv (.aT b)=ab (.bl k):=by show(YR K (.ke "int") cv).a6 W.bl=_;rw[h];rfl
def BL{b:ai W}{k:ie}(h:YR K (.ke "tuple") cv=ab k):jW K cv (.gs b)=ab (.bl k):=by show(YR K (.ke "tuple") cv).a6 W.bl=_;rw[h];rfl
def l_(e:ai S):d3 (ai W)->R (ai W)
 |ab xH=>.ok xH e
 |none=>.no
def z5z{cc:iw ie}:iX js cc d ws e=if ws.aj<=16777216 then l_ (aX js e) (b7 cc d (fB js (aX js e)) ws)else .no:=by
 unfold iX l_;split
 .cases b7 cc d (fB js (aX js e)) ws<;>rfl
 .rfl
def qo(js:ai aO)(cc:iw ie)(d:iw W)(e:ai S):d3 (ai W)->R (ai W)
 |ab ws=>iX js cc d ws e
 |none=>.no
def z50{di:iw W}{cc:iw ie}:ba js di cc d e=(di e).r7 λw e1=>qo js cc d e1 (fq w):=by
 unfold ba;congr 1
def y90{g:ai W->d3 (ai W)}{di:iw (ai W)}{cc:iw ie}:cQ g js di cc d e=(di e).r7 λw e1=>qo js cc d e1 (g w):=by
 unfold cQ;congr 1
theorem y2q{cc:iw ie}:qo js cc d e (ab ws)=iX js cc d ws e:=rfl
theorem y2r{xH:ai W}:l_ e (ab xH)=.ok xH e:=rfl
theorem Q2b:bx e=.ok true e:=rfl
theorem y91:aX [] e=e:=rfl
theorem y5h{j:aO}:aX (j::js) e=aX js (cw e j):=rfl
theorem z51:fB [] e=[]:=rfl
theorem y92{j:aO}:fB (j::js) e=gF e j::fB js e:=rfl
theorem PZ{g:W->W}:∀(ws:ai W),(∀w∈ws,∃e',d (.fr w::pe)=.ok (g w) e')->b7 bx d pe ws=ab (ws.a6 g)
 |[],_=>rfl
 |w::ws,h=>by
  let⟨e',he⟩:=h w (by simp);show(match d (.fr w::pe)with|.ok y _=>(b7 bx d pe ws).a6 (y::·)|_=>none)=_;rw[he,PZ ws λu hu=>h u (by simp[hu])]
  rfl
theorem D5{cc:iw ie}:b7 cc d pe (w::ws)=(match cc (.fr w::pe)with
  |.ok true e1=>(match d e1 with|.ok y _=>(b7 cc d pe ws).a6 (y::·)|_=>none)
  |.ok false _=>b7 cc d pe ws
  |_=>none):=rfl
end
section
variable{i j:a7}{x y:et}{b c:ie}
theorem Q2c:Ϡ (.aT i) (.aT j)=ab (.aT (i+j)):=rfl
theorem Q2d:Ϡ (.str x) (.str y)=if x.aj+y.aj<=16777216 then ab (.str (x++y))else none:=rfl
theorem Q2e:Ϡ (.dI ws) (.dI us)=if ws.aj+us.aj<=16777216 then ab (.dI (ws++us))else none:=rfl
theorem Q2f:rV (.aT i) (.aT j)=ab (.aT (i-j)):=rfl
theorem Q2g:iq (.aT i) (.aT j)=if(-18446744073709551616<i/\i<18446744073709551616)\/(-18446744073709551616<j/\j<18446744073709551616)then ab (.aT (i*j))else none:=rfl
theorem z52:cn (.aT i) (.aT j)=if 0<j/\j<1073741824 then ab (.aT (i / j))else none:=rfl
theorem Q2h:b9 (.aT i) (.aT j)=if 0<j then ab (.aT (i%j))else none:=rfl
def Q2i:rl (.aT i) (.aT j)=if 0<=j/\j<=1000000/\-18446744073709551616<i/\i<18446744073709551616 then ab (.aT (i^j.uh))else none:=by
 show(if 0<=j/\j<=1000000/\i.ώ<2^64 then _ else _)=_;have e:(2:aO)^64=18446744073709551616:=by decide
 rw[e]
 by_cases h:0<=j/\j<=1000000/\i.ώ<18446744073709551616
 .rw[nZ h,nZ (by omega)]
 .rw[r5 h,r5 (by omega)]
theorem Q6g:oF (.aT i) (.aT j)=ab (.bl (decide (i<j))):=rfl
theorem Q6h:w_ (.aT i) (.aT j)=ab (.bl (decide (i<=j))):=rfl
theorem Q6i:kx (.aT i) (.aT j)=ab (.bl (decide (j<i))):=rfl
theorem Q6j:zX (.aT i) (.aT j)=ab (.bl (decide (j<=i))):=rfl
theorem Q6k:nM (.aT i)=ab (.aT (-i)):=rfl
def Q6l:zf (.aT i) (.aT j)=ab (.bl (decide (i=j))):=by
 show ab (W.bl (i==j))=_;congr 2
def Q6m:zf (.str x) (.str y)=ab (.bl (decide (x=y))):=by
 show ab (W.bl (x==y))=_;congr 2
def Q6n:zf (.bl b) (.bl c)=ab (.bl (decide (b=c))):=by
 show ab (W.bl (b==c))=_;congr 2
def Q6o:YK (.aT i) (.aT j)=ab (.bl (!decide (i=j))):=by
 show ab (W.bl (!(i==j)))=_;congr 2
def Q6p:YK (.str x) (.str y)=ab (.bl (!decide (x=y))):=by
 show ab (W.bl (!(x==y)))=_;congr 2
def Q6q:YK (.bl b) (.bl c)=ab (.bl (!decide (b=c))):=by
 show ab (W.bl (!(b==c)))=_;congr 2
def Q6r:kO (.bl b) (.bl c)=ab (.bl (decide (b=c))):=by
 show ab (W.bl (b==c))=_;congr 2
theorem Q6s:kO .aB .aB=ab (.bl true):=rfl
theorem Q6t:kO (.bl b) .aB=ab (.bl false):=rfl
theorem Q6u:kO (.aT i) .aB=ab (.bl false):=rfl
theorem Q6v:kO (.str x) .aB=ab (.bl false):=rfl
theorem Q6w:kO (.gs ws) .aB=ab (.bl false):=rfl
theorem Q6x:kO (.dI ws) .aB=ab (.bl false):=rfl
def Q2j:gp (.bl b) (.bl c)=ab (.bl (!decide (b=c))):=by
 show ab (W.bl (!(b==c)))=_;congr 2
theorem Q2k:gp .aB .aB=ab (.bl false):=rfl
theorem Q2l:gp (.bl b) .aB=ab (.bl true):=rfl
theorem Q2m:gp (.aT i) .aB=ab (.bl true):=rfl
theorem Q2n:gp (.str x) .aB=ab (.bl true):=rfl
theorem Q2o:gp (.gs ws) .aB=ab (.bl true):=rfl
theorem Q2p:gp (.dI ws) .aB=ab (.bl true):=rfl
theorem Wc:aP (.gs ws) (.aT i)=eu ws i:=rfl
theorem Wb:aP (.dI ws) (.aT i)=eu ws i:=rfl
theorem Q6y:bB [.gs ws]=ab (.aT ws.aj):=rfl
theorem Q6z:bB [.dI ws]=ab (.aT ws.aj):=rfl
theorem Q60:iV [.dI ws]=ab (.gs ws):=rfl
theorem Q61:iV [.gs ws]=ab (.gs ws):=rfl
theorem Q62:qR [.dI ws]=ab ws:=rfl
theorem Q63:qR [.gs ws]=ab ws:=rfl
theorem Q64:jj (.bl b)=ab b:=rfl
theorem Q65:jj (.aT i)=ab (i != 0):=rfl
theorem Q66:jj .aB=ab false:=rfl
theorem Q67:jj (.gs ws)=ab (!ws.U7):=rfl
theorem Q68:jj (.dI ws)=ab (!ws.U7):=rfl
theorem Q69:fq (.gs ws)=ab ws:=rfl
theorem Q7a:fq (.dI ws)=ab ws:=rfl
theorem WJ:aM (.aT i)=true:=rfl
theorem WI:aM (.bl b)=true:=rfl
theorem WL:aM (.str x)=true:=rfl
theorem WK:aM .aB=true:=rfl
theorem WO{lo hi:d3 a7}:s_ (.dI ws) lo hi=ab (.dI (gJ ws lo hi)):=rfl
def at0{xs:ai α}:eu xs 0=xs[0]?:=by
 cases xs with
 |so=>rfl
 |qT a l=>exact pU (j:=0) rfl
def CL{xs:ai α}:eu xs 1=xs[1]?:=by
 cases xs with
 |so=>rfl
 |qT a l=>
  cases l with
  |so=>rfl
  |qT b l=>exact pU (j:=1) rfl
def at2{xs:ai α}:eu xs 2=xs[2]?:=by
 cases xs with
 |so=>rfl
 |qT a l=>
  cases l with
  |so=>rfl
  |qT b l=>
   cases l with
   |so=>rfl
   |qT c l=>exact pU (j:=2) rfl
def Tt{xs:ai α}{k:a7}(h0:0<=k):eu xs k=xs[k.uh]?:=by
 unfold eu oC;rw[nZ h0]
 by_cases h:k<xs.aj
 .rw[nZ h];rfl
 .rw[r5 h];exact(w3q (by omega)).symm
def zaO{a b:Yq}(h:et.YM a=et.YM b):a=b:=by
 rw[et.zc7,et.zc7]at h;have h1:(a.wL.a6 ϰ.uh).l8=(b.wL.a6 ϰ.uh).l8:=ZQ et.Yp h;have h2:a.wL.a6 ϰ.uh=b.wL.a6 ϰ.uh:=by simpa using ZQ yb.wL h1
 have h3:a.wL=b.wL:=by
  have zT:∀c d:ϰ,c.uh=d.uh->c=d:=λc d e=>by
   apply ϰ.ext;exact UInt32.toNat_inj.mp e
  exact(w5p zT).mp h2
 exact Yq.ű.mp h3
theorem Q2r{a b:Yq}:(et.YM a=et.YM b)=(a=b):=propext ⟨zaO,λh=>by rw[h]⟩
end
def iC:W->d3 W
 |.dI ws=>ab (.gs ws.We)
 |_=>none
def fj:ai W->d3 (ai ie)
 |[]=>ab []
 |.bl b::ws=>(fj ws).a6 (b::·)
 |_=>none
def ο:ai W->d3 W
 |[.dI ws]=>(fj ws).a6 λbs=>.bl (bs.t9 id)
 |_=>none
def jV:ai W->d3 W
 |[.aT i]=>ab (.aT i)
 |[.bl b]=>ab (.aT (if b then 1 else 0))
 |_=>none
def jI(y x:W):ie:=(gK y x).hX false
def pk:W->W->d3 W
 |x,.gs ws=>if aM x=true/\ws.t9 aM=true then ab (.bl (ws.uJ λy=>jI y x))else none
 |x,.dI ws=>if aM x=true/\ws.t9 aM=true then ab (.bl (ws.uJ λy=>jI y x))else none
 |_,_=>none
def lL:W->W->d3 W
 |x,.gs ws=>if aM x=true/\ws.t9 aM=true then ab (.bl (!ws.uJ λy=>jI y x))else none
 |x,.dI ws=>if aM x=true/\ws.t9 aM=true then ab (.bl (!ws.uJ λy=>jI y x))else none
 |_,_=>none
def Bu(h:aM w=true)(p:qk K G w v):gB v=true:=by
 cases w with
 |aB=>cases p;rfl
 |bl b=>cases p;rfl
 |aT b=>cases p;rfl
 |str b=>cases p;rfl
 |_=>cases h
def z53(h:aM w=true)(h':aM u=true)(p:qk K G w v)(q:qk K G u x):sC v x=jI w u:=by
 cases w<;>cases u<;>first|(cases p;cases q;rfl)|exact uz (show false=true from h') w1h|exact uz (show false=true from h) w1h
theorem BA{u:W}{x:V}(hu:aM u=true)(q:qk K G u x):∀{ws:ai W}{xs:ai V},ws.t9 aM=true->ah K G ws xs->xs.t9 gB=true/\C6 x xs=ws.uJ λy=>jI y u
 |[],xs,_,r=>by cases r;exact⟨rfl,rfl⟩
 |w::ws,xs,h,r=>by
  let⟨y,r',rfl,p,r⟩:=r;rw[w2v,w0q]at h;let⟨i1,i2⟩:=BA hu q h.2 r;refine⟨by rw[w2v,Bu h.1 p,i1];rfl,?_⟩;show(sC y x||C6 x r')=(jI w u||ws.uJ _);rw[z53 h.1 hu p q,i2]
def UN:iE K (Eo K false) pk:=by
 intro G H x y wx wy w Q s px py hf h;cases wy with
 |gs ws=>
  simp only[pk]at hf;split at hf
  .rename_i hc;cases hf;let⟨a,xs,rfl,ha,ra⟩:=py;let⟨i1,i2⟩:=BA hc.1 px hc.2 ra;refine⟨a,xs,rfl,.lb (s.gs ha),Bu hc.1 px,i1,?_⟩;rw[i2];exact h G _ H (.t8 s) rfl
  .cases hf
 |dI ws=>
  simp only[pk]at hf;split at hf
  .rename_i hc;cases hf;let⟨a,xs,rfl,ha,ra⟩:=py;let⟨i1,i2⟩:=BA hc.1 px hc.2 ra;refine⟨a,xs,rfl,.jd (s.p7 ha),Bu hc.1 px,i1,?_⟩;rw[i2];exact h G _ H (.t8 s) rfl
  .cases hf
 |_=>simp[pk]at hf
def Tu:iE K (Eo K true) lL:=by
 intro G H x y wx wy w Q s px py hf h;cases wy with
 |gs ws=>
  simp only[lL]at hf;split at hf
  .rename_i hc;cases hf;let⟨a,xs,rfl,ha,ra⟩:=py;let⟨i1,i2⟩:=BA hc.1 px hc.2 ra;refine⟨a,xs,rfl,.lb (s.gs ha),Bu hc.1 px,i1,?_⟩;rw[i2];exact h G _ H (.t8 s) rfl
  .cases hf
 |dI ws=>
  simp only[lL]at hf;split at hf
  .rename_i hc;cases hf;let⟨a,xs,rfl,ha,ra⟩:=py;let⟨i1,i2⟩:=BA hc.1 px hc.2 ra;refine⟨a,xs,rfl,.jd (s.p7 ha),Bu hc.1 px,i1,?_⟩;rw[i2];exact h G _ H (.t8 s) rfl
  .cases hf
 |_=>simp[lL]at hf
def y5i:CD K (λx H1 Q=>∃p ys,x=.dr p/\bD K H1 p ys/\∀l,H1 l=none->Q (.dr l) (oL H1 l (.gs ys.We))) iC:=by
 intro G H x wx w Q s px hf h;unfold iC at hf;split at hf
 .cases hf;let⟨a,xs,rfl,ha,ra⟩:=px;refine⟨a,xs,rfl,s.p7 ha,λl hl=>?_⟩
  have g:=aK.JN s hl (.gs xs.We);exact h _ _ _ g ⟨l,_,rfl,bK.of bN,ah.k8 g.gg _ ra.We⟩
 .cases hf
def N7:∀{bs:ai ie},fj ws=ab bs->ws=bs.a6 .bl:=by
 induction ws with
 |so=>intro bs h;cases h;rfl
 |qT w ws ih=>
  intro bs h;cases w with
  |bl b=>
   let⟨cs,h1,rfl⟩:=w0j.mp (show(fj ws).a6 (b::·)=ab bs from h);exact ZQ _ (ih h1)
  |_=>cases h
theorem Ji:∀(bs:ai ie),fj (bs.a6 .bl)=ab bs
 |[]=>rfl
 |b::bs=>by
  show(fj (bs.a6 W.bl)).a6 (b::·)=_;rw[Ji bs];rfl
theorem IZ:∀{bs:ai ie}{xs:ai V},ah K G (bs.a6 W.bl) xs->xs=bs.a6 V.bl
 |[],xs,h=>h
 |b::bs,xs,h=>by
  let⟨x,r,rfl,h1,h2⟩:=h;rw[IZ h2,show x=V.bl b from h1];rfl
def Tv:pO K (λxs H Q=>∃p ys,xs=[.dr p]/\bD K H p ys/\(∀y∈ys,∃b,y=.bl b)/\Q (.bl (ys.t9 λy=>decide (y=.bl true))) H) ο:=by
 intro G H xs ws w Q s pr hf h;unfold ο at hf;split at hf
 .let⟨bs,hb,rfl⟩:=w0j.mp hf;have:=N7 hb;subst this;let⟨x,r,rfl,px,pr⟩:=pr;cases(show r=[]from pr);let⟨a,ys,rfl,ha,ra⟩:=px;have:=IZ ra;subst this;refine⟨a,_,rfl,s.p7 ha,λy hy=>?_,h G _ H (.t8 s) ?_⟩
  .let⟨b,_,rfl⟩:=w0u.mp hy;exact⟨b,rfl⟩
  .show V.bl _=V.bl _;congr 1;rw[w5a];congr 1;funext b
   cases b<;>rfl
 .cases hf
def Tw:pO K (λxs H Q=>(∃i,xs=[.aT i]/\Q (.aT i) H)\/∃k,xs=[.bl k]/\Q (.aT (if k then 1 else 0)) H) jV:=by
 intro G H xs ws w Q s pr hf h;unfold jV at hf;split at hf
 .cases hf;let⟨x,r,rfl,px,pr⟩:=pr;cases(show r=[]from pr);cases px;exact .jd ⟨_,rfl,h G _ H (.t8 s) rfl⟩
 .cases hf;let⟨x,r,rfl,px,pr⟩:=pr;cases(show r=[]from pr);cases px;exact .lb ⟨_,rfl,h G _ H (.t8 s) rfl⟩
 .cases hf
section
variable{a b c e:p6}{p uj lN:vW}{x:et}
theorem Q7c(hu:X.A.zd+150<zm)(ha:DE Z X EE a da)(hb:DE Z X EE b db)(hm:_d .In b=false:=by with_unfolding_all rfl):DT Z X EE (.Yz a [.In] [b] gw) (ax (aq pk da db)):=sW za1 UN ha hb hm
theorem Q2v(hu:X.A.zd+150<zm)(ha:DE Z X EE a da)(hb:DE Z X EE b db)(hm:_d .Z9 b=false:=by with_unfolding_all rfl):DT Z X EE (.Yz a [.Z9] [b] gw) (ax (aq lL da db)):=sW zaM Tu ha hb hm
theorem y5j(hc:X.MT=true)(F_:X.mg "tuple"=none)(sI:X.mg "reversed"=none)(he:DE Z X EE e da)(FU:autoParam (Gl X "tuple") jJ)(qD:autoParam (Gl X "reversed") jJ)
  (oz:autoParam (pg [.wO (.oh "reversed" p2) [e] [] lN] X.dt=(false,eval (.wO (.oh "reversed" p2) [e] [] lN) X.dt)::pg [] X.dt) jJ)(gT:autoParam (pg [e] X.dt=(false,eval e X.dt)::pg [] X.dt) jJ):
  DE Z X EE (.wO (.oh "tuple" p1) [.wO (.oh "reversed" p2) [e] [] lN] [] uj) (nq iC da):=PE.k8 (za2 hc F_ sI he FU qD oz gT) (QM y5i)
theorem Q2w(hc:X.MT=true)(hm:X.mg "all"=none)(ha:DA Z X EE [e] dA)(hg:autoParam (Gl X "all") jJ)(he:autoParam (pg [e] X.dt=(false,eval e X.dt)::pg [] X.dt) jJ)(dP:autoParam ((y0 gw (pg [] X.dt)).uJ (·.1)=false) jJ):DE Z X EE (.wO (.oh "all" p) [e] [] gw) (bP ο dA):=
 yM (y87 hc) Tv CG.Fe._p.«all» hm ha hg (by decide) (by decide) he dP
theorem z54(hm:X.mg "int"=none)(ha:DA Z X EE [e] dA)(hg:autoParam (Gl X "int") jJ)(he:autoParam (pg [e] X.dt=(false,eval e X.dt)::pg [] X.dt) jJ)(dP:autoParam ((y0 gw (pg [] X.dt)).uJ (·.1)=false) jJ):DE Z X EE (.wO (.oh "int" p) [e] [] gw) (bP jV dA):=
 RP zaZ Tw CG.Fe._p.«int» hm ha hg (by decide) (by decide) he dP
end
theorem y93:iC (.dI ws)=ab (.gs ws.We):=rfl
def Lz{bs:ai ie}:ο [.dI (bs.a6 .bl)]=ab (.bl (bs.t9 id)):=by
 show(fj (bs.a6 W.bl)).a6 _=_;rw[Ji];rfl
theorem Q7d{i:a7}:jV [.aT i]=ab (.aT i):=rfl
theorem Q7e:jV [.bl b]=ab (.aT (if b then 1 else 0)):=rfl
theorem L4:((0:aO):a7)=0:=rfl
theorem L5:((1:aO):a7)=1:=rfl
theorem La{b:ai S->SR}(I:aO->ai S->Prop):∀(ws:ai W)(k:aO)(e:ai S),I k e->(∀(j:aO)(w:W)(e:ai S),ws[j]?=ab w->I (k+j) e->∃e',b (e.rk i (.fr w))=.nx e'/\I (k+j+1) e')->∃e',cV i b ws e=.nx e'/\I (k+ws.aj) e'
 |[],k,e,h0,_=>⟨e,rfl,h0⟩
 |w::ws,k,e,h0,h=>by
  let⟨e1,h1,h2⟩:=h 0 w e rfl h0
  let⟨e2,h3,h4⟩:=La I ws (k+1) e1 h2 λj u e hu hI=>by
   have z:=h (j+1) u e (by simpa using hu) (by grind);rw[show k+(j+1)+1=k+1+j+1 by omega]at z;exact z
  grind [uo,xA]
def mem_range{lo hi:a7}(h:w∈bu lo hi):∃k:aO,w=.aT (lo+k)/\(k:a7)<hi-lo:=by
 unfold bu at h;let⟨k,h1,rfl⟩:=w0u.mp h;rw[w0y]at h1;exact⟨k,rfl,by omega⟩
def D6:(bu lo hi).aj=(hi-lo).uh:=by simp[bu]
def y5k{lo hi:a7}{j:aO}(h:(bu lo hi)[j]?=ab w):w=.aT (lo+j)/\j<(hi-lo).uh:=by
 unfold bu at h;rw[w0s]at h;let⟨k,h1,rfl⟩:=w0j.mp h;let⟨h2,h3⟩:=w0b.mp h1;simp at h2 h3;subst h3;exact⟨rfl,by omega⟩
def pW{b:ai S->SR}{lo hi:a7}(n:aO)(hn:(hi-lo).uh=n)(I:aO->ai S->Prop)(e:ai S)(h0:I 0 e)(h:∀(j:aO)(e:ai S),j<n->I j e->∃e',b (e.rk i (.fr (.aT (lo+j))))=.nx e'/\I (j+1) e'):∃e',cV i b (bu lo hi) e=.nx e'/\I n e':=by
 let⟨e',h1,h2⟩:=La (b:=b) (i:=i) I (bu lo hi) 0 e h0 λj w e hw hI=>by
  let⟨rfl,hj⟩:=y5k hw;rw[w1y]at hI |-
  exact h j e (by omega) hI
 rw[D6,hn,w1y]at h2;exact⟨e',h1,h2⟩
def u5(F:ai W->FR)(i:aO)(dA:iw (ai W)):iw W:=λe=>match e[i]? with
 |ab (.ku _ _)=>(dA e).r7 λus e1=>match e1[i]? with
  |ab (.ku _ ws)=>match F (.dI ws::us)with
   |.ok (.fr w)=>if aM w=true then .ok w e1 else .no
   |_=>.no
  |_=>.no
 |_=>.no
mutual
noncomputable def c5(K:Fg):W->Value->Bool
 |.aB,u=>match u with|.none=>true|_=>false
 |.bl b,u=>match u with|.bool c=>b==c|_=>false
 |.int i,u=>match u with|.int j _=>decide (i=j)|_=>false
 |.str x,u=>match u with|.str y _=>decide (x=y)|_=>false
 |.tup ws,u=>match u with
  |.ref a=>match K.lookup a with
   |some o=>(o.cls==.type "tuple"&&o.dict.isNone)&&(match o.data with|.seq aw _=>Nat.ble aw.size 1000000&&jy K ws aw.toList|_=>false)
   |none=>false
  |_=>false
 |.lst _,_=>false
 |.exc _,_=>false
 |.aV _,_=>false
 |.dw _ _ _ _,_=>false
 |.fn _ _ _,_=>false
noncomputable def jy(K:Fg):List W->List Value->Bool
 |[],us=>us.isEmpty
 |w::ws,us=>match us with
  |u::us=>c5 K w u&&jy K ws us
  |[]=>false
end
mutual
theorem QT{K:Fg}:∀(w:W){u:Value},c5 K w u=true->∃v,RelV v u/\∀G,Rep K G w v
 |.aB,u,h=>by
  unfold c5 at h;split at h
  .exact⟨.aB,rfl,λ_=>rfl⟩
  .cases h
 |.bl b,u,h=>by
  unfold c5 at h;split at h
  .rename_i c;have:b=c:=by simpa using h
   exact⟨.bl b,by rw[this];rfl,λ_=>rfl⟩
  .cases h
 |.int i,u,h=>by
  unfold c5 at h;split at h
  .rename_i j t;have:i=j:=by simpa using h
   exact⟨.int i,⟨t,by rw[this]⟩,λ_=>rfl⟩
  .cases h
 |.str x,u,h=>by
  unfold c5 at h;split at h
  .rename_i y t;have:x=y:=by simpa using h
   exact⟨.str x,⟨t,by rw[this]⟩,λ_=>rfl⟩
  .cases h
 |.tup ws,u,h=>by
  unfold c5 at h;split at h
  .rename_i a;split at h
   .rename_i o ho;rw[w0q]at h;let⟨h1,h2⟩:=h;split at h2
    .rename_i aw n hd;rw[w0q]at h2;let⟨h3,h4⟩:=h2;let⟨xs,r,q⟩:=P0 ws h4;exact⟨.ref a,rfl,λG=>⟨a,xs,rfl,.inr ⟨o,aw,n,ho,by simpa using ((w0q _ _).mp h1).1,Option.isNone_iff_eq_none.mp ((w0q _ _).mp h1).2,hd,by rw[sizeLine_eq];have:=w3r h3;omega,r⟩,q G⟩⟩
    .cases h2
   .cases h
  .cases h
 |.lst _,u,h=>by unfold c5 at h;cases h
 |.exc _,u,h=>by unfold c5 at h;cases h
 |.aV _,u,h=>by unfold c5 at h;cases h
 |.dw _ _ _ _,u,h=>by unfold c5 at h;cases h
 |.fn _ _ _,u,h=>by unfold c5 at h;cases h
theorem P0{K:Fg}:∀(ws:List W){us:List Value},jy K ws us=true->∃xs,Vals xs us/\∀G,ah K G ws xs
 |[],us,h=>by
  unfold jy at h;cases us with
  |nil=>exact⟨[],.nil,λ_=>rfl⟩
  |cons _ _=>cases h
 |w::ws,us,h=>by
  unfold jy at h;cases us with
  |nil=>cases h
  |cons u us=>
   rw[w0q]at h;let⟨v,r,q⟩:=QT w h.1;let⟨xs,r',q'⟩:=P0 ws h.2;exact⟨v::xs,.cons r r',λG=>⟨v,xs,rfl,q G,q' G⟩⟩
end
def q9a{x:et}{u:d0}(hm:X.mg x=ab u)(hc:c5 X.K w u=true)(hg:autoParam (Gl X x) jJ)(hd:autoParam ((x==("__debug__":et))=false) jK):DE Z X EE (.oh x gw) (dC w):=by
 let⟨v,r,q⟩:=QT w hc;exact PE.k8 (QI hg hm r hd) λσ H Q ⟨G,e,mQ,h⟩=>h G v H mQ (.t8 _) (q G)
def Xb(l : fy)(ro : yb d0)(n : aO)(b : fy)(lE : yb d0)(n2 : aO)(T : Yq)(hT : T = "list" \/ T = "tuple")(VW : ¬(!ro.U7 && uK.ai.È (ro.dS + lE.dS)) = true)(oz : ro.dS <= wm)(gT : ro.dS + lE.dS <= wm + 1) :
  _D (uK.«list.extend» { gw := [d0.dr l, d0.dr b] }) fun _ R s =>
     s.bj.ik l = ab { o4 := d0.ke "list", pJ := ϓ.p7 ro n } /\
      (∃ o, s.bj.ik b = ab o /\ o.o4 = .ke T /\ o.pJ = ϓ.p7 lE n2) /\
       R (Except.ok (Flow.CJ d0.none)) { s with bj := s.bj.Yn l (sT.Yt λx => x ++ lE) } := by
 refine _D._M λje w A R s h => ?_
 let⟨hl, ⟨o, hb, hc, hd⟩, h⟩:= h;let⟨o4, xg, pJ, YN⟩:= o;simp only at hc hd;subst hc hd;refine ny (ny (zd9 rfl (ui (ui ?_))));refine ny (ny (AutoSeq1.þ hb (ui (zd9 ?_ ?_))))
 .rcases hT with rfl | rfl <;> simp
 refine ny (ny (ny (wpAny_load' hb (ui (ui ?_)))));refine ny (ny (ny (wpAny_load' hl (ui (ui ?_)))));refine zd8 (by simpa using VW) ?_;exact ny (ĸ hl rfl (ui ⟨_, rfl, h⟩) oz (by rw [yb.size_append]; exact gT))
def BX(K:Fg):V->ai V->Hp->VK->Prop:=λx vs H Q=>∃l b xs zs,x=.dr l/\vs=[.dr b]/\H l=ab (.dI xs)/\(bD K H b zs\/bK K H b zs)/\xs.aj+zs.aj<=wm/\Q .aB (oL H l (.dI (xs++zs)))
def Tx:Fi X "list.extend" (BX X.K):=by
 intro dN s σ H x vs v us Q I rx rv h;let⟨l,b,xs,zs,rfl,rfl,hH,hB,hz,q⟩:=h;cases rx;let⟨u,rfl,ru⟩:=rv.YE;cases ru;let⟨z,aw,n,r,hl,e⟩:=I.AX hH
 have xT:∀(T:Yq)(fm:ai d0)(n2:aO)(o:sT),T="list"\/T="tuple"->uw zs fm->s.bj.ik b=ab o->o.o4=.ke T->o.pJ=.p7 fm.l8 n2->oP (qX X.je X.w) X.A (zb (.w4 "list.extend") [.dr l,.dr b]) (EP X dN σ Q) X.xe s:=λT fm n2 o hT r2 e2 hc hd=>by
  have F7:=r2.aj;have hsz:aw.l8.dS+fm.l8.dS<=wm:=by rw[w0e,w0e];omega
  have qG:¬(!aw.l8.U7&&uK.ai.È (aw.l8.dS+fm.l8.dS))=true:=by
   rw[mI hsz,w5j];exact w1h
  refine _W F.zdv ⟨_,e,rfl⟩ F.entry_list_extend (F.args_list_extend_2 _ _)
   (Xb l aw.l8 n b fm.l8 n2 T hT qG (by rw[w0e];omega) (by omega)) ⟨e,⟨o,e2,hc,hd⟩,?_⟩
  refine⟨.aB,_,I.AW (its':=aw++fm) hH e (by simp) (r.Wi r2) ?_,rfl,q⟩;rw[w1e];omega
 rcases hB with hB|hB
 .let⟨fm,r2,pl,_⟩:=I.xm hB;let⟨o,e2,hc,n2,hd⟩:=pl.zD;exact xT "list" fm n2 o (.jd rfl) r2 e2 hc hd
 .let⟨fm,r2,⟨o,e2,hc,n2,hd⟩,_⟩:=I.Tc hB;exact xT "tuple" fm n2 o (.lb rfl) r2 e2 hc hd
def nh(i:aO)(d:iw (ai W)):ai S->SR:=λe=>match e[i]? with
 |ab (.ku _ _)=>(d e).cH λws e1=>match ws,e1[i]? with
  |[w],ab (.ku b xs)=>match fq w with
   |ab ys=>if xs.aj+ys.aj<=16777216 then .nx (e1.rk i (.ku b (xs++ys)))else .no
   |none=>.no
  |_,_=>.no
 |_=>.no
section
variable{e:p6}{p:vW}{x:et}
def Q2y(i:aO)(ha:DA Z X EE (e::es) dA)(hN:autoParam (X.N[i]?=ab x) jJ)(hv:autoParam (kD X.dt.fv x) jN)(hd:autoParam ((x==("__debug__":et))=false) jK)(fg:autoParam ((x==("__classdict__":et))=false) jK)
  (dg:autoParam (Κ (.oh x p) "extend" X.dt (eval (.oh x p) X.dt)=eval (.oh x p) X.dt) jJ)
  (bY:autoParam (((y0 bh (pg (e::es) X.dt)).t9 (λx=>!x.1)&&(Λ bh (Ρ [] X.dt)).t9 (λx=>x.1.z_)&&decide ((e::es).aj+([]:ai Zd).aj+(if([]:ai Zd).U7 then 0 else 1)<30))=true) jJ)
  (dj:autoParam ((Yo.Ο==bh.Yd)=true) jJ)(hs:autoParam (pg (e::es) X.dt=(false,eval e X.dt)::pg es X.dt) jJ)(bT:autoParam ((y0 bh (pg es X.dt)).uJ (·.1)=false) jJ)
  (qI:autoParam (Zk (.wO (._o (.oh x p) "extend" Yo) (e::es) [] bh) none gw.Yd X.dt=vX false) jJ):
  DS Z X EE (.p6 (.wO (._o (.oh x p) "extend" Yo) (e::es) [] bh) gw) (nh i dA):=by
 refine PS.k8 (Ek (Lv n9.F.Ė n9.F.zdv n9.F.type_list_extend Tx (pv i hN hv hd fg) ha dg bY dj hs bT) qI) ?_;rintro D σ H ⟨G,e,mQ,h⟩;unfold nh at h;split at h
 .rename_i b0 J2 tX;let⟨a,xs,h1,h2,h3,h4,h5⟩:=mQ.ku tX;refine⟨.dr a,h1,.jd ⟨rfl,xs,bD.of h2⟩,G,e,mQ,(i3 h).uM (λws e1 h G1 vs H1 r1 s1 p1=>?_) λ_ _ h=>h⟩
  split at h
  .rename_i w b ys Aj;let⟨a',zs,g1,g2,g3,g4,g5⟩:=r1.ku Aj;rw[h1]at g1;cases g1;let⟨y,r,rfl,py,pr⟩:=p1;cases(show r=[]from pr);split at h
   .rename_i us hu;split at h
    .rename_i hl
     have Zb:∀c cs,y=.dr c->(bD X.K G1 c cs\/bK X.K G1 c cs)->ah X.K G1 us cs->BX X.K (.dr a) [y] H1 (λv H'=>D.nx σ H'):=λc cs hy hq hr=>by
      subst hy;refine⟨a,c,zs,cs,rfl,rfl,g2,?_,by rw[g5.aj,hr.aj,LP];exact hl,?_⟩
      .rcases hq with q|q
       .exact .jd (r1.p9.p7 q)
       .exact .lb (r1.p9.gs q)
      .exact h G1 σ _ (r1.mut Aj h1 (g5.Wi hr)) s1
     unfold fq at hu;split at hu
     .cases hu;let⟨c,cs,hy,q,hr⟩:=py;exact Zb c cs hy (.lb q) hr
     .cases hu;let⟨c,cs,hy,q,hr⟩:=py;exact Zb c cs hy (.jd q) hr
     .cases hu
    .exact h.oa
   .exact h.oa
  .exact h.oa
 .exact h.oa
end
def o9(i:aO)(dv dk:iw W):ai S->SR:=λe=>(dv e).cH λw e1=>match e1[i]? with
 |ab (.ku _ _)=>(dk e1).cH λk e2=>match k,e2[i]? with
  |.aT k,ab (.ku b ws)=>match oC ws.aj k with
   |ab j=>.nx (e2.rk i (.ku b (ws.rk j w)))
   |none=>.no
  |_,_=>.no
 |_=>.no
section
variable{e k:p6}{dk:iw W}{p gq:vW}{x:et}
def Q2z(i:aO)(he:DE Z X EE e d)(hk:DE Z X EE k dk)(hN:autoParam (X.N[i]?=ab x) jJ)(hv:autoParam (kD X.dt.fv x) jN)(hd:autoParam ((x==("__debug__":et))=false) jK)(fg:autoParam ((x==("__classdict__":et))=false) jK)
  (ha:∀v,_b (.Yb (.oh x p) k gq) X.dt v=(do
   let ov <- _K [v] (eval (.oh x p) X.dt)
   let iv <- _K [v,ov] (eval k X.dt)
   ö gq
   _K [v,ov,iv] (ě ov iv v)
   release [v,ov,iv] []):=by intro _;rfl)
  (hs:autoParam (zdA [.Yb (.oh x p) k gq] e gw.Yd X.dt=vX false) jJ)(hw:autoParam (zdz [.Yb (.oh x p) k gq] e X.dt=vX none) jJ)
  (h1:autoParam ((Zg [.Yb (.oh x p) k gq] X.dt).a6 (·.2)=[_b (.Yb (.oh x p) k gq) X.dt]) jJ):
  DS Z X EE (.Zu [.Yb (.oh x p) k gq] e gw) (o9 i d dk):=by
 refine PS.k8 (z9v he (z9u (pv i hN hv hd fg) hk y84 ha) hs hw h1) ?_;rintro D σ H ⟨G,e,mQ,h⟩;refine⟨G,e,mQ,(i3 h).uM (λw e1 h G1 v1 H1 r1 s1 p1=>?_) λ_ _ h=>h⟩
 split at h
 .rename_i b0 J2 tX;let⟨a,xs,q1,q2,q3,q4,q5⟩:=r1.ku tX;refine⟨.dr a,q1,G1,e1,r1,(i3 (σ:=σ) h).uM (λkw e2 h G2 v2 H2 r2 s2 p2=>?_) λ_ _ h G' H' r s=>h G' H' r (s1.kZ s)⟩
  .split at h
   .rename_i kk b ws nB;let⟨a',zs,g1,g2,g3,g4,g5⟩:=r2.ku nB;rw[q1]at g1;cases g1;cases p2;split at h
    .rename_i j hj;refine⟨a,zs,_,j,rfl,rfl,g2,by rw[g5.aj];exact hj,?_⟩;exact h G2 σ _ (r2.mut nB q1 (g5.rk j (qk.k8 s2 w p1))) (s1.kZ s2)
    .exact h.oa
   .exact h.oa
 .exact h.oa
end
def Wj:W->W->d3 W
 |.str i,.str j=>ab (.bl (decide (i.Yp.wL<j.Yp.wL)))
 |_,_=>none
def CF(K:Fg)(r:V->ai V->Hp->VK->Prop)(f:W->ai W->d3 W):Prop:=∀(G H:Hp)(x:V)(xs:ai V)(wx:W)(ws:ai W)(w:W)(Q:VK),ao G H->qk K G wx x->ah K G ws xs->f wx ws=ab w->(∀G' v H',aK G H G' H'->qk K G' w v->Q v H')->r x xs H Q
def kS(T:Yq):W->ie
 |.str _=>T=="str"
 |.dI _=>T=="list"
 |_=>false
def eY(T:Yq)(f:W->ai W->d3 W)(d:iw W)(dA:iw (ai W)):iw W:=λe=>(d e).r7 λx e1=>if kS T x=true then(dA e1).r7 λws e2=>bp (f x ws) e2 else .no
section
variable{o e:p6}{p:vW}{x:et}
def KD{T id:Yq}{name:et}{r:V->ai V->Hp->VK->Prop}{f:W->ai W->d3 W}(pa:ſ T)(xM:Slot T name id)(Gw:Ŵ (.w4 id)=vX (.ke "method_descriptor"))(hm:v5 X id r)(hf:CF X.K r f)(ho:DE Z X EE o d)(ha:DA Z X EE (e::es) dA)
  (dg:autoParam (Κ o name X.dt (eval o X.dt)=eval o X.dt) jJ)
  (bY:autoParam (((y0 bh (pg (e::es) X.dt)).t9 (λx=>!x.1)&&(Λ bh (Ρ [] X.dt)).t9 (λx=>x.1.z_)&&decide ((e::es).aj+([]:ai Zd).aj+(if([]:ai Zd).U7 then 0 else 1)<30))=true) jJ)
  (dj:autoParam ((Yo.Ο==bh.Yd)=true) jJ)(hs:autoParam (pg (e::es) X.dt=(false,eval e X.dt)::pg es X.dt) jJ)(bT:autoParam ((y0 bh (pg es X.dt)).uJ (·.1)=false) jJ):
  DE Z X EE (.wO (._o o name Yo) (e::es) [] bh) (eY T f d dA):=by
 refine PE.k8 (Lv pa xM Gw hm ho ha dg bY dj hs bT) ?_;rintro σ H Q ⟨G,e,mQ,h⟩;simp only[eY,R.ar]at h;refine⟨G,e,mQ,h.uM (λwx e1 h G1 v1 H1 r1 s1 p1=>?_) λ_ _ h=>h⟩
 split at h
 .rename_i hk;refine⟨?_,G1,e1,r1,(R.ar.mp h).uM (λws e2 h G2 vs H2 r2 s2 p2=>?_) λ_ _ h=>XH.kZ s1 h⟩
  .cases wx with
   |str z=>cases p1;exact(by simpa [kS]using hk:T="str")
   |dI ws=>
    let⟨a,xs,rfl,q,_⟩:=p1;exact .jd ⟨by simpa [kS]using hk,xs,r1.p9.p7 q⟩
   |_=>cases hk
  .let⟨w,hw,h⟩:=aZ.mp h;exact hf G2 H2 v1 vs wx ws w Q r2.p9 (qk.k8 s2 wx p1) p2 hw λG' v H' g p=>h G' v H' (r2.zR g) ((s1.kZ s2).kZ g.gg) p
 .exact h.oa
end
def i5:ai W->d3 (ai et)
 |[]=>ab []
 |.str x::r=>(i5 r).a6 (x::·)
 |_=>none
def jX(Z3:et)(ys:ai et):ie:=aO.ble ((ys.a6 λx=>x.aj)._N+ys.aj*Z3.aj) 16777216
def mv:W->ai W->d3 W
 |.str Z3,[w]=>match fq w with
  |ab ws=>match i5 ws with
   |ab ys=>if jX Z3 ys=true then ab (.str (_a._u Z3 ys))else none
   |none=>none
  |none=>none
 |_,_=>none
def ę(K:Fg):V->ai V->Hp->VK->Prop:=λx vs H Q=>∃Z3 b zs ys,x=.str Z3/\vs=[.dr b]/\(bD K H b zs\/bK K H b zs)/\zs=ys.a6 V.str/\jX Z3 ys=true/\Q (.str (_a._u Z3 ys)) H
theorem J8:∀{ys:ai et}{aw:ai d0},uw (ys.a6 V.str) aw->CG.Fe.Ŀ aw ys
 |[],aw,h=>by cases h;exact .so
 |y::ys,aw,h=>by
  cases h with
  |qT r t=>
   let⟨k,rfl⟩:=r;exact .qT y k (J8 t)
def z55:v5 X "str.join" (ę X.K):=by
 intro dN s σ H x vs v us Q I rx rv h;let⟨Z3,b,zs,ys,rfl,rfl,hB,rfl,hz,q⟩:=h;let⟨t,rfl⟩:=rx;let⟨u,rfl,ru⟩:=rv.YE;cases ru;have MJ:=w3r hz;have xT:∀(t':Ι)(k:aO),EP X dN σ Q (d0.str (_a._u Z3 ys) t') {s with tK:=k}:=λt' k=>⟨.str _,H,I.Ym k,⟨t',rfl⟩,q⟩
 rcases hB with hB|hB
 .let⟨aw,r,pl,_⟩:=I.xm hB;exact CG.Fe.ď pl.zD (by simpa using J8 r) MJ xT
 .let⟨aw,r,pl,_⟩:=I.Tc hB;exact CG.Fe.join_tuple pl (by simpa using J8 r) MJ xT
def y94:∀{ys:ai et}{xs:ai V},i5 ws=ab ys->ah K G ws xs->xs=ys.a6 V.str:=by
 induction ws with
 |so=>intro ys xs h r;cases h;exact r
 |qT w ws ih=>
  intro ys xs h r;cases w with
  |str x=>
   let⟨zs,h1,rfl⟩:=w0j.mp (show(i5 ws).a6 (x::·)=ab ys from h);let⟨v,t,rfl,p,q⟩:=r;cases p;exact ZQ _ (ih h1 q)
  |_=>cases h
def z56:CF K (ę K) mv:=by
 intro G H x xs wx ws w Q s px pr hf h;unfold mv at hf;split at hf
 .rename_i Z3 w0;let⟨y,r,rfl,py,pr⟩:=pr;cases(show r=[]from pr);cases px;split at hf
  .rename_i us hu;split at hf
   .rename_i ys hy;split at hf
    .rename_i ho;cases hf
     have Zb:∀c cs,y=.dr c->(bD K G c cs\/bK K G c cs)->ah K G us cs->ę K (.str Z3) [y] H Q:=λc cs hc hq hr=>by
      subst hc;refine⟨Z3,c,cs,ys,rfl,rfl,?_,y94 hy hr,ho,h G _ H (.t8 s) rfl⟩;rcases hq with q|q
      .exact .jd (s.p7 q)
      .exact .lb (s.gs q)
     unfold fq at hu;split at hu
     .cases hu;let⟨c,cs,hc,q,hr⟩:=py;exact Zb c cs hc (.lb q) hr
     .cases hu;let⟨c,cs,hc,q,hr⟩:=py;exact Zb c cs hc (.jd q) hr
     .cases hu
    .cases hf
   .cases hf
  .cases hf
 .cases hf
section
variable{o e:p6}
theorem z57(ho:DE Z X EE o d)(ha:DA Z X EE [e] dA)
  (dg:autoParam (Κ o "join" X.dt (eval o X.dt)=eval o X.dt) jJ)
  (bY:autoParam (((y0 bh (pg [e] X.dt)).t9 (λx=>!x.1)&&(Λ bh (Ρ [] X.dt)).t9 (λx=>x.1.z_)&&decide ([e].aj+([]:ai Zd).aj+(if([]:ai Zd).U7 then 0 else 1)<30))=true) jJ)
  (dj:autoParam ((Yo.Ο==bh.Yd)=true) jJ)(hs:autoParam (pg [e] X.dt=(false,eval e X.dt)::pg [] X.dt) jJ)(bT:autoParam ((y0 bh (pg [] X.dt)).uJ (·.1)=false) jJ):
  DE Z X EE (.wO (._o o "join" Yo) [e] [] bh) (eY "str" mv d dA):=
 KD n9.F.plainAttrs_str n9.F.slot_str_join n9.F.type_str_join z55 z56 ho ha dg bY dj hs bT
end
def SR.eK(r:SR)(k:ai S->SR):SR:=match r with
 |.nx e'=>k e'
 |.ct e'=>k e'
 |.bk e'=>.nx e'
 |.rt s e'=>.rt s e'
 |.ex c e'=>.ex c e'
 |.no=>.no
structure ze8(P:xc)(w:vr)(K:Fg)(d:fy)(tb:ai (et×a7)):Prop where
 _m:∀h,K.In h->CG.Fe.StrTab P w h d (n9.W.kdpD tb)
 Wd:∃o,K.g6 d=ab o/\o.o4=.ke "dict" /\ o.xg=none
def xq(i:aO)(e:ai S)(b:d3 aO)(ws:ai W)(w:W):d3 aO->SR
 |ab j=>.nx (e.rk i (.ku b (ws.rk j w)))
 |none=>.no
def xp(i:aO)(e:ai S)(w:W):W->d3 S->SR
 |.aT k,ab (.ku b ws)=>xq i e b ws w (oC ws.aj k)
 |_,_=>.no
def Bg(i:aO)(dk:iw W)(w:W)(e:ai S):d3 S->SR
 |ab (.ku _ _)=>(dk e).cH λk e2=>xp i e2 w k e2[i]?
 |_=>.no
def Q20{dv:iw W}:o9 i dv dk e=(dv e).cH λw e1=>Bg i dk w e1 e1[i]?:=by
 unfold o9;congr 1
theorem y95:Bg i dk w e (ab (.ku b ws))=(dk e).cH λk e2=>xp i e2 w k e2[i]?:=rfl
theorem y96:xp i e w (.aT k) (ab (.ku b ws))=xq i e b ws w (oC ws.aj k):=rfl
theorem y5l:xq i e b ws w (ab j)=.nx (e.rk i (.ku b (ws.rk j w))):=rfl
def qP(e:ai S):FR->R W
 |.ok (.fr w)=>if aM w=true then .ok w e else .no
 |_=>.no
def qO(F:ai W->FR)(us:ai W)(e:ai S):d3 S->R W
 |ab (.ku _ ws)=>qP e (F (.dI ws::us))
 |_=>.no
def qN(F:ai W->FR)(i:aO)(dA:iw (ai W))(e:ai S):d3 S->R W
 |ab (.ku _ _)=>(dA e).r7 λus e1=>qO F us e1 e1[i]?
 |_=>.no
def z58:u5 F i dA e=qN F i dA e e[i]?:=by
 unfold u5 qN;cases e[i]? with
 |none=>rfl
 |ab s=>cases s with
  |ku b ws=>
   dsimp only;congr 1
  |_=>rfl
theorem y5m:qN F i dA e (ab (.ku b ws))=(dA e).r7 λus e1=>qO F us e1 e1[i]?:=rfl
theorem y5n:qO F us e (ab (.ku b ws))=qP e (F (.dI ws::us)):=rfl
theorem y97:qP e (.ok (.fr w))=if aM w=true then .ok w e else .no:=rfl
def wz(i:aO)(e:ai S)(b:d3 aO)(xs:ai W):d3 (ai W)->SR
 |ab ys=>if xs.aj+ys.aj<=16777216 then .nx (e.rk i (.ku b (xs++ys)))else .no
 |none=>.no
def wu(i:aO)(e:ai S):ai W->d3 S->SR
 |[w],ab (.ku b xs)=>wz i e b xs (fq w)
 |_,_=>.no
def wt(i:aO)(d:iw (ai W))(e:ai S):d3 S->SR
 |ab (.ku _ _)=>(d e).cH λws e1=>wu i e1 ws e1[i]?
 |_=>.no
def Q21{d:iw (ai W)}:nh i d e=wt i d e e[i]?:=by
 unfold nh wt;cases e[i]? with
 |none=>rfl
 |ab s=>cases s with
  |ku b ws=>
   dsimp only;congr 1
  |_=>rfl
theorem y98{d:iw (ai W)}:wt i d e (ab (.ku b xs))=(d e).cH λws e1=>wu i e1 ws e1[i]?:=rfl
theorem y99:wu i e [w] (ab (.ku b xs))=wz i e b xs (fq w):=rfl
theorem y5o:wz i e b xs (ab ys)=if xs.aj+ys.aj<=16777216 then .nx (e.rk i (.ku b (xs++ys)))else .no:=rfl
theorem z59:eY T f d dA e=(d e).r7 λx e1=>if kS T x=true then(dA e1).r7 λws e2=>bp (f x ws) e2 else .no:=rfl
theorem Q22:kS "str" (.str z)=true:=rfl
theorem Q23:kS "list" (.dI ws)=true:=rfl
theorem Q24{i:et}:Wj (.str i) (.str j)=ab (.bl (decide (i.Yp.wL<j.Yp.wL))):=rfl
def ez(i j:aO)(b:ai S->SR):ai (W×W)->ai S->SR
 |[],e=>.nx e
 |p::ps,e=>(b ((e.rk i (.fr p.1)).rk j (.fr p.2))).eK (ez i j b ps)
def iY(i j:aO)(d:iw (ai (W×W)))(b:ai S->SR):ai S->SR:=λe=>(d e).cH λps e1=>ez i j b ps e1
def eF(c:iw ie)(d:iw W)(pe:ai S):ai (W×W)->d3 (ai W)
 |[]=>ab []
 |p::ps=>match c (.fr p.1::.fr p.2::pe)with
  |.ok true e1=>match d e1 with
   |.ok y _=>(eF c d pe ps).a6 (y::·)
   |_=>none
  |.ok false _=>eF c d pe ps
  |_=>none
def jx(js:ai aO)(c:iw ie)(d:iw W)(ps:ai (W×W))(e1:ai S):R (ai W):=
 if ps.aj<=16777216 then(match eF c d (fB js (aX js e1)) ps with
  |ab xH=>.ok xH (aX js e1)
  |none=>.no)else .no
def d5(js:ai aO)(di:iw (ai (W×W)))(c:iw ie)(d:iw W):iw (ai W):=λe=>(di e).r7 λps e1=>jx js c d ps e1
structure jw(K:Fg)(G1:Hp)(J:It)(ps:ai (W×W)):Prop where
 go:∀(i:aO)(G H:Hp),ao G1 G->ao G H->i<ps.aj->J.go i H
 lX:∀(i:aO)(G H:Hp)(x:V)(H':Hp),ao G1 G->ao G H->J.lX i H x H'->∀u v,ps[i]?=ab (u,v) ->
  aK G H G H'/\∀(m n:aO)(σ:St)(Q:St->Hp->Prop),(∀y z,qk K G u y->qk K G v z->Q ((σ.rk m (ab y)).rk n (ab z)) H')->pb K 2 (fR (bL m) (fR (bL n) o_)) x σ H' Q
 stop:∀(i:aO)(G H:Hp),ao G1 G->ao G H->ps.aj<=i->J.stop i H
def vj(K:Fg)(Z:Zt)(EE:L2.St->XK)(d:iw (ai (W×W))):TI:=λσ H R=>pM K Z σ H λG e=>(d e).SA (λps e1=>∀G1 H1 J,pZ K Z G1 σ H1 e1->ao G G1->jw K G1 J ps->R J H1) (XH K Z EE σ G)
def DI(Z:Zt)(X:Cx)(EE:L2.St->XK)(tg x9:p6)(d:iw (ai (W×W))):Prop:=PI X tg x9 (vj X.K Z EE d)
theorem PI.k8(h:PI X tg x9 wi)(m:∀σ H R,W2 σ H R->wi σ H R):PI X tg x9 W2:=λdN s σ H R I q=>h dN s σ H R I (m σ H R q)
def y5p(r:pZ K Z G' σ H e)(s:ao G1 G')(pu:qk K G' p.1 x)(pv:qk K G' p.2 y)
  (h:bC K Z EE D G1 (ez i j s1 (p::ps) e))(hP:∀eB fY l4 u7,pZ K Z eB fY l4 u7->ao G1 eB->bC K Z EE D G1 (ez i j s1 ps u7)->Pv fY l4):
  fA K Z EE s1 {D with nx:=Pv,ct:=Pv,bk:=D.nx} ((σ.rk i (ab x)).rk j (ab y)) H:=by
 refine⟨G',_,(r.rk pu).rk pv,?_⟩;unfold ez at h;cases q:s1 ((e.rk i (.fr p.1)).rk j (.fr p.2))with
 |nx e'=>rw[q]at h;exact λeB fY l4 nT iT=>hP eB fY l4 e' nT (s.kZ iT) h
 |ct e'=>rw[q]at h;exact λeB fY l4 nT iT=>hP eB fY l4 e' nT (s.kZ iT) h
 |bk e'=>rw[q]at h;exact λeB fY l4 nT iT=>h eB fY l4 nT (s.kZ iT)
 |rt t e'=>rw[q]at h;exact λeB fY v l4 nT iT p=>h eB fY v l4 nT (s.kZ iT) p
 |ex c e'=>rw[q]at h;exact λeB fY l4 nT iT=>h eB fY l4 nT (s.kZ iT)
 |no=>rw[q]at h;exact h
def N8{ps:ai (W×W)}{k:aO}{p:W×W}(h:ps[k]?=ab p):ps.xO k=p::ps.xO (k+1):=by
 let⟨h1,h2⟩:=w0b.mp h;rw[w2z h1,h2]
def pZ.zd1(r:pZ K Z G σ H e)(js:ai aO){u:W}{y x:V}(q:qk K G u y)(p:qk K G w x):pZ K ⟨H,G,[]⟩ G (ab y::ab x::pj js σ) H (.fr u::.fr w::fB js e):=by
 have b:=r.block js p
 have nC:∀(i:aO)(s:S),(S.fr w::fB js e)[i]?=ab s->s=.no\/∃u,s=.fr u:=λi s h=>by
  cases i with
  |Yf=>cases h;exact .lb ⟨w,rfl⟩
  |Ye k=>
   rw[w0d]at h;unfold fB at h;rw[w0s]at h;let⟨j,h1,h2⟩:=w0j.mp h;unfold gF at h2;split at h2
   .subst h2;exact .lb ⟨_,rfl⟩
   .subst h2;exact .jd rfl
 refine⟨b.p9,λi s h=>?_,?_,λi j b1 b2 w1 w2 a h1 h2 _ _=>?_,b.VB,b.kz,b.gen⟩
 .cases i with
  |Yf=>cases h;exact⟨y,rfl,q⟩
  |Ye i=>
   rw[w0d]at h;have z:=b.xM i s h;rcases nC i s h with rfl|⟨u',rfl⟩
   .trivial
   .let⟨v,z1,z2⟩:=b.fr h;exact⟨v,by rw[w0d,z1];rfl,z2⟩
 .have:=b.uN;simp only[w0z]at this |-
  omega
 .cases i with
  |Yf=>cases h1
  |Ye i=>
   rw[w0d]at h1;rcases nC i _ h1 with z|⟨u',z⟩<;>cases z
def z0a{J:It}{ps:ai (W×W)}{xH:ai W}{Q:VK}{G0 G1 H1:Hp}{e1:ai S}(W0:jw K G1 J ps)(r1:pZ K Z G1 σ H1 e1)(s1:ao G0 G1)(hl:ps.aj<=16777216)
  (hz:∀p,H1 p=none->p∉Z.io)(hc:eF c d (fB js e1) ps=ab xH)
  (h:∀G' a xs H',pZ K Z G' σ H' e1->ao G0 G'->H' a=ab (.dI xs)->G' a=none->Z.H a=none->kj σ e1 a->ah K G' xH xs->Q (.dr a) H'):
  ∀D,H1 D=none->∃W:aO->aO->Hp->Prop,(∃m,W 0 m (oL H1 D (.dI [])))/\∀i m H2,W i m H2 ->
   (J.stop i H2/\Q (.dr D) H2)\/(J.go i H2/\∀x H3,J.lX i H2 x H3->pb K 2 (fR (bL 0) (fR (bL 1) o_)) x (ai.w8 2 none++pj js σ) H3 λsu H4=>Kp (ai.w8 2 none++pj js σ) su/\cT K c su H4 λb H5=>
    if b=true then cE K d su H5 λy H6=>∃ys,H6 D=ab (.dI ys)/\ys.aj<wm/\∃m',m'<m/\W (i+1) m' (oL H6 D (.dI (ys++[y])))else ∃m',m'<m/\W (i+1) m' H5):=by
 intro D hD
 refine⟨λi m H2=>m=ps.aj-i/\i<=ps.aj/\∃G2 ys done xb,pZ K Z G2 σ H2 e1/\ao G1 G2/\H2 D=ab (.dI ys)/\G2 D=none/\ah K G2 done ys/\done.aj<=i/\eF c d (fB js e1) (ps.xO i)=ab xb/\done++xb=xH,
  ⟨ps.aj,by omega,w1g _,G1,[],[],xH,r1.zR (aK.ox r1.p9 hD _),.t8 _,bN,r1.p9.tD hD,rfl,w0f _,hc,rfl⟩,?_⟩
 rintro i m H2 ⟨rfl,hi,G2,ys,done,xb,r2,s2,YQ,qD,rO,Mr,du,ho⟩;have cL:kj σ e1 D:=yG r1 hD;have AF:Z.H D=none:=pF r1 hD
 by_cases bZ:i<ps.aj
 .refine .lb ⟨W0.go i G2 H2 s2 r2.p9 bZ,λx H3 hy=>?_⟩
  have hp:ps[i]?=ab ((ps[i]).1,(ps[i]).2):=by rw[w0c bZ]
  let⟨g3,FV⟩:=W0.lX i G2 H2 x H3 s2 r2.p9 hy _ _ hp;have JG:=r2.zR g3;have CV:H3 D=ab (.dI ys):=g3.hh _ _ YQ;rw[N8 hp]at du;refine FV 0 1 _ _ λyv zv py pz=>⟨Kp.two,⟨H3,G2,[]⟩,G2,.fr (ps[i]).1::.fr (ps[i]).2::fB js e1,JG.zd1 js py pz,?_⟩
  unfold eF at du;cases qc:c (.fr (ps[i]).1::.fr (ps[i]).2::fB js e1)with
  |no=>rw[qc]at du;cases du
  |ex _ _=>rw[qc]at du;cases du
  |ok k e2=>
   rw[qc]at du;intro G3 H5 r3 s3;have g3:=r3.gS s3;cases k with
   |false=>
    exact⟨ps.aj-(i+1),by omega,rfl,bZ,G3,ys,done,xb,JG.zR g3,s2.kZ s3,g3.hh _ _ CV,by rw[g3.vd D (by rw[CV];simp)];exact qD,ah.k8 s3 _ rO,by omega,du,ho⟩
   |true=>
    refine⟨⟨H3,G2,[]⟩,G3,e2,r3,?_⟩;dsimp only at du;cases qd:d e2 with
    |no=>rw[qd]at du;cases du
    |ex _ _=>rw[qd]at du;cases du
    |ok y e3=>
     rw[qd]at du;intro G4 v H6 r4 s4 p4;have g4:=r4.gS (s3.kZ s4);let⟨rN,hr,rfl⟩:=w0j.mp du;have Ah:H6 D=ab (.dI ys):=g4.hh _ _ CV;have Am:G4 D=none:=by rw[g4.vd D (by rw[CV];simp)];exact qD
     refine⟨ys,Ah,?_,ps.aj-(i+1),by omega,rfl,bZ,G4,ys++[v],done++[y],rN,(JG.zR g4).lJ Am AF (hz D hD) cL Ah,s2.kZ (s3.kZ s4),bN,Am,(ah.k8 (s3.kZ s4) _ rO).Wi (.YE p4),by simp;omega,hr,by rw[w4l];exact ho⟩;rw[rO.aj,LP];omega
 .have:i=ps.aj:=by omega
  subst this;rw[w3c]at du;cases du;rw[w1q]at ho;subst ho;exact .jd ⟨W0.stop _ G2 H2 s2 r2.p9 (by omega),h G2 D ys H2 r2 (s1.kZ s2) YQ qD AF cL rO⟩
section
variable{JM x9 e a:p6}{uG:ai Mu}{zS:ai p6}{fv sc:zF}{pt p3:vW}{x y:et}{Nf N:ai et}{di:iw (ai (W×W))}{s1:ai S->SR}
def z6a(i j:aO)(hN:X.N.xZ)(hp:Ϟ (qX X.je X.w) X.A X.dt X.xe)(hc:X.MT=true)(hl:DI Z X EE (.Yg [.oh x p1,.oh y p2] kt p3) e di)(hb:m7 Z X EE uG s1)
  (hi:autoParam (X.N[i]?=ab x) jJ)(hx:autoParam (YU X.dt.fv x) jM)(hf:autoParam (X.fn x=true\/X.dt.fv.qW.g6 x=ab .local) jL)
  (hj:autoParam (X.N[j]?=ab y) jJ)(hy:autoParam (YU X.dt.fv y) jM)(FT:autoParam (X.fn y=true\/X.dt.fv.qW.g6 y=ab .local) jL)
  (hn:autoParam ((Zg [.oh x p1,.oh y p2] X.dt).aj=2) jJ)(ky:autoParam ((Zg [.oh x p1,.oh y p2] X.dt).œ (·.1)=none) jJ)
  (g1:autoParam ((Zg [.oh x p1,.oh y p2] X.dt).a6 (·.2)=_b (.oh x p1) X.dt::(Zg [.oh y p2] X.dt).a6 (·.2)) jJ)(g2:autoParam ((Zg [.oh y p2] X.dt).a6 (·.2)=_b (.oh y p2) X.dt::(Zg [] X.dt).a6 (·.2)) jJ)
  (hs:∀x,ZR e X.dt x=vX x:=by intro _;rfl):
  DS Z X EE (.For (.Yg [.oh x p1,.oh y p2] kt p3) e uG [] gw) (iY i j di s1):=by
 refine PS.k8 (EF hp hc hl (Ry hc (Ec (uC i hN hi hx hf) (Ec (uC j hN hj hy FT) QJ g2) g1) hn ky) hb hs) ?_;rintro D σ H ⟨G,e,mQ,h⟩;refine⟨G,e,mQ,(i3 h).uM (λps e1 h G1 H1 J r1 q1 W0=>?_) λ_ _ h=>h⟩
 have h:=bC.kZ q1 h;refine⟨λk m aJ H'=>m=ps.aj-k/\k<=ps.aj/\∃G' e',pZ X.K Z G' aJ H' e'/\ao G1 G'/\bC X.K Z EE D G1 (ez i j s1 (ps.xO k) e'),⟨ps.aj,by omega,w1g _,G1,e1,r1,.t8 _,h⟩,?_⟩
 rintro k m aJ H' ⟨rfl,hk,G',e',r',s',h'⟩
 by_cases bZ:k<ps.aj
 .refine .lb ⟨W0.go k G' H' s' r'.p9 bZ,λfY l4=>∃G' e',pZ X.K Z G' fY l4 e'/\ao G1 G'/\bC X.K Z EE D G1 (ez i j s1 (ps.xO (k+1)) e'),?_,λv H2 hy=>?_⟩
  .rintro fY l4 ⟨eB,u7,nT,iT,qz⟩;exact⟨ps.aj-(k+1),by omega,rfl,bZ,eB,u7,nT,iT,qz⟩
  .have hp:ps[k]?=ab ((ps[k]).1,(ps[k]).2):=by rw[w0c bZ]
   let⟨g3,FV⟩:=W0.lX k G' H' v H2 s' r'.p9 hy _ _ hp;rw[N8 hp]at h';exact FV i j aJ _ λy z py pz=>y5p (p:=((ps[k]).1,(ps[k]).2)) (r'.zR g3) s' py pz h' λeB fY l4 u7 nT iT qz=>⟨eB,u7,nT,iT,qz⟩
 .have:k=ps.aj:=by omega
  subst this;rw[w3c]at h';exact .jd ⟨W0.stop _ G' H' s' r'.p9 (by omega),h' G' aJ H' r' s'⟩
def zbL:∀σ H Q,oE K Z EE (d5 js di c d) σ H Q->i6 (vj K Z EE di) 2 js (pb K 2 (fR (bL 0) (fR (bL 1) o_))) (cT K c) (cE K d) σ H Q:=by
 rintro σ H Q ⟨G,e,mQ,h⟩;simp only[d5,R.ar]at h;refine⟨G,e,mQ,h.uM (λps e1 h G1 H1 J r1 s1 W0=>?_) λ_ _ h=>h⟩
 unfold jx at h;split at h
 .rename_i hl;split at h
  .rename_i xH ho;let⟨G2,s2,r2⟩:=r1.aX js;have W1:jw K G2 J ps:=⟨λi G H a=>W0.go i G H (s2.kZ a),λi G H x H' a=>W0.lX i G H x H' (s2.kZ a),λi G H a=>W0.stop i G H (s2.kZ a)⟩
   exact z0a W1 r2 (s1.kZ s2) hl (nK r2) ho h
  .exact h.oa
 .exact h.oa
def z0b(hc:X.MT=true)(hi:DI Z X EE (.Yg [.oh x p1,.oh y p2] kt p3) x9 di)(ok:cP sc fv N Nf js=true)
  (ht:∀Z' cl C ay aF ex,tq Z' (X.cp ([x,y]++Nf) fv cl C ay aF ex) (λ_=>E0) zS c)(he:∀Z' cl C ay aF ex,DE Z' (X.cp ([x,y]++Nf) fv cl C ay aF ex) (λ_=>E0) JM d)
  (hg:∀cl C ay aF ex,PG (X.cp ([x,y]++Nf) fv cl C ay aF ex) (.Yg [.oh x p1,.oh y p2] kt p3) (pb X.K 2 (fR (bL 0) (fR (bL 1) o_))))
  (hsc:autoParam (X.dt.fv=sc) jJ)(hN:autoParam (X.N=N) jJ)(hs:∀x,ZR x9 X.dt x=vX x:=by intro _;rfl):
  DF Z X EE (.Zm JM [⟨.Yg [.oh x p1,.oh y p2] kt p3,x9,zS,0⟩] fv gw) (d5 js di c d):=by
 exact PE.k8 (Kf (Nl:=[x,y]) (tc:=cT X.K c) (te:=cE X.K d) hc hi ok hg (Cu ht) (Cv he) hsc hN hs) zbL
def d_:ai W->d3 (ai (W×W))
 |[]=>ab []
 |.gs [u,v]::ws=>(d_ ws).a6 ((u,v)::·)
 |_=>none
def j8(d:iw W):iw (ai (W×W)):=λe=>(d e).r7 λw e1=>match fq w with
 |ab ws=>bp (d_ ws) e1
 |none=>.no
theorem OE:∀{ws:ai W}{ps:ai (W×W)},d_ ws=ab ps->ws.aj=ps.aj/\∀(i:aO) u v,ps[i]?=ab (u,v)->ws[i]?=ab (.gs [u,v])
 |[],ps,h=>by cases h;exact⟨rfl,λi u v z=>by simp at z⟩
 |w::ws,ps,h=>by
  unfold d_ at h;split at h
  .rename_i z;cases z
  .rename_i u v ws' z;cases z;let⟨q,hq,rfl⟩:=w0j.mp h;let⟨h1,h2⟩:=OE hq;refine⟨by simp[h1],λi u' v' z=>?_⟩
   cases i with
   |Yf=>simp at z;simp[z.1,z.2]
   |Ye i=>simp only[w0d]at z |-;exact h2 i _ _ z
  .cases h
def OF(W0:ϴ J xs SQ)(rp:ah K G1 ws xs)(hp:d_ ws=ab ps)(tT:∀G' H',ao G1 G'->ao G' H'->SQ H'):jw K G1 J ps:=by
 let⟨hl,hg⟩:=OE hp;have hx:=rp.aj;refine⟨λi G H a b h=>W0.go i H (tT G H a b) (by omega),λi G H x H' a b hy u v h=>?_,λi G H a b h=>W0.stop i H (tT G H a b) (by omega)⟩
 have bZ:i<ps.aj:=(w0b.mp h).1;let⟨rfl,vg⟩:=W0.lX i H x H' (tT G H a b) hy (by omega);refine⟨aK.t8 b,λm n σ Q hQ=>?_⟩
 let⟨w,hw,pw⟩:=rp.jc vg;rw[hg i u v h]at hw;cases hw;have pw:=qk.k8 a _ pw;let⟨c,ys,rfl,hq,y1,q1,rfl,p1,y2,q2,rfl,p2,rfl⟩:=pw;exact⟨c,[y1,y2],rfl,b.gs hq,rfl,y1,[y2],rfl,y2,[],rfl,rfl,hQ y1 y2 p1 p2⟩
def z0c(hl:DE Z X EE l zcb):DI Z X EE tg l (j8 zcb):=by
 refine PI.k8 (ED hl) ?_;rintro σ H RR ⟨G,e,mQ,h⟩;simp only[j8,R.ar]at h;refine⟨G,e,mQ,h.uM (λw e1 h G1 v1 H1 r1 s1 p1=>?_) λ_ _ h=>h⟩
 split at h
 .rename_i ws hw;let⟨ps,hp,h⟩:=aZ.mp h;cases w with
  |gs us=>
   cases (hw);let⟨a,xs,rfl,hq,rp⟩:=p1;exact⟨a,rfl,.lb ⟨⟨xs,r1.p9.gs hq⟩,h _ _ _ r1 s1 (OF Rz rp hp λG' H' s s'=>ao.gs s' (ao.gs s hq))⟩⟩
  |dI us=>
   cases (hw);let⟨a,xs,rfl,hq,rp⟩:=p1;exact⟨a,rfl,.jd ⟨⟨xs,r1.p9.p7 hq⟩,h _ _ _ r1 s1 (OF RU rp hp λG' H' s s'=>ao.p7 s' (ao.p7 s hq))⟩⟩
  |_=>cases hw
 .exact h.oa
def cj:aO->ai W->ai (W×W)
 |_,[]=>[]
 |k,w::ws=>(.aT k,w)::cj (k+1) ws
def mM(dA:iw (ai W)):iw (ai (W×W)):=λe=>(dA e).r7 λws e1=>match ws with
 |[.dI us]=>.ok (cj 0 us) e1
 |_=>.no
theorem Jp:∀(k:aO)(ws:ai W),(cj k ws).aj=ws.aj
 |_,[]=>rfl
 |k,w::ws=>by simp[cj,Jp (k+1) ws]
theorem Jq:∀(k:aO)(ws:ai W)(i:aO)(u v:W),(cj k ws)[i]?=ab (u,v)->u=.aT ((k+i:aO):a7)/\ws[i]?=ab v
 |_,[],i,u,v,h=>by simp[cj]at h
 |k,w::ws,i,u,v,h=>by
  cases i with
  |Yf=>
   have e:(W.aT k,w)=(u,v):=d3.ab.zT h;cases e;exact⟨rfl,rfl⟩
  |Ye i=>
   have h:(cj (k+1) ws)[i]?=ab (u,v):=h;let⟨h1,h2⟩:=Jq (k+1) ws i u v h;exact⟨by rw[h1];congr 2;omega,h2⟩
def Fc(K:Fg)(a:fy):It:=
 ⟨λi H=>∃xs x,bD K H a xs/\xs[i]?=ab x,λi H x H'=>∃b y,x=.dr b/\H b=none/\(∀xs,bD K H a xs->xs[i]?=ab y)/\H'=oL H b (.gs [.aT i,y]),λi H=>∃xs,bD K H a xs/\xs.aj<=i⟩
def Jr{h':g0}{t':aO}{fp:ai fy}{b:fy}{o:HO}(I:j3 X dN σ H s)(k:∀b o,b∉fp->s.bj.ik b=ab o->h'.ik b=ab o)(hf:∀b∈fp,eU X dN H b)(hp:s.bj.f'.dS<=b)(vd:aU X.je X.w (oL H b o) h' b o):j3 X dN σ (oL H b o) {s with bj:=h',tK:=t'}:=by
 have hn:H b=none:=I.aQ.xK hp;have ne:∀c u,H c=ab u->c≠b:=λc u e=>gU e hn
 have A7:∀c u,H c=ab u->c∉fp:=λc u e z=>by rw[(hf c z).1]at e;cases e
 have lt:∀c o,s.bj.ik c=ab o->c≠b:=λc o e=>w0t (w1d (g0.xX e) hp)
 refine I.Zb (g':=s.YI) (d':=s.ψ) (ch:=fp) (λc hc=>?_) (λc o _ _ hc e _=>k c o hc e) (λc o _ _ hc e _=>⟨o.YN,k c o hc e⟩) (λc o _ e n=>by rw[aN (lt c o e)];exact n)
  (λc o hc e=>⟨o,k c o hc e⟩) (λc xs e=>by rw[aN (ne c _ e)];exact e) (λc o u e=>by rw[aN (ne c _ e)];exact e) (λc ps e=>⟨#[],by rw[aN (ne c _ e),e];simp⟩) (λm hm=>?_) (λc u e=>?_) I.Td
 .let⟨f0,f1,f2,f3,f4,f5⟩:=hf c hc;exact⟨f3,f1,f4,f5⟩
 .let⟨o,es,ep,ho,r⟩:=hm;exact⟨o,es,ep,k _ o (λz=>(hf _ z).2.1 rfl) ho,r⟩
 .by_cases hb:c=b
  .subst hb;rw[bN]at e;cases e;exact vd
  .rw[aN hb]at e;refine(I.aQ c u e).cF (λd v hd q=>k d v ?_ q) (λd q=>by rw[aN (ne d _ q)];exact q) λd xs _ q=>by rw[aN (ne d _ q)];exact q
   rcases hd with z|z
   .rw[z];exact A7 c u e
   .exact A7 d _ z
theorem y5q{P:xc}{w:vr}(a e it:fy)(gm:e≠it):ν P w K (.Yg _g kt pt) (Fc K a) [e,it] e (λi h=>∃w5,n9.ă h e it (i:aO) w5/\h.ϙ it a i) where
 Yj:=by simp
 Wd:=λi h ⟨w5,jo,iU⟩ b hb=>by
  simp only[w0i,w1f,Zj]at hb;rcases hb with rfl|rfl
  .exact⟨_,jo,λv z=>by cases z⟩
  .let⟨o,e,c,d⟩:=iU;exact⟨o,e,λv z=>by rw[d]at z;cases z⟩
 xW:=λi h h' ⟨w5,jo,iU⟩ k=>⟨w5,k e (by simp) _ jo,iU.at λo e=>k it (by simp) o e⟩
 ZS:=by
  intro X hP hw hK hc i dN s σ H E I hf st hg;subst hP hw hK;let⟨w5,jo,iU⟩:=st;let⟨xs,x,hq,hx⟩:=hg;let⟨aw,rv,p,hz⟩:=I.xm hq;let⟨u,hu,ru⟩:=rv.Ff hx;refine wpAny_pyNext_enum_item jo iU p.zD (x:=u) (by simpa using hu) gm λh1 tY wI Gv ML qE=>⟨_,rfl,?_⟩
  refine zd_ tY λh2 nB gT=>?_
  have gT:g0.Z_ e h1 h2:=gT;have bZ:e<s.bj.f'.dS:=g0.xX jo;have nC:H s.bj.f'.dS=none:=I.aQ.xK (w0f _);have AB:h2.ik s.bj.f'.dS=ab {o4:=.ke "tuple", pJ:=.p7 #[.aT i s.tK,u]}:=(gT.2 _ (w2t bZ)).kZ Gv;refine⟨.dr s.bj.f'.dS,oL H s.bj.f'.dS (.gs [.aT i,x]),?_,rfl,⟨_,x,rfl,nC,λys hy=>by rw[I.ig hy hq];exact hx,rfl⟩,⟨u,nB,?_⟩,λb hb=>?_⟩
  .show L2.j3 X dN σ _ {s with bj:=h2,tK:=s.tK+1};refine Jr (fp:=[e,it]) I (λb o hb q=>?_) hf (w0f _) ⟨?_,[.aT i s.tK,u],.qT ⟨_,rfl⟩ (.qT ru .so),⟨_,AB,rfl,?_⟩,⟨_,AB,rfl⟩⟩
   .simp only[w0i,w1f,Zj,ē]at hb;exact(gT.2 b hb.1).kZ (qE b o hb.1 hb.2 q)
   .rw[LP];simp
   .exact⟨_,rfl⟩
  .exact wI.at λo q=>(gT.2 it (Ne.symm gm)).kZ q
  .have:b≠s.bj.f'.dS:=by
    obtain⟨o,q,_⟩:∃o,s.bj.ik b=ab o/\j':=by
     simp only[w0i,w1f,Zj]at hb;rcases hb with rfl|rfl
     .exact⟨_,jo,trivial⟩
     .let⟨o,e,_⟩:=iU;exact⟨o,e,trivial⟩
    exact w0t (g0.xX q)
   rw[aN this];exact(hf b hb).1
 done:=by
  intro X hP hw hK hc i dN s σ H E I hf st hg;subst hP hw hK;let⟨w5,jo,iU⟩:=st;let⟨xs,hq,hx⟩:=hg;let⟨aw,rv,p,hz⟩:=I.xm hq;let⟨f0,f1,f2,f3,f4,f5⟩:=hf it (by simp);have hl:=rv.aj;exact wpAny_pyNext_enum_end (I.ok.hd hc) jo iU p.zD (by simp;omega) λh' eb=>⟨rfl,I.Z5 (t':=s.tK) (λb o hb e=>eb b o hb e) f0 f1 f3 f4 f5⟩
 self:=λ_ _ _ _ _ ⟨w5,jo,_⟩ h=>Ĵ jo h
def AG(K:Fg)(ta:TA):TI:=λσ H R=>ta σ H λvs H1=>∃a,vs=[.dr a]/\(∃xs,bD K H1 a xs)/\R (Fc K a) H1
def z6b{ta:TA}{p:vW}(hg:Gl X "enumerate")(hm:X.mg "enumerate"=none)(ha:PA X [a] ta)(hs:autoParam (pg [a] X.dt=[(false,eval a X.dt)]) jJ):PI X (.Yg _g kt pt) (.wO (.oh "enumerate" p) [a] [] gw) (AG X.K ta):=by
 intro dN s σ H R I h;refine CG.Fe.Ò (pY I hg hm CG.Fe.zb7 (CG.Fe.χ (bq (ha gw dN s σ H _ I h) λus s1 ⟨vs,H1,I1,r1,q1⟩=>?_) hs rfl))
 let⟨l,e,⟨xs,hq⟩,q⟩:=q1;subst e;cases r1 with
 |qT r rr=>
  cases rr;cases r;let⟨aw,rv,p,hz⟩:=I1.xm hq;refine call_enumerate_list p.zD λh' he ZL hsz hk=>?_
  refine Ĵ he ?_;refine⟨s1.bj.f'.dS+1,[s1.bj.f'.dS+1,s1.bj.f'.dS],_,_,H1,rfl,I1.Yc (t':=s1.tK) hk,y5q l _ _ (w3v _),⟨_,he,ZL⟩,λb hb=>?_,q⟩
  simp only[w0i,w1f,Zj]at hb;rcases hb with rfl|rfl
  .exact I1.jR (by omega) (I1.aQ.xK (by omega))
  .exact I1.jR (w0f _) (I1.aQ.xK (w0f _))
def zbM(rp:ah K G1 ws xs)(hq:bD K G1 b xs):jw K G1 (Fc K b) (cj 0 ws):=by
 have hx:=rp.aj;have hl:=Jp 0 ws;refine⟨λi G H s s' h=>⟨xs,xs[i]'(by omega),ao.p7 s' (ao.p7 s hq),by simp⟩,λi G H x H' s s' hy u v h=>?_,λi G H s s' h=>⟨xs,ao.p7 s' (ao.p7 s hq),by omega⟩⟩
 let⟨c,y,rfl,hn,vg,rfl⟩:=hy;let⟨hu,hv⟩:=Jq 0 ws i u v h;let⟨w,hw,pw⟩:=rp.jc (vg xs (ao.p7 s' (ao.p7 s hq)));rw[hv]at hw;cases hw;refine⟨aK.ox s' hn _,λm n σ Q hQ=>⟨c,[.aT i,y],rfl,bK.of bN,rfl,.aT i,[y],rfl,y,[],rfl,rfl,hQ _ _ ?_ (qk.k8 s _ pw)⟩⟩
 rw[hu,w1y];exact rfl
def z6c{p:vW}(hm:X.mg "enumerate"=none)(ha:DA Z X EE [a] dA)(hg:autoParam (Gl X "enumerate") jJ)(hs:autoParam (pg [a] X.dt=[(false,eval a X.dt)]) jJ):DI Z X EE (.Yg _g kt pt) (.wO (.oh "enumerate" p) [a] [] gw) (mM dA):=by
 refine PI.k8 (z6b hg hm ha hs) ?_;rintro σ H RR ⟨G,e,mQ,h⟩;simp only[mM,R.ar]at h;refine⟨G,e,mQ,h.uM (λws e1 h G1 vs H1 r1 s1 p1=>?_) λ_ _ h=>h⟩
 split at h
 .rename_i us;let⟨y,r,rfl,e1,e2⟩:=p1;cases(show r=[]from e2);let⟨b,xs,rfl,hq,rp⟩:=e1;exact⟨b,rfl,⟨xs,r1.p9.p7 hq⟩,h _ _ _ r1 s1 (zbM rp hq)⟩
 .exact h.oa
end
theorem Tr{x y:et}{p3:vW}(hN:X.N.xZ)(hc:X.MT=true)
  (hi:autoParam (X.N[0]?=ab x) jJ)(hx:autoParam (YU X.dt.fv x) jM)(hf:autoParam (X.fn x=true\/X.dt.fv.qW.g6 x=ab .local) jL)
  (hj:autoParam (X.N[1]?=ab y) jJ)(hy:autoParam (YU X.dt.fv y) jM)(FT:autoParam (X.fn y=true\/X.dt.fv.qW.g6 y=ab .local) jL)
  (hn:autoParam ((Zg [.oh x p1,.oh y p2] X.dt).aj=2) jJ)(ky:autoParam ((Zg [.oh x p1,.oh y p2] X.dt).œ (·.1)=none) jJ)
  (g1:autoParam ((Zg [.oh x p1,.oh y p2] X.dt).a6 (·.2)=_b (.oh x p1) X.dt::(Zg [.oh y p2] X.dt).a6 (·.2)) jJ)(g2:autoParam ((Zg [.oh y p2] X.dt).a6 (·.2)=_b (.oh y p2) X.dt::(Zg [] X.dt).a6 (·.2)) jJ):
  PG X (.Yg [.oh x p1,.oh y p2] kt p3) (pb X.K 2 (fR (bL 0) (fR (bL 1) o_))):=
 Ry hc (Ec (uC 0 hN hi hx hf) (Ec (uC 1 hN hj hy FT) QJ g2) g1) hn ky
section
variable{ps:ai (W×W)}{c:Prop} [Ó c]{s t:SR}{k:ai S->SR}{st:S}
theorem z6d:iY i j di b e=(di e).cH λps e1=>ez i j b ps e1:=rfl
theorem y5r:ez i j b (p::ps) e=(b ((e.rk i (.fr p.1)).rk j (.fr p.2))).eK (ez i j b ps):=rfl
theorem z0d:(SR.nx e).eK k=k e:=rfl
theorem z0e:(SR.ct e).eK k=k e:=rfl
theorem z0f:(SR.bk e).eK k=.nx e:=rfl
theorem z0g:(SR.rt st e).eK k=.rt st e:=rfl
theorem z0h:(SR.ex v e).eK k=.ex v e:=rfl
theorem z0i:(SR.no).eK k=.no:=rfl
def y5s:(if c then s else t).eK k=if c then s.eK k else t.eK k:=by split<;>rfl
def vR(e:ai S):ai W->R (ai (W×W))
 |[.dI us]=>.ok (cj 0 us) e
 |_=>.no
def Q26:mM dA e=(dA e).r7 λws e1=>vR e1 ws:=by
 unfold mM;congr 1
theorem z6e:vR e [.dI ws]=.ok (cj 0 ws) e:=rfl
def vS(e:ai S):d3 (ai W)->R (ai (W×W))
 |ab ws=>bp (d_ ws) e
 |none=>.no
def Q27:j8 d e=(d e).r7 λw e1=>vS e1 (fq w):=by
 unfold j8;congr 1
theorem y2v:vS e (ab ws)=bp (d_ ws) e:=rfl
def z0j{cc:iw ie}:jx js cc d ps e=if ps.aj<=16777216 then l_ (aX js e) (eF cc d (fB js (aX js e)) ps)else .no:=by
 unfold jx l_;split
 .cases eF cc d (fB js (aX js e)) ps<;>rfl
 .rfl
theorem z0k:d5 js di cc d e=(di e).r7 λps e1=>jx js cc d ps e1:=rfl
theorem IE{cc:iw ie}{p:W×W}:eF cc d pe (p::ps)=(match cc (.fr p.1::.fr p.2::pe)with
  |.ok true e1=>(match d e1 with|.ok y _=>(eF cc d pe ps).a6 (y::·)|_=>none)
  |.ok false _=>eF cc d pe ps
  |_=>none):=rfl
theorem Js{cc:iw ie}{d:iw W}{pe:ai S}{q:W×W->ie}{g:W×W->W}:∀(ps:ai (W×W)),(∀p∈ps,∃e1,cc (.fr p.1::.fr p.2::pe)=.ok (q p) e1/\(q p=true->∃e2,d e1=.ok (g p) e2))->eF cc d pe ps=ab ((ps.Mk q).a6 g)
 |[],_=>rfl
 |p::ps,h=>by
  let⟨e1,h1,h2⟩:=h p (by simp);have ih:=Js (cc:=cc) (d:=d) (pe:=pe) (q:=q) (g:=g) ps λu hu=>h u (by simp[hu])
  rw[IE,h1,ih];cases hq:q p with
  |true=>
   let⟨e2,h3⟩:=h2 hq;simp only[hq,h3,w2q,Zz];rfl
  |false=>simp[hq,w2q]
end
theorem y5t(l)(ro)(n)(x)(u)(dd)(sl)(hc0:¬(!uK.ai.zcR x)=true)(CU:¬ro.dS*x.uh>(2^63-1) / 8)(du:¬uK.ai.È (ro.dS*x.uh)=true):
  _D (uK.«list.__mul__» ⟨[.dr l,.aT x u],[]⟩) (λ_ R s=>s.bj.ik l=ab {o4:=.ke "list", xg:=dd,pJ:=.p7 ro n,YN:=sl}/\R (.ok (.CJ (d0.dr s.bj.f'.dS))) {s with bj:=s.bj.tM {o4:=d0.ke "list", pJ:=ϓ.p7 (ai.zx (λx1 x2=>x1++x2) #[] (ai.w8 (if ro.U7=true then 0 else x.uh) ro))},tK:=s.tK}):=
 ._M λje w A R s h=>by
  let⟨hp,g,d,tk,os⟩:=s;let⟨hl,h⟩:=h;have hsz:=n9.AutoListH.joined_fits du
  wp_walk;refine zd8 (YY (w3m.wa hsz)) ?_;wp_walk;exact⟨_,rfl,h⟩
theorem y5u(a)(t)(l)(ro)(n)(dd)(sl):
  _D (uK.«int.__rmul__» ⟨[.aT a t,.dr l],[]⟩) (λ_ R s=>s.bj.ik l=ab {o4:=.ke "list", xg:=dd,pJ:=.p7 ro n,YN:=sl}/\R (.ok (.CJ d0.zc2)) s):=
 ._M λje w A R s h=>by let⟨hp,g,d,tk,os⟩:=s;let⟨hl,h⟩:=h;wp_walk;exact⟨_,rfl,h⟩
def vM(K:Fg):R2:=λx y H Q=>∃l k xs,x=.dr l/\y=.aT k/\bD K H l xs/\-(2^63)<=k/\k<2^63/\xs.aj*k.uh<=wm /\
 ∀p,H p=none->Q (.dr p) (oL H p (.dI (ai.w8 k.uh xs).Ys))
def QU:fK X (ZH .ι) (vM X.K):=by
 intro dN s σ H x y v u Q I rx ry h;let⟨l,k,xs,rfl,rfl,hH,h1,h2,hz,q⟩:=h;cases rx;let⟨t,rfl⟩:=ry;let⟨aw,r,p1,_⟩:=I.xm hH;let⟨⟨o4,dd,pJ,sl⟩,ho,hc,n,hd⟩:=id p1.zD;simp only at hc hd;subst hc hd;have hl:=r.aj;have wZ:aw.l8.dS*k.uh<=wm:=by rw[w0e,<- hl];exact hz
 have ly:¬aw.l8.dS*k.uh>(2^63-1) / 8:=by
  have:(wm:aO)<=(2^63-1) / 8:=by decide
  omega
 have qB:¬(!uK.ai.zcR k)=true:=by
  rw[fitsIndex_both h1 h2];exact w1h
 have qG:¬uK.ai.È (aw.l8.dS*k.uh)=true:=by
  rw[mI wZ];exact w1h
 have tZ:ai.zx (λx1 x2=>x1++x2) #[] (ai.w8 (if aw.l8.U7=true then 0 else k.uh) aw.l8)=(ai.w8 k.uh aw).Ys.l8:=by
  have f0:∀m:aO,ai.zx (λx1 x2=>x1++x2) #[] (ai.w8 m aw.l8)=(ai.w8 m aw).Ys.l8:=λm=>by
   have:=Jd aw m [];rw[w4b]at this;exact this
  rw[f0];cases aw with
  |so=>simp
  |qT a r'=>rw[r5 (by simp)]
 refine zd3 (T:="list") (U:="int") (by decide) ⟨_,ho,rfl⟩ (λs'=>ø s' k t) noFill_list_mul F.zcr F.ĝ repeat_list F.zdt.g6
  (n9._W F.ĝ (ø s k t) F.zci (F.zb0 _ _) (y5u k t l aw.l8 n dd sl)
   ⟨ho,rfl,⟨_,ho,rfl⟩,n9._W F.slot_list_mul ⟨_,ho,rfl⟩ F.entry_list_mul (F.args_list_mul_2 _ _) (y5t l aw.l8 n k t dd sl qB ly qG) ⟨ho,?_⟩⟩)
 rw[tZ];exact⟨.dr _,_,I.AV (t':=s.tK) (r.yW k.uh) (by rw[KA,w3e];exact hz),rfl,q _ I.xK⟩
def pH:W->W->d3 W
 |.dI ws,.aT k=>if pD k=true/\ws.aj*k.uh<=16777216 then ab (.dI (ai.w8 k.uh ws).Ys)else none
 |_,_=>none
theorem D'(r:ah K G ws xs):∀k:aO,ah K G (ai.w8 k ws).Ys (ai.w8 k xs).Ys
 |0=>rfl
 |k+1=>by
  rw[w2n,w2n,w3l,w3l];exact r.Wi (D' r k)
def Ts:iE K (vM K) pH:=by
 intro G H x y wx wy w Q s px py hf h;unfold pH at hf;split at hf
 .rename_i ws k;split at hf
  .rename_i hc;cases hf;cases(show y=V.aT k from py);let⟨l,xs,rfl,hq,rp⟩:=px;have hb:=rE hc.1;refine⟨l,k,xs,rfl,rfl,s.p7 hq,by omega,by omega,by rw[LP,rp.aj];exact hc.2,λp hp=>?_⟩
   have g:aK G H (oL G p (.dI (ai.w8 k.uh xs).Ys)) (oL H p (.dI (ai.w8 k.uh xs).Ys)):=aK.JN s hp _;exact h _ _ _ g ⟨p,_,rfl,bD.of bN,ah.k8 g.gg _ (D' rp _)⟩
  .cases hf
 .cases hf
theorem Q29(ha:DE Z X EE a da)(hb:DE Z X EE b db):DE Z X EE (._A a .ι b gw) (aq pH da db):=vJ QU Ts ha hb
theorem TM:pH (.dI ws) (.aT k)=if pD k=true/\ws.aj*k.uh<=16777216 then ab (.dI (ai.w8 k.uh ws).Ys)else none:=rfl
def mr(x:a7):ai a7->d3 aO
 |[]=>none
 |y::ys=>if y=x then ab 0 else(mr x ys).a6 (·+1)
theorem P1{x:a7}:∀{ys:ai a7}{j:aO},mr x ys=ab j->ys[j]?=ab x/\∀(m:aO)(y:a7),m<j->ys[m]?=ab y->y≠x
 |[],j,h=>by cases h
 |y::ys,j,h=>by
  unfold mr at h;split at h
  .rename_i hy;cases h;exact⟨by rw[hy];rfl,λm y hm _=>by omega⟩
  .rename_i hy;let⟨k,h1,rfl⟩:=w0j.mp h;let⟨h2,h3⟩:=P1 h1;refine⟨by simpa using h2,λm z hm hz=>?_⟩
   cases m with
   |Yf=>simp at hz;rw[<- hz];exact hy
   |Ye m=>exact h3 m z (by omega) (by simpa using hz)
def dn:ai W->d3 (ai a7)
 |[]=>ab []
 |.aT x::r=>(dn r).a6 (x::·)
 |_=>none
theorem BB:∀{ws:ai W}{ys:ai a7}{xs:ai V},dn ws=ab ys->ah K G ws xs->xs=ys.a6 V.aT
 |[],ys,xs,h,r=>by cases h;cases(show xs=[]from r);rfl
 |w::ws,ys,xs,h,r=>by
  unfold dn at h;split at h
  .rename_i z;cases z
  .rename_i y r' z;cases z;let⟨ys',h1,rfl⟩:=w0j.mp h;let⟨v,vs,rfl,p1,p2⟩:=r;cases(show v=V.aT y from p1);rw[BB h1 p2];rfl
  .cases h
def fT:W->ai W->d3 W
 |.dI ws,[.aT x]=>match dn ws with
  |ab ys=>match mr x ys with
   |ab j=>ab (.aT j)
   |none=>none
  |none=>none
 |_,_=>none
def oN(K:Fg):V->ai V->Hp->VK->Prop:=λv vs H Q=>∃b ys x j,v=.dr b/\vs=[.aT x]/\bD K H b (ys.a6 V.aT)/\mr x ys=ab j/\Q (.aT (j:aO)) H
theorem Qu:∀{ys:ai a7}{aw:ai d0},uw (ys.a6 V.aT) aw->∀(m:aO)(u:d0),aw[m]?=ab u->∃y t,ys[m]?=ab y/\u=.aT y t
 |[],aw,h,m,u,hu=>by cases h;simp at hu
 |y::ys,aw,h,m,u,hu=>by
  cases h with
  |qT r t=>
   let⟨k,rfl⟩:=r;cases m with
   |Yf=>simp at hu;exact⟨y,k,rfl,hu.symm⟩
   |Ye m=>simpa using Qu t m u (by simpa using hu)
def y5v:v5 X "list.index" (oN X.K):=by
 intro dN s σ H x vs v us Q I rx rv h;let⟨b,ys,x0,j,rfl,rfl,hB,hj,q⟩:=h;cases rx;let⟨u,rfl,ru⟩:=rv.YE;let⟨t,rfl⟩:=ru;let⟨aw,r,pl,hz⟩:=I.xm hB;let⟨⟨o4,dd,pJ,sl⟩,ho,hc,n,hd⟩:=pl.zD;simp only at hc hd;subst hc hd;let⟨h1,h2⟩:=P1 hj;have wZ:=r.aj;rw[w0a]at wZ hz;have yr:j<ys.aj:=(w0b.mp h1).1;have F8:=fU
 let e:d0->ie:=λu=>match u with|.aT y _=>y==x0|_=>false
 have _c:∀(m:aO)(hm:m<aw.l8.dS),∃y k,ys[m]?=ab y/\aw.l8[m]=.aT y k:=λm hm=>by
  have F9:m<aw.aj:=by simpa using hm
  let⟨y,k,z1,z2⟩:=Qu r m aw[m] (w0c F9);exact⟨y,k,z1,by simpa using z2⟩
 refine _W F.Ğ ⟨_,ho,rfl⟩ F.zcj (F.zb1 _ _) (yl.zcT b aw.l8 n dd sl (.aT x0 t) e j (by simp only[w0e];omega) (by omega) ?_ ?_) ⟨ho,?_,?_⟩
 .let⟨y,k,z1,z2⟩:=_c j (by simp only[w0e];omega);rw[h1]at z1;cases z1;rw[z2];simp[e]
 .intro m hm bZ;let⟨y,k,z1,z2⟩:=_c m hm;rw[z2]
  simpa [e]using h2 m y bZ z1
 .intro y hy;let⟨m,hm,rfl⟩:=yb.mem_iff_getElem.mp hy;let⟨y,k,z1,z2⟩:=_c m hm;rw[z2];exact yl.Wh.æ y k x0 t
 .exact⟨.aT j,H,I.Ym _,⟨_,rfl⟩,q⟩
def y5w:CF K (oN K) fT:=by
 intro G H x xs wx ws w Q s px pr hf h;unfold fT at hf;split at hf
 .rename_i us x0;let⟨y,r,rfl,py,pr⟩:=pr;cases(show r=[]from pr);cases py;split at hf
  .rename_i ys hy;split at hf
   .rename_i j hj;cases hf;let⟨a,cs,rfl,hq,rp⟩:=px;have:=BB hy rp;subst this;exact⟨a,ys,x0,j,rfl,rfl,s.p7 hq,hj,h G _ H (.t8 s) rfl⟩
   .cases hf
  .cases hf
 .cases hf
section
variable{o e:p6}
theorem y5x(ho:DE Z X EE o d)(ha:DA Z X EE [e] dA)
  (dg:autoParam (Κ o "index" X.dt (eval o X.dt)=eval o X.dt) jJ)
  (bY:autoParam (((y0 bh (pg [e] X.dt)).t9 (λx=>!x.1)&&(Λ bh (Ρ [] X.dt)).t9 (λx=>x.1.z_)&&decide ([e].aj+([]:ai Zd).aj+(if([]:ai Zd).U7 then 0 else 1)<30))=true) jJ)
  (dj:autoParam ((Yo.Ο==bh.Yd)=true) jJ)(hs:autoParam (pg [e] X.dt=(false,eval e X.dt)::pg [] X.dt) jJ)(bT:autoParam ((y0 bh (pg [] X.dt)).uJ (·.1)=false) jJ):
  DE Z X EE (.wO (._o o "index" Yo) [e] [] bh) (eY "list" fT d dA):=
 KD n9.F.Ė n9.F.Ğ n9.F.zdJ y5v y5w ho ha dg bY dj hs bT
end
section
variable{w:vr}
def NC{j b:fy}{k:aO}{vs:yb d0}{x:d0}{Q:d0->p5->Prop}(gi:s.bj._q j b k)(gt:s.bj.YD b vs)(gx:vs[k]?=ab x)
  (hQ:∀h',h'._q j b (k+1)->g0.Z_ j s.bj h'->Q x {s with bj:=h'}):oP (qX je w) A (uK.ZF._Z (.dr j)) Q E s:=by
 let⟨o,ho,hc,hd⟩:=id gi;let⟨zc8,Gj,_,m,Ai⟩:=gt;unfold uK.ZF._Z;refine ny (Ð (name:=et.YM "__next__") gi.Zr F.Ġ (ü F.Ġ gi.Zr F.zcl ?_ (F.zb3 _)));show oP _ _ (ϊ (.dr j) 0 >>= _) _ _ s;refine ny (ZV ho hd (x:=.dr b) rfl ?_);show oP _ _ (if(d0.dr b==d0.none)=true then _ else _) _ _ s;rw[r5 (show ¬((d0.dr b==d0.none)=true)from w1h)];show oP _ _ (ϊ (.dr j) 1 >>= _) _ _ s;refine ny (ZV ho hd (x:=.aT k 0) rfl ?_);show oP _ _ (Ě (.dr b) >>= _) _ _ s;refine ny (_O Gj Ai ?_);simp only[w2b,gx];refine ny (zeb ho hd (by simp) (ui ⟨x,rfl,ui (hQ _ ⟨_,g0.zcy _ ho (sT.isFreed_of_fields (sT.zcf hd _)),(sT.cls_mapFields ..).kZ hc,by rw[sT.zcf hd];simp[_x]⟩ (g0.Z_.Yn ..))⟩))
def Iq(hh:A.YV=none)(gi:s.bj._q j b k)(gt:s.bj.YD b vs)(gx:vs[k]?=none)
  (hE:∀h' e,g0.ExtBut j s.bj h'->(∃o,h'.ik e=ab o/\o.o4=.ke "StopIteration")->E (.dr e) {s with bj:=h'}):oP (qX je w) A (uK.ZF._Z (.dr j)) Q E s:=by
 let⟨o,ho,hc,hd⟩:=id gi;let⟨zc8,Gj,_,m,Ai⟩:=gt;unfold uK.ZF._Z;refine ny (Ð (name:=et.YM "__next__") gi.Zr F.Ġ (ü F.Ġ gi.Zr F.zcl ?_ (F.zb3 _)));show oP _ _ (ϊ (.dr j) 0 >>= _) _ _ s;refine ny (ZV ho hd (x:=.dr b) rfl ?_);show oP _ _ (if(d0.dr b==d0.none)=true then _ else _) _ _ s;rw[r5 (show ¬((d0.dr b==d0.none)=true)from w1h)];show oP _ _ (ϊ (.dr j) 1 >>= _) _ _ s;refine ny (ZV ho hd (x:=.aT k 0) rfl ?_);show oP _ _ (Ě (.dr b) >>= _) _ _ s;refine ny (_O Gj Ai ?_);simp only[w2b,gx];refine ny (ÿ (ny (zeb ho hd (by simp) ?_)));show oP _ _ (newExc (.ke "StopIteration") [] >>= _) _ _ _;refine ny ?_;simp only[newExc,newTuple];refine ny (Γ ?_ (by size_fits));refine ny (m:=zcs _ _) (ϭ (a:=d0.none) (by first|rfl|(simp only[zcs];rfl)) (Γ ?_ (by size_fits)));simp only[raiseNew];refine ny (wpAny_handled ?_)
 first|rw[show A.Ba.YV=none from hh]|rw[hh]
 refine ny (ui (wpAny_throw (hE _ _ (((g0.Z_.Yn ..).x8.tM _).tM _) ⟨_,g0.A2 _ rfl,rfl⟩)))
def c6(t:ie)(j b:fy)(k:aO)(h:g0):Prop:=if t=true then h._q j b k else h.ϙ j b k
def eL(t:ie)(b:fy)(vs:yb d0)(h:g0):Prop:=if t=true then h.YD b vs else h._C b vs
def c6.xW(x:c6 t j b k h)(e:∀o,h.ik j=ab o->h'.ik j=ab o):c6 t j b k h':=by
 cases t with
 |true=>let⟨o,ho,r⟩:=(show h._q j b k from x);exact⟨o,e o ho,r⟩
 |false=>let⟨o,ho,r⟩:=(show h.ϙ j b k from x);exact⟨o,e o ho,r⟩
def c6.Wd(x:c6 t j b k h):∃o,h.ik j=ab o/\∀v,o.pJ≠.uL v:=by
 cases t with
 |true=>let⟨o,ho,c,d⟩:=(show h._q j b k from x);grind
 |false=>let⟨o,ho,c,d⟩:=(show h.ϙ j b k from x);grind
def eL.xW(x:eL t b vs h)(e:∀o,h.ik b=ab o->h'.ik b=ab o):eL t b vs h':=by
 cases t with
 |true=>let⟨o,ho,r⟩:=(show h.YD b vs from x);exact⟨o,e o ho,r⟩
 |false=>let⟨o,ho,r⟩:=(show h._C b vs from x);exact⟨o,e o ho,r⟩
def KG(gi:c6 t j b k s.bj)(gt:eL t b vs s.bj)(gx:vs[k]?=ab x)
  (hQ:∀h',c6 t j b (k+1) h'->g0.Z_ j s.bj h'->Q x {s with bj:=h'}):oP (qX je w) A (uK.ZF._Z (.dr j)) Q E s:=by
 cases t with
 |true=>exact NC gi gt gx hQ
 |false=>exact wpAny_nextOf_list_item gi gt gx hQ
def RW(hh:A.YV=none)(gi:c6 t j b k s.bj)(gt:eL t b vs s.bj)(gx:vs[k]?=none)
  (hE:∀h' e,g0.ExtBut j s.bj h'->(∃o,h'.ik e=ab o/\o.o4=.ke "StopIteration")->E (.dr e) {s with bj:=h'}):oP (qX je w) A (uK.ZF._Z (.dr j)) Q E s:=by
 cases t with
 |true=>exact Iq hh gi gt gx hE
 |false=>exact wpAny_nextOf_list_end hh gi gt gx hE
structure ε(z I O i j a b:fy):Prop where
 Iz:I≠z
 Oz:O≠z
 iz:i≠z
 jz:j≠z
 IO:I≠O
 Ii:I≠i
 Ij:I≠j
 Oi:O≠i
 Oj:O≠j
 ij:i≠j
 az:a≠z
 zbV:a≠O
 zbY:a≠i
 zbZ:a≠j
 bz:b≠z
 bO:b≠O
 bi:b≠i
 zb6:b≠j
def z6f{i:fy}{q:d0}{Q:d0->p5->Prop}(D:ε z I O i j a b)
  (gz:ZE s.bj z I O .none)(gI:YC s.bj I (.dr i) (.dr j))(gO:YC s.bj O p q)
  (g1:c6 t i a k s.bj)(g2:c6 u j b k s.bj)(l1:eL t a xs s.bj)(l2:eL u b ys s.bj)(hx:xs[k]?=ab x)(hy:ys[k]?=ab y)
  (hQ:∀h',ZE h' z I O (_x s.bj.f'.dS)->YC h' O x y->c6 t i a (k+1) h'->c6 u j b (k+1) h'->YC h' s.bj.f'.dS x y->h'.f'.dS=s.bj.f'.dS+1 ->
   (∀c o,c≠z->c≠O->c≠i->c≠j->s.bj.ik c=ab o->h'.ik c=ab o)->Q (.dr s.bj.f'.dS) {s with bj:=h'}):
  oP (qX je w) A (uK.«zip.__next__» ⟨[.dr z],[]⟩) (λxT s'=>∃v,xT=.done (.CJ v)/\Q v s') E s:=by
 show oP _ _ (ϊ (.dr z) 2 >>= _) _ _ _;refine ny (ZV gz rfl (x:=.xN false) rfl ?_);show oP _ _ (ϊ (.dr z) 3 >>= _) _ _ _;refine ny (ZV gz rfl (x:=.dr I) rfl (ny (_O gI rfl ?_)));show oP _ _ (uK.ZF.ĕ (.dr z) >>= _) _ _ _;refine ny ?_;unfold uK.ZF.ĕ;refine ny (ZV gz rfl (x:=.none) rfl (ui ?_));simp only[Zz];refine ny (ÿ (ny (ZV gz rfl (x:=.dr O) rfl (ny (Ñ gz (by simp) λha za sa=>?_)))))
 replace za:ZE ha z I O .Á:=za
 refine ny ?_;simp only[ai.zipIdx_cons,ai.zipIdx_nil,w3g,w4i];refine ny (ny (ĳ ?_));show oP _ _ (uK.ZF._Z (.dr i) >>= _) _ _ _;refine ny (KG (s:={s with bj:=ha}) (g1.xW λo e=>sa.x8 _ _ D.iz e) (l1.xW λo e=>sa.x8 _ _ D.az e) hx λhb ib sb=>ui ?_)
 have Ob:YC hb O p q:=sb.x8 _ _ D.Oi (sa.x8 _ _ D.Oz gO);refine ny (_O Ob rfl (ny (Ż Ob λhc Oc sc=>?_)))
 replace Oc:YC hc O x q:=Oc
 refine ny (δ (ui (ny (ny (ĳ ?_)))));show oP _ _ (uK.ZF._Z (.dr j) >>= _) _ _ _;refine ny (KG (s:={s with bj:=hc}) (g2.xW λo e=>sc.x8 _ _ D.Oj.symm (sb.x8 _ _ D.ij.symm (sa.x8 _ _ D.jz e))) (l2.xW λo e=>sc.x8 _ _ D.bO (sb.x8 _ _ D.bi (sa.x8 _ _ D.bz e))) hy λhd zcI sd=>ui ?_)
 have Od:YC hd O x q:=sd.x8 _ _ D.Oj Oc;refine ny (_O Od rfl (ny (Ż Od λhe Oe se=>?_)))
 replace Oe:YC he O x y:=Oe
 refine ny (δ (ui (ui (ny (_O Oe rfl (ny (zd' ?_)))))));have sz:he.f'.dS=s.bj.f'.dS:=by rw[se.1,sd.1,sc.1,sb.1,sa.1]
 have ze:ZE he z I O .Á:=se.x8 _ _ D.Oz.symm (sd.x8 _ _ D.jz.symm (sc.x8 _ _ D.Oz.symm (sb.x8 _ _ D.iz.symm za)));have zcN:∀c o,c≠z->c≠O->c≠i->c≠j->s.bj.ik c=ab o->he.ik c=ab o:=λc o c1 c2 c3 c4 e=>se.x8 _ _ c2 (sd.x8 _ _ c4 (sc.x8 _ _ c2 (sb.x8 _ _ c3 (sa.x8 _ _ c1 e))))
 have zcC:c6 t i a (k+1) he:=ib.xW λo e=>se.x8 _ _ D.Oi.symm (sd.x8 _ _ D.ij (sc.x8 _ _ D.Oi.symm e))
 have zcJ:c6 u j b (k+1) he:=zcI.xW λo e=>se.x8 _ _ D.Oj.symm e
 have E3:z<he.f'.dS:=g0.xX ze;show oP _ _ (uK.ZF.zc9 (.dr z) (.dr he.f'.dS) >>= _) _ _ _;refine ny ?_;unfold uK.ZF.zc9;have zeG:ZE (he.tM {o4:=.ke "tuple", pJ:=.p7 #[x,y]}) z I O .Á:=g0.w6 _ ze;refine ny (Ñ zeG (by simp) λhg zg sg=>?_)
 replace zg:ZE hg z I O (_x he.f'.dS):=zg
 refine Ñ zg (by simp) λhk zk sk=>?_
 replace zk:ZE hk z I O (_x he.f'.dS):=zk
 have up:∀c o,c≠z->he.ik c=ab o->hk.ik c=ab o:=λc o c1 e=>sk.x8 _ _ c1 (sg.x8 _ _ c1 (g0.w6 _ e))
 have Tk:YC hk he.f'.dS x y:=sk.x8 _ _ (w2t E3) (sg.x8 _ _ (w2t E3) (g0.A2 _ rfl));have nk:hk.f'.dS=he.f'.dS+1:=by rw[sk.1,sg.1,g0.ZN]
 rw[sz]at zk Tk nk;refine ui ⟨_,rfl,?_⟩;show Q (.dr he.f'.dS) _;rw[sz];exact hQ hk zk (up _ _ D.Oz Oe) (zcC.xW λo e=>up _ o D.iz e) (zcJ.xW λo e=>up _ o D.jz e) Tk nk λc o c1 c2 c3 c4 e=>up c o c1 (zcN c o c1 c2 c3 c4 e)
def TN{i:fy}{q:d0}(hh:A.YV=none)(D:ε z I O i j a b)
  (gz:ZE s.bj z I O .none)(gI:YC s.bj I (.dr i) (.dr j))(gO:YC s.bj O p q)
  (g1:c6 t i a k s.bj)(g2:c6 u j b k s.bj)(l1:eL t a xs s.bj)(l2:eL u b ys s.bj)(Ak:xs[k]?=none\/ys[k]?=none)
  (hE:∀h' e,(∀c o,c≠z->c≠O->c≠i->c≠j->s.bj.ik c=ab o->h'.ik c=ab o)->(∃o,h'.ik e=ab o/\o.o4=.ke "StopIteration")->E (.dr e) {s with bj:=h'}):
  oP (qX je w) A (uK.«zip.__next__» ⟨[.dr z],[]⟩) Q E s:=by
 show oP _ _ (ϊ (.dr z) 2 >>= _) _ _ _;refine ny (ZV gz rfl (x:=.xN false) rfl ?_);show oP _ _ (ϊ (.dr z) 3 >>= _) _ _ _;refine ny (ZV gz rfl (x:=.dr I) rfl (ny (_O gI rfl ?_)));show oP _ _ (uK.ZF.ĕ (.dr z) >>= _) _ _ _;refine ny ?_;unfold uK.ZF.ĕ;refine ny (ZV gz rfl (x:=.none) rfl (ui ?_));simp only[Zz];refine ny (ÿ (ny (ZV gz rfl (x:=.dr O) rfl (ny (Ñ gz (by simp) λha za sa=>?_)))))
 replace za:ZE ha z I O .Á:=za
 refine ny ?_;simp only[ai.zipIdx_cons,ai.zipIdx_nil,w3g,w4i];refine ny (ny (ĳ ?_));show oP _ _ (uK.ZF._Z (.dr i) >>= _) _ _ _;cases hx:xs[k]? with
 |none=>
  refine ny (RW (s:={s with bj:=ha}) hh (g1.xW λo e=>sa.x8 _ _ D.iz e) (l1.xW λo e=>sa.x8 _ _ D.az e) hx λhb e sb ge=>?_)
  let⟨oe,Gf,FJ⟩:=ge;have zeD:ZE hb z I O .Á:=sb _ _ D.iz.symm za;have nz:e≠z:=λx=>by grind
  refine Ñ zeD (by simp) λhc _ sc=>hE hc e (λc o c1 _ c3 _ x=>sc.x8 _ _ c1 (sb _ _ c3 (sa.x8 _ _ c1 x))) ⟨oe,sc.x8 _ _ nz Gf,FJ⟩
 |ab x=>
  have hy:ys[k]?=none:=by grind
  refine ny (KG (s:={s with bj:=ha}) (g1.xW λo e=>sa.x8 _ _ D.iz e) (l1.xW λo e=>sa.x8 _ _ D.az e) hx λhb ib sb=>ui ?_)
  have Ob:YC hb O p q:=sb.x8 _ _ D.Oi (sa.x8 _ _ D.Oz gO);refine ny (_O Ob rfl (ny (Ż Ob λhc Oc sc=>?_)))
  refine ny (δ (ui (ny (ny (ĳ ?_)))));show oP _ _ (uK.ZF._Z (.dr j) >>= _) _ _ _;refine ny (RW (s:={s with bj:=hc}) hh (g2.xW λo e=>sc.x8 _ _ D.Oj.symm (sb.x8 _ _ D.ij.symm (sa.x8 _ _ D.jz e))) (l2.xW λo e=>sc.x8 _ _ D.bO (sb.x8 _ _ D.bi (sa.x8 _ _ D.bz e))) hy λhd e sd ge=>?_)
  let⟨oe,Gf,FJ⟩:=ge;have zeF:ZE hd z I O .Á:=sd _ _ D.jz.symm (sc.x8 _ _ D.Oz.symm (sb.x8 _ _ D.iz.symm za));have nz:e≠z:=λx=>by grind
  refine Ñ zeF (by simp) λhe _ se=>hE he e (λc o c1 c2 c3 c4 x=>se.x8 _ _ c1 (sd _ _ c4 (sc.x8 _ _ c2 (sb.x8 _ _ c3 (sa.x8 _ _ c1 x))))) ⟨oe,se.x8 _ _ nz Gf,FJ⟩
def z6g{i:fy}{q:d0}(D:ε z I O i j a b)
  (gz:ZE s.bj z I O .none)(gI:YC s.bj I (.dr i) (.dr j))(gO:YC s.bj O p q)
  (g1:c6 t i a k s.bj)(g2:c6 u j b k s.bj)(l1:eL t a xs s.bj)(l2:eL u b ys s.bj)(hx:xs[k]?=ab x)(hy:ys[k]?=ab y)
  (hQ:∀h',ZE h' z I O (_x s.bj.f'.dS)->YC h' O x y->c6 t i a (k+1) h'->c6 u j b (k+1) h'->YC h' s.bj.f'.dS x y->h'.f'.dS=s.bj.f'.dS+1 ->
   (∀c o,c≠z->c≠O->c≠i->c≠j->s.bj.ik c=ab o->h'.ik c=ab o)->Q (ab (.dr s.bj.f'.dS)) {s with bj:=h'}):oP (qX je w) A (Φ (.dr z)) Q E s:=by
 have hT:s._S (.dr z) "zip":=⟨_,gz,rfl⟩;unfold Φ;exact ny (û (Ð (name:=et.YM "__next__") hT F.ġ (ü F.ġ hT F.zcm (z6f D gz gI gO g1 g2 l1 l2 hx hy λh' a1 a2 a3 a4 a5 zbT zbU=>ui (hQ h' a1 a2 a3 a4 a5 zbT zbU)) (F.zb4 _))))
def z6h{i:fy}{q:d0}(hh:A.YV=none)(D:ε z I O i j a b)
  (gz:ZE s.bj z I O .none)(gI:YC s.bj I (.dr i) (.dr j))(gO:YC s.bj O p q)
  (g1:c6 t i a k s.bj)(g2:c6 u j b k s.bj)(l1:eL t a xs s.bj)(l2:eL u b ys s.bj)(Ak:xs[k]?=none\/ys[k]?=none)
  (hQ:∀h',(∀c o,c≠z->c≠O->c≠i->c≠j->s.bj.ik c=ab o->h'.ik c=ab o)->Q none {s with bj:=h'}):oP (qX je w) A (Φ (.dr z)) Q E s:=by
 have hT:s._S (.dr z) "zip":=⟨_,gz,rfl⟩;unfold Φ;refine ny (û (Ð (name:=et.YM "__next__") hT F.ġ (ü F.ġ hT F.zcm (TN hh D gz gI gO g1 g2 l1 l2 Ak λh' e hk he=>?_) (F.zb4 _))))
 let⟨o,ho,hc⟩:=he;exact ny (ŷ (T:="StopIteration") (b:=true) ⟨o,ho,hc⟩ isSubtype_stop (ui (hQ _ hk)))
end
def GI(t:ie):Yq:=if t=true then "tuple_iterator" else "list_iterator"
abbrev CA(t:ie)(h:g0)(a:fy):g0:=h.tM {o4:=.ke (GI t),pJ:=.MU #[.dr a,.aT 0 0]}
abbrev E4(t u:ie)(h:g0)(a b:fy):g0:=(CA t h a).tM {o4:=.ke (GI u),pJ:=.MU #[.dr b,.aT 0 0]}
abbrev E5(t u:ie)(h:g0)(a b:fy):g0:=(E4 t u h a b).tM {o4:=.ke "tuple", pJ:=.p7 #[.dr h.f'.dS,.dr (CA t h a).f'.dS]}
abbrev E6(t u:ie)(h:g0)(a b:fy):g0:=(E5 t u h a b).tM {o4:=.ke "tuple", pJ:=.p7 #[.none,.none]}
abbrev ye(t u:ie)(h:g0)(a b:fy):g0:=(E6 t u h a b).tM {o4:=.ke "zip", pJ:=.MU #[.none,.xN false,.xN false,.dr (E4 t u h a b).f'.dS,.dr (E5 t u h a b).f'.dS]}
theorem TQ(t u)(a b)(xs ys):
  _D (uK.«zip.__new__» ⟨[.ke "zip", .dr a,.dr b],[]⟩) (λ_ R s=>eL t a xs s.bj/\eL u b ys s.bj/\R (.ok (.CJ (.dr (E6 t u s.bj a b).f'.dS))) {s with bj:=ye t u s.bj a b}):=
 ._M λje w A R s hyp=>by
  let⟨hp,g,d,tk,os⟩:=s;let⟨g1,g2,h⟩:=hyp;have qH:=sub_zip;have q2:eL u b ys (CA t hp a):=g2.xW λo e=>g0.w6 _ e
  cases t with
  |false=>
   have p1:g0._C (p5.bj ⟨hp,g,d,tk,os⟩) a xs:=g1;cases u with
   |false=>
    have p2:g0._C (p5.bj ⟨hp.tM {o4:=.ke "list_iterator", pJ:=.MU #[.dr a,.aT 0 0]},g,d,tk,os⟩) b ys:=q2
    wp_walk using Δ p1,Δ p2
    exact⟨_,rfl,h⟩
   |true=>
    have p2:g0.YD (p5.bj ⟨hp.tM {o4:=.ke "list_iterator", pJ:=.MU #[.dr a,.aT 0 0]},g,d,tk,os⟩) b ys:=q2
    wp_walk using Δ p1,ϒ p2
    exact⟨_,rfl,h⟩
  |true=>
   have p1:g0.YD (p5.bj ⟨hp,g,d,tk,os⟩) a xs:=g1;cases u with
   |false=>
    have p2:g0._C (p5.bj ⟨hp.tM {o4:=.ke "tuple_iterator", pJ:=.MU #[.dr a,.aT 0 0]},g,d,tk,os⟩) b ys:=q2
    wp_walk using ϒ p1,Δ p2
    exact⟨_,rfl,h⟩
   |true=>
    have p2:g0.YD (p5.bj ⟨hp.tM {o4:=.ke "tuple_iterator", pJ:=.MU #[.dr a,.aT 0 0]},g,d,tk,os⟩) b ys:=q2
    wp_walk using ϒ p1,ϒ p2
    exact⟨_,rfl,h⟩
def P2(e:h.ik j=ab o)(c:o.o4=.ke (GI t))(d:o.pJ=.MU #[.dr a,.aT 0 0]):c6 t j a 0 h:=by
 cases t with
 |true=>exact(show h._q j a 0 from⟨o,e,c,d⟩)
 |false=>exact(show h.ϙ j a 0 from⟨o,e,c,d⟩)
def y5z{w:vr}(g1:eL t a xs s.bj)(g2:eL u b ys s.bj)
  (h:∀h',ZE h' (s.bj.f'.dS+4) (s.bj.f'.dS+2) (s.bj.f'.dS+3) .none->YC h' (s.bj.f'.dS+2) (.dr s.bj.f'.dS) (.dr (s.bj.f'.dS+1)) ->
   YC h' (s.bj.f'.dS+3) .none .none->c6 t s.bj.f'.dS a 0 h'->c6 u (s.bj.f'.dS+1) b 0 h'->(∀c o,s.bj.ik c=ab o->h'.ik c=ab o)->Q (.dr (s.bj.f'.dS+4)) {s with bj:=h'}):
  oP (qX je w) A (zb (.ke "zip") [.dr a,.dr b]) Q E s:=by
 refine ŉ F.called_zip (by decide) (F.typeCall_zip_2 _ _) (F.newCall_zip_2 _ _) (λWd=>F.args_object_init_3 Wd _ _) F.entry_zip_new (TQ t u a b xs ys) ⟨g1,g2,?_⟩
 have n1:(CA t s.bj a).f'.dS=s.bj.f'.dS+1:=g0.ZN ..;have n2:(E4 t u s.bj a b).f'.dS=s.bj.f'.dS+2:=by rw[g0.ZN,n1]
 have n3:(E5 t u s.bj a b).f'.dS=s.bj.f'.dS+3:=by rw[g0.ZN,n2]
 have n4:(E6 t u s.bj a b).f'.dS=s.bj.f'.dS+4:=by rw[g0.ZN,n3]
 have k5:(ye t u s.bj a b).ik (E6 t u s.bj a b).f'.dS=ab _:=g0.A2 _ rfl;have k4:(ye t u s.bj a b).ik (E5 t u s.bj a b).f'.dS=ab _:=g0.w6 _ (g0.A2 _ rfl);have k3:(ye t u s.bj a b).ik (E4 t u s.bj a b).f'.dS=ab _:=g0.w6 _ (g0.w6 _ (g0.A2 _ rfl));have k2:(ye t u s.bj a b).ik (CA t s.bj a).f'.dS=ab _:=g0.w6 _ (g0.w6 _ (g0.w6 _ (g0.A2 _ rfl)));have k1:(ye t u s.bj a b).ik s.bj.f'.dS=ab _:=g0.w6 _ (g0.w6 _ (g0.w6 _ (g0.w6 _ (g0.A2 _ rfl))));have up:∀c o,s.bj.ik c=ab o->(ye t u s.bj a b).ik c=ab o:=λc o e=>g0.w6 _ (g0.w6 _ (g0.w6 _ (g0.w6 _ (g0.w6 _ e))))
 show _/\_;rw[n2,n3,n4]at k5;rw[n1,n2]at k3;rw[n3]at k4;rw[n1]at k2;rw[n4];exact⟨⟨_,k5,rfl⟩,h _ k5 k3 k4 (P2 k1 rfl rfl) (P2 k2 rfl rfl) up⟩
def mS(K:Fg)(t:ie)(H:Hp)(a:fy)(xs:ai V):Prop:=if t=true then bK K H a xs else bD K H a xs
def yN(I:j3 X dN σ H s)(h:mS X.K t H a xs):∃aw:ai d0,uw xs aw/\eL t a aw.l8 s.bj:=by
 cases t with
 |true=>
  let⟨aw,r,p,_⟩:=I.Tc h;exact⟨aw,r,(show s.bj.YD a aw.l8 from p)⟩
 |false=>
  let⟨aw,r,p,_⟩:=I.xm h;exact⟨aw,r,p.zD⟩
def RV(I:j3 X dN σ H s)(h:mS X.K t H a xs)(h':mS X.K t H a ys):xs=ys:=by
 cases t with
 |true=>exact I.gh h h'
 |false=>exact I.ig h h'
def eL.Wd(x:eL t a vs h):∃o,h.ik a=ab o/\o.o4=.ke (if t=true then "tuple" else "list"):=by
 cases t with
 |true=>let⟨o,ho,c,_⟩:=(show h.YD a vs from x);exact⟨o,ho,c⟩
 |false=>let⟨o,ho,c,_⟩:=(show h._C a vs from x);exact⟨o,ho,c⟩
def zap{h':g0}{t':aO}{fp:ai fy}(I:j3 X dN σ H s)(k:∀b o,b∉fp->s.bj.ik b=ab o->h'.ik b=ab o)(hf:∀b∈fp,eU X dN H b):j3 X dN σ H {s with bj:=h',tK:=t'}:=by
 have A7:∀c u,H c=ab u->c∉fp:=λc u e z=>by rw[(hf c z).1]at e;cases e
 refine I.Zb (g':=s.YI) (d':=s.ψ) (ch:=fp) (λc hc=>?_) (λc o _ _ hc e _=>k c o hc e) (λc o _ _ hc e _=>⟨o.YN,k c o hc e⟩) (λc o _ e n=>n)
  (λc o hc e=>⟨o,k c o hc e⟩) (λc xs e=>e) (λc o u e=>e) (λc ps e=>⟨#[],by rw[e];simp⟩) (λm hm=>?_) (λc u e=>?_) I.Td
 .let⟨f0,f1,f2,f3,f4,f5⟩:=hf c hc;exact⟨f3,f1,f4,f5⟩
 .let⟨o,es,ep,ho,r⟩:=hm;exact⟨o,es,ep,k _ o (λz=>(hf _ z).2.1 rfl) ho,r⟩
 .refine(I.aQ c u e).cF (λd v hd q=>k d v ?_ q) (λd q=>q) λd xs _ q=>q
  rcases hd with z|z
  .rw[z];exact A7 c u e
  .exact A7 d _ z
def Fd(K:Fg)(t u:ie)(a b:fy):It:=
  ⟨λi H=>∃xs ys x y,mS K t H a xs/\mS K u H b ys/\xs[i]?=ab x/\ys[i]?=ab y,
   λi H v H'=>∃c x y,v=.dr c/\H c=none/\(∀xs,mS K t H a xs->xs[i]?=ab x)/\(∀ys,mS K u H b ys->ys[i]?=ab y)/\H'=oL H c (.gs [x,y]),
   λi H=>∃xs ys,mS K t H a xs/\mS K u H b ys/\(xs.aj<=i\/ys.aj<=i)⟩
def z0l{P:xc}{w:vr}(t u:ie)(a b z I O i j:fy)(D:ε z I O i j a b):
  ν P w K (.Yg _g kt pt) (Fd K t u a b) [z,I,O,i,j] z (λk h=>ZE h z I O .none/\YC h I (.dr i) (.dr j)/\(∃p q,YC h O p q)/\c6 t i a k h/\c6 u j b k h) where
 Yj:=by simp
 Wd:=λk h ⟨s1,s2,⟨p,q,s3⟩,s4,s5⟩ c hc=>by
  simp only[w0i,w1f,Zj]at hc;rcases hc with rfl|rfl|rfl|rfl|rfl
  .exact⟨_,s1,λv z=>by cases z⟩
  .exact⟨_,s2,λv z=>by cases z⟩
  .exact⟨_,s3,λv z=>by cases z⟩
  .exact s4.Wd
  .exact s5.Wd
 xW:=λk h h' ⟨s1,s2,⟨p,q,s3⟩,s4,s5⟩ f=>⟨f z (by simp) _ s1,f I (by simp) _ s2,⟨p,q,f O (by simp) _ s3⟩,s4.xW λo e=>f i (by simp) o e,s5.xW λo e=>f j (by simp) o e⟩
 ZS:=by
  intro X hP hw hK hc k dN s σ H E Iv hf st hg;subst hP hw hK;let⟨s1,s2,⟨p,q,s3⟩,s4,s5⟩:=st;let⟨xs,ys,x,y,q1,q2,hx,hy⟩:=hg;let⟨MQ,r1,p1⟩:=yN Iv q1;let⟨MR,r2,p2⟩:=yN Iv q2;let⟨ux,V1,WD⟩:=r1.Ff hx;let⟨uy,V2,WE⟩:=r2.Ff hy;refine z6g D s1 s2 s3 s4 s5 p1 p2 (x:=ux) (y:=uy) (by simpa using V1) (by simpa using V2) λh1 z1 o1 i1 j1 t1 n1 k1=>⟨_,rfl,?_⟩
  refine wpAny_letOwnedTupleGo_zip z1 λh2 z2 b2=>?_
  have b2:g0.Z_ z h1 h2:=b2;have E3:z<s.bj.f'.dS:=g0.xX s1;have nC:H s.bj.f'.dS=none:=Iv.aQ.xK (w0f _);have t2:YC h2 s.bj.f'.dS ux uy:=(b2.2 _ (w2t E3)).kZ t1;have I1:YC h1 I (.dr i) (.dr j):=k1 I _ D.Iz D.IO D.Ii D.Ij s2;refine⟨.dr s.bj.f'.dS,oL H s.bj.f'.dS (.gs [x,y]),?_,rfl,⟨_,x,y,rfl,nC,λi7 h'=>by rw[RV Iv h' q1];exact hx,λys' h'=>by rw[RV Iv h' q2];exact hy,rfl⟩,⟨z2,(b2.2 _ D.Iz).kZ I1,⟨ux,uy,(b2.2 _ D.Oz).kZ o1⟩,i1.xW λo e=>(b2.2 _ D.iz).kZ e,j1.xW λo e=>(b2.2 _ D.jz).kZ e⟩,λc hc=>?_⟩
  .show L2.j3 X dN σ _ {s with bj:=h2,tK:=s.tK};refine Jr (fp:=[z,I,O,i,j]) Iv (λc o hc q=>?_) hf (w0f _) ⟨?_,[ux,uy],.qT WD (.qT WE .so),⟨_,t2,rfl,?_⟩,⟨_,t2,rfl⟩⟩
   .simp only[w0i,w1f,Zj,ē]at hc;exact(b2.2 c hc.1).kZ (k1 c o hc.1 hc.2.2.1 hc.2.2.2.1 hc.2.2.2.2 q)
   .rw[LP];simp
   .exact⟨_,rfl⟩
  .have:c≠s.bj.f'.dS:=by
    obtain⟨o,q,_⟩:∃o,s.bj.ik c=ab o/\j':=by
     simp only[w0i,w1f,Zj]at hc;rcases hc with rfl|rfl|rfl|rfl|rfl
     .exact⟨_,s1,trivial⟩
     .exact⟨_,s2,trivial⟩
     .exact⟨_,s3,trivial⟩
     .let⟨o,e,_⟩:=s4.Wd;exact⟨o,e,trivial⟩
     .let⟨o,e,_⟩:=s5.Wd;exact⟨o,e,trivial⟩
    exact w0t (g0.xX q)
   rw[aN this];exact(hf c hc).1
 done:=by
  intro X hP hw hK hc k dN s σ H E Iv hf st hg;subst hP hw hK;let⟨s1,s2,⟨p,q,s3⟩,s4,s5⟩:=st;let⟨xs,ys,q1,q2,wZ⟩:=hg;let⟨MQ,r1,p1⟩:=yN Iv q1;let⟨MR,r2,p2⟩:=yN Iv q2;have l1:=r1.aj;have l2:=r2.aj;refine z6h (Iv.ok.hd hc) D s1 s2 s3 s4 s5 p1 p2 (by rcases wZ with h|h;left;simp;omega;right;simp;omega) λh' k1=>⟨rfl,?_⟩
  have pT:∀c∈[z,I,O,i,j],eU X dN H c:=hf;refine zap (fp:=[z,I,O,i,j]) (t':=s.tK) Iv (λc o hc q=>?_) pT
  simp only[w0i,w1f,Zj,ē]at hc;exact k1 c o hc.1 hc.2.2.1 hc.2.2.2.1 hc.2.2.2.2 q
 self:=λ_ _ _ _ _ ⟨s1,_⟩ h=>zea s1 h
theorem y51(n a b:aO)(ha:a<n)(hb:b<n):ε (n+4) (n+2) (n+3) n (n+1) a b where
 Iz:=by grind
 Oz:=by grind
 iz:=by grind
 jz:=by grind
 IO:=by grind
 Ii:=by grind
 Ij:=by grind
 Oi:=by grind
 Oj:=by grind
 ij:=by grind
 az:=by grind
 zbV:=by grind
 zbY:=by grind
 zbZ:=by grind
 bz:=by grind
 bO:=by grind
 bi:=by grind
 zb6:=by grind
section
variable{a1 a2:p6}{pt:vW}
def GC(K:Fg)(ta:TA):TI:=λσ H R=>ta σ H λvs H1=>∃t u a b,vs=[.dr a,.dr b]/\(∃xs,mS K t H1 a xs)/\(∃ys,mS K u H1 b ys)/\R (Fd K t u a b) H1
def TR{ta:TA}{p:vW}(hg:Gl X "zip")(hm:X.mg "zip"=none)(ha:PA X [a1,a2] ta)(hs:autoParam (pg [a1,a2] X.dt=[(false,eval a1 X.dt),(false,eval a2 X.dt)]) jJ)(gT:autoParam (pg [a2] X.dt=[(false,eval a2 X.dt)]) jJ):
  PI X (.Yg _g kt pt) (.wO (.oh "zip" p) [a1,a2] [] gw) (GC X.K ta):=by
 intro dN s σ H R I h;refine CG.Fe.Ò (pY I hg hm CG.Fe.boot_zip (CG.Fe.χ (bq (ha gw dN s σ H _ I h) λus s1 ⟨vs,H1,I1,r1,q1⟩=>?_) (by rw[hs,gT]) (by rw[gT];rfl)))
 let⟨t,u,a,b,e,⟨xs,hx⟩,⟨ys,hy⟩,q⟩:=q1;subst e;cases r1 with
 |qT r rr=>
  cases rr with
  |qT r' rr=>
   cases rr;cases r;cases r';let⟨MQ,v1,p1⟩:=yN I1 hx;let⟨MR,v2,p2⟩:=yN I1 hy;let⟨zfl,ea,_⟩:=p1.Wd;let⟨ob,eb,_⟩:=p2.Wd;have la:=g0.xX ea;have zfk:=g0.xX eb;refine y5z p1 p2 λh' z1 i1 o1 k1 k2 up=>?_
   refine zea z1 ?_
   have D:ε (s1.bj.f'.dS+4) (s1.bj.f'.dS+2) (s1.bj.f'.dS+3) s1.bj.f'.dS (s1.bj.f'.dS+1) a b:=by
    grind [y51]
   refine⟨s1.bj.f'.dS+4,[s1.bj.f'.dS+4,s1.bj.f'.dS+2,s1.bj.f'.dS+3,s1.bj.f'.dS,s1.bj.f'.dS+1],_,_,H1,rfl,I1.Yc (t':=s1.tK) up,z0l t u a b _ _ _ _ _ D,⟨z1,i1,⟨_,_,o1⟩,k1,k2⟩,λc hc=>?_,q⟩
   simp only[w0i,w1f,Zj]at hc;rcases hc with rfl|rfl|rfl|rfl|rfl<;>exact I1.jR (by omega) (I1.aQ.xK (by omega))
def nV(dA:iw (ai W)):iw (ai (W×W)):=λe=>(dA e).r7 λws e1=>match ws with
 |[x,y]=>match fq x,fq y with
  |ab us,ab vs=>.ok (us.xR vs) e1
  |_,_=>.no
 |_=>.no
def Qv(h:fq w=ab us)(p:qk K G w v):∃t a xs,v=.dr a/\mS K t G a xs/\ah K G us xs:=by
 cases w with
 |gs l=>
  cases h;let⟨a,xs,rfl,hq,rp⟩:=p;exact⟨true,a,xs,rfl,hq,rp⟩
 |dI l=>
  cases h;let⟨a,xs,rfl,hq,rp⟩:=p;exact⟨false,a,xs,rfl,hq,rp⟩
 |_=>cases h
def oJ(s:ao G H)(h:mS K t G a xs):mS K t H a xs:=by
 cases t with
 |true=>exact s.gs h
 |false=>exact s.p7 h
def y52(r1:ah K G1 us xs)(r2:ah K G1 vs ys)(h1:mS K t G1 a xs)(h2:mS K u G1 b ys):jw K G1 (Fd K t u a b) (us.xR vs):=by
 have l1:=r1.aj;have l2:=r2.aj;have lz:(us.xR vs).aj=min us.aj vs.aj:=ai.length_zip ..;refine⟨λi G H s s' h=>⟨xs,ys,xs[i]'(by omega),ys[i]'(by omega),oJ s' (oJ s h1),oJ s' (oJ s h2),by simp,by simp⟩,λi G H x H' s s' hy p q h=>?_,λi G H s s' h=>⟨xs,ys,oJ s' (oJ s h1),oJ s' (oJ s h2),by omega⟩⟩
 let⟨c,x1,y1,rfl,hn,GA,V8,rfl⟩:=hy;let⟨hu,hv⟩:=w4j.mp h;let⟨w1,MF,Ws⟩:=r1.jc (GA xs (oJ s' (oJ s h1)));let⟨w2,MG,Wt⟩:=r2.jc (V8 ys (oJ s' (oJ s h2)));rw[hu]at MF;rw[hv]at MG;cases MF;cases MG;exact⟨aK.ox s' hn _,λm n σ Q hQ=>⟨c,[x1,y1],rfl,bK.of bN,rfl,x1,[y1],rfl,y1,[],rfl,rfl,hQ _ _ (qk.k8 s _ Ws) (qk.k8 s _ Wt)⟩⟩
def Q3e{p:vW}(hm:X.mg "zip"=none)(ha:DA Z X EE [a1,a2] dA)(hg:autoParam (Gl X "zip") jJ)(hs:autoParam (pg [a1,a2] X.dt=[(false,eval a1 X.dt),(false,eval a2 X.dt)]) jJ)(gT:autoParam (pg [a2] X.dt=[(false,eval a2 X.dt)]) jJ):
  DI Z X EE (.Yg _g kt pt) (.wO (.oh "zip" p) [a1,a2] [] gw) (nV dA):=by
 refine PI.k8 (TR hg hm ha hs gT) ?_;rintro σ H RR ⟨G,e,mQ,h⟩;simp only[nV,R.ar]at h;refine⟨G,e,mQ,h.uM (λws e1 h G1 vs H1 r1 s1 p1=>?_) λ_ _ h=>h⟩
 split at h
 .rename_i w1 w2;split at h
  .rename_i us ws hu hw;let⟨y1,r,rfl,q1,y2,r',rfl,q2,q3⟩:=p1;cases(show r'=[]from q3);let⟨t,a,xs,rfl,hx,rx⟩:=Qv hu q1;let⟨u,b,ys,rfl,hy,ry⟩:=Qv hw q2;exact⟨t,u,a,b,rfl,⟨xs,oJ r1.p9 hx⟩,⟨ys,oJ r1.p9 hy⟩,h _ _ _ r1 s1 (y52 rx ry hx hy)⟩
  .exact h.oa
 .exact h.oa
end
def mO(e:ai S):ai W->R (ai (W×W))
 |[x,y]=>match fq x,fq y with
  |ab us,ab vs=>.ok (us.xR vs) e
  |_,_=>.no
 |_=>.no
def Q3f:nV dA e=(dA e).r7 λws e1=>mO e1 ws:=by
 unfold nV;congr 1
theorem z0m:mO e [.gs us,.gs vs]=.ok (us.xR vs) e:=rfl
theorem z0n:mO e [.dI us,.dI vs]=.ok (us.xR vs) e:=rfl
theorem z0o:mO e [.gs us,.dI vs]=.ok (us.xR vs) e:=rfl
theorem z0p:mO e [.dI us,.gs vs]=.ok (us.xR vs) e:=rfl
theorem KH:∀ns:ai a7,dn (ns.a6 .aT)=ab ns
 |[]=>rfl
 |n::ns=>by rw[w0m];show(dn (ns.a6 .aT)).a6 (n::·)=_;rw[KH ns];rfl
def dM:S->S
 |.ku _ ws=>.fr (.dI ws)
 |.aV kvs=>.fr (.aV kvs)
 |.dW us ws vs=>.fr (.gs (us++.dI ws::vs))
 |.YL cb=>.fr (.dI (cb.a6 W.dI))
 |.x (.w5 w)=>.fr w
 |.x (.vd w)=>.fr w
 |.x (.tG ws)=>.fr (.dI ws)
 |.x (.n5 us ws vs)=>.fr (.gs (us++.dI ws::vs))
 |.x (.tn us cb)=>.fr (.gs (us++[.dI (cb.a6 W.dI)]))
 |.x (.pt _ _ _)=>.no
 |.x (.fz w)=>.fr w
 |.x (.ym w)=>.fr w
 |.dw sh ks ws=>.fr (.dw false sh ks ws)
 |s=>s
theorem dy.ed(sg:ao G G')(hf:∀l o ys,gj Z G H l o ys->G' l=ab (.cK o (.dI ys))):∀{ls:ai fy}{cb:ai (ai W)},dy K Z G H ls cb->ah K G' (cb.a6 W.dI) (ls.a6 V.dr)
 |[],[],_=>rfl
 |l::ls,ws::cb,⟨⟨o,ys,h1,h4⟩,h⟩=>⟨.dr l,ls.a6 V.dr,rfl,⟨l,ys,rfl,.jd (.lb ⟨o,hf l o ys h1⟩),ah.k8 sg ws h4⟩,h.ed sg hf⟩
 |[],_::_,h=>h.oa
 |_::_,[],h=>h.oa
def bF(e:ai S):ai S:=e.a6 dM
def eD(e:ai S):R W->R W
 |.ok w _=>if aM w=true then .ok w e else .no
 |.ex c _=>.ex c e
 |.no=>.no
def c8(d:iw W):iw W:=λe=>eD e (d (bF e))
def eE(e:ai S):R ie->R ie
 |.ok b _=>.ok b e
 |.ex c _=>.ex c e
 |.no=>.no
def bR(d:iw ie):iw ie:=λe=>eE e (d (bF e))
def pZ.hide(r:pZ K Z G σ H e):pZ K ⟨H,H,[]⟩ H σ H (bF e):=by
 have g:∀(i:aO)(s:S),(bF e)[i]?=ab s->∃s0,e[i]?=ab s0/\s=dM s0:=λi s h=>by
  unfold bF at h;rw[w0s]at h;let⟨s0,h1,h2⟩:=w0j.mp h;exact⟨s0,h1,h2.symm⟩
 refine⟨.t8 _,λi s h=>?_,by unfold bF;rw[w0a];exact r.uN,λi j b b' ws ws' a h1 _ _ _=>?_,λa o h _=>h,(λa h=>nomatch h),λa _=>rfl⟩
 .let⟨s0,h0,rfl⟩:=g i s h;have q:=r.xM i s0 h0;cases s0 with
  |no=>trivial
  |fr w=>
   let⟨u,q1,q2⟩:=q;exact⟨u,q1,qk.k8 r.p9 w q2⟩
  |ku b ws=>
   let⟨a,xs,q1,q2,q3,q4,q5⟩:=q;exact⟨.dr a,q1,a,xs,rfl,bD.of q2,ah.k8 r.p9 ws q5⟩
  |aV kvs=>
   let⟨a,q1,q2,_⟩:=q;exact⟨.dr a,q1,a,rfl,q2⟩
  |dW us ws vs=>
   let⟨t,l,o,xs,ys,zs,q1,q2,q3,_,_,q6,q7,q8⟩:=q;exact⟨.dr t,q1,t,_,rfl,bK.of (r.p9 _ _ q2),(ah.k8 r.p9 us q6).Wi ⟨.dr l,zs,rfl,⟨l,ys,rfl,.jd (.lb ⟨o,q3⟩),ah.k8 r.p9 ws q7⟩,ah.k8 r.p9 vs q8⟩⟩
  |YL cb=>
   let⟨a,ls,q1,q2,_,q4⟩:=q;exact⟨.dr a,q1,a,_,rfl,bD.of (r.p9 _ _ q2),q4.ed r.p9 λl o ys z=>z.1⟩
  |x k=>
   cases k with
   |w5 w=>let⟨u,q1,_,q2⟩:=q;exact⟨u,q1,qk.k8 r.p9 w q2⟩
   |vd w=>let⟨u,q1,q2⟩:=q;exact⟨u,q1,qk.k8 r.p9 w (dR.yW w q2)⟩
   |tG ws=>let⟨a,o,xs,q1,q2,q3⟩:=q;exact⟨.dr a,q1,a,xs,rfl,.jd (.lb ⟨o,q2.1⟩),ah.k8 r.p9 ws (aY.ed ws q3)⟩
   |n5 us ws vs=>
    let⟨t,l,o,xs,ys,zs,q1,_,q2,q3,_,q6,q7,q8⟩:=q;exact⟨.dr t,q1,t,_,rfl,bK.of (r.p9 _ _ q2),(ah.k8 r.p9 us q6).Wi ⟨.dr l,zs,rfl,⟨l,ys,rfl,.jd (.lb ⟨o,q3.1⟩),ah.k8 r.p9 ws q7⟩,ah.k8 r.p9 vs q8⟩⟩
   |tn us cb=>
    let⟨t,l,o,ls,xs,q1,q2,q3,_,q5,q6⟩:=q;exact⟨.dr t,q1,t,_,rfl,bK.of (r.p9 _ _ q2),(ah.k8 r.p9 us q5).Wi ⟨.dr l,[],rfl,⟨l,_,rfl,.jd (.lb ⟨o,q3.1⟩),q6.ed r.p9 λl o ys z=>z.1⟩,rfl⟩⟩
   |pt _ _ _=>trivial
   |fz w=>let⟨u,as,q1,_,q3⟩:=q;exact⟨u,q1,ei.yW r.p9 (λl o ys z=>z.1) w q3⟩
   |ym w=>let⟨u,as,q1,_,_,q3⟩:=q;exact⟨u,q1,ei.yW r.p9 (λl o ys z=>z.1) w q3⟩
  |dw sh ks ws=>
   let⟨a,kvs,bc,q1,q2,_,_,q5,q6,q7⟩:=q;exact⟨.dr a,q1,a,kvs,bc,rfl,q2,q5,q6.k8 r.p9,ah.k8 r.p9 ws q7.ed⟩
 .let⟨s0,_,h2⟩:=g i _ h1;cases s0 with
  |x k=>cases k<;>cases h2
  |_=>cases h2
def pZ.Ü(r:pZ K Z G σ H e)(r2:pZ K ⟨H,H,[]⟩ G2 σ H2 e2):pZ K Z G σ H2 e:=by
 have hh:ao H H2:=λa o h=>r2.VB a o h (λz=>nomatch z)
 exact r.zR ⟨hh,.t8 _,λa o h=>hh a o (r.p9 a o h),λ_ _=>rfl⟩
def z0q(h:aM w=true)(p:qk K G w v):qk K G' w v:=by
 cases w with
 |aB=>exact p
 |bl b=>exact p
 |aT b=>exact p
 |str b=>exact p
 |_=>cases h
def y53{e:n9.p6}(he:∀Z',DE Z' X EE e d):DE Z X EE e (c8 d):=by
 intro dN s σ H Q I hq;let⟨G,e0,mQ,h⟩:=hq;refine he ⟨H,H,[]⟩ dN s σ H Q I ⟨H,bF e0,mQ.hide,?_⟩;unfold c8 eD at h;cases q:d (bF e0)with
 |ok w e2=>
  rw[q]at h;dsimp only at h;split at h
  .rename_i hs;intro G2 v H2 r2 s2 p;exact h G v H2 (mQ.Ü r2) (.t8 _) (z0q hs p)
  .exact h.oa
 |ex k e2=>
  rw[q]at h;intro G2 H2 r2 s2;exact h G H2 (mQ.Ü r2) (.t8 _)
 |no=>rw[q]at h;exact h.oa
def y54{e:n9.p6}(he:∀Z',DT Z' X EE e c):DT Z X EE e (bR c):=by
 intro dN s σ H Q I hq;let⟨G,e0,mQ,h⟩:=hq;refine he ⟨H,H,[]⟩ dN s σ H Q I ⟨H,bF e0,mQ.hide,?_⟩;unfold bR eE at h;cases q:c (bF e0)with
 |ok w e2=>
  rw[q]at h;intro G2 H2 r2 s2;exact h G H2 (mQ.Ü r2) (.t8 _)
 |ex k e2=>
  rw[q]at h;intro G2 H2 r2 s2;exact h G H2 (mQ.Ü r2) (.t8 _)
 |no=>rw[q]at h;exact h.oa
section
variable [Ó p]
theorem y55:c8 d e=eD e (d (bF e)):=rfl
theorem y2w{d:iw ie}:bR d e=eE e (d (bF e)):=rfl
theorem y56:eD e (.ok w e')=if aM w=true then .ok w e else .no:=rfl
theorem y57:eD e (.ex v e')=.ex v e:=rfl
theorem y2x:eE e (.ok k e')=.ok k e:=rfl
theorem y2y:eE e (.ex v e')=.ex v e:=rfl
def y2z:eD e (if p then x else y)=if p then eD e x else eD e y:=by split<;>rfl
def x9o:eE e (if p then x else y)=if p then eE e x else eE e y:=by split<;>rfl
theorem z0r:bF []=[]:=rfl
theorem y58{s:D.S}:bF (s::e)=dM s::bF e:=rfl
theorem z0s:dM (.ku b ws)=.fr (.dI ws):=rfl
theorem z6i:dM (.fr w)=.fr w:=rfl
theorem z6j:dM .no=.no:=rfl
end
end D
namespace L2
open PySem PySem.Spec PyProof.Rows
structure ze2(tB:ai S')(H H':Hp)(h h':g0)(e:fy)(o4:d0)(B:g0):Prop where
 cF:B.StaysIn h'
 Td:B.ik e=none
 ff:h'.ϗ B tB
 tr:∃a0 fl,h'.TracedAtW B e o4 a0 fl
 w5:∀b o,h.ik b=ab o->H b=none->b∉gM tB->B.ik b=ab o
 qa:∀b u o,H' b=ab u->h'.ik b=ab o->B.ik b=ab o
 t9:∀b o,h.ik b=ab o->b∈gM tB\/∃o',B.ik b=ab o'
 vd:h.ik e=none
end L2
namespace D
open PySem L2
def kE(c:iw ie)(d:iw W)(pe:ai S):ai W->d3 (d0 ⊕ ai W)
 |[]=>ab (.lb [])
 |w::ws=>match c (.fr w::pe)with
  |.ok true e1=>match d e1 with
   |.ok y _=>(kE c d pe ws).a6 (ZG.a6 id (y::·))
   |.ex k _=>ab (.jd k)
   |.no=>none
  |.ok false _=>kE c d pe ws
  |.ex k _=>ab (.jd k)
  |.no=>none
def lq(e:ai S):d3 (d0 ⊕ ai W)->R (ai W)
 |ab (.lb xH)=>.ok xH e
 |ab (.jd k)=>.ex k e
 |none=>.no
def ng(js:ai aO)(c:iw ie)(d:iw W)(ws:ai W)(e1:ai S):R (ai W):=
 if ws.aj<=16777216 then lq (aX js e1) (kE c d (fB js (aX js e1)) ws)else .no
theorem z0t:ng js cc d ws e=if ws.aj<=16777216 then lq (aX js e) (kE cc d (fB js (aX js e)) ws)else .no:=rfl
theorem y59:lq e (ab (.lb xH))=.ok xH e:=rfl
theorem y6a:lq e (ab (.jd k))=.ex k e:=rfl
section
variable{X:Cx}{Z:Zt}{EE:L2.St->XK}{JM x9 a b:p6}{zS:ai p6}{fv sc:zF}{gw pt:vW}{x:et}{Nf N:ai et}{js:ai aO}{di:iw W}{dA:iw (ai W)}{c:iw ie}{d:iw W}
def Q3g(h:(ng js c d ws e1).SA P Ex):ws.aj<=16777216/\∃xH,kE c d (fB js (aX js e1)) ws=ab xH/\ZG.oa (λk=>Ex k (aX js e1)) (λo=>P o (aX js e1)) xH:=by
 unfold ng at h;split at h
 .rename_i hl;cases ho:kE c d (fB js (aX js e1)) ws with
  |none=>rw[ho]at h;exact h.oa
  |ab xH=>rw[ho]at h;exact⟨hl,xH,rfl,by cases xH<;>exact h⟩
 .exact h.oa
end
end D
namespace L2
open PySem PySem.Spec PyProof.Rows
def Fj(t:SetTable):Prop:=t.place.wL.Zf (·<·)/\t.dummies=#[]
def J1:d0->a7
 |.aT n _=>n
 |_=>0
structure zeO(je:xc)(w:vr)(es:yb (a7×d0))(t:SetTable)(S:ai a7):Prop where
 el:ElemsOf (intKind je w) es.wL
 sz:es.dS<scanBound
 fit:t._h es.dS=true
 rise:Fj t
 led:t.led=!w.uu.followText "set-order"
 Ω:∀e∈es.wL,∃n k,e.2=d0.aT n k
 perm:(es.wL.a6 λe=>J1 e.2).Zx S
def rT(S:ai a7)(k:a7):ai a7:=if k∈S then S else S++[k]
theorem fP:∀(ns S:ai a7),(ns.zx rT S).aj<=S.aj+ns.aj
 |[],S=>by simp
 |n::ns,S=>by
  have:=fP ns (rT S n)
  grind [rT]
namespace SI
def ku:Manifest.owners.g6 (Yq.ofList ['r','o','t','a','r','e','t','i','_','t','e','s'].We)=ab Manifest.sig_set_iterator:=by kernel_rfl
theorem next:Slot "set_iterator" "__next__" "set_iterator.__next__":=.of (owner:="set_iterator") (n:="__next__") (by rw[Į,Ć];kernel_rfl) (by decide +kernel) (by decide +kernel) (by decide +kernel) (by first|exact .jd (by decide +kernel)|exact .lb (by decide +kernel)) (by rw[Ś];kernel_rfl)
theorem x9:Slot "set_iterator" "__iter__" "set_iterator.__iter__":=.of (owner:="set_iterator") (n:="__iter__") (by rw[Į,Ć];kernel_rfl) (by decide +kernel) (by decide +kernel) (by decide +kernel) (by first|exact .jd (by decide +kernel)|exact .lb (by decide +kernel)) (by rw[Ś];kernel_rfl)
end SI
open PySem PySem.Spec PyProof.Rows
end L2
namespace D
open PySem L2
section
variable(l:fy)(ro:yb d0)(n:aO)(k:a7)(u:Ι)(dd:d3 fy)(sl:yb (d3 d0))
theorem z0u(h1:¬(k < -(2^63)||k>=2^63)=true)(h2:¬(ro.U7||k==1)=true)(h3:¬(k<=0||ro.U7)=true)(h4:¬ro.dS*k>(2^63-1) / 8)(h5:¬uK.Yg.zdI (ro.dS*k)=true)(h6:(ai.zx (λx1 x2=>x1++x2) #[] (ai.w8 k.uh ro)).dS<=wm):
  _D (uK.«tuple.__mul__» ⟨[.dr l,.aT k u],[]⟩) (λ_ R s=>s.bj.ik l=ab {o4:=.ke "tuple", xg:=dd,pJ:=.p7 ro n,YN:=sl}/\R (.ok (.CJ (d0.dr s.bj.f'.dS))) {s with bj:=s.bj.tM {o4:=d0.ke "tuple", pJ:=ϓ.p7 (ai.zx (λx1 x2=>x1++x2) #[] (ai.w8 k.uh ro))}}):=
 ._M λje w A R s h=>by
  let⟨hp,g,d,tk,os⟩:=s;let⟨hl,h⟩:=h
  wp_walk
  refine ý (λz=>uz z h1) λ_=>?_
  wp_walk
  refine ý (λz=>uz z h4) λ_=>?_
  wp_walk
  exact⟨_,rfl,h⟩
theorem z0v(h1:¬(k < -(2^63)||k>=2^63)=true)(h2:¬(ro.U7||k==1)=true)(h3:(k<=0||ro.U7)=true):
  _D (uK.«tuple.__mul__» ⟨[.dr l,.aT k u],[]⟩) (λ_ R s=>s.bj.ik l=ab {o4:=.ke "tuple", xg:=dd,pJ:=.p7 ro n,YN:=sl}/\R (.ok (.CJ (d0.dr s.bj.f'.dS))) {s with bj:=s.bj.tM {o4:=d0.ke "tuple", pJ:=ϓ.p7 #[]}}):=
 ._M λje w A R s h=>by
  let⟨hp,g,d,tk,os⟩:=s;let⟨hl,h⟩:=h
  wp_walk
  refine ý (λz=>uz z h1) λ_=>?_
  wp_walk
  exact⟨_,rfl,h⟩
theorem z0w(h1:¬(k < -(2^63)||k>=2^63)=true)(h2:(ro.U7||k==1)=true):
  _D (uK.«tuple.__mul__» ⟨[.dr l,.aT k u],[]⟩) (λ_ R s=>s.bj.ik l=ab {o4:=.ke "tuple", xg:=dd,pJ:=.p7 ro n,YN:=sl}/\R (.ok (.CJ (d0.dr l))) s):=
 ._M λje w A R s h=>by
  let⟨hp,g,d,tk,os⟩:=s;let⟨hl,h⟩:=h
  wp_walk
  refine ý (λz=>uz z h1) λ_=>?_
  wp_walk
  exact⟨_,rfl,h⟩
theorem y6b:_D (uK.«int.__rmul__» ⟨[.aT k u,.dr l],[]⟩) (λ_ R s=>s.bj.ik l=ab {o4:=.ke "tuple", xg:=dd,pJ:=.p7 ro n,YN:=sl}/\R (.ok (.CJ d0.zc2)) s):=
 ._M λje w A R s h=>by let⟨hp,g,d,tk,os⟩:=s;let⟨hl,h⟩:=h;wp_walk;exact⟨_,rfl,h⟩
end
variable{X:Cx}{dA:iw (ai W)}{e:p6}{p:vW}{K:Fg}{Z:Zt}
theorem zbw:fillsNumberSlot (.ke "tuple") "mul"=vX false:=
 fillsNumberSlot_seq (id:="tuple.__mul__") (r:=ab (.w4 "tuple.__rmul__")) n9.F.ó.g6 (by decide +kernel) n9.F.zdx.g6 (by decide +kernel)
def zbx:seqRepeat? (.ke "tuple")=vX (ab (.w4 "tuple.__mul__")):=by
 unfold seqRepeat?;rw[seqSlot_of (T:="tuple") (name:="__mul__") (id:="tuple.__mul__") n9.F.ó.g6 (by decide +kernel),seqSlot_of (T:="tuple") (name:="__rmul__") (id:="tuple.__rmul__") n9.F.zdx.g6 (by decide +kernel)];rfl
def vN(K:Fg):R2:=λx y H Q=>∃l k xs,x=.dr l/\y=.aT k/\bK K H l xs/\xs≠[]/\-(2^63)<=k/\k<2^63/\xs.aj*k.uh<=wm /\
 (k=1->Q (.dr l) H)/\(k≠1->∀p,H p=none->Q (.dr p) (oL H p (.gs (ai.w8 k.uh xs).Ys)))
def Om(aw:ai d0)(m:aO):ai.zx (λx1 x2=>x1++x2) #[] (ai.w8 m aw.l8)=(ai.w8 m aw).Ys.l8:=by
 have:=Jd aw m [];rw[w4b]at this;exact this
def z6k:fK X (ZH .ι) (vN X.K):=by
 intro dN s σ H x y v u Q I rx ry h;let⟨l,k,xs,rfl,rfl,hH,gm,h1,h2,hz,q1,q2⟩:=h;cases rx;let⟨t,rfl⟩:=ry;let⟨aw,r,p1,_⟩:=I.Tc hH;let⟨⟨o4,dd,pJ,sl⟩,ho,hc,n,hd⟩:=id p1;simp only at hc hd;subst hc hd;have hl:=r.aj;have qB:¬(k < -(2^63)||k>=2^63)=true:=by simp;omega
 have ze_:aw.l8.U7=false:=by
  grind
 have Zq:∀{Q':d0->p5->Prop},(oP (qX X.je X.w) X.A (zb (.w4 "tuple.__mul__") [.dr l,.aT k t]) Q' X.xe s)->oP (qX X.je X.w) X.A (ZH .ι (.dr l) (.aT k t)) Q' X.xe s:=λ{Q'} hq=>by
  refine zd3 (T:="tuple") (U:="int") (by decide) ⟨_,ho,rfl⟩ (λs'=>ø s' k t) zbw n9.F.zcr n9.F.ĝ zbx n9.F.zdt.g6
   (n9._W n9.F.ĝ (ø s k t) n9.F.zci (n9.F.zb0 _ _) (y6b l aw.l8 n k t dd sl) ⟨ho,rfl,⟨_,ho,rfl⟩,hq⟩)
 by_cases qE:k=1
 .subst qE;exact Zq (n9._W n9.F.ó ⟨_,ho,rfl⟩ n9.F.Œ (n9.F.ń _ _) (z0w l aw.l8 n 1 t dd sl qB (by simp)) ⟨ho,.dr l,H,I,rfl,q1 rfl⟩)
 .have CQ:¬(aw.l8.U7||k==1)=true:=by grind
  have fr:=I.aQ.xK (w0f s.bj.f'.dS)
  by_cases yt:k<=0
  .refine Zq (n9._W n9.F.ó ⟨_,ho,rfl⟩ n9.F.Œ (n9.F.ń _ _) (z0v l aw.l8 n k t dd sl qB CQ (by simp[yt])) ⟨ho,?_⟩);have e:k.uh=0:=by omega
   have z:=q2 qE _ fr;rw[e]at z;exact⟨.dr s.bj.f'.dS,_,I.JN (t':=s.tK) (λb o e=>g0.w6 _ e) (w0f _) (show aU X.je X.w _ _ _ (.gs (ai.w8 0 xs).Ys)from⟨w1g _,[],.so,CG.Fe.Z8.vd _ _,_,g0.A2 _ rfl,rfl⟩),rfl,z⟩
  .have wZ:aw.aj*k.uh<=wm:=by rw[<- hl];exact hz
   have va:((aw.l8.dS:aO):a7)*k=((aw.aj*k.uh:aO):a7):=by
    grind
   have sl8:(wm:a7)<=(2^63-1) / 8:=by decide
   have hfl:(ai.w8 k.uh aw).Ys.aj=k.uh*aw.aj:=KA ..;refine Zq (n9._W n9.F.ó ⟨_,ho,rfl⟩ n9.F.Œ (n9.F.ń _ _) (z0u l aw.l8 n k t dd sl qB CQ (by grind) (by rw[va];omega) (by rw[va];unfold uK.Yg.zdI;grind) (by grind [Om])) ⟨ho,?_⟩);rw[Om];exact⟨.dr s.bj.f'.dS,_,I.JN (t':=s.tK) (λb o e=>g0.w6 _ e) (w0f _) (show aU X.je X.w _ _ _ (.gs (ai.w8 k.uh xs).Ys)from⟨by grind [KA],_,r.yW k.uh,CG.Fe.Z8.vd _ _,_,g0.A2 _ rfl,rfl⟩),rfl,q2 qE _ fr⟩
def rM:W->W->d3 W
 |.gs ws,.aT k=>if pD k=true/\ws≠[]/\ws.aj*k.uh<=16777216 then ab (.gs (ai.w8 k.uh ws).Ys)else none
 |_,_=>none
def z6l:iE K (vN K) rM:=by
 intro G H x y wx wy w Q s px py hf h;unfold rM at hf;split at hf
 .rename_i ws k;split at hf
  .rename_i hc;cases hf;cases(show y=V.aT k from py);let⟨l,xs,rfl,hq,rp⟩:=px;have hb:=rE hc.1;refine⟨l,k,xs,rfl,rfl,s.gs hq,λz=>hc.2.1 (by subst z;exact w4r.mp rp.aj.symm),by omega,by omega,by rw[LP,rp.aj];exact hc.2.2,λhk=>?_,λhk p hp=>?_⟩
   .subst hk;have e:(ai.w8 (1:a7).uh ws).Ys=ws:=by simp
    rw[e]at h;exact h G _ H (.t8 s) ⟨l,xs,rfl,hq,rp⟩
   .have g:aK G H (oL G p (.gs (ai.w8 k.uh xs).Ys)) (oL H p (.gs (ai.w8 k.uh xs).Ys)):=aK.JN s hp _;exact h _ _ _ g ⟨p,_,rfl,bK.of bN,ah.k8 g.gg _ (D' rp _)⟩
  .cases hf
 .cases hf
theorem z6m{Z:Zt}(ha:DE Z X EE a da)(hb:DE Z X EE b db):DE Z X EE (._A a .ι b gw) (aq rM da db):=vJ z6k z6l ha hb
def z0x(hc:X.MT=true):cZ X (.w4 "any") (λxs H Q=>∃p ys,xs=[.dr p]/\bD X.K H p ys/\(∀y∈ys,∃b,y=.bl b)/\Q (.bl (ys.uJ λy=>decide (y=.bl true))) H):=by
 intro dN s σ H xs us Q I r h;let⟨p,ys,rfl,hq,hb,q⟩:=h;let⟨u,rfl,rx⟩:=_n r;cases rx;let⟨aw,r',pl,hz⟩:=I.xm hq;have hl:=pl.zD;have bZ:p<s.bj.f'.dS:=by let⟨_,e,_⟩:=hl;exact g0.xX e
 have hh:X.A.Ba.YV=none:=I.ok.hd hc;refine call_any_walk (Δ hl ⟨s.bj.f'.dS,[s.bj.f'.dS,p],[s.bj.f'.dS],_,_,_,λi=>decide (ys[i]?=ab (.bl true)),rfl,ξ.xm hh s.bj.f'.dS p (w0t bZ) aw.l8,⟨⟨_,g0.A2 _ rfl,rfl,rfl⟩,hl.tM _⟩,?_,λh' tk kp=>?_⟩)
 .intro i v s1 Q1 E1 hv hQ;have oA:aw[i]?=ab v:=by simpa using hv
  have hi:i<ys.aj:=by rw[r'.aj];exact(w0b.mp oA).1
  let⟨u,hu,ru⟩:=r'.Ff (w0c hi);rw[oA]at hu;cases hu;let⟨b,eb⟩:=hb ys[i] (w1j hi);rw[eb]at ru;cases ru;refine Ε ?_
  have e:decide (ys[i]?=ab (V.bl true))=b:=by
   rw[w0c hi,eb];cases b<;>simp
  rw[<- e];exact hQ
 .have e:(ai.CC aw.l8.dS).uJ (λi=>decide (ys[i]?=ab (V.bl true)))=ys.uJ λy=>decide (y=.bl true):=by
   rw[w1v,w2r,w2r];constructor
   .rintro⟨i,hi,z⟩;rw[w0y,w0e,<- r'.aj]at hi;rw[w0c hi]at z;exact⟨ys[i],w1j hi,by simpa using z⟩
   .rintro⟨y,hy,z⟩;let⟨i,hi,rfl⟩:=w3d hy;exact⟨i,by rw[w0y,w0e,<- r'.aj];exact hi,by rw[w0c hi];simpa using z⟩
  refine⟨.bl _,H,I.Yc (t':=tk) λb o ow=>kp b o (λz=>?_) (g0.w6 _ ow),rfl,e ▸ q⟩
  rw[w1i]at z;exact uz (g0.xX ow) (by rw[z];exact w2c _)
def m_:ai W->d3 W
 |[.dI ws]=>(fj ws).a6 λbs=>.bl (bs.uJ id)
 |_=>none
def TU:pO K (λxs H Q=>∃p ys,xs=[.dr p]/\bD K H p ys/\(∀y∈ys,∃b,y=.bl b)/\Q (.bl (ys.uJ λy=>decide (y=.bl true))) H) m_:=by
 intro G H xs ws w Q s pr hf h;unfold m_ at hf;split at hf
 .let⟨bs,hb,rfl⟩:=w0j.mp hf;have:=N7 hb;subst this;let⟨x,r,rfl,px,pr⟩:=pr;cases(show r=[]from pr);let⟨a,ys,rfl,ha,ra⟩:=px;have:=IZ ra;subst this;refine⟨a,_,rfl,s.p7 ha,λy hy=>?_,h G _ H (.t8 s) ?_⟩
  .let⟨b,_,rfl⟩:=w0u.mp hy;exact⟨b,rfl⟩
  .show V.bl _=V.bl _;congr 1;rw[w5b];congr 1;funext b
   cases b<;>rfl
 .cases hf
section
variable{EE:L2.St->XK}{gw:vW}
theorem Q3i(hc:X.MT=true)(hm:X.mg "any"=none)(ha:DA Z X EE [e] dA)(hg:autoParam (Gl X "any") jJ)(he:autoParam (pg [e] X.dt=(false,eval e X.dt)::pg [] X.dt) jJ)(dP:autoParam ((y0 gw (pg [] X.dt)).uJ (·.1)=false) jJ):DE Z X EE (.wO (.oh "any" p) [e] [] gw) (bP m_ dA):=
 yM (z0x hc) TU CG.Fe._p.«any» hm ha hg (by decide) (by decide) he dP
end
def UO{bs:ai ie}:m_ [.dI (bs.a6 .bl)]=ab (.bl (bs.uJ id)):=by
 show(fj (bs.a6 .bl)).a6 _=_;rw[Ji];rfl
def vK(K:Fg):R2:=λx y H Q=>∃a b ys,x=.dr a/\y=.dr b/\bK K H a []/\bK K H b ys/\Q (.dr b) H
open PyProof.Rows in
def zdO:fK X (ZH .Add) (vK X.K):=by
 intro dN s σ H x y v u Q I rx ry h;let⟨a,b,ys,rfl,rfl,ha,hb,q⟩:=h;cases rx;cases ry;let⟨aw,r1,p1,_⟩:=I.Tc ha;let⟨fm,r2,p2,_⟩:=I.Tc hb;cases r1;let⟨⟨o4,dd,pJ,sl⟩,ho,hc,n,hd⟩:=id p1;let⟨⟨zQ,u6,data2,yR⟩,sL,du,n2,YQ⟩:=id p2;simp only at hc hd du YQ;subst hc hd du YQ;exact Ċ ⟨_,ho,rfl⟩ ⟨_,sL,rfl⟩ Ş ŧ n9.F.ũ n9.F.ő (n9.F.Ń _ _) (tuple_addW0 a b _ _ n n2 dd u6 sl yR rfl) ⟨ho,sL,.dr b,H,I,rfl,q⟩
def bg:W->W->d3 W
 |.gs xs,.gs ys=>if xs.aj+ys.aj<=16777216 then ab (.gs (xs++ys))else none
 |x,y=>Ϡ x y
theorem z6n:bg (.gs xs) (.gs ys)=if xs.aj+ys.aj<=16777216 then ab (.gs (xs++ys))else none:=rfl
theorem z6o:bg (.aT i) (.aT j)=ab (.aT (i+j)):=rfl
theorem z6p:bg (.dI xs) (.dI ys)=if xs.aj+ys.aj<=16777216 then ab (.dI (xs++ys))else none:=rfl
theorem z6q:bg (.str x) (.str y)=if x.aj+y.aj<=16777216 then ab (.str (x++y))else none:=rfl
def z6r:iE K (λx y H Q=>vK K x y H Q\/(nU (λi j=>.aT (i+j)) x y H Q\/((∃i j,x=.str i/\y=.str j/\i.aj+j.aj<=wm/\Q (.str (i++j)) H)\/(rK K x y H Q\/rJ K x y H Q)))) bg:=by
 intro G H x y wx wy w Q s px py hf h;unfold bg at hf;split at hf
 .rename_i xs ys;split at hf
  .rename_i hl
   by_cases h0:xs=[]
   .subst h0;cases hf;let⟨a,vs,rfl,hq,rp⟩:=px;let⟨b,us,rfl,C4,rO⟩:=py;cases(show vs=[]from rp);exact .jd ⟨a,b,us,rfl,rfl,s.gs hq,s.gs C4,h G _ H (.t8 s) ⟨b,us,rfl,C4,rO⟩⟩
   .exact .lb (RS G H x y (.gs xs) (.gs ys) w Q s px py (by show(if xs≠[]/\xs.aj+ys.aj<=16777216 then ab (W.gs (xs++ys))else none)=ab w;rw[nZ ⟨h0,hl⟩];exact hf) h)
  .cases hf
 .exact .lb (RS G H x y _ _ w Q s px py hf h)
theorem z6s{Z:Zt}(ha:DE Z X EE a da)(hb:DE Z X EE b db):DE Z X EE (._A a .Add b gw) (aq bg da db):=vJ (zdO.or (zes.or (zcZ.or (zdP.or z4r)))) z6r ha hb
def yJ{l:ai a7}{i:aO}(h:i<l.aj):l.hX i 0=l[i]:=by
 unfold ai.hX;rw[w0c h];rfl
open PySem L2 PySem.Spec PyProof.Rows
def fW(n:a7):ie:=decide (-1000000000000<=n)&&decide (n<=1000000000000)
def P4{n:a7}(h:fW n=true):-1000000000000<=n/\n<=1000000000000:=by
 unfold fW at h;rw[w0q]at h;exact⟨_j h.1,_j h.2⟩
theorem Lb(ns:ai a7)(h:∀n∈ns,fW n=true):∀j:aO,Υ (λi=>ns.hX i 0) j=(ns.wj j)._N/\-(1000000000000*(j:a7))<=Υ (λi=>ns.hX i 0) j/\Υ (λi=>ns.hX i 0) j<=1000000000000*(j:a7)
 |0=>⟨rfl,by simp[Υ],by simp[Υ]⟩
 |j+1=>by
  let⟨h1,h2,h3⟩:=Lb ns h j;have e:Υ (λi=>ns.hX i 0) (j+1)=Υ (λi=>ns.hX i 0) j+ns.hX j 0:=rfl
  have b:-1000000000000<=ns.hX j 0/\ns.hX j 0<=1000000000000:=by
   by_cases hj:j<ns.aj
   .rw[yJ hj];exact P4 (h _ (w1j hj))
   .have:ns.hX j 0=0:=by simp[ai.hX,hj]
    rw[this];decide
  refine⟨?_,by rw[e];push_cast;omega,by rw[e];push_cast;omega⟩;rw[e,h1]
  by_cases hj:j<ns.aj
  .have e2:ns.wj (j+1)=ns.wj j++[ns[j]]:=by rw[ai.take_add_one,w0c hj];rfl
   rw[e2,ai.sum_append,yJ hj];simp
  .have:ns.hX j 0=0:=by simp[ai.hX,hj]
   rw[this,w2a (by omega),w2a (by omega)];omega
def y6c(hc:X.MT=true):cZ X (.w4 "sum") (λxs H Q=>∃p,∃ns:ai a7,xs=[.dr p]/\bD X.K H p (ns.a6 V.aT)/\ns.aj<=1000/\(∀n∈ns,fW n=true)/\Q (.aT ns._N) H):=by
 intro dN s σ H xs us Q I r h;let⟨p,ns,rfl,hq,hn,hb,q⟩:=h;let⟨u,rfl,rx⟩:=_n r;cases rx;let⟨aw,r',pl,hz⟩:=I.xm hq;have hl:=pl.zD;have bZ:p<s.bj.f'.dS:=by let⟨_,e,_⟩:=hl;exact g0.xX e
 have hh:X.A.Ba.YV=none:=I.ok.hd hc;have wZ:aw.aj=ns.aj:=by have:=r'.aj;rw[w0a]at this;exact this.symm
 have t7:∀(i:aO)(v:d0),aw.l8[i]?=ab v->∃t,v=d0.aT (ns.hX i 0) t:=λi v hv=>by
  have oA:aw[i]?=ab v:=by simpa using hv
  have hi:i<ns.aj:=by rw[<- wZ];exact(w0b.mp oA).1
  let⟨u,hu,ru⟩:=r'.Ff (i:=i) (x:=V.aT (ns.hX i 0)) (by rw[w0s,w0c hi,yJ hi];rfl);rw[oA]at hu;cases hu;exact ru
 have fit:∀j,j<aw.l8.dS->InLong (ns.hX j 0)/\InLong (Υ (λi=>ns.hX i 0) (j+1)):=λj hj=>by
  have CZ:j<ns.aj:=by rw[w0e,wZ]at hj;exact hj
  have b1:=P4 (hb _ (w1j CZ));let⟨_,b2,b3⟩:=Lb ns hb (j+1);rw[yJ CZ];exact⟨⟨by omega,by omega⟩,⟨by omega,by omega⟩⟩
 refine call_sum_walk (Δ hl ⟨s.bj.f'.dS,[s.bj.f'.dS,p],[s.bj.f'.dS],_,_,_,λi=>ns.hX i 0,rfl,ξ.xm hh s.bj.f'.dS p (w0t bZ) aw.l8,⟨⟨_,g0.A2 _ rfl,rfl,rfl⟩,hl.tM _⟩,λb hb=>?_,t7,fit,λh' tk t' hk=>?_⟩)
 .show b<(s.bj.tM _).f'.dS;rw[g0.ZN];rcases w0i.mp hb with e|hb
  .rw[e];exact w4x _
  .rw[w1i.mp hb];exact w1s bZ
 .have e:Υ (λi=>ns.hX i 0) aw.l8.dS=ns._N:=by
   rw[(Lb ns hb _).1,w0e,wZ,w2a (w0f _)]
  refine⟨.aT ns._N,H,I.Yc (t':=tk) λb o ow=>hk b o (λz=>?_) (g0.w6 _ ow),⟨t',by rw[e]⟩,q⟩
  rw[w1i]at z;exact uz (g0.xX ow) (by rw[z];exact w2c _)
def nY:ai W->d3 W
 |[.dI ws]=>match dn ws with
  |ab ns=>if ns.aj<=1000/\(∀n∈ns,fW n=true)then ab (.aT ns._N)else none
  |_=>none
 |_=>none
def z6t:pO K (λxs H Q=>∃p,∃ns:ai a7,xs=[.dr p]/\bD K H p (ns.a6 V.aT)/\ns.aj<=1000/\(∀n∈ns,fW n=true)/\Q (.aT ns._N) H) nY:=by
 intro G H xs ws w Q s pr hf h;unfold nY at hf;split at hf
 .let⟨x,r,rfl,px,pr⟩:=pr;cases(show r=[]from pr);split at hf
  .rename_i ns lV;split at hf
   .rename_i hb;cases hf;let⟨a,cs,rfl,hq,rp⟩:=px;have:=BB lV rp;subst this;exact⟨a,ns,rfl,s.p7 hq,hb.1,hb.2,h G _ H (.t8 s) rfl⟩
   .cases hf
  .cases hf
 .cases hf
section
variable{EE:L2.St->XK}{gw:vW}
theorem Q3j(hc:X.MT=true)(hm:X.mg "sum"=none)(ha:DA Z X EE [e] dA)(hg:autoParam (Gl X "sum") jJ)(he:autoParam (pg [e] X.dt=(false,eval e X.dt)::pg [] X.dt) jJ)(dP:autoParam ((y0 gw (pg [] X.dt)).uJ (·.1)=false) jJ):DE Z X EE (.wO (.oh "sum" p) [e] [] gw) (bP nY dA):=
 yM (y6c hc) z6t CG.Fe._p.«sum» hm ha hg (by decide) (by decide) he dP
end
def RY{ns:ai a7}(h1:ns.aj<=1000)(h2:∀n∈ns,-1000000000000<=n/\n<=1000000000000):nY [.dI (ns.a6 .aT)]=ab (.aT ns._N):=by
 show(match dn (ns.a6 .aT)with|ab ns=>if ns.aj<=1000/\(∀n∈ns,fW n=true)then ab (W.aT ns._N)else none|_=>none)=_
 simp_all [KH,fW]
end D
namespace L2
open PySem PySem.Spec PyProof.Rows
section
variable{κ:Type} [ϔ κ]
def fJ(kvs:ai (κ×V))(k:κ):d3 V:=(kvs.Â λkv=>decide (kv.1=k)).a6 (·.2)
def ZA(kvs:ai (κ×V))(k:κ)(v:V):ai (κ×V):=
 if(kvs.uJ λkv=>decide (kv.1=k))=true then kvs.a6 (λkv=>if kv.1=k then(kv.1,v)else kv)else kvs++[(k,v)]
def BC{k:κ}(e:p.1=k):fJ (p::r) k=ab p.2:=by simp[fJ,w2i,e]
def BD{k:κ}(e:¬p.1=k):fJ (p::r) k=fJ r k:=by simp[fJ,w2i,e]
theorem J9(k):∀kvs:ai (κ×V),(kvs.uJ λkv=>decide (kv.1=k))=(fJ kvs k).z_
 |[]=>rfl
 |p::r=>by
  rw[w2w]
  by_cases e:p.1=k
  .simp_all [BC]
  .rw[BD e,YY e,ie.false_or];exact J9 k r
def NZ(kvs)(k:κ)(v):(ZA kvs k v).aj<=kvs.aj+1:=by
 grind [ZA]
def z0y{k:κ}(v)(h:fJ kvs k=none):ZA kvs k v=kvs++[(k,v)]:=by
 simp_all [ZA,J9]
def km.f_(r:km o u):o.z_=u.z_:=by
 cases o with
 |none=>cases u with
  |none=>rfl
  |ab _=>exact(show vk from r).oa
 |ab _=>cases u with
  |none=>exact(show vk from r).oa
  |ab _=>rfl
def KV.vV(r:KV kvs vs)(k:κ):km (fJ kvs k) (ú vs k):=by
 unfold KV at r
 induction r with
 |so=>exact j'.intro
 | @qT p q ps qs h t ih=>
  let⟨h1,h2⟩:=h
  by_cases e:p.1=k
  .have e':q.1=k:=h1.symm.kZ e;have b:ú (q::qs) k=ab q.2:=by simp[ú,w2i,e']
   rw[BC e,b];exact h2
  simp_all [ú,BD]
def KV.uJ(r:KV kvs vs)(k:κ):(kvs.uJ λkv=>decide (kv.1=k))=vs.uJ λkv=>decide (kv.1=k):=by
 unfold KV at r
 induction r with
 |so=>rfl
 |qT h t ih=>rw[w2w,w2w,ih,h.1]
def KV.xI(r:KV kvs vs)(k:κ)(ry:uI y u):
  KV (kvs.a6 λkv=>if kv.1=k then(kv.1,y)else kv) (vs.a6 λkv=>if kv.1=k then(kv.1,u)else kv):=by
 unfold KV at r |-
 induction r with
 |so=>exact .so
 | @qT p q ps qs h t ih=>
  rw[w0m,w0m];refine .qT ?_ ih
  grind
def KV.put(r:KV kvs vs)(k:κ)(ry:uI y u):KV (ZA kvs k y) (stored vs k u):=by
 unfold ZA stored;rw[r.uJ k]
 by_cases e:(vs.uJ λkv=>decide (kv.1=k))=true
 .rw[nZ e,nZ e];exact r.xI k ry
 .rw[r5 e,r5 e];exact Zw.ϐ r ⟨rfl,ry⟩
theorem KV.aj{kvs:ai (κ×V)}{vs:ai (κ×d0)}(r:KV kvs vs):kvs.aj=vs.aj:=Zw.aj r
end
variable{a b:fy}{H:Hp}{bc:ai fy}{sh:Sh}{σ:St}
def EY{P:xc}{w:vr}{k:Ya}{u:d0}(r:uI (kV k) u):(c9 P w).is k u=true:=by
 cases k with
 |jd i=>let⟨t,e⟩:=(show ∃t,u=d0.aT i t from r);subst e;exact zal P w i t
 |lb x=>let⟨t,e⟩:=(show ∃t,u=d0.str x t from r);subst e;exact zam P w x t
abbrev KT(sh:Sh)(H:Hp):ai (Kx×V)->ai (Kx×fy×d0)->Prop:=Zw λp q=>p.1=q.1/\(bV H p.1 (.dr q.2.1)/\fE p.1 sh/\p.1.ql<=7)/\uI p.2 q.2.2
def KT.vV(r:KT sh H kvs xs)(k):km (fJ kvs k) ((π xs k).a6 (·.2)):=by
 induction r with
 |so=>exact j'.intro
 | @qT p q ps qs h t ih=>
  let⟨h1,_,h2⟩:=h
  by_cases e:p.1=k
  .have e':q.1=k:=h1.symm.kZ e;have b:π (q::qs) k=ab q.2:=by simp[π,w2i,e']
   rw[BC e,b];exact h2
  simp_all [π,BD]
def KT.xI{kvs:ai (Kx×V)}{xs:ai (Kx×fy×d0)}(r:KT sh H kvs xs)(k:Kx){y:V}{u:d0}(ry:uI y u):
  KT sh H (kvs.a6 λkv=>if kv.1=k then(kv.1,y)else kv) (xs.a6 (ė k u)):=by
 induction r with
 |so=>exact .so
 | @qT p q ps qs h t ih=>
  rw[w0m,w0m];refine .qT ?_ ih;let⟨h1,h2,h3⟩:=h;unfold ė
  by_cases e:p.1=k
  .rw[nZ e,nZ (h1.symm.kZ e)];exact⟨h1,h2,ry⟩
  .rw[r5 e,r5 (λz=>e (h1.kZ z))];exact⟨h1,h2,h3⟩
def KT.put(r:KT sh H kvs xs)(k)(hb:bV H k (.dr b)/\fE k sh/\k.ql<=7)(ry:uI y u):
  KT sh H (ZA kvs k y) (ģ xs k b u):=by
 have e:(kvs.uJ λkv=>decide (kv.1=k))=(π xs k).z_:=by
  rw[J9,(r.vV k).f_,w3n]
 unfold ZA ģ;rw[e]
 by_cases q:(π xs k).z_=true
 .rw[nZ q,nZ q];exact r.xI k ry
 simp_all [Zw.ϐ]
def i0(kvs:ai (Kx×V))(bc:ai fy)(k:Kx)(b:fy):ai fy:=if(fJ kvs k).z_=true then bc else bc++[b]
def KT.i0{kvs:ai (Kx×V)}{xs:ai (Kx×fy×d0)}(r:KT sh H kvs xs)(ka:xs.a6 (·.2.1)=bc)(k:Kx){u:d0}:(ģ xs k b u).a6 (·.2.1)=L2.i0 kvs bc k b:=by
 unfold ģ L2.i0;rw[(r.vV k).f_,w3n]
 by_cases q:(π xs k).z_=true
 .rw[nZ q,nZ q,w0v,<- ka];refine w1o λx _=>?_
  show(ė k u x).2.1=x.2.1;unfold ė;split<;>rfl
 .rw[r5 q,r5 q,w0x,ka];rfl
theorem KT.YW(r:KT sh H kvs xs)(ht:∀b u,eC u->H b=ab u->H' b=ab u):KT sh H' kvs xs:=
 Zw.xf r λ_ _ z=>⟨z.1,⟨bV.YW ht _ z.2.1.1,z.2.1.2⟩,z.2.2⟩
section
variable{P:xc}{w:vr}{h:g0}
theorem SV(ok:eh P w H h)(e:Rd H a u):aU P w H h a u:=e.ok ok
theorem Cw(ok:eh P w H h)(e:Rd H a (.dK kvs)):kvs.aj<=wm/\(a==_y)=false/\∃vs,KV kvs vs/\h.ϖ (c9 P w) a vs:=
 show aU P w H h a (.dK kvs)from SV ok e
theorem SW(ok:eh P w H h)(e:H a=ab (.dK kvs)):kvs.aj<=wm/\(a==_y)=false/\∃vs,KV kvs vs/\h.ϖ (c9 P w) a vs:=Cw ok (.jd e)
def Z8.p7{aw:ai d0}(p:Z8 h a aw.l8):∃o n,h.ik a=ab o/\o.o4=.ke "tuple" /\ o.pJ=.p7 aw.l8 n:=by
 let⟨o,h1,h2,n,h3⟩:=p;exact⟨o,n,h1,h2,h3⟩
mutual
theorem bV.is(ok:eh P w H h):∀(k:Kx){x:V}{v:Value},bV H k x->RelV x v->o3 h k v
 |.aB,x,v,e,r=>by cases(show x=.aB from e);exact r
 |.bl b,x,v,e,r=>by cases(show x=.bl b from e);exact r
 |.int b,x,v,e,r=>by cases(show x=.int b from e);exact r
 |.str b,x,v,e,r=>by cases(show x=.str b from e);exact r
 |.tup ks,x,v,e,r=>by
  let⟨a,xs,rfl,q,rs⟩:=e;cases(show v=Value.ref a from r);let⟨_,aw,rv,p,_⟩:=(show aU P w H h a (.tup xs)from Rd.ok q ok);let⟨o,n,h1,h2,h3⟩:=IsTup.seq p;exact⟨a,o,aw.toArray,n,rfl,h1,h2,h3,by simpa using de.are ok ks rs rv⟩
theorem de.are(ok:eh P w H h):∀(ks:List Kx){xs:List V}{vs:List Value},de H ks xs->Vals xs vs->gY h ks vs
 |[],xs,vs,e,r=>by
  cases(show xs=[]from e);cases r;rfl
 |k::ks,xs,vs,e,r=>by
  let⟨x,r0,rfl,h1,h2⟩:=e;cases r with
  |cons q t=>exact⟨_,_,rfl,bV.is ok k h1 q,de.are ok ks h2 t⟩
end
theorem EI(ok:eh P w H h)(e:bV H k (.dr a)/\fE k sh/\k.ql<=7):(e9 P w sh).is h k a:=⟨bV.is ok k e.1 rfl,e.2⟩
def Cy{kvs:ai (Kx×V)}(ok:eh P w H h)(e:Rd H a (.dT sh kvs bc)):kvs.aj<=wm/\(a==_y)=false /\
  ∃xs,KT sh H kvs xs/\xs.a6 (·.2.1)=bc/\h.DictOfH (e9 P w sh) a xs:=by
 let⟨z,y,xs,r,ka,o,es,ep,h1,h2,h3,h4,h5⟩:=(show aU P w H h a (.dT sh kvs bc)from SV ok e);refine⟨z,y,xs,r,ka,o,es,ep,h1,h2,h3,h4,λx hx=>?_,h5⟩
 have t9:∀{l:ai (Kx×V)}{m:ai (Kx×fy×d0)},KT sh H l m->∀x∈m,(e9 P w sh).is h x.1 x.2.1:=by
  intro l m q
  induction q with
  |so=>intro x hx;exact nomatch hx
  | @qT p q ps qs hq t ih=>
   intro x hx;rcases w0i.mp hx with e|hx
   .subst e;exact EI ok (by rw[<- hq.1];exact hq.2.1)
   .exact ih x hx
 exact t9 r x hx
theorem UP(ok:eh P w H h)(e:H a=ab (.dT sh kvs bc)):kvs.aj<=wm/\(a==_y)=false /\
  ∃xs,KT sh H kvs xs/\xs.a6 (·.2.1)=bc/\h.DictOfH (e9 P w sh) a xs:=Cy ok (.jd e)
end
def fL(H:Hp)(a:fy)(y:V)(r:d3 V):Prop:=
 (∃kvs k,Rd H a (.dK kvs)/\y=kV k/\r=fJ kvs k)\/∃sh kvs bc k b,Rd H a (.dT sh kvs bc)/\y=.dr b/\(bV H k (.dr b)/\fE k sh/\k.ql<=7)/\r=fJ kvs k
def l3(H:Hp)(a:fy)(y v:V)(H':Hp):Prop:=
 (∃kvs k,H a=ab (.dK kvs)/\y=kV k/\kvs.aj<wm/\H'=oL H a (.dK (ZA kvs k v))) \/
 ∃sh kvs bc k b,H a=ab (.dT sh kvs bc)/\y=.dr b/\(bV H k (.dr b)/\fE k sh/\k.ql<=7)/\kvs.aj<wm/\H'=oL H a (.dT sh (ZA kvs k v) (i0 kvs bc k b))
theorem fL.k{kvs:ai (Ya×V)}{k:Ya}(e:H a=ab (.dK kvs)):fL H a (kV k) (fJ kvs k):=.jd ⟨kvs,k,.jd e,rfl,rfl⟩
theorem fL.t{kvs:ai (Kx×V)}{k:Kx}(e:Rd H a (.dT sh kvs bc))(eb:bV H k (.dr b)/\fE k sh/\k.ql<=7):fL H a (.dr b) (fJ kvs k):=.lb ⟨sh,kvs,bc,k,b,e,rfl,eb,rfl⟩
theorem l3.k{kvs:ai (Ya×V)}{k:Ya}{v:V}(e:H a=ab (.dK kvs))(hl:kvs.aj<wm):l3 H a (kV k) v (oL H a (.dK (ZA kvs k v))):=.jd ⟨kvs,k,e,rfl,hl,rfl⟩
theorem l3.t{kvs:ai (Kx×V)}{k:Kx}{v:V}(e:H a=ab (.dT sh kvs bc))(eb:bV H k (.dr b)/\fE k sh/\k.ql<=7)(hl:kvs.aj<wm):
  l3 H a (.dr b) v (oL H a (.dT sh (ZA kvs k v) (i0 kvs bc k b))):=.lb ⟨sh,kvs,bc,k,b,e,rfl,eb,hl,rfl⟩
def j3.big(I:j3 X dN σ H s):_y<s.bj.f'.dS:=by
 have h:Yi<s.bj.f'.dS:=(I.Yv._i.YW I.bk).lt;exact aO.lt_trans (by decide) h
def J_{A:C_}(hu:A.zd+20<zm):(e9 P w sh).room A.Ba:=by
 show A.Ba.zd+8<zm
 grind
def y6e(hu:A.zd+20<zm)(I:j3 X dN σ H s)(g:fL H a y (ab v))(ry:uI y u)(h:∀w' s',j3 X dN σ H s'->uI v w'->Q w' s'):
  oP (qX X.je X.w) A (ϋ (.dr a) u) Q E s:=by
 rcases g with⟨kvs,k,e,ey,l⟩|⟨sh,kvs,bc,k,b,e,ey,eb,l⟩
 .subst ey;let⟨z,hd,vs,mQ,dd⟩:=Cw I.aQ e;let⟨w',hw,uE⟩:=km.Ū (v:=v) (o:=ú vs k) (by rw[l];exact mQ.vV k);exact zd6 (EY ry) dd.mapOf hw (h w' _ (I.Ym _) uE)
 .subst ey;cases(show u=d0.dr b from ry);let⟨z,hd,xs,mQ,_,dd⟩:=Cy I.aQ e;let⟨w',hw,uE⟩:=km.Ū (v:=v) (o:=(π xs k).a6 (·.2)) (by rw[l];exact mQ.vV k);let⟨p,hp,Gk⟩:=w0j.mp hw;refine wpAny_getItem_heap (J_ hu) (EI I.aQ eb) dd hp ?_;rw[Gk];exact h w' _ (I.Ym _) uE
def z6u(hu:A.zd+20<zm)(I:j3 X dN σ H s)(g:fL H a y o)(ry:uI y u)(h:∀s',j3 X dN σ H s'->Q (.xN (!o.z_)) s'):
  oP (qX X.je X.w) A (ZI .Z9 u (.dr a)) Q E s:=by
 rcases g with⟨kvs,k,e,ey,l⟩|⟨sh,kvs,bc,k,b,e,ey,eb,l⟩
 .subst ey;let⟨z,hd,vs,mQ,dd⟩:=Cw I.aQ e;refine wpAny_notIn_of (EY ry) hd dd.mapOf ?_;rw[<- (mQ.vV k).f_,<- l];exact h _ (I.Ym _)
 .subst ey;cases(show u=d0.dr b from ry);let⟨z,hd,xs,mQ,_,dd⟩:=Cy I.aQ e;refine wpAny_notIn_heap (J_ hu) (EI I.aQ eb) hd dd ?_;have q:=(mQ.vV k).f_;rw[w3n]at q;rw[<- q,<- l];exact h _ (I.Ym _)
theorem KI(I:j3 X dN σ H s)(mu:zu (H a))(hs:g0.Z_ a s.bj h')(he:∃q,h'.ik a=ab q)(vd:aU X.je X.w (oL H a ob) h' a ob):
  j3 X dN σ (oL H a ob) {s with bj:=h',tK:=t'}:=
 I.Zl (x:=a) (e:=a) mu (.jd rfl) (λb q hb z=>(hs.2 b hb).kZ z) he vd
theorem RZ(z:kvs.aj<=wm)(hd:(a==_y)=false)(mQ:KV kvs vs)(dd:h'.ϖ (c9 P w) a vs):
  aU P w H' h' a (.dK kvs):=⟨z,hd,vs,mQ,dd⟩
def y6g(hu:A.zd+20<zm)(I:j3 X dN σ H s)(g:l3 H a y v H')(ry:uI y u)(rv:uI v r)(h:∀s',j3 X dN σ H' s'->Q () s'):
  oP (qX X.je X.w) A (ě (.dr a) u r) Q E s:=by
 rcases g with⟨kvs,k,e,ey,l,eH⟩|⟨sh,kvs,bc,k,b,e,ey,eb,l,eH⟩
 .subst ey eH;let⟨z,hd,vs,mQ,dd⟩:=SW I.aQ e;have hz:vs.aj<=wm:=by grind [KV.aj]
  have hl:(ZA kvs k v).aj<=wm:=by grind [NZ]
  refine wpAny_setItem_pairs (hsz:=hz) (EY ry) dd λh' wo hs=>h _ ?_
  have he:∃q,h'.ik a=ab q:=let ⟨q,_,_,hq,_⟩:=wo;⟨q,hq⟩;exact KI I (by rw[e];exact j'.intro) hs he (RZ hl hd (mQ.put k rv) wo)
 .subst ey eH;cases(show u=d0.dr b from ry);let⟨z,hd,xs,mQ,ka,dd⟩:=UP I.aQ e;have hz:xs.aj<=wm:=by grind [Zw.aj]
  have hl:(ZA kvs k v).aj<=wm:=by grind [NZ]
  refine wpAny_setItem_heap (hsz:=hz) (J_ hu) (EI I.aQ eb) dd λh' wo hs=>h _ ?_
  let⟨q,es,ep,hq,h2,h3,h4,_,h5⟩:=wo;refine KI I (by rw[e];exact j'.intro) hs ⟨q,hq⟩ ⟨hl,hd,_,(mQ.put k eb rv).YW λc u ys ec=>?_,mQ.i0 ka k,q,es,ep,hq,h2,h3,h4,h5⟩
  rw[aN (eR ec e (λz=>by subst z;exact ys))]
  exact ec
def UQ{Q:d0->p5->Prop}(I:j3 X dN σ H s)(e:Rd H a (.dK kvs))(h:∀t s',j3 X dN σ H s'->Q (.aT kvs.aj t) s'):oP (qX X.je X.w) A (zb (.w4 "len") [.dr a]) Q E s:=by
 let⟨z,hd,vs,mQ,dd⟩:=Cw I.aQ e;refine call_len_dict hd dd (by rw[<- mQ.aj];rw[LP]at z;omega) ?_;rw[<- mQ.aj];exact h _ _ (I.Ym _)
def tw(i:p6):Prop:=∀ov iv,ħ i false ov iv=š [ov,iv] (ϋ ov iv)
def z6v{id:Yq}
  (hl:ĭ (.ke T) "__getitem__"=vX (ab (.w4 id)))(hs:tw Z4)
  (h:oP (qX je w) A (eval ZC dt) (λo aD=>oP (qX je w) A (eval Z4 dt) (λi mP=>mP._S o T/\oP (qX je w) A (ϋ o i) Q E mP) E aD) E s):
  oP (qX je w) A (eval (.Yb ZC Z4 gw) dt) Q E s:=by
 refine ŀ (Zs h (λo aD dU=>Zs dU (λi mP wN=>?_) λ_ _ x=>x) λ_ _ x=>x)
 let⟨hT,wN⟩:=wN;unfold ŭ;refine ny ?_;rw[getitemInPython_of_ne hT.not_modules];refine ny (ĵ hT hl ?_)
 have xT:oP (qX je w) A (ħ Z4 false o i) (λr B_=>oP (qX je w) A (letTemporaryGo ZC o r >>= λ_=>vX r) Q E B_) E mP:=by
  rw[hs o i];exact wpAny_operating (Zs wN (λr B_ GB=>ny (wpAny_letTemporaryGo (ui GB))) λ_ _ x=>x)
 grind [ui,ny]
def zaq(I:j3 X dN σ H s)(g:fL H a y o):s._S (.dr a) "dict":=by
 rcases g with⟨kvs,k,e,_,_⟩|⟨sh,kvs,bc,k,b,e,_,_,_⟩
 .let⟨_,_,vs,_,dd⟩:=Cw I.aQ e;exact dd.Zr
 .let⟨_,_,xs,_,_,dd⟩:=Cy I.aQ e;exact dd.Zr
def Cc(td ty:TE):TE:=λσ H Q=>td σ H λx H1=>ty σ H1 λy H2=>∃a v,x=.dr a/\fL H2 a y (ab v)/\Q v H2
def zdL(ty td:TE):TE:=λσ H Q=>ty σ H λy H1=>td σ H1 λx H2=>∃a o,x=.dr a/\fL H2 a y o/\Q (.bl (!o.z_)) H2
def B8(td ty tv:TE):TS:=λD σ H=>tv σ H λv H1=>td σ H1 λx H2=>ty σ H2 λy H3=>∃a H4,x=.dr a/\l3 H3 a y v H4/\D.nx σ H4
def Qw(hu:X.A.zd+20<zm)(ho:PE X o td)(hi:PE X i ty)(hs:tw i):PE X (.Yb o i gw) (Cc td ty):=by
 intro dN s σ H Q I h;refine z6v n9.F.zdr.g6 hs (bq (ho dN s σ H _ I h) λu s1 ⟨x,H1,I1,rx,q1⟩=>bq (hi dN s1 σ H1 _ I1 q1) λiv s2 ⟨y,H2,I2,ry,a,v,ex,g,q2⟩=>?_)
 subst ex;obtain rfl:u=d0.dr a:=rx;exact⟨zaq I2 g,y6e hu I2 g ry λw' s3 I3 uE=>⟨v,H2,I3,uE,q2⟩⟩
def OG(hu:X.A.zd+20<zm)(hi:PE X i ty)(ho:PE X o td):PC X .Z9 i o (zdL ty td):=by
 intro dN s σ H Q I h;refine bq (hi dN s σ H _ I h) λiv s1 ⟨y,H1,I1,ry,q1⟩=>bq (ho dN s1 σ H1 _ I1 q1) λu s2 ⟨x,H2,I2,rx,a,ov,ex,g,q2⟩=>?_
 subst ex;obtain rfl:u=d0.dr a:=rx;exact z6u hu I2 g ry λs3 I3=>⟨.bl (!ov.z_),H2,I3,rfl,q2⟩
def Qx(hu:X.A.zd+20<zm)(ho:PE X o td)(hi:PE X i ty)(hv:PE X ZC tv)(hs:Zk ZC (ab (.Yb o i Yw)) gw.Yd X.dt=vX false):
  PS X (.Zu [.Yb o i Yw] ZC gw) (B8 td ty tv):=by
 intro dN s σ H D I h;refine wpAny_Assign_Subscript (bq (hv dN s σ H _ I h) λr s1 ⟨v,H1,I1,rv,q1⟩=>bq (ho dN s1 σ H1 _ I1 q1) λu s2 ⟨x,H2,I2,rx,q2⟩=>bq (hi dN s2 σ H2 _ I2 q2) λiv s3 ⟨y,H3,I3,ry,a,H4,ex,g,q3⟩=>?_) hs
 subst ex;obtain rfl:u=d0.dr a:=rx;exact y6g hu I3 g ry rv λs4 I4=>⟨σ,H4,I4,q3⟩
theorem z0z(h:g0)(hb:_y<h.f'.dS):aU P w H (h.tM {o4:=.ke "dict", pJ:=.xg #[]}) h.f'.dS (.dK []):=
 ⟨w1g _,϶.wa (Ne.symm (w0t hb)),[],.so,g0.ϖ.vd h⟩
theorem z00(h:g0)(hb:_y<h.f'.dS):aU P w H (h.tM {o4:=.ke "dict", pJ:=.xg #[]}) h.f'.dS (.dT sh [] []):=
 ⟨w1g _,϶.wa (Ne.symm (w0t hb)),[],.so,rfl,_,#[],0,g0.A2 _ rfl,⟨rfl,rfl,rfl⟩,rfl,rfl,ai.nodup_nil⟩
def zen(sh:Sh):TE:=λ_ H Q=>∀p,H p=none->Q (.dr p) (oL H p (.dT sh [] []))
theorem z01:PE X (.ϕ [] [] gw) (zen sh):=λdN s σ H Q I h=>
 wpAny_Dict_empty ⟨.dr s.bj.f'.dS,_,I.JN (a:=s.bj.f'.dS) (o:=.dT sh [] []) (t':=s.tK) (λ_ _ q=>g0.w6 _ q) (w0f _) (z00 s.bj I.big),rfl,h _ (I.aQ.xK (w0f _))⟩
def j3.Ů(I:j3 X dN σ H s)(e:H a=ab u)(ht:¬eC u)(hb:∀ps,u≠.n0 ps)(hf:∀o v,X.aF a≠ab (.cK o v))(hw:∀x,u≠.ku x)(ok:eh X.je X.w H s.bj->aU X.je X.w (oL H a u') s.bj a u'):j3 X dN σ (oL H a u') s:=by
 have up:∀b,H b=none->oL H a u' b=none:=λb n=>by
  grind [aN]
 refine⟨I.ok,I.os,I.Td,⟨I.k_.xW,I.k_.xM,λb ob q n hx=>up b (I.k_.tD b ob q n hx),I.k_.Zp,λb xs q=>?_,λb ob v q=>?_,λb ps q=>?_⟩,I.Zi,I.uL,up _ I.tD,λx c q=>up c (I.fu x c q),λp hp=>?_,λb v q=>?_,I.uN⟩
 .have z:=I.k_.iD b xs q
  grind [eC,aN]
 .by_cases ml:b=a
  .grind
  .rw[aN ml];exact I.k_.aX b ob v q
 .let⟨_v,z⟩:=I.k_.fX b ps q
  grind [aN]
 .let⟨q1,q2,q3⟩:=I.YS p hp
  grind
 .by_cases ml:b=a
  .grind [bN,aQ]
  .rw[aN ml]at q;refine(I.aQ b v q).cF (λ_ _ _ z=>z) (λc z=>?_) λc xs tl z=>?_
   all_goals grind [aN]
theorem j3.lx(I:j3 X dN σ H s)(e:H a=ab (.dI xs))(q:s.bj.ik a=ab o):j3 X dN σ (oL H a (.cK o (.dI xs))) s:=
 I.Ů e (λz=>z) (λ_ z=>nomatch z) (λob v z=>by have:=I.k_.aX a ob v z;grind) (λ_ z=>nomatch z) λok=>⟨q,(ok a _ e).cF (λ_ _ _ z=>z) (λc z=>by rw[aN (eR z e (λy=>nomatch y))];exact z) λc xs tl z=>by rw[aN (eR z e (λy=>by subst y;exact tl))];exact z⟩
theorem j3.vn(I:j3 X dN σ H s)(e:H a=ab (.cK o (.dI xs)))(hf:∀o v,X.aF a≠ab (.cK o v)):j3 X dN σ (oL H a (.dI xs)) s:=
 I.Ů e (λz=>z) (λ_ z=>nomatch z) hf (λ_ z=>nomatch z) λok=>(ok a _ e).2.cF (λ_ _ _ z=>z) (λc z=>by rw[aN (eR z e (λy=>nomatch y))];exact z) λc xs tl z=>by rw[aN (eR z e (λy=>by subst y;exact tl))];exact z
def z6w(hl:PE X l tl):PE X l (λσ H Q=>tl σ H λv H1=>∃a xs,v=.dr a/\H1 a=ab (.dI xs)/\∀o,Q v (oL H1 a (.cK o (.dI xs)))):=by
 intro dN s σ H Q I h;refine bq (hl dN s σ H _ I h) λv s1 ⟨x,H1,I1,r1,q1⟩=>?_
 let⟨a,xs,rfl,e,q⟩:=q1;let⟨aw,_,⟨o,n,g,_⟩,_⟩:=I1.xm (bD.of e);exact⟨.dr a,_,I1.lx e g,r1,q o⟩
end L2
namespace D
open PySem L2 PySem.Spec PyProof.Rows
open PyProof.Rows (envOfC)
section
variable{X:Cx}{Z:Zt}{EE:L2.St->XK}{a b c e:p6}{es:ai p6}{da db d:iw W}{dF dA:iw (ai W)}{x:et}{gw p gq:vW}
def ma(da db:iw W)(dF:iw (ai W)):ai S->SR:=λe=>(da e).cH λu e1=>(db e1).cH λv e2=>(dF e2).cH λws e3=>.rt (.dW [u,v] ws []) e3
def z6x{x1}(nE:Z.io=[])(ha:DE Z X EE a da)(hb:DE Z X EE b db)(hc:DF Z X EE c dF)
  (h1:autoParam (pg [a,b,c] X.dt=(false,eval a X.dt)::pg [b,c] X.dt) jJ)(h2:autoParam (pg [b,c] X.dt=(false,eval b X.dt)::pg [c] X.dt) jJ)(h3:autoParam (pg [c] X.dt=(false,eval c X.dt)::pg [] X.dt) jJ):
  DS Z X EE (.ϟ (ab (.Yg [a,b,c] x1 gq)) gw) (ma da db dF):=by
 refine PS.k8 (BQ (K9 (rG ha (rG hb (rG (z6w hc) xC h3) h2) h1))) ?_;rintro D σ H ⟨G,e,mQ,h⟩;refine⟨G,e,mQ,(i3 h).uM (λu e1 h G1 v1 H1 r1 s1 p1=>?_) λ_ _ h=>h⟩
 refine⟨G1,e1,r1,(i3 (σ:=σ) h).uM (λv e2 h G2 v2 H2 r2 s2 p2=>?_) λ_ _ h=>XH.kZ s1 h⟩
 refine⟨G2,e2,r2,(i3 (σ:=σ) h).uM (λws e3 h G3 l xs H3 r3 s3 q1 q2 q3 q4 p3=>?_) λ_ _ h=>XH.kZ (s1.kZ s2) h⟩
 refine⟨l,xs,rfl,q1,λo=>⟨by rw[LP];show 3<=16777216;decide,λt ht=>?_⟩⟩
 have r4:=r3.lJ (o:=.cK o (.dI xs)) q2 q3 (by rw[nE];exact λz=>nomatch z) q4 q1
 have AD:l≠t:=λz=>by subst z;rw[bN]at ht;cases ht
 have g:=aK.JN r4.p9 ht (.gs [v1,v2,.dr l]);have NL:=s2.kZ s3;refine h _ σ (.dr t) _ (r4.zR g) ((s1.kZ NL).kZ g.gg) ⟨t,l,o,[v1,v2],xs,[],rfl,bN,?_,?_,q3,?_,ah.k8 g.gg ws p3,rfl⟩
 .rw[aN AD,bN]
 .rw[aN AD];exact q2
 .exact⟨v1,[v2],rfl,qk.k8 (NL.kZ g.gg) u p1,v2,[],rfl,qk.k8 (s3.kZ g.gg) v p2,rfl⟩
def xQ(i:aO)(e:ai S):FR->SR
 |.ok (.dW us ws vs)=>.nx (e.rk i (.dW us ws vs))
 |_=>.no
def md(i:aO)(F:ai W->FR)(dA:iw (ai W)):ai S->SR:=λe=>(dA e).cH λws e1=>xQ i e1 (F ws)
def pZ.zej{K:Fg}{G H:Hp}{σ:L2.St}{e:ai S}(r:pZ K Z G σ H e){i:aO}{us ws vs:ai W}{v:V}(q:c7 K Z G H (.dW us ws vs) (ab v)):pZ K Z G (σ.rk i (ab v)) H (e.rk i (.dW us ws vs)):=by
 refine⟨r.p9,λj s z=>?_,by simpa using r.uN,λj k b1 b2 w1 w2 c z1 z2 z3 z4=>?_,r.VB,r.kz,r.gen⟩
 .by_cases hj:j=i
  .subst hj
   have hi:j<e.aj:=by
    have:=(w0b.mp z).1;simpa using this
   rw[w0k hi]at z;cases z;rw[w0k (by rw[<- r.uN];exact hi)];exact q
  .rw[w0h (λz=>hj z.symm)]at z |-
   exact r.xM j s z
 .have w5:∀(k:aO)(bb:d3 aO)(ww:ai W),(e.rk i (S.dW us ws vs))[k]?=ab (.ku bb ww)->k≠i/\e[k]?=ab (.ku bb ww):=λk bb ww z=>by
   by_cases hk:k=i
   .subst hk
    have hi:k<e.aj:=by
     have:=(w0b.mp z).1;simpa using this
    rw[w0k hi]at z;cases z
   .rw[w0h (λz=>hk z.symm)]at z;exact⟨hk,z⟩
  let⟨n1,q1⟩:=w5 _ _ _ z1;let⟨n2,q2⟩:=w5 _ _ _ z2;rw[w0h (λz=>n1 z.symm)]at z3
  rw[w0h (λz=>n2 z.symm)]at z4
  exact r.kq _ _ _ _ _ _ _ q1 q2 z3 z4
def z6y(i:aO){f:et}{k:aO}{ps:ai et}{F:ai W->FR}{np bh:vW}(hN:X.N.xZ)(C:sv X.je X.w X.K X.mg X.k_ k f ps (oR X.K F))(hr:br k X.A)(hx:eW (fe X.je X.w) X EE)(ha:DA Z X EE (e::es) dA)(hg:autoParam (Gl X f) jJ)
  (jT:autoParam ((f==("__debug__":et))=false) jK)(he:autoParam (pg (e::es) X.dt=(false,eval e X.dt)::pg es X.dt) jJ)(dP:autoParam ((y0 bh (pg es X.dt)).uJ (·.1)=false) jJ)
  (hi:autoParam (X.N[i]?=ab x) jJ)(hl:autoParam (YU X.dt.fv x) jM)(hs:autoParam (Zk (.wO (.oh f np) (e::es) [] bh) (ab (.oh x p)) gw.Yd X.dt=vX false) jJ)(hf:autoParam (X.fn x=true\/X.dt.fv.qW.g6 x=ab .local) jL):
  DS Z X EE (.Zu [.oh x p] (.wO (.oh f np) (e::es) [] bh) gw) (md i F dA):=by
 refine PS.k8 (yP i hN (K_ C hr hx ha hg jT he dP) hi hl hs hf) ?_;rintro D σ H ⟨G,e,mQ,h⟩;refine⟨G,e,mQ,(i3 h).uM (λws e1 h G1 vs H1 r1 s1 p1=>?_) λ_ _ h=>h⟩
 refine⟨G1,ws,r1.p9,by rw[w1q];exact p1,?_⟩;cases q:F ws with
 |ok s=>
  rw[q]at h;intro G' H' v g sl;cases s with
  |dW us ws' NV=>
   have r2:=r1.zR g;let⟨t,l,o,xs,ys,zs,h1,h2,h3,h4,h5,h6⟩:=sl;cases h1;exact h G' _ H' (r2.zej ⟨t,l,o,xs,ys,zs,rfl,h2,h3,h4,pF r1 h5,h6⟩) (s1.kZ g.gg)
  |_=>exact h.oa
 |ex c=>rw[q]at h;exact h.oa
 |no=>rw[q]at h;exact h.oa
def kN:S->ie
 |.dW _ _ _=>true
 |.YL _=>true
 |.x (.tG _)=>true
 |.x (.n5 _ _ _)=>true
 |.x (.tn _ _)=>true
 |.x (.pt _ _ _)=>true
 |.x (.fz _)=>true
 |.x (.ym _)=>true
 |_=>false
def pZ.GS{K:Fg}{G H:Hp}{σ:L2.St}{e:ai S}{l:fy}{o:sT}{ys:ai V}{u:HO}(r:pZ K Z G σ H e)(hl:H l=ab (.cK o (.dI ys)))(hg:G l=none)(hz:Z.H l=none)(hT:∀s∈e,kN s=false):pZ K Z G σ (oL H l u) e:=by
 refine⟨λc u z=>?_,λj s z=>?_,r.uN,r.kq,λc u z n=>?_,λc z=>?_,r.gen⟩
 .rw[aN (gU z hg)];exact r.p9 c u z
 .have y:=r.xM j s z;cases s with
  |no=>trivial
  |fr w=>exact y
  |ku b2 w2=>
   let⟨c,ys,y1,y2,y3,y4,y5⟩:=y;refine⟨c,ys,y1,?_,y3,y4,y5⟩;rw[aN (eR y2 hl (λz=>nomatch z))];exact y2
  |aV kvs=>
   let⟨c,y1,y2,y3,y4⟩:=y;refine⟨c,y1,?_,y3,y4⟩;rw[aN (eR y2 hl (nS rfl))];exact y2
  |dW us ws vs=>have:=hT _ (w0w z);cases this
  |YL _=>have:=hT _ (w0w z);cases this
  |x k=>
   have hk:=hT _ (w0w z);cases k with
   |w5 _=>exact y
   |vd _=>exact y
   |_=>cases hk
  |dw sh ks ws=>exact gH.yy y (.t8 _) λl o ys k1 k2 k3=>⟨by rw[aN (eR k1 hl (rD rfl))];exact k1,k2,k3⟩
 .rw[aN (gU z hz)];exact r.VB c u z n
 .by_cases hc:c=l
  .subst hc;rw[bN];exact λz=>nomatch z
  .rw[aN hc];exact r.kz c z
end
variable{K:Fg}
mutual
noncomputable def cq:W->Bool
 |.aB=>true
 |.bl _=>true
 |.int _=>true
 |.str _=>true
 |.tup ws=>cU ws
 |_=>false
noncomputable def cU:List W->Bool
 |[]=>true
 |w::ws=>cq w&&cU ws
end
mutual
theorem z02{K:Fg}{G G':Hp}(hG:∀a xs,bK K G a xs->bK K G' a xs):∀(w:W){v:V},cq w=true->Rep K G w v->Rep K G' w v
 |.aB,_,_,p=>p
 |.bl _,_,_,p=>p
 |.int _,_,_,p=>p
 |.str _,_,_,p=>p
 |.tup ws,_,h,⟨a,xs,e,q,r⟩=>⟨a,xs,e,hG _ _ q,Jt hG ws h r⟩
 |.lst _,_,h,_=>by cases h
 |.exc _,_,h,_=>by cases h
 |.aV _,_,h,_=>by cases h
 |.dw _ _ _ _,_,h,_=>by cases h
 |.fn _ _ _,_,h,_=>by cases h
theorem Jt{K:Fg}{G G':Hp}(hG:∀a xs,bK K G a xs->bK K G' a xs):∀(ws:List W){vs:List V},cU ws=true->ah K G ws vs->ah K G' ws vs
 |[],_,_,p=>p
 |w::ws,_,h,⟨x,r,e,p,q⟩=>by
  have h:(cq w&&cU ws)=true:=h;rw[w0q]at h;exact⟨x,r,e,z02 hG w h.1 p,Jt hG ws h.2 q⟩
end
def fw:HO->ie
 |.gs _=>true
 |.cK _ (.gs _)=>true
 |_=>false
def P5:fw (mU sh kvs bc)=false:=by unfold mU;split<;>rfl
def cI(G G2:Hp):Hp:=λa=>match G a with
 |ab o=>ab o
 |none=>match G2 a with
  |ab o=>if fw o=true then ab o else none
  |none=>none
def cy(Z:Zt)(G H:Hp):Hp:=λa=>match Z.H a with
 |ab _=>G a
 |none=>H a
def pZ.AR(r:pZ K Z G σ H e0)(nE:Z.io=[]):pZ K ⟨H,cy Z G H,[]⟩ (cy Z G H) σ H (bF e0):=by
 have sg:ao G (cy Z G H):=λa o h=>by
  unfold cy;cases q:Z.H a with
  |none=>exact r.p9 a o h
  |ab _=>exact h
 have xK:∀a o,Z.H a=none->H a=ab o->cy Z G H a=ab o:=λa o h1 h2=>by
  unfold cy;rw[h1];exact h2
 have g:∀(i:aO)(s:S),(bF e0)[i]?=ab s->∃s0,e0[i]?=ab s0/\s=dM s0:=λi s h=>by
  unfold bF at h;rw[w0s]at h;let⟨s0,h1,h2⟩:=w0j.mp h;exact⟨s0,h1,h2.symm⟩
 refine⟨λa o h=>?_,λi s h=>?_,by unfold bF;rw[w0a];exact r.uN,λi j b b' ws ws' a h1 _ _ _=>?_,λa o h _=>h,(λa h=>nomatch h),λa _=>rfl⟩
 .unfold cy at h;cases q:Z.H a with
  |none=>rw[q]at h;exact h
  |ab _=>rw[q]at h;exact r.p9 a o h
 .let⟨s0,h0,rfl⟩:=g i s h;have q:=r.xM i s0 h0;cases s0 with
  |no=>trivial
  |fr w=>
   let⟨u,q1,q2⟩:=q;exact⟨u,q1,qk.k8 sg w q2⟩
  |ku b ws=>
   let⟨a,xs,q1,q2,q3,q4,q5⟩:=q
   have hz:Z.H a=none:=by
    cases b with
    |none=>exact q4
    |ab j=>have q4:a∈Z.io:=w0w q4;rw[nE]at q4;cases q4
   exact⟨.dr a,q1,a,xs,rfl,bD.of (xK _ _ hz q2),ah.k8 sg ws q5⟩
  |aV kvs=>
   let⟨a,q1,q2,_,q4⟩:=q;exact⟨.dr a,q1,a,rfl,xK _ _ q4 q2⟩
  |dW us ws vs=>
   let⟨t,l,o,xs,ys,zs,q1,q2,q3,_,q5,q6,q7,q8⟩:=q;exact⟨.dr t,q1,t,_,rfl,bK.of (sg _ _ q2),(ah.k8 sg us q6).Wi ⟨.dr l,zs,rfl,⟨l,ys,rfl,.jd (.lb ⟨o,xK _ _ q5 q3⟩),ah.k8 sg ws q7⟩,ah.k8 sg vs q8⟩⟩
  |YL cb=>
   let⟨a,ls,q1,q2,_,q4⟩:=q;exact⟨.dr a,q1,a,_,rfl,bD.of (sg _ _ q2),q4.ed sg λl o ys z=>xK _ _ z.2.2 z.1⟩
  |x k=>
   cases k with
   |w5 w=>let⟨u,q1,_,q2⟩:=q;exact⟨u,q1,qk.k8 sg w q2⟩
   |vd w=>let⟨u,q1,q2⟩:=q;exact⟨u,q1,qk.k8 sg w (dR.yW w q2)⟩
   |tG ws=>let⟨a,o,xs,q1,q2,q3⟩:=q;exact⟨.dr a,q1,a,xs,rfl,.jd (.lb ⟨o,xK _ _ q2.2.2 q2.1⟩),ah.k8 sg ws (aY.ed ws q3)⟩
   |n5 us ws vs=>
    let⟨t,l,o,xs,ys,zs,q1,_,q2,q3,_,q6,q7,q8⟩:=q;exact⟨.dr t,q1,t,_,rfl,bK.of (sg _ _ q2),(ah.k8 sg us q6).Wi ⟨.dr l,zs,rfl,⟨l,ys,rfl,.jd (.lb ⟨o,xK _ _ q3.2.2 q3.1⟩),ah.k8 sg ws q7⟩,ah.k8 sg vs q8⟩⟩
   |tn us cb=>
    let⟨t,l,o,ls,xs,q1,q2,q3,_,q5,q6⟩:=q;exact⟨.dr t,q1,t,_,rfl,bK.of (sg _ _ q2),(ah.k8 sg us q5).Wi ⟨.dr l,[],rfl,⟨l,_,rfl,.jd (.lb ⟨o,xK _ _ q3.2.2 q3.1⟩),q6.ed sg λl o ys z=>xK _ _ z.2.2 z.1⟩,rfl⟩⟩
   |pt _ _ _=>trivial
   |fz w=>let⟨u,as,q1,_,q3⟩:=q;exact⟨u,q1,ei.yW sg (λl o ys z=>xK _ _ z.2.2 z.1) w q3⟩
   |ym w=>let⟨u,as,q1,_,_,q3⟩:=q;exact⟨u,q1,ei.yW sg (λl o ys z=>xK _ _ z.2.2 z.1) w q3⟩
  |dw sh ks ws=>
   let⟨a,kvs,bc,q1,q2,_,q4,q5,q6,q7⟩:=q;exact⟨.dr a,q1,a,kvs,bc,rfl,xK _ _ q4 q2,q5,q6.k8 sg,ah.k8 sg ws q7.ed⟩
 .let⟨s0,_,h2⟩:=g i _ h1;cases s0 with
  |x k=>cases k<;>cases h2
  |_=>cases h2
def pZ.sf(r:pZ K Z G σ H e0)(nE:Z.io=[])(r2:pZ K ⟨H,cy Z G H,[]⟩ G2 σ H2 e2):pZ K Z (cI G G2) σ H2 e0:=by
 have hh:ao H H2:=λa o h=>r2.VB a o h (λz=>nomatch z)
 have sg:ao G (cI G G2):=λa o h=>by unfold cI;rw[h]
 have cF:∀a o,H a=ab o->G a=none->fw o=false->cI G G2 a=none:=λa o h1 h2 h3=>by
  have z:G2 a=cy Z G H a:=r2.gen a (by grind)
  grind [cI,cy]
 refine⟨λa o h=>?_,λi s h=>?_,r.uN,r.kq,λa o h n=>hh _ _ (r.VB a o h n),λa h=>(by rw[nE]at h;cases h),λa h=>?_⟩
 .unfold cI at h;cases q:G a with
  |ab u=>rw[q]at h;cases h;exact hh _ _ (r.p9 _ _ q)
  |none=>
   rw[q]at h;cases q2:G2 a with
   |none=>rw[q2]at h;cases h
   |ab u=>
    rw[q2]at h;dsimp only at h;split at h
    .cases h;exact r2.p9 _ _ q2
    .cases h
 .have q:=r.xM i s h;cases s with
  |no=>trivial
  |fr w=>
   let⟨u,q1,q2⟩:=q;exact⟨u,q1,qk.k8 sg w q2⟩
  |ku b ws=>
   let⟨a,xs,q1,q2,q3,q4,q5⟩:=q;exact⟨a,xs,q1,hh _ _ q2,cF _ _ q2 q3 rfl,q4,ah.k8 sg ws q5⟩
  |aV kvs=>
   let⟨a,q1,q2,q3,q4⟩:=q;exact⟨a,q1,hh _ _ q2,cF _ _ q2 q3 (by cases kvs<;>rfl),q4⟩
  |dW us ws vs=>
   let⟨t,l,o,xs,ys,zs,q1,q2,q3,q4,q5,q6,q7,q8⟩:=q;exact⟨t,l,o,xs,ys,zs,q1,sg _ _ q2,hh _ _ q3,cF _ _ q3 q4 rfl,q5,ah.k8 sg us q6,ah.k8 sg ws q7,ah.k8 sg vs q8⟩
  |YL cb=>exact b8.yy q sg λl o ys k1 k2 k3=>⟨hh _ _ k1,cF _ _ k1 k2 rfl,k3⟩
  |x k=>exact m9.yy q sg λl o ys k1 k2 k3=>⟨hh _ _ k1,cF _ _ k1 k2 rfl,k3⟩
  |dw sh ks ws=>exact gH.yy q sg λl o ys k1 k2 k3=>⟨hh _ _ k1,cF _ _ k1 k2 P5,k3⟩
 .have e:∃o,H a=ab o:=by
   cases q:Z.H a with
   |none=>exact uz q h
   |ab o=>exact⟨o,r.VB a o q (by grind)⟩
  let⟨o,ho⟩:=e;rw[<- r.gen a h];unfold cI;cases q:G a with
  |ab u=>rfl
  |none=>
   have z:G2 a=cy Z G H a:=r2.gen a (by grind)
   grind [cy]
def mD(e:ai S):R (ai W)->R (ai W)
 |.ok ws _=>if cU ws=true then .ok ws e else .no
 |.ex c _=>.ex c e
 |.no=>.no
def iM(d:iw (ai W)):iw (ai W):=λe=>mD e (d (bF e))
def z6z(nE:Z.io=[])(he:∀Z',DF Z' X EE e d):DF Z X EE e (iM d):=by
 intro dN s σ H Q I hq;let⟨G,e0,mQ,h⟩:=hq;refine he ⟨H,cy Z G H,[]⟩ dN s σ H Q I ⟨_,bF e0,mQ.AR nE,?_⟩;unfold iM mD at h;cases q:d (bF e0)with
 |ok ws e2=>
  rw[q]at h;dsimp only at h;split at h
  .rename_i hs;intro G2 a xs H2 r2 s2 q1 q2 q3 q4 p;have hn:H a=none:=q3
   have zdn:∀b ys,bK X.K G2 b ys->bK X.K (cI G G2) b ys:=λb ys z=>by
    have kp:∀o,G2 b=ab o->fw o=true->cI G G2 b=ab o:=λo h1 h2=>by
     unfold cI;cases qq:G b with
     |ab u=>
      have h3:G2 b=ab u:=s2 b u (by
       unfold cy;cases q9:Z.H b with
       |none=>exact mQ.p9 _ _ qq
       |ab _=>exact qq)
      grind
     |none=>simp only[h1,h2];rfl
    rcases z with(z|⟨o,z⟩)|z
    .exact .jd (.jd (kp _ z rfl))
    .exact .jd (.lb ⟨o,kp _ z rfl⟩)
    .exact .lb z
   refine h (cI G G2) a xs H2 (mQ.sf nE r2) (λb o z=>by unfold cI;rw[z]) q1 ?_ (pF mQ hn) (yG mQ hn) (Jt zdn ws hs p)
   unfold cI;rw[mQ.p9.tD hn,q2]
  .exact h.oa
 |ex k e2=>
  rw[q]at h;intro G2 H2 r2 s2;exact h (cI G G2) H2 (mQ.sf nE r2) (λb o z=>by unfold cI;rw[z])
 |no=>rw[q]at h;exact h.oa
theorem z60:ma da db dF e=(da e).cH λu e1=>(db e1).cH λv e2=>(dF e2).cH λws e3=>.rt (.dW [u,v] ws []) e3:=rfl
theorem z61:md i F dA e=(dA e).cH λws e1=>xQ i e1 (F ws):=rfl
theorem Q3k:xQ i e (.ok (.dW us ws vs))=.nx (e.rk i (.dW us ws vs)):=rfl
theorem z03:iM d e=mD e (d (bF e)):=rfl
theorem z04:mD e (.ok ws e')=if cU ws=true then .ok ws e else .no:=rfl
theorem z05:mD e (.ex v e')=.ex v e:=rfl
theorem y6h:dM (.YL cb)=.fr (.dI (cb.a6 W.dI)):=rfl
theorem z06:dM (.dW us ws vs)=.fr (.gs (us++.dI ws::vs)):=rfl
end D
namespace L2
open PySem PySem.Spec PyProof.Rows
end L2
namespace D
open PySem L2 PySem.Spec PyProof.Rows
variable{X:Cx}{EE:L2.St->XK}{gw:vW}{K:Fg}{Z:Zt}
theorem Fn{e:ai S}(h:e.t9 (λs=>!kN s)=true):∀s∈e,kN s=false:=λs hs=>by
 have:=w1c.mp h s hs;simpa using this
end D
namespace L2
open PySem PySem.Spec PyProof.Rows
section
variable{σ:St}{H:Hp}{s:p5}{a:fy}{sh:Sh}{kvs:ai (Kx×V)}{bc:ai fy}
theorem zby{je:xc}{w:vr}{d:fy}(hd:(d==_y)=false):
  MeetsIn je w (uK.«dict.__len__» ⟨[.dr d],[]⟩) (λ_ R s=>∃o es ep,s.bj.ik d=ab o/\o.pJ=.xg es ep/\R (.ok (.CJ (.aT es.dS s.tK))) {s with tK:=s.tK+1}):=
 ._M λA R s ⟨o,es,ep,ho,wH,h⟩=>by
  show oP _ _ (dictSize d >>= _) _ _ s;unfold dictSize;refine ny (ny (wpAny_dictEntries ho wH (ui ?_)));show oP _ _ (uK.ϕ.pendingCount d >>= _) _ _ s;refine ny (wpAny_pendingCount_other hd ?_);refine wpAny_ret_mkInt ?_;rw[w3s];exact h
def TV(I:j3 X dN σ H s)(e:Rd H a (.dT sh kvs bc))(h:∀t s',j3 X dN σ H s'->Q (.aT kvs.aj t) s'):oP (qX X.je X.w) A (zb (.w4 "len") [.dr a]) Q E s:=by
 let⟨z,hd,xs,mQ,_,dd⟩:=Cy I.aQ e;have hT:=dd.Zr;let⟨o,es,ep,ho,_,wH,FQ,_⟩:=dd;have hsz:es.dS=kvs.aj:=by rw[size_of_entries FQ,Zw.aj mQ]
 rw[LP]at z;refine Zc.call_function_entry kind_len plain_len entry_len (args_len1 _) ?_
 unfold uK.«len»;refine ny (m:=oneArg "len" _) (ui ?_)
 refine ny (m:=callSpecial? (.dr a) (et.YM "__len__")) (Ð (name:=et.YM "__len__") hT F.zds
  (call_meetsIn F.zds hT F.entry_dict_len (F.args_dict_len_1 _) (zby hd) ⟨o,es,ep,ho,wH,?_⟩))
 rw[hsz];show oP _ _ _ _ _ {s with tK:=s.tK+1};refine ny (ZW (ui ?_));refine ny (δ ?_);show oP _ _ (if((kvs.aj:aO):a7)<0 then _ else _) _ _ _;rw[r5 (by omega)];show oP _ _ (if((kvs.aj:aO):a7)>=2^63 then _ else _) _ _ _;rw[r5 (by omega)];exact ny (Ĳ (ui ⟨_,rfl,h _ _ (I.Ym _)⟩))
def B2:ai V->Hp->VK->Prop:=λxs H Q=>∃a sh kvs bc,xs=[.dr a]/\Rd H a (.dT sh kvs bc)/\Q (.aT kvs.aj) H
def y6i:cZ X (.w4 "len") B2:=by
 intro dN s σ H xs us Q I r h;let⟨a,sh,kvs,bc,rfl,e,q⟩:=h;let⟨u,rfl,rx⟩:=_n r;cases(show u=d0.dr a from rx);exact TV I e λt s' I'=>⟨.aT kvs.aj,H,I',⟨t,rfl⟩,q⟩
end
def B1:ai V->Hp->VK->Prop:=λxs H Q=>∃a kvs,xs=[.dr a]/\Rd H a (.dK kvs)/\Q (.aT kvs.aj) H
def y6j:cZ X (.w4 "len") B1:=by
 intro dN s σ H xs us Q I r h;let⟨a,kvs,rfl,e,q⟩:=h;let⟨u,rfl,rx⟩:=_n r;cases(show u=d0.dr a from rx);exact UQ I e λt s' I'=>⟨.aT kvs.aj,H,I',⟨t,rfl⟩,q⟩
end L2
namespace D
open PySem L2 PySem.Spec PyProof.Rows
open Classical
variable{a b:fy}{fz:ie}{X:Cx}{d dk:iw W}{G H:Hp}{σ:L2.St}{ks:ai Kx}{e:ai S}{ws:ai W}{i:aO}{gw:vW}{K:Fg}{sh:Sh}{x:et}{κ:Type}{v:V}{Z:Zt}
mutual
noncomputable def yx:W->Option Kx
 |.aB=>some .aB
 |.bl b=>some (.bl b)
 |.int i=>some (.int i)
 |.str x=>some (.str x)
 |.tup ws=>(ia ws).map .tup
 |_=>none
noncomputable def ia:List W->Option (List Kx)
 |[]=>some []
 |w::ws=>match yx w,ia ws with
  |some k,some ks=>some (k::ks)
  |_,_=>none
end
def eV(K:Fg):Prop:=∀a o,K.g6 a=ab o->o.o4≠.ke "tuple"
def bK.rd{xs:ai V}(hK:eV K)(q:bK K G a xs):Rd G a (.gs xs):=by
 rcases q with q|⟨o,aw,n,h1,h2,_⟩
 .exact q
 .exact uz h2 (hK a o h1)
mutual
theorem R0{K:Fg}{G H:Hp}(hK:eV K)(s:ao G H):∀(w:W){k:Kx}{v:V},yx w=some k->Rep K G w v->bV H k v
 |.bl b,k,v,e,r=>by cases e;exact r
 |.int b,k,v,e,r=>by cases e;exact r
 |.str b,k,v,e,r=>by cases e;exact r
 |.tup ws,k,v,e,r=>by
  have e:(ia ws).map Kx.tup=some k:=e;let⟨ks,h1,rfl⟩:=w0j.mp e;let⟨a,xs,rfl,q,rs⟩:=r;refine⟨a,xs,rfl,?_,Qy hK s ws h1 rs⟩;rcases bK.rd hK q with z|⟨o,z⟩
  .exact .inl (s _ _ z)
  .exact .inr ⟨o,s _ _ z⟩
 |.aB,k,v,e,r=>by cases e;exact r
 |.lst _,k,v,e,r=>by cases e
 |.exc _,k,v,e,r=>by cases e
 |.aV _,k,v,e,r=>by cases e
 |.dw _ _ _ _,k,v,e,r=>by cases e
 |.fn _ _ _,k,v,e,r=>by cases e
theorem Qy{K:Fg}{G H:Hp}(hK:eV K)(s:ao G H):∀(ws:List W){ks:List Kx}{vs:List V},ia ws=some ks->ah K G ws vs->de H ks vs
 |[],ks,vs,e,r=>by cases e;exact r
 |w::ws,ks,vs,e,r=>by
  have e:(match yx w,ia ws with|some k,some ks=>some (k::ks)|_,_=>none)=some ks:=e;split at e
  .rename_i k0 Wg h1 h2;cases e;let⟨x,xs,rfl,r1,r2⟩:=r;exact⟨x,xs,rfl,R0 hK s w h1 r1,Qy hK s ws h2 r2⟩
  .cases e
end
def kB:W->d3 Kx
 |.gs ws=>(ia ws).a6 .gs
 |_=>none
def J'(hK:eV K)(s:ao G H){w:W}{k:Kx}(e:kB w=ab k)(r:qk K G w v):∃b,v=.dr b/\bV H k (.dr b):=by
 cases w with
 |gs ws=>
  have z:=R0 hK s (.gs ws) e r;let⟨a,xs,rfl,q,rs⟩:=r;exact⟨a,rfl,z⟩
 |_=>cases e
def _h(k:Kx)(sh:Sh):Prop:=fE k sh/\k.ql<=7
theorem cf.ϐ{k:Kx}(hk:bV G k (.dr b)):∀{ks:ai Kx}{bs:ai fy},cf G ks bs->cf G (ks++[k]) (bs++[b])
 |[],[],_=>⟨hk,trivial⟩
 |_::_,_::_,h=>⟨h.1,cf.ϐ hk h.2⟩
 |[],_::_,h=>h.oa
 |_::_,[],h=>h.oa
def mE:ai Kx->ai W->Kx->d3 W
 |k::ks,w::ws,x=>if k=x then ab w else mE ks ws x
 |_,_,_=>none
theorem Lc{K:Fg}{G:Hp}{x:Kx}:∀{kvs:ai (Kx×V)}{ws:ai W},ah K G ws (kvs.a6 (·.2)) ->
  (∀w,mE (kvs.a6 (·.1)) ws x=ab w->∃v,fJ kvs x=ab v/\qk K G w v)/\(mE (kvs.a6 (·.1)) ws x=none->fJ kvs x=none)
 |[],ws,r=>by
  cases ws with
  |so=>exact⟨(λw z=>nomatch z),λ_=>rfl⟩
  |qT w ws=>let⟨_,_,z,_⟩:=r;cases z
 |p::kvs,[],r=>by cases(show _=[]from r)
 |p::kvs,w::ws,r=>by
  let⟨v,rr,z,h1,h2⟩:=r;cases z;have ih:=Lc (x:=x) h2
  by_cases e:p.1=x
  all_goals simp_all [mE,BC,BD]
def oZ.rd{kvs:ai (Kx×V)}{bc:ai fy}(s:ao G H)(h:oZ fz G a sh kvs bc):Rd H a (mU sh kvs bc):=by
 cases fz with
 |true=>let⟨o,h⟩:=h;exact .lb ⟨o,s _ _ h⟩
 |false=>exact .jd (s _ _ h)
def MX{t:Kx}(kr:bV H t (.dr b))(hc:_h t sh):sh.sO=false:=by
 cases sh with
 |aT=>
  cases t with
  |aT i=>exact nomatch (show V.dr b=V.aT i from kr)
  |_=>exact hc.1.oa
 |str=>
  cases t with
  |str i=>exact nomatch (show V.dr b=V.str i from kr)
  |_=>exact hc.1.oa
 |_=>rfl
def C5(w d:W):d3 W:=match kB w,d with
 |ab k,.dw _ sh ks ws=>if _h k sh then ab (.bl (mE ks ws k).z_)else none
 |_,_=>none
def pA(w d:W):d3 W:=match kB w,d with
 |ab k,.dw _ sh ks ws=>if _h k sh then ab (.bl (!(mE ks ws k).z_))else none
 |_,_=>none
def wU(d w:W):d3 W:=match kB w,d with
 |ab k,.dw _ sh ks ws=>if _h k sh then mE ks ws k else none
 |_,_=>none
def mB:ai W->d3 W
 |[.dw _ _ ks _]=>ab (.aT ks.aj)
 |_=>none
def R1{k:Kx}(s:ao G H)(p:qk K G (.dw fz sh ks ws) v)(kr:bV H k (.dr b))(hc:_h k sh):
  ∃a o,v=.dr a/\fL H a (.dr b) o/\(∀w,mE ks ws k=ab w->∃u,o=ab u/\qk K G w u)/\(mE ks ws k=none->o=none):=by
 let⟨a,kvs,bc,rfl,h1,rfl,h3,h4⟩:=p;refine⟨a,_,rfl,fL.t (by have:=h1.rd s;rwa [yQ (MX kr hc)]at this) ⟨kr,hc⟩,?_⟩;exact Lc h4
def z62(hK:eV K):iE K (λy x H Q=>∃a o,x=.dr a/\fL H a y o/\Q (.bl (!o.z_)) H) pA:=by
 intro G H x y wx wy w Q s px py hf h;unfold pA at hf;split at hf
 .rename_i k fz sh ks ws hk;split at hf
  .rename_i hc;cases hf;let⟨b,rfl,kr⟩:=J' hK s hk px;let⟨a,o,rfl,g,g1,g2⟩:=R1 s py kr hc;refine⟨a,o,rfl,g,h G _ H (.t8 s) ?_⟩;show V.bl (!o.z_)=V.bl (!(mE ks ws k).z_);cases q:mE ks ws k with
   |none=>rw[g2 q];rfl
   |ab w=>let⟨u,hu,_⟩:=g1 w q;rw[hu];rfl
  .cases hf
 .cases hf
def TX(hK:eV K):iE K (λx y H Q=>∃a v,x=.dr a/\fL H a y (ab v)/\Q v H) wU:=by
 intro G H x y wx wy w Q s px py hf h;unfold wU at hf
 grind [J',R1,aK.t8]
def vL:ai V->Hp->VK->Prop:=λxs H Q=>∃a sh kvs bc,xs=[.dr a]/\Rd H a (mU sh kvs bc)/\Q (.aT kvs.aj) H
def y6m:cZ X (.w4 "len") vL:=by
 intro dN s σ H xs us Q I r h;let⟨a,sh,kvs,bc,e1,e2,q⟩:=h;cases hI:sh.sO with
 |false=>rw[yQ hI]at e2;exact y6i dN s σ H xs us Q I r ⟨a,sh,kvs,bc,e1,e2,q⟩
 |true=>
  rw[show mU sh kvs bc=.dK (kvs.a6 λp=>(MS p.1,p.2))from nZ hI]at e2
  exact y6j dN s σ H xs us Q I r ⟨a,_,e1,e2,by rw[w0a];exact q⟩
def z63:pO K vL mB:=by
 intro G H xs ws w Q s pr hf h;unfold mB at hf;split at hf
 .rename_i fz sh ks vs;cases hf;let⟨x,r,rfl,px,pr⟩:=pr;cases(show r=[]from pr);let⟨a,kvs,bc,rfl,h1,rfl,h3,h4⟩:=px;refine⟨a,sh,kvs,bc,rfl,h1.rd s,h G _ H (.t8 s) ?_⟩;show V.aT _=V.aT _;rw[w0a]
 .cases hf
section
variable{EE:L2.St->XK}{a b e k o:p6}{es:ai p6}{da db:iw W}{dA:iw (ai W)}{p gq:vW}{uG:ai Mu}{s1:ai S->SR}
theorem z64(hK:eV X.K)(hu:X.A.zd+150<zm)(ha:DE Z X EE a da)(hb:DE Z X EE b db)(hm:autoParam (_d .Z9 b=false) jJ):DT Z X EE (.Yz a [.Z9] [b] gw) (ax (aq pA da db)):=
 PT.k8 (Rx (OG (by omega) ha hb) hm) λσ H Q h=>vE (z62 hK) σ H _ (Jg h)
theorem Q3n(hK:eV X.K)(hu:X.A.zd+150<zm)(ha:DE Z X EE a da)(hb:DE Z X EE b db)(hs:tw b:=by intro _ _;rfl):DE Z X EE (.Yb a b gw) (aq wU da db):=
 PE.k8 (Qw (by omega) ha hb hs) (vE (TX hK))
theorem z65(hm:X.mg "len"=none)(ha:DA Z X EE [e] dA)(hg:autoParam (Gl X "len") jJ)(he:autoParam (pg [e] X.dt=(false,eval e X.dt)::pg [] X.dt) jJ)(dP:autoParam ((y0 gw (pg [] X.dt)).uJ (·.1)=false) jJ):DE Z X EE (.wO (.oh "len" p) [e] [] gw) (bP mB dA):=
 yM y6m z63 n9.ň hm ha hg (by decide) (by decide) he dP
def wR:S->ie
 |.dw _ _ _=>true
 |.aV _=>true
 |_=>false
def pZ.Vb{e:ai S}(r:pZ K Z G σ H e)(h:e[i]?=ab (.dw sh ks ws)):∃a kvs bc,σ[i]?=ab (ab (.dr a))/\H a=ab (mU sh kvs bc)/\G a=none/\Z.H a=none/\kvs.a6 (·.1)=ks/\bH sh G ks bc/\dH K Z G sh ws (kvs.a6 (·.2)):=by
 let⟨a,kvs,bc,h1,h2,h3,h4,h5,h6,h7⟩:=r.xM i _ h;refine⟨a,kvs,bc,?_,h2,h3,h4,h5,h6,h7⟩;cases q:σ[i]? with
 |none=>rw[q]at h1;cases h1
 |ab z=>rw[q]at h1;rw[show z=ab (V.dr a)from h1]
def pZ.dw{e:ai S}(r:pZ K Z G σ H e)(h:e[i]?=ab (.dw sh ks ws)):∃a kvs bc,σ[i]?=ab (ab (.dr a))/\H a=ab (mU sh kvs bc)/\G a=none/\Z.H a=none/\kvs.a6 (·.1)=ks/\bH sh G ks bc/\ah K G ws (kvs.a6 (·.2)):=by
 let⟨a,kvs,bc,h1,h2,h3,h4,h5,h6,h7⟩:=r.Vb h;exact⟨a,kvs,bc,h1,h2,h3,h4,h5,h6,h7.ed⟩
def pZ.xP{e:ai S}(r:pZ K Z G σ H e){i:aO}{s:S}(hs:∀b ws,s≠.ku b ws)(q:c7 K Z G H s (ab v)):pZ K Z G (σ.rk i (ab v)) H (e.rk i s):=by
 refine⟨r.p9,λj t z=>?_,by simpa using r.uN,λj k b1 b2 w1 w2 c z1 z2 z3 z4=>?_,r.VB,r.kz,r.gen⟩
 .by_cases hj:j=i
  .subst hj
   have hi:j<e.aj:=by
    have:=(w0b.mp z).1;simpa using this
   rw[w0k hi]at z;cases z;rw[w0k (by rw[<- r.uN];exact hi)];exact q
  .rw[w0h (λz=>hj z.symm)]at z |-
   exact r.xM j t z
 .have w5:∀(k:aO)(bb:d3 aO)(ww:ai W),(e.rk i s)[k]?=ab (.ku bb ww)->k≠i/\e[k]?=ab (.ku bb ww):=λk bb ww z=>by
   by_cases hk:k=i
   .subst hk
    have hi:k<e.aj:=by
     have:=(w0b.mp z).1;simpa using this
    rw[w0k hi]at z;cases z;exact uz rfl (hs _ _)
   .rw[w0h (λz=>hk z.symm)]at z;exact⟨hk,z⟩
  let⟨n1,q1⟩:=w5 _ _ _ z1;let⟨n2,q2⟩:=w5 _ _ _ z2;rw[w0h (λz=>n1 z.symm)]at z3
  rw[w0h (λz=>n2 z.symm)]at z4
  exact r.kq _ _ _ _ _ _ _ q1 q2 z3 z4
def pZ.A3{e:ai S}(r:pZ K Z G σ H e){ks':ai Kx}{ws':ai W}{a:fy}{kvs':ai (Kx×V)}{wV:ai fy}(h:e[i]?=ab (.dw sh ks ws))(ha:σ[i]?=ab (ab (.dr a)))(ho:∀s∈e.rk i .no,wR s=false)
  (h5:kvs'.a6 (·.1)=ks')(h6:bH sh G ks' wV)(h7:dH K Z G sh ws' (kvs'.a6 (·.2))):pZ K Z G σ (oL H a (mU sh kvs' wV)) (e.rk i (.dw sh ks' ws')):=by
 let⟨a',kvs,bc,h1,h2,h3,h4,_⟩:=r.dw h;rw[ha]at h1;cases h1;have hi:i<e.aj:=(w0b.mp h).1;refine⟨λc o z=>?_,λj s z=>?_,by simpa using r.uN,λj k b1 b2 w1 w2 c z1 z2 z3 z4=>?_,λc o z n=>?_,λc z=>?_,r.gen⟩
 .rw[aN (gU z h3)];exact r.p9 c o z
 .by_cases hj:j=i
  .subst hj;rw[w0k hi]at z;cases z;exact⟨a,kvs',wV,by rw[ha];rfl,bN,h3,h4,h5,h6,h7⟩
  .rw[w0h (λz=>hj z.symm)]at z
   have y:=r.xM j s z;cases s with
   |no=>trivial
   |fr w=>exact y
   |ku b2 w2=>
    let⟨c,ys,y1,y2,y3,y4,y5⟩:=y;refine⟨c,ys,y1,?_,y3,y4,y5⟩;rw[aN (eR y2 h2 (λz=>rD rfl z.symm))];exact y2
   |aV _=>
    have:=ho _ (w0w (i:=j) (by rw[w0h (λz=>hj z.symm)];exact z))
    cases this
   |dW us w2 vs=>
    let⟨t,l,o,n6,ys,zs,y1,y2,y3,y4,y5,y6⟩:=y;refine⟨t,l,o,n6,ys,zs,y1,y2,?_,y4,y5,y6⟩;rw[aN (eR y3 h2 (λz=>rD rfl z.symm))];exact y3
   |YL cb=>exact b8.yy y (.t8 _) λl o ys k1 k2 k3=>⟨by rw[aN (eR k1 h2 (λz=>rD rfl z.symm))];exact k1,k2,k3⟩
   |x k=>exact m9.yy y (.t8 _) λl o ys k1 k2 k3=>⟨by rw[aN (eR k1 h2 (λz=>rD rfl z.symm))];exact k1,k2,k3⟩
   |dw _ _ _=>
    have:=ho _ (w0w (i:=j) (by rw[w0h (λz=>hj z.symm)];exact z))
    cases this
 .have w5:∀(k:aO)(bb:d3 aO)(ww:ai W),(e.rk i (S.dw sh ks' ws'))[k]?=ab (.ku bb ww)->e[k]?=ab (.ku bb ww):=λk bb ww z=>by
   by_cases hk:k=i
   .subst hk;rw[w0k hi]at z;cases z
   .rw[w0h (λz=>hk z.symm)]at z;exact z
  exact r.kq _ _ _ _ _ _ _ (w5 _ _ _ z1) (w5 _ _ _ z2) z3 z4
 .rw[aN (gU z h4)];exact r.VB c o z n
 .by_cases hc:c=a
  .subst hc;rw[bN];exact λz=>nomatch z
  .rw[aN hc];exact r.kz c z
def me(i:aO)(sh:Sh):ai S->SR:=λe=>.nx (e.rk i (.dw sh [] []))
def z66(i:aO)(sh:Sh){Yw qr:vW}(hN:X.N.xZ)(hI:autoParam (sh.sO=false) jJ)(hi:autoParam (X.N[i]?=ab x) jJ)(hx:autoParam (YU X.dt.fv x) jM)(hs:autoParam (Zk (.ϕ [] [] qr) (ab (.oh x Yw)) gw.Yd X.dt=vX false) jJ)(hf:autoParam (X.fn x=true\/X.dt.fv.qW.g6 x=ab .local) jL):
  DS Z X EE (.Zu [.oh x Yw] (.ϕ [] [] qr) gw) (me i sh):=by
 refine PS.k8 (yP i hN (z01 (sh:=sh)) hi hx hs hf) ?_;rintro D σ H ⟨G,e,mQ,h⟩;intro q hq;have g:=aK.ox mQ.p9 hq (.dT sh [] []);exact h G _ _ ((mQ.zR g).xP (s:=.dw sh [] []) (λ_ _ z=>nomatch z) ⟨q,[],[],rfl,by rw[yQ hI];exact bN,mQ.p9.tD hq,pF mQ hq,rfl,.of trivial hI,.so⟩) (.t8 _)
def oI(i:aO)(w kw:W)(e:ai S):d3 S->SR
 |ab (.dw sh ks ws)=>match kB kw with
  |ab x=>if ks.aj<16777216/\(e.rk i .no).t9 (λs=>!wR s)=true/\_h x sh/\mE ks ws x=none/\sh.C7=false then .nx (e.rk i (.dw sh (ks++[x]) (ws++[w])))else .no
  |none=>.no
 |_=>.no
def oH(i:aO)(dk:iw W)(w:W)(e1:ai S):d3 S->SR
 |ab (.dw _ _ _)=>(dk e1).cH λkw e2=>oI i w kw e2 e2[i]?
 |_=>.no
def l'(i:aO)(d dk:iw W):ai S->SR:=λe=>(d e).cH λw e1=>oH i dk w e1 e1[i]?
def z67(i:aO)(hK:eV X.K)(hu:X.A.zd+150<zm)(he:DE Z X EE e d)(hk:DE Z X EE k dk)(hN:autoParam (X.N[i]?=ab x) jJ)(hv:autoParam (kD X.dt.fv x) jN)(hd:autoParam ((x==("__debug__":et))=false) jK)(fg:autoParam ((x==("__classdict__":et))=false) jK)
  (hs:autoParam (Zk e (ab (.Yb (.oh x p) k gq)) gw.Yd X.dt=vX false) jJ):DS Z X EE (.Zu [.Yb (.oh x p) k gq] e gw) (l' i d dk):=by
 refine PS.k8 (Qx (by omega) (pv i hN hv hd fg) hk he hs) ?_;rintro D σ H ⟨G,e,mQ,h⟩;refine⟨G,e,mQ,(i3 h).uM (λw e1 h G1 v1 H1 r1 s1 p1=>?_) λ_ _ h=>h⟩
 unfold oH at h;split at h
 .rename_i sh0 Wg J2 tX;let⟨a,zfc,zfa,q1,q2,_⟩:=r1.dw tX;refine⟨.dr a,q1,G1,e1,r1,(i3 (σ:=σ) h).uM (λkw e2 h G2 v2 H2 r2 s2 p2=>?_) λ_ _ h G' H' r s=>h G' H' r (s1.kZ s)⟩
  unfold oI at h;split at h
  .rename_i sh ks ws nB;let⟨a',kvs,bc,g1,g2,g3,g4,g5,zcx,g7⟩:=r2.dw nB;rw[q1]at g1;cases g1;split at h
   .rename_i t qE;split at h
    .rename_i hc;let⟨b,rfl,kr⟩:=J' hK (.t8 G2) qE p2;have Wf:bV H2 t (.dr b):=bV.YW (λ_ _ _ z=>r2.p9 _ _ z) t kr
     subst g5;have hI:=MX kr hc.2.2.1;rw[yQ hI]at g2;have tZ:fJ kvs t=none:=(Lc g7).2 hc.2.2.2.1;refine⟨a,_,rfl,l3.t g2 ⟨Wf,hc.2.2.1⟩ (by rw[LP];have:=hc.1;rw[w0a]at this;exact this),?_⟩;rw[z0y v1 tZ,show i0 kvs bc t b=bc++[b] by unfold i0;rw[tZ];rfl,<- yQ hI];refine h G2 σ _ (r2.A3 (ks':=kvs.a6 (·.1)++[t]) (ws':=ws++[w]) nB q1 (λs hs=>?_) (by rw[w0x];rfl) (.of (cf.ϐ kr (zcx.g hI)) hI) ?_) (s1.kZ s2)
     .have:=w1c.mp hc.2.1 s hs;simpa using this
     .rw[w0x];exact .of hc.2.2.2.2 (g7.Wi (.YE (qk.k8 s2 w p1)))
    .exact h.oa
   .exact h.oa
  .exact h.oa
 .exact h.oa
end
def eQ:a7->ai a7->a7
 |x,[]=>x
 |x,y::ys=>eQ (if x<y then y else x) ys
theorem KJ:∀(ys:ai a7)(x:a7),(eQ x ys=x\/eQ x ys∈ys)/\x<=eQ x ys/\∀y∈ys,y<=eQ x ys
 |[],x=>⟨.jd rfl,a7.le_refl _,λy hy=>nomatch hy⟩
 |y::ys,x=>by
  let⟨h1,h2,h3⟩:=KJ ys (if x<y then y else x);have e:eQ x (y::ys)=eQ (if x<y then y else x) ys:=rfl
  grind
def y6n(hc:X.MT=true):cZ X (.w4 "max") (λxs H Q=>∃p n ns,xs=[.dr p]/\bD X.K H p ((n::ns).a6 V.aT)/\Q (.aT (eQ n ns)) H):=by
 intro dN s σ H xs us Q I r h;let⟨p,n,ns,rfl,hq,q⟩:=h;let⟨u,rfl,rx⟩:=_n r;cases rx;let⟨aw,r',pl,hz⟩:=I.xm hq;have hl:=pl.zD;have bZ:p<s.bj.f'.dS:=by let⟨_,e,_⟩:=hl;exact g0.xX e
 have hh:X.A.Ba.YV=none:=I.ok.hd hc;have wZ:aw.aj=(n::ns).aj:=by have:=r'.aj;rw[w0a]at this;exact this.symm
 have t7:∀(i:aO)(v:d0),aw.l8[i]?=ab v->∃t,v=d0.aT ((n::ns).hX i 0) t:=λi v hv=>by
  have oA:aw[i]?=ab v:=by simpa using hv
  have hi:i<(n::ns).aj:=by rw[<- wZ];exact(w0b.mp oA).1
  let⟨u,hu,ru⟩:=r'.Ff (i:=i) (x:=V.aT ((n::ns).hX i 0)) (by rw[w0s,w0c hi,yJ hi];rfl);rw[oA]at hu;cases hu;exact ru
 refine call_max_walk (Δ hl ⟨s.bj.f'.dS,[s.bj.f'.dS,p],[s.bj.f'.dS],_,_,_,_,rfl,ξ.xm hh s.bj.f'.dS p (w0t bZ) aw.l8,⟨⟨_,g0.A2 _ rfl,rfl,rfl⟩,hl.tM _⟩,λb hb=>?_,by rw[w0e,wZ];simp,CmpOf.ints_gt (λi=>(n::ns).hX i 0) t7,λv h' tk hP hk=>?_⟩)
 .show b<(s.bj.tM _).f'.dS;rw[g0.ZN];rcases w0i.mp hb with e|hb
  .rw[e];exact w4x _
  .rw[w1i.mp hb];exact w1s bZ
 .let⟨t,rfl⟩:=t7 _ _ hP;let⟨b1,b2⟩:=argBest_gt (λi=>(n::ns).hX i 0) (aw.l8.dS-1)
  have e:(n::ns).hX (argBest (λi j=>decide ((n::ns).hX i 0>(n::ns).hX j 0)) (aw.l8.dS-1)) 0=eQ n ns:=by
   let⟨m1,m2,m3⟩:=KJ ns n;have hsz:aw.l8.dS=ns.aj+1:=by rw[w0e,wZ];simp
   generalize argBest (λi j=>decide ((n::ns).hX i 0>(n::ns).hX j 0)) (aw.l8.dS-1)=k at b1 b2
   have hk:k<(n::ns).aj:=by simp;omega
   have ge:(n::ns).hX k 0<=eQ n ns:=by
    rw[yJ hk];rcases w0i.mp (w1j hk)with z|z
    .rw[z];exact m2
    .exact m3 _ z
   have le:eQ n ns<=(n::ns).hX k 0:=by
    have:∃j,j<=ns.aj/\(n::ns).hX j 0=eQ n ns:=by
     rcases m1 with z|z
     .exact⟨0,w1g _,by simp[z]⟩
     .let⟨j,hj,ej⟩:=w1n.mp z;exact⟨j+1,by omega,by simp[ai.hX,hj,ej]⟩
    let⟨j,hj,ej⟩:=this;have:=b2 j (by omega);rw[ej]at this;exact this
   omega
  rw[e];refine⟨.aT (eQ n ns),H,I.Yc (t':=tk) λb o ow=>hk b o (λz=>?_) (g0.w6 _ ow),⟨t,rfl⟩,q⟩
  rw[w1i]at z;exact uz (g0.xX ow) (by rw[z];exact w2c _)
def ji:ai W->d3 W
 |[.dI ws]=>match dn ws with
  |ab (n::ns)=>ab (.aT (eQ n ns))
  |_=>none
 |_=>none
def z68:pO K (λxs H Q=>∃p n ns,xs=[.dr p]/\bD K H p ((n::ns).a6 V.aT)/\Q (.aT (eQ n ns)) H) ji:=by
 intro G H xs ws w Q s pr hf h;unfold ji at hf;split at hf
 .let⟨x,r,rfl,px,pr⟩:=pr;cases(show r=[]from pr);split at hf
  .rename_i n ns lV;cases hf;let⟨a,cs,rfl,hq,rp⟩:=px;have:=BB lV rp;subst this;exact⟨a,n,ns,rfl,s.p7 hq,h G _ H (.t8 s) rfl⟩
  .cases hf
 .cases hf
section
variable{EE:L2.St->XK}{e:p6}{dA:iw (ai W)}{p:vW}
theorem z69(hc:X.MT=true)(hm:X.mg "max"=none)(ha:DA Z X EE [e] dA)(hg:autoParam (Gl X "max") jJ)(he:autoParam (pg [e] X.dt=(false,eval e X.dt)::pg [] X.dt) jJ)(dP:autoParam ((y0 gw (pg [] X.dt)).uJ (·.1)=false) jJ):DE Z X EE (.wO (.oh "max" p) [e] [] gw) (bP ji dA):=
 yM (y6n hc) z68 CG.Fe._p.«max» hm ha hg (by decide) (by decide) he dP
end
def Ld{n:a7}{ns:ai a7}:ji [.dI ((n::ns).a6 .aT)]=ab (.aT (eQ n ns)):=by
 show(match dn ((n::ns).a6 .aT)with|ab (n::ns)=>ab (W.aT (eQ n ns))|_=>none)=_;rw[KH]
section
variable{w kw dflt:W}{x:Kx}
theorem z7a:me i sh e=.nx (e.rk i (.dw sh [] [])):=rfl
theorem z7b:l' i d dk e=(d e).cH λw e1=>oH i dk w e1 e1[i]?:=rfl
theorem z7c:oH i dk w e (ab (.dw sh ks ws))=(dk e).cH λkw e2=>oI i w kw e2 e2[i]?:=rfl
def z7d(hk:kB kw=ab x)(h1:ks.aj<16777216)(h2:(e.rk i .no).t9 (λs=>!wR s)=true)(h3:_h x sh)(h4:mE ks ws x=none)(h5:autoParam (sh.C7=false) jJ):oI i w kw e (ab (.dw sh ks ws))=.nx (e.rk i (.dw sh (ks++[x]) (ws++[w]))):=by
 show(match kB kw with|ab x=>_|none=>_)=_;rw[hk];exact nZ ⟨h1,h2,h3,h4,h5⟩
def TY(hk:kB w=ab x)(hc:_h x sh):pA w (.dw fz sh ks ws)=ab (.bl (!(mE ks ws x).z_)):=by
 simp_all [pA]
def UR(hk:kB w=ab x)(hc:_h x sh):wU (.dw fz sh ks ws) w=mE ks ws x:=by
 simp_all [wU]
theorem Q3p:mB [.dw fz sh ks ws]=ab (.aT ks.aj):=rfl
theorem z7e:dM (.dw sh ks ws)=.fr (.dw false sh ks ws):=rfl
end
def iB(K:Fg)(a:fy):ie:=match K.g6 a with
 |ab o=>(match o.o4 with
  |.ke n=>n=="tuple"
  |_=>false)
 |none=>false
def d7(K:Fg):Fg:=K.Mk λp=>!iB K p.1
theorem DP{q:fy->ie}:∀{K:Fg}{o:sT},(K.Mk λp=>q p.1).g6 a=ab o->K.g6 a=ab o/\q a=true
 |[],_,h=>by cases h
 |(b,u)::K,o,h=>by
  by_cases hq:q b=true
  .rw[ai.filter_cons_of_pos (p:=λp:fy×sT=>q p.1) (a:=(b,u)) hq]at h
   by_cases e:a=b
   .grind
   .rw[show ai.g6 a ((b,u)::(K.Mk λp=>q p.1))=ai.g6 a (K.Mk λp=>q p.1) by grind]at h
    let⟨h1,h2⟩:=DP h
    grind
  .rw[ai.filter_cons_of_neg (p:=λp:fy×sT=>q p.1) (a:=(b,u)) hq]at h
   let⟨h1,h2⟩:=DP h
   grind
theorem z07{h:g0}(X:K.In h):(d7 K).In h:=λa o e=>X a o (DP (q:=λa=>!iB K a) e).1
theorem z08:eV (d7 K):=λa o e z=>by
 let⟨h1,h2⟩:=DP (q:=λa=>!iB K a) e
 unfold iB at h2;rw[h1]at h2;simp[z]at h2
def q1f{o:sT}(h:K.g6 a=ab o)(t:iB K a=false):(d7 K).g6 a=ab o:=by
 have gen:∀(l:Fg)(q:fy->ie),q a=true->l.g6 a=ab o->(l.Mk λp=>q p.1).g6 a=ab o:=by
  intro l q hq
  induction l with
  |so=>intro h;cases h
  |qT p l ih=>
   grind
 exact gen K (λa=>!iB K a) (by rw[t];rfl) h
def q29{r:d3 d0}(h:n9.W.Τ K a x=ab r)(t:iB K a=false):n9.W.Τ (d7 K) a x=ab r:=by
 unfold n9.W.Τ at h |-
 cases q:K.g6 a with
 |none=>rw[q]at h;cases h
 |ab o=>rw[q1f q t];rw[q]at h;exact h
def zeu(K:Fg):d0->ie
 |.dr a=>iB K a
 |_=>false
def x9q{cd:d0}(h:n9.W._F K cd x=true)(t:zeu K cd=false):n9.W._F (d7 K) cd x=true:=by
 cases cd with
 |dr a=>
  unfold n9.W._F at h |-
  dsimp only at h |-
  cases q:K.g6 a with
  |none=>rw[q]at h;cases h
  |ab o=>rw[q1f q t];rw[q]at h;exact h
 |_=>cases h
def funAt(K:Fg)(a:fy):ie:=!iB K a&&(match K.g6 a with
 |ab ⟨_,_,.Zo _,_⟩=>true
 |_=>false)
def lk [ϔ κ](kvs:ai (κ×Sv))(x:κ):d3 Sv:=(kvs.Â λp=>decide (p.1=x)).a6 (·.2)
def Α [ϔ κ](kvs:ai (κ×Sv))(x:κ)(v:Sv):ai (κ×Sv):=if(kvs.uJ λp=>decide (p.1=x))=true then kvs.a6 (λp=>if p.1=x then(p.1,v)else p)else kvs++[(x,v)]
theorem Le [ϔ κ](x):∀kvs:ai (κ×Sv),fJ (wX kvs) x=(lk kvs x).a6 sV
 |[]=>rfl
 |p::r=>by
  have ih:=Le x r
  by_cases h:p.1=x
  all_goals simp_all [wX,BC,lk,BD]
def TZ [ϔ κ](x:κ)(v:Sv)(kvs:ai (κ×Sv)):ZA (wX kvs) x (sV v)=wX (Α kvs x v):=by
 unfold ZA Α wX;rw[w5b];have e:((λkv:κ×V=>decide (kv.1=x)) ∘ λp:κ×Sv=>(p.1,sV p.2))=λp:κ×Sv=>decide (p.1=x):=rfl
 rw[e];split
 .rw[w0v,w0v];refine w1o λp _=>?_
  simp only[Function.comp];split<;>rfl
 .rw[w0x];rfl
def ua:W->d3 Ya
 |.aT i=>ab (.jd i)
 |.str x=>ab (.lb x)
 |_=>none
def NP:W->d3 Sv
 |.aT i=>ab (.jd i)
 |.bl b=>ab (.lb b)
 |_=>none
def Ew:Sv->W
 |.jd i=>.aT i
 |.lb b=>.bl b
def KL(p:qk K G w v)(h:ua w=ab k):v=kV k:=by
 cases w<;>cases h<;>exact p
def T1(p:qk K G w v)(h:NP w=ab k):v=sV k:=by
 cases w<;>cases h<;>exact p
def y6o(k):qk K G (Ew k) (sV k):=by cases k<;>rfl
def qp:W->d3 (ai (Ya×Sv))
 |.aV (.k kvs)=>ab kvs
 |_=>none
def P6(h:qp w=ab kvs):w=.aV (.k kvs):=by
 cases w with
 |aV d=>cases d<;>cases h;rfl
 |_=>cases h
def uc(w d:W):d3 W:=(ua w).r7 λk=>(qp d).a6 λkvs=>.bl (!(lk kvs k).z_)
def AL(d w:W):d3 W:=(ua w).r7 λk=>(qp d).r7 λkvs=>(lk kvs k).a6 Ew
def z7f:iE K (λy x H Q=>∃a o,x=.dr a/\fL H a y o/\Q (.bl (!o.z_)) H) uc:=by
 intro G H x y wx wy w Q s px py hf h;let⟨k,hk,hf⟩:=w1w.mp hf;let⟨kvs,hd,hf⟩:=w0j.mp hf;cases hf;cases KL px hk;cases P6 hd;let⟨e,rfl,he⟩:=py;refine⟨e,_,rfl,fL.k (k:=k) (s _ _ he),h G _ H (.t8 s) ?_⟩;rw[Le,w3n];rfl
def T2:iE K (λx y H Q=>∃a v,x=.dr a/\fL H a y (ab v)/\Q v H) AL:=by
 intro G H x y wx wy w Q s px py hf h;let⟨k,hk,hf⟩:=w1w.mp hf;let⟨kvs,hd,hf⟩:=w1w.mp hf;let⟨v,hv,rfl⟩:=w0j.mp hf;cases KL py hk;cases P6 hd;let⟨e,rfl,he⟩:=px;have g:=fL.k (k:=k) (s _ _ he);rw[Le,hv]at g;exact⟨e,_,rfl,g,h G _ H (.t8 s) (y6o v)⟩
section
variable{EE:L2.St->XK}{a b e k:p6}{da db:iw W}{p gq:vW}
theorem z7g(hu:X.A.zd+150<zm)(ha:DE Z X EE a da)(hb:DE Z X EE b db)(hm:autoParam (_d .Z9 b=false) jJ):DT Z X EE (.Yz a [.Z9] [b] gw) (ax (aq uc da db)):=
 PT.k8 (Rx (OG (by omega) ha hb) hm) λσ H Q h=>vE z7f σ H _ (Jg h)
theorem Q3t(hu:X.A.zd+150<zm)(ha:DE Z X EE a da)(hb:DE Z X EE b db)(hs:tw b:=by intro _ _;rfl):DE Z X EE (.Yb a b gw) (aq AL da db):=
 PE.k8 (Qw (by omega) ha hb hs) (vE T2)
def pZ.aV{e:ai S}(r:pZ K Z G σ H e){kvs:Dd}(h:e[i]?=ab (.aV kvs)):∃a,σ[i]?=ab (ab (.dr a))/\H a=ab (dO kvs)/\G a=none/\Z.H a=none:=by
 let⟨a,h1,h2,h3,h4⟩:=r.xM i _ h;refine⟨a,?_,h2,h3,h4⟩;cases q:σ[i]? with
 |none=>rw[q]at h1;cases h1
 |ab z=>rw[q]at h1;rw[show z=ab (.dr a)from h1]
def pZ.zeh{e:ai S}(r:pZ K Z G σ H e){kvs:Dd}{a:fy}(h2:H a=ab (dO kvs))(h3:G a=none)(h4:Z.H a=none):pZ K Z G (σ.rk i (ab (.dr a))) H (e.rk i (.aV kvs)):=by
 refine⟨r.p9,λj s z=>?_,by simpa using r.uN,λj k b1 b2 w1 w2 c z1 z2 z3 z4=>?_,r.VB,r.kz,r.gen⟩
 .by_cases hj:j=i
  .subst hj
   have hi:j<e.aj:=by
    have:=(w0b.mp z).1;simpa using this
   rw[w0k hi]at z;cases z;rw[w0k (by rw[<- r.uN];exact hi)];exact⟨a,rfl,h2,h3,h4⟩
  .rw[w0h (λz=>hj z.symm)]at z |-
   exact r.xM j s z
 .have w5:∀(k:aO)(bb:d3 aO)(ww:ai W),(e.rk i (S.aV kvs))[k]?=ab (.ku bb ww)->k≠i/\e[k]?=ab (.ku bb ww):=λk bb ww z=>by
   by_cases hk:k=i
   .subst hk
    have hi:k<e.aj:=by
     have:=(w0b.mp z).1;simpa using this
    rw[w0k hi]at z;cases z
   .rw[w0h (λz=>hk z.symm)]at z;exact⟨hk,z⟩
  let⟨n1,q1⟩:=w5 _ _ _ z1;let⟨n2,q2⟩:=w5 _ _ _ z2;rw[w0h (λz=>n1 z.symm)]at z3
  rw[w0h (λz=>n2 z.symm)]at z4
  exact r.kq _ _ _ _ _ _ _ q1 q2 z3 z4
def GF:S->ie
 |.aV _=>true
 |.dw sh _ _=>sh.sO
 |_=>false
def pZ.zer{e:ai S}(r:pZ K Z G σ H e){kvs kvs':Dd}{a:fy}(h:e[i]?=ab (.aV kvs))(ha:σ[i]?=ab (ab (.dr a)))(ho:∀j s,j≠i->e[j]?=ab s->GF s=false):pZ K Z G σ (oL H a (dO kvs')) (e.rk i (.aV kvs')):=by
 let⟨a',h1,h2,h3,h4⟩:=r.aV h;rw[ha]at h1;cases h1;have hi:i<e.aj:=(w0b.mp h).1;refine⟨λc o z=>?_,λj s z=>?_,by simpa using r.uN,λj k b1 b2 w1 w2 c z1 z2 z3 z4=>?_,λc o z n=>?_,λc z=>?_,r.gen⟩
 .rw[aN (gU z h3)];exact r.p9 c o z
 .by_cases hj:j=i
  .subst hj;rw[w0k hi]at z;cases z;exact⟨a,by rw[ha];rfl,bN,h3,h4⟩
  .rw[w0h (λz=>hj z.symm)]at z
   have y:=r.xM j s z;cases s with
   |no=>trivial
   |fr w=>exact y
   |ku b2 w2=>
    let⟨c,ys,y1,y2,y3,y4,y5⟩:=y;refine⟨c,ys,y1,?_,y3,y4,y5⟩;rw[aN (eR y2 h2 (λz=>nS rfl z.symm))];exact y2
   |aV kv=>have:=ho j _ hj z;cases this
   |dW us w2 vs=>
    let⟨t,l,o,n6,ys,zs,y1,y2,y3,y4,y5,y6⟩:=y;refine⟨t,l,o,n6,ys,zs,y1,y2,?_,y4,y5,y6⟩;rw[aN (eR y3 h2 (λz=>nS rfl z.symm))];exact y3
   |YL cb=>exact b8.yy y (.t8 _) λl o ys k1 k2 k3=>⟨by rw[aN (eR k1 h2 (λz=>nS rfl z.symm))];exact k1,k2,k3⟩
   |x k=>exact m9.yy y (.t8 _) λl o ys k1 k2 k3=>⟨by rw[aN (eR k1 h2 (λz=>nS rfl z.symm))];exact k1,k2,k3⟩
   |dw sh ks ws=>
    have hI:sh.sO=false:=ho j _ hj z;exact gH.yy y (.t8 _) λl o ys k1 k2 k3=>⟨by rw[aN (eR k1 h2 (λz=>by rw[yQ hI]at z;exact nS rfl z.symm))];exact k1,k2,k3⟩
 .have w5:∀(k:aO)(bb:d3 aO)(ww:ai W),(e.rk i (S.aV kvs'))[k]?=ab (.ku bb ww)->e[k]?=ab (.ku bb ww):=λk bb ww z=>by
   by_cases hk:k=i
   .subst hk;rw[w0k hi]at z;cases z
   .rw[w0h (λz=>hk z.symm)]at z;exact z
  exact r.kq _ _ _ _ _ _ _ (w5 _ _ _ z1) (w5 _ _ _ z2) z3 z4
 .rw[aN (gU z h4)];exact r.VB c o z n
 .by_cases hc:c=a
  .subst hc;rw[bN];exact λz=>nomatch z
  .rw[aN hc];exact r.kz c z
def zeA(i:aO):ai S->SR:=λe=>match e[i]? with
 |ab (.aV d)=>.rt (.aV d) e
 |_=>.no
def mJ(i:aO)(e:ai S):ie:=(ai.CC e.aj).t9 λj=>decide (j=i)||!((e[j]?.a6 GF).hX false)
theorem z7h{e:ai S}(h:mJ i e=true):∀j s,j≠i->e[j]?=ab s->GF s=false:=λj s hj hs=>by
 have hl:j<e.aj:=(w0b.mp hs).1;have:=w1c.mp h j (w0y.wa hl);rw[hs]at this
 simpa [hj]using this
def j6(i:aO)(w kw:W)(e:ai S):d3 S->SR
 |ab (.aV (.k kvs))=>match NP w,ua kw with
  |ab v,ab x=>if kvs.aj<16777216/\mJ i e=true then .nx (e.rk i (.aV (.k (Α kvs x v))))else .no
  |_,_=>.no
 |_=>.no
def kI(i:aO)(d dk:iw W):ai S->SR:=λe=>(d e).cH λw e1=>match e1[i]? with
 |ab (.aV _)=>(dk e1).cH λkw e2=>j6 i w kw e2 e2[i]?
 |_=>.no
def z7i(i:aO)(hu:X.A.zd+150<zm)(he:DE Z X EE e d)(hk:DE Z X EE k dk)(hN:autoParam (X.N[i]?=ab x) jJ)(hv:autoParam (kD X.dt.fv x) jN)(hd:autoParam ((x==("__debug__":et))=false) jK)(fg:autoParam ((x==("__classdict__":et))=false) jK)
  (hs:autoParam (Zk e (ab (.Yb (.oh x p) k gq)) gw.Yd X.dt=vX false) jJ):DS Z X EE (.Zu [.Yb (.oh x p) k gq] e gw) (kI i d dk):=by
 refine PS.k8 (Qx (by omega) (pv i hN hv hd fg) hk he hs) ?_;rintro D σ H ⟨G,e,mQ,h⟩;refine⟨G,e,mQ,(i3 h).uM (λw e1 h G1 v1 H1 r1 s1 p1=>?_) λ_ _ h=>h⟩
 split at h
 .rename_i kv0 tX;let⟨a,q1,q2,q3,q4⟩:=r1.aV tX;refine⟨.dr a,q1,G1,e1,r1,(i3 (σ:=σ) h).uM (λkw e2 h G2 v2 H2 r2 s2 p2=>?_) λ_ _ h G' H' r s=>h G' H' r (s1.kZ s)⟩
  unfold j6 at h;split at h
  .rename_i kvs nB;let⟨a',g1,g2,g3,g4⟩:=r2.aV nB;rw[q1]at g1;cases g1;split at h
   .rename_i v t V4 qE;split at h
    .rename_i hc;cases T1 p1 V4;cases KL p2 qE;refine⟨a,_,rfl,l3.k (k:=t) g2 (by rw[LP];unfold wX;rw[w0a];exact hc.1),?_⟩;rw[TZ];exact h G2 σ _ (r2.zer (kvs':=.k (Α kvs t v)) nB q1 (z7h hc.2)) (s1.kZ s2)
    .exact h.oa
   .exact h.oa
  .exact h.oa
 .exact h.oa
end
def qZ(e:ai S):d3 ie->R W
 |ab k=>.ok (.bl (!k)) e
 |none=>.no
def jF(da:iw W):iw W:=λe=>(da e).r7 λx e1=>qZ e1 (jj x)
def z7j{a:n9.p6}(ha:PE X a ta):PE X (._T .Not a gw) (λσ H Q=>ta σ H λx H1=>∃k,tF X.K x H1 k/\Q (.bl (!k)) H1):=by
 intro dN s σ H Q I h;refine ł (bq (ha dN s σ H _ I h) λv s1 ⟨x,H1,I1,r1,k,q1,q2⟩=>?_)
 exact not_of (bq (RH dN s1 σ H1 x v (λk H2=>Q (.bl (!k)) H2) I1 r1 ⟨k,q1,q2⟩) λb s2 ⟨H2,I2,q3⟩=>⟨.bl (!b),H2,I2,rfl,q3⟩)
def z7k{Z:Zt}{a:n9.p6}(ha:DE Z X EE a da):DE Z X EE (._T .Not a gw) (jF da):=by
 refine PE.k8 (z7j ha) ?_;rintro σ H Q ⟨G,e,mQ,h⟩;simp only[jF,R.ar]at h;refine⟨G,e,mQ,h.uM (λx e1 h G1 v1 H1 r1 s1 p1=>?_) λ_ _ h=>h⟩
 cases q:jj x with
 |none=>rw[q]at h;exact h.oa
 |ab k=>
  rw[q]at h;exact⟨k,RO r1.p9 p1 q,(show ∀G' v H',_->_->v=V.bl (!k)->Q v H' from h) G1 _ H1 r1 s1 rfl⟩
theorem z7l:jF da e=(da e).r7 λx e1=>qZ e1 (jj x):=rfl
theorem y6p:qZ e (ab k)=.ok (.bl (!k)) e:=rfl
def GN(kvs:ai (Ya×Sv))(k:Ya):d3 ie:=match lk kvs k with
 |ab (.lb b)=>ab b
 |_=>none
def vi(kvs l:ai (Ya×Sv)):ai Ya:=(l.Mk λp=>GN kvs p.1==ab true).a6 (·.1)
def kW:Ya->W
 |.jd i=>.aT i
 |.lb x=>.str x
def AM(e:ai S):d3 S->R (ai W)
 |ab (.aV (.k kvs))=>if kvs.aj<16777216/\(kvs.t9 λp=>(GN kvs p.1).z_)=true then .ok ((vi kvs kvs).a6 kW) e else .no
 |_=>.no
theorem z7m:AM e (ab (.aV (.k kvs)))=if kvs.aj<16777216/\(kvs.t9 λp=>(GN kvs p.1).z_)=true then .ok ((vi kvs kvs).a6 kW) e else .no:=rfl
def rA(i:aO)(dk:iw W)(w:W)(e1:ai S):d3 S->SR
 |ab (.aV _)=>(dk e1).cH λkw e2=>j6 i w kw e2 e2[i]?
 |_=>.no
def z7n:kI i d dk e=(d e).cH λw e1=>rA i dk w e1 e1[i]?:=by
 unfold kI rA;rfl
theorem z7o:rA i dk w e (ab (.aV dd))=(dk e).cH λkw e2=>j6 i w kw e2 e2[i]?:=rfl
theorem z09{b:ie}:j6 i (.bl b) (.aT n) e (ab (.aV (.k kvs)))=if kvs.aj<16777216/\mJ i e=true then .nx (e.rk i (.aV (.k (Α kvs (.jd n) (.lb b)))))else .no:=rfl
theorem z1a:dM (.aV dd)=.fr (.aV dd):=rfl
theorem Q3u:uc (.aT n) (.aV (.k kvs))=ab (.bl (!(lk kvs (.jd n)).z_)):=rfl
theorem Q7j:AL (.aV (.k kvs)) (.aT n)=(lk kvs (.jd n)).a6 Ew:=rfl
end D
namespace L2
open PySem PySem.Spec PyProof.Rows
def y6q{P:xc}{w:vr}{K:Fg}{mg mb:et->d3 d0}{CX:mY}{k:aO}{fa a:fy}{fd:Zv}{x:et}{sp:Sp}{aD:p5}{vs:ai d0}{ns:ai a7}{xY:ai (fy×et)}
  (KX:K.In aD.bj)(lV:aD.bj.Ns Yi mg)(hb:aD.bj.Ns Ϲ mb)(yo:∀x:et,x≠"__name__"->mb x=_E x)(wJ:aD.bj.Ö)(hg:aD.YI=#[])
  (ha:aD.bj.ik a=ab {o4:=.ke "list", pJ:=.p7 vs.l8})(hi:Ϙ vs ns)(hl:ns.aj<=wm)(hr:br k ZY)
  (F:∀k_:g0,K.In k_->k_.Ns Yi mg->_z k_ mg->eT P w K mg k_ CX k fa fd [x] sp)(mm:∀(s:p5)(u:d0),_Q s fd ⟨[u],[]⟩ [(x,u)])
  (sN:∀H:Hp,bD K H a (ns.a6 V.aT)->sp [.dr a] H (λv _=>v=.bl true) λ_ _ _=>vk)
  (wD:∀H e s',CX [] H aD (λ_ _ _=>vk) e s'->vk)
  (Vn:_z aD.bj mg)(hM:∀a q P,(a,ip P q)∈K->xY.g6 P=ab q)(hT:∀P q,xY.g6 P=ab q->aD.bj.ik P=ab (ϫ #[])/\Ď aD.bj P)(FE:∀P q,xY.g6 P=ab q->K.g6 P=none):
  Zn (qX P w) ZY (.zb (.dr fa) ⟨[.dr a],[]⟩) (λr s'=>r=.ok (.CJ (.xN true))/\Ϝ aD.bj s'.bj/\s'.os=aD.os/\Z6 s'.YI) aD:=by
 have rv:=Jf hi;have AO:=hi.aj
 have zbW:xY.g6 a=none:=by
  cases q:xY.g6 a with
  |none=>rfl
  |ab t=>rw[(hT a t q).1]at ha;cases ha
 have ϻ:∀H0:Hp,(∀b,H0 b=none\/∃o xs,H0 b=ab (.cK o (.dI xs)))->bD K H0 a (ns.a6 V.aT)->eh P w H0 aD.bj->(∀b,H0 b≠none->b=a)->(H0 a≠none->K.g6 a=none) ->
   Zn (qX P w) ZY (.zb (.dr fa) ⟨[.dr a],[]⟩) (λr s'=>r=.ok (.CJ (.xN true))/\Ϝ aD.bj s'.bj/\s'.os=aD.os/\Z6 s'.YI) aD:=by
  intro H0 hO Vt Gg hA hK;obtain⟨H,hH⟩:∃H:Hp,H=λb=>match xY.g6 b with|ab q=>ab (.n0 #[.xN true,.str q 0])|none=>H0 b:=⟨_,rfl⟩
  have C5:∀b q,xY.g6 b=ab q->H b=ab (.n0 #[.xN true,.str q 0]):=λb q z=>by rw[hH];simp only[z]
  have rh:∀b,xY.g6 b=none->H b=H0 b:=λb z=>by rw[hH];simp only[z]
  have up:∀b u,H0 b=ab u->H b=ab u:=λb u z=>by
   have:b=a:=hA b (by rw[z];simp);subst this;rw[rh b zbW];exact z
  have hS:bD K H a (ns.a6 V.aT):=by
   rcases Vt with(z|⟨o,z⟩)|z
   .exact .jd (.jd (up _ _ z))
   .exact .jd (.lb ⟨o,up _ _ z⟩)
   .exact .lb z
  have aQ:eh P w H aD.bj:=λb u z=>by
   cases q:xY.g6 b with
   |ab t=>
    rw[C5 b t q]at z;cases z;exact .jd ⟨t,#[],rfl,rfl,(hT b t q).1,trivial,λgw cv z=>by cases z⟩
   |none=>
    rw[rh b q]at z;exact(Gg b u z).cF (λc v _ q=>q) (λc q=>up c _ q) λc v _ q=>up c v q
  have f7:∀{b:fy}{o:sT},aD.bj.ik b=ab o->H b=none->(gN aD.bj H).ik b=ab o:=λe n=>Py e n
  have tD:∀{b:fy}{o:sT},aD.bj.ik b=ab o->o≠{o4:=.ke "list", pJ:=.p7 vs.l8}->o≠ϫ #[]->H b=none:=λ{b o} e d1 d2=>by
   cases q:xY.g6 b with
   |ab t=>rw[(hT b t q).1]at e;cases e;exact uz rfl d2
   |none=>
    rw[rh b q];cases q0:H0 b with
    |none=>rfl
    |ab u=>
     have e':b=a:=hA b (by rw[q0];simp);subst e';rw[ha]at e;cases e;exact uz rfl d1
  have ue:∀{b:fy}{m:et->d3 d0},aD.bj.Ns b m->(gN aD.bj H).Ns b m:=λ{b m} ⟨o,es,ep,e,d,r⟩=>⟨o,es,ep,f7 e (tD e (λz=>by rw[z]at d;cases d) λz=>by rw[z]at d;cases d),d,r⟩
  have Aa:K.In (gN aD.bj H):=λb o e=>f7 (KX b o e) (by
   cases q:xY.g6 b with
   |ab t=>rw[FE b t q]at e;cases e
   |none=>
    rw[rh b q];cases q0:H0 b with
    |none=>rfl
    |ab u=>
     have e':b=a:=hA b (by rw[q0];simp);subst e';rw[hK (by rw[q0];simp)]at e;cases e)
  have Vo:_z (gN aD.bj H) mg:=by
   let⟨bm,ob,b1,b2,b3,b4,b5,b6⟩:=Vn;exact⟨bm,ob,b1,b2,f7 b3 (tD b3 (λz=>by rw[z]at b4;simp at b4) λz=>by rw[z]at b4;cases b4),b4,b5,b6⟩
  have Vq:θ K mg (gN aD.bj H):=⟨Aa,ue lV,⟨mb,ue hb,yo⟩,let ⟨mc,h1,h2⟩:=wJ;⟨mc,ue h1,h2⟩⟩;have e0:i8 P w K mg (gN aD.bj H) ZY [] aD H:=⟨rfl,Vq,λb o e=>QH e,aO.le_of_eq (ON _ _),trivial,λb hb=>uz (show b∈([]:ai fy)from hb) (by simp),aQ,.Ê hg,λa q P m=>⟨_,C5 P q (hM a q P m),rfl,rfl⟩⟩
  refine Ν ((F _ Aa (ue lV) Vo).nN ZY [] aD H ⟨[.dr a],[]⟩ [.dr a] [.dr a] _ _ hr e0 (mm aD (.dr a)) (.qT rfl .so) (sN H hS)) λr s' h=>?_
  cases r with
  |_H e=>exact(wD H e s' h).oa
  |ok fl=>
   cases fl with
   |next=>exact vk.oa h
   |_r=>exact vk.oa h
   |_s=>exact vk.oa h
   |CJ u=>
    let⟨v,H',os,Td,un,t4,r',q⟩:=h;have q':v=.bl true:=q;subst q';obtain rfl:u=d0.xN true:=r'
    have kp:∀b o,xY.g6 b=none->aD.bj.ik b=ab o->s'.bj.ik b=ab o:=λb o z e=>by
     cases q:H b with
     |none=>exact un.xW b o e q (by intro z;exact uz (show b∈([]:ai fy)from z) (by simp)) (by simp)
     |ab u=>
      have q0:=q;rw[rh b z]at q0;rcases hO b with z|⟨ob,xs,z⟩
      .rw[q0]at z;cases z
      .rw[q0]at z;cases z;have z2:=un.aX b ob _ q;let⟨e1,_⟩:=(show aD.bj.ik b=ab ob/\_ from aQ b _ q);let⟨e2,_⟩:=(show s'.bj.ik b=ab ob/\_ from t4 b _ z2);rw[e]at e1;cases e1;exact e2
    have gr:∀b t,xY.g6 b=ab t->∃qs,s'.bj.ik b=ab (ϫ qs):=λb t z=>by
     let⟨_v,e⟩:=un.fX b _ (C5 b t z);have o1:aU P w H' s'.bj b (.n0 (#[.xN true,.str t 0]++_v)):=t4 b _ e;rcases o1 with⟨_,qs,_,_,g,_⟩|⟨_,_,_,_,_,_,p0,_⟩
     .exact⟨qs,g⟩
     .rw[w1z (by simp)]at p0;cases p0
    refine⟨rfl,⟨λb o e=>?_,λb o e=>?_⟩,os,Td⟩
    .cases z:xY.g6 b with
     |none=>exact .jd (kp b o z e)
     |ab t=>
      let⟨qs,g⟩:=gr b t z;let⟨g1,g2⟩:=hT b t z;rw[e]at g1;cases g1;exact .lb (.jd ⟨g2,rfl,#[],qs,rfl,by rw[yb.empty_append];exact g⟩)
    .cases z:xY.g6 b with
     |none=>exact⟨o,kp b o z e⟩
     |ab t=>
      let⟨qs,g⟩:=gr b t z;exact⟨_,g⟩
 cases hk:K.g6 a with
 |ab o=>
  have e:=KX a o hk;rw[ha]at e;cases e;refine ϻ (λ_=>none) (λ_=>.jd rfl) (.lb ⟨_,vs.l8,_,hk,rfl,rfl,rfl,by rw[w0e,AO];exact hl,by simpa using rv⟩) (λb u z=>by have z':(none:d3 HO)=ab u:=z;cases z') (λb z=>uz rfl z) λz=>uz rfl z
 |none=>
  refine ϻ (λb=>if b=a then ab (.cK {o4:=.ke "list", pJ:=.p7 vs.l8} (.dI (ns.a6 V.aT)))else none) (λb=>?_) (.jd (.lb ⟨{o4:=.ke "list", pJ:=.p7 vs.l8},nZ rfl⟩)) (λb u z=>?_) (λb z=>?_) λ_=>hk
  .by_cases hb:b=a
   .exact .lb ⟨_,_,nZ hb⟩
   .exact .jd (r5 hb)
  .by_cases hb:b=a
   .have z':=(nZ hb).symm.kZ z;cases z';subst hb;exact⟨ha,by rw[w0a];exact hl,vs,_,rv,ha⟩
   .have z':=(r5 hb).symm.kZ z;cases z'
  .by_cases hb:b=a
   .exact hb
   .exact uz (r5 hb) z
def WR(tk tv:TE):TE:=λσ H Q=>∀p,H p=none->tk σ (oL H p (.dK [])) λk H1=>tv σ H1 λv H2=>∃kk,k=kV kk/\H2 p=ab (.dK [])/\Q (.dr p) (oL H2 p (.dK [(kk,v)]))
def US(hk:PE X ek tk)(hv:PE X ev tv):PE X (.ϕ [ab ek] [ev] gw) (WR tk tv):=by
 intro dN s σ H Q I h;refine wpAny_Dict_any rfl rfl (by simp) (by simp) ?_;have fr:H s.bj.f'.dS=none:=I.aQ.xK (w0f _);have I0:=I.JN (a:=s.bj.f'.dS) (o:=.dK []) (t':=s.tK) (λ_ _ q=>g0.w6 _ q) (w0f _) (z0z s.bj I.big)
 show oP _ _ (evalPairs [(eval ek X.dt,do let x <- eval ev X.dt;ö gw;vX x)]) _ _ _;refine evalPairs_cons (bq (hk dN _ σ _ _ I0 (h _ fr)) λzcO s1 ⟨k,H1,I1,zdk,q1⟩=>?_)
 refine ny (bq (hv dN s1 σ H1 _ I1 q1) λvu s2 ⟨v,H2,I2,rv,kk,e,hp,q⟩=>ny (Ķ (ui (evalPairs_nil ?_))))
 subst e;let⟨z,hd,vs,mQ,dd⟩:=SW I2.aQ hp;cases mQ;refine wpAny_storeAll (knd:=c9 X.je X.w) [(zcO,vu)] [(kk,vu)] [] s2 _ ⟨EY zdk,rfl,trivial⟩ dd (by rw[LP];simp) λh' wo hs=>?_
 have he:∃q,h'.ik s.bj.f'.dS=ab q:=let ⟨q,_,_,hq,_⟩:=wo;⟨q,hq⟩;have u6:h'.ϖ (c9 X.je X.w) s.bj.f'.dS [(kk,vu)]:=wo;refine⟨.dr s.bj.f'.dS,_,KI I2 (by rw[hp];exact j'.intro) hs he (RZ (kvs:=[(kk,v)]) (by rw[LP];simp) hd (.qT ⟨rfl,rv⟩ .so) u6),rfl,q⟩
end L2
namespace D
open PySem L2
variable{X:Cx}{dA:iw (ai W)}{G H:Hp}{EE:L2.St->XK}{es:ai p6}{e:ai S}{i:aO}{r:aO->ai W->FR}{p gw:vW}{K:Fg}{x:et}{Z:Zt}
mutual
noncomputable def noFn:W->Bool
 |.tup ws=>bE ws
 |.lst ws=>bE ws
 |.dw _ _ _ ws=>bE ws
 |.fn _ _ _=>false
 |.aB=>true
 |.bl _=>true
 |.int _=>true
 |.str _=>true
 |.exc _=>true
 |.aV _=>true
noncomputable def bE:List W->Bool
 |[]=>true
 |w::ws=>noFn w&&bE ws
end
section
variable{cs:Cs}
def Rd.rm{a:fy}{u:HO}(c:bA G cs)(h:Rd G a u)(n:∀o,u≠ll o)(n2:∀φ,u≠.ext φ):Rd (dE G cs) a u:=by
 rcases h with h|⟨o,h⟩
 .exact .jd (c.c_ h n)
 .exact .lb ⟨o,c.c_ h λo' z=>by cases z;exact n2 _ rfl⟩
theorem cf.rm(c:bA G cs):∀{ks:ai Kx}{bs:ai fy},cf G ks bs->cf (dE G cs) ks bs
 |[],[],_=>trivial
 |k::ks,b::bs,h=>⟨bV.YW (λ_ _ t z=>c.c_ z (NX t)) k h.1,cf.rm c h.2⟩
 |[],_::_,h=>h.oa
 |_::_,[],h=>h.oa
def bH.rm{sh:Sh}(c:bA G cs){ks:ai Kx}{bs:ai fy}(h:bH sh G ks bs):bH sh (dE G cs) ks bs:=by
 unfold bH at h |-
 split at h
 .rename_i hi;rw[nZ hi];exact h
 .rename_i hi;rw[r5 hi];exact h.rm c
mutual
theorem Rep.rm(c:bA G cs):∀(w:W){v:V},noFn w=true->Rep K G w v->Rep K (dE G cs) w v
 |.aB,v,_,h=>h
 |.bl b,v,_,h=>h
 |.int i,v,_,h=>h
 |.str x,v,_,h=>h
 |.tup ws,v,n,h=>by
  let⟨a,xs,rfl,q,r⟩:=h;refine⟨a,xs,rfl,?_,ah.rm c ws n r⟩;rcases q with q|q
  .exact .inl (Rd.rm c q (λo z=>nomatch z) λφ z=>nomatch z)
  .exact .inr q
 |.lst ws,v,n,h=>by
  let⟨a,xs,rfl,q,r⟩:=h;refine⟨a,xs,rfl,?_,ah.rm c ws n r⟩;rcases q with q|q
  .exact .inl (Rd.rm c q (λo z=>nomatch z) λφ z=>nomatch z)
  .exact .inr q
 |.exc e,v,_,h=>by
  let⟨a,rfl,q⟩:=h;exact⟨a,rfl,c.c_ q λo z=>by unfold wq at z;cases z⟩
 |.aV kvs,v,_,h=>by
  let⟨a,rfl,q⟩:=h;exact⟨a,rfl,c.c_ q λo z=>by cases kvs;cases z⟩
 |.dw fz sh ks ws,v,n,h=>by
  let⟨a,kvs,bc,rfl,h1,h2,h3,h4⟩:=h;refine⟨a,kvs,bc,rfl,?_,h2,bH.rm c h3,ah.rm c ws n h4⟩;cases fz with
  |true=>let⟨o,h1⟩:=h1;exact⟨o,c.c_ h1 λo z=>by injection z with _ z;exact rD rfl z⟩
  |false=>exact c.c_ h1 λo z=>rD rfl z
 |.fn _ _ _,v,n,_=>by cases n
theorem ah.rm(c:bA G cs):∀(ws:List W){xs:List V},bE ws=true->ah K G ws xs->ah K (dE G cs) ws xs
 |[],xs,_,h=>h
 |w::ws,xs,n,h=>by
  let⟨x,r,rfl,h1,h2⟩:=h
  have n':noFn w=true/\bE ws=true:=by
   simp_all [bE]
  exact⟨x,r,rfl,Rep.rm c w n'.1 h1,ah.rm c ws n'.2 h2⟩
end
end
section
variable{G' H':Hp}{cs:Cs}
theorem Ka(h:∀b o,cs.g6 b=ab o->H b=none):ao H (bQ H cs):=λb u e=>by
 cases q:cs.g6 b with
 |ab o=>grind
 |none=>rw[ir q];exact e
theorem D7(h:ao G H):ao (bQ G cs) (bQ H cs):=λb u e=>by
 cases q:cs.g6 b with
 |ab o=>rw[pE q]at e |-;exact e
 |none=>rw[ir q]at e |-;exact h b u e
theorem P7(h:ao G H):ao (dE G cs) (dE H cs):=λb u e=>by
 let⟨e1,e2⟩:=Lw e;rw[mK e2];exact h b u e1
theorem aK.lam(ch:bA H cs)(cg:bA G cs)(e1:ao (dE H cs) H')(e2:ao (dE G cs) G')(e3:ao G' H')(e4:∀a,dE H cs a≠none->G' a=dE G cs a):aK G H (bQ G' cs) (bQ H' cs) where
 hh:=λb u e=>by
  cases q:cs.g6 b with
  |ab o=>rw[pE q];rw[ch b o q]at e;exact e
  |none=>rw[ir q];exact e1 b u (by rw[mK q];exact e)
 gg:=λb u e=>by
  cases q:cs.g6 b with
  |ab o=>rw[pE q];rw[cg b o q]at e;exact e
  |none=>rw[ir q];exact e2 b u (by rw[mK q];exact e)
 p9:=D7 e3
 vd:=λa ha=>by
  cases q:cs.g6 a with
  |ab o=>rw[pE q,cg a o q]
  |none=>
   rw[ir q,e4 a (by rw[mK q];exact ha),mK q]
theorem aK.gb(g:aK (bQ G cs) (bQ H cs) G' H')(hn:∀b o,cs.g6 b=ab o->H b=none)(sg:ao G H):aK G H (dE G' cs) (dE H' cs) where
 hh:=λb u e=>by
  cases q:cs.g6 b with
  |ab o=>rw[hn b o q]at e;cases e
  |none=>rw[mK q];exact g.hh b u (by rw[ir q];exact e)
 gg:=λb u e=>by
  cases q:cs.g6 b with
  |ab o=>have:=sg b u e;rw[hn b o q]at this;cases this
  |none=>rw[mK q];exact g.gg b u (by rw[ir q];exact e)
 p9:=P7 g.p9
 vd:=λa ha=>by
  cases q:cs.g6 a with
  |ab o=>exact uz (hn a o q) ha
  |none=>rw[mK q,g.vd a (by rw[ir q];exact ha),ir q]
end
def gL:R W->FR
 |.ok w _=>.ok (.fr w)
 |.ex c _=>.ex c
 |.no=>.no
def yS(K:Fg)(bM:aO->d3 Lm)(r:aO->ai W->FR):V->ai V->Hp->VK->XK->Prop:=λx vs H Q _=>∃G i l aL ws w,ao G H/\qk K G (.fn i l aL) x/\ah K G ws vs/\bE ws=true/\bE aL=true/\bM i=ab l /\
 r i (ws++aL)=.ok (.fr w)/\∀G' H' v,aK G H G' H'->qk K G' w v->Q v H'
structure l5(P:xc)(w:vr)(K:Fg)(mg:et->d3 d0)(k_:g0)(n:aO)(l:Lm)(ps:ai et)(F:ai W->FR):Prop where
 sc:gZ ps l.nf l.fv
 r7:∀(cl:ai (et×fy))(pm:d0)(c':fy)(eS:d0)(us:ai d0),us.aj=ps.aj->ρ (ê "<lambda>" l.t_ l.uu l.uG l.fv cl pm (.dr c') eS) ⟨us,[]⟩=vX (ps.xR us)
 uN:∀ws,F ws≠.no->ws.aj=ps.aj+l.nf.aj
 uG:∀ws,F ws≠.no->∀(Z:Zt)(f:fy)(cd:d0)(cl:ai (et×fy))(A:C_)(tB:ai S')(s:p5)(H:Hp),br n (A.ZJ (eO l.t_ l.fv f cd cl s)) ->
  ∃d,DE Z (kF P w K mg k_ (ps++l.nf) l.t_ l.fv f cd cl A tB s H) (λ_=>E0) l.uG d/\gL (d (ws.a6 .fr))=F ws
def T3{P:xc}{w:vr}{mg:et->d3 d0}{k_:g0}{n:aO}{bM:aO->d3 Lm}(h:∀i l,bM i=ab l->∃ps,l5 P w K mg k_ n l ps (r i)):
  sx P w K mg k_ (fe P w) (n+1) (yS K bM r):=by
 rintro x vs H Q E ⟨G,i,l,aL,ws,w',sg,rf,rv,nw,nc,hl,hr,q⟩;let⟨ps,L⟩:=h i l hl;let⟨f,cl,zs,cs,rfl,⟨pm,c',eS,ef⟩,FC,rz⟩:=rf;have hn:r i (ws++aL)≠.no:=by grind
 have wZ:=L.uN _ hn;have hz:zs.aj=l.nf.aj:=FC.uN;have fh:aL.aj=l.nf.aj:=by grind [ah.aj]
 have qJ:ws.aj=ps.aj:=by grind
 have V5:vs.aj=ps.aj:=by grind [ah.aj]
 have cg:bA G cs:=λb o e=>(FC.ou b o e).1
 have ch:bA H cs:=λb o e=>sg _ _ (cg b o e)
 refine⟨f,_,_,_,_,_,rfl,sg _ _ ef,λA tB s us hR e0 ru=>?_⟩
 have Gy:us.aj=ps.aj:=by grind [uw.aj]
 have S9:jr cl l.nf l.fv zs s.bj cs:=⟨FC.zT,FC.A',FC.t9,λc o e=>⟨(show s.bj.ik c=ab o/\_ from e0.aQ c _ (ch c o e)).1,(FC.ou c o e).2⟩,FC.vV⟩
 let⟨d,hd,he⟩:=L.uG _ hn ⟨dE H cs,dE G cs,[]⟩ f (.dr c') cl A tB s (dE H cs) (hR.ZJ _);refine z4e hR e0 (sg _ _ ef) L.sc ch S9 (L.r7 cl pm c' eS us Gy) V5 hz ru hd ?_;have WM:ao (dE G cs) (dE H cs):=P7 sg;have rr:ah K (dE G cs) (ws++aL) (vs++zs):=(ah.rm cg ws nw rv).Wi (ah.rm cg aL nc rz);have mQ:=PU (N:=ps++l.nf) WM rr
 have e1:L2._l (ps++l.nf) (vs++zs)=vs.a6 ab++zs.a6 ab:=by
  simp_all [L2._l]
 have e2:Z0 (ps++l.nf).aj (ws++aL)=(ws++aL).a6 .fr:=by
  simp_all [Z0]
 rw[e1,e2]at mQ;refine⟨dE G cs,_,mQ,?_⟩;cases FN:d ((ws++aL).a6 .fr)with
 |ok w2 e'=>
  rw[FN,hr]at he;cases he;intro G' v H' r' zdm rp kL
  have Ga:∀b o,cs.g6 b=ab o->G' b=none:=λb o z=>by
   cases q2:G' b with
   |none=>rfl
   |ab u=>have:=r'.p9 b u q2;grind
  exact q (bQ G' cs) (bQ H' cs) v (aK.lam ch cg (λb u e=>r'.VB b u e (λz=>nomatch z)) zdm r'.p9 r'.gen) (qk.k8 (Ka Ga) _ rp)
 |ex c e'=>rw[FN,hr]at he;cases he
 |no=>rw[FN,hr]at he;cases he
section
variable{e:p6}{k:aO}{bM:aO->d3 Lm}
open Classical in
def iH(bM:aO->d3 Lm)(r:aO->ai W->FR)(j:aO)(l:Lm)(aL:ai W)(ws:ai W)(e1:ai S):R W:=
 if bM j=ab l/\bE ws=true/\bE aL=true then(match r j (ws++aL)with
  |.ok (.fr w)=>.ok w e1
  |_=>.no)else .no
def lj(bM:aO->d3 Lm)(r:aO->ai W->FR)(dA:iw (ai W))(e:ai S):d3 S->R W
 |ab (.fr (.fn j l aL))=>(dA e).r7 λws e1=>iH bM r j l aL ws e1
 |_=>.no
def iK(bM:aO->d3 Lm)(r:aO->ai W->FR)(i:aO)(dA:iw (ai W)):iw W:=λe=>lj bM r dA e e[i]?
def z1b(i:aO)(F:sx X.je X.w X.K X.mg X.k_ (fe X.je X.w) k (yS X.K bM r))(hr:br k X.A)(hx:eW (fe X.je X.w) X EE)(ha:DA Z X EE (e::es) dA)(hv:PE X (.oh x p) (r_ i))
  (he:autoParam (pg (e::es) X.dt=(false,eval e X.dt)::pg es X.dt) jJ)(dP:autoParam ((y0 gw (pg es X.dt)).uJ (·.1)=false) jJ):
  DE Z X EE (.wO (.oh x p) (e::es) [] gw) (iK bM r i dA):=by
 refine PE.k8 (y9b F hr hv hx ha he dP) ?_;rintro σ H Q ⟨G,en,mQ,h⟩;unfold iK lj at h;split at h
 .rename_i j l aL hs;let⟨v,hv,rv⟩:=mQ.fr hs;refine⟨v,hv,?_,G,en,mQ,?_⟩
  .let⟨f,cl,zs,cs,rfl,⟨pm,c',eS,ef⟩,_⟩:=rv;exact⟨f,_,_,_,_,_,rfl,mQ.p9 _ _ ef⟩
  .rw[R.ar]at h;refine h.uM (λws e1 h G1 vs H1 r1 s1 p1=>?_) λ_ _ h=>h
   unfold iH at h;split at h
   .rename_i hc;split at h
    .rename_i w hw;exact⟨G1,j,l,aL,ws,w,r1.p9,qk.k8 s1 (.fn j l aL) rv,p1,hc.2.1,hc.2.2,hc.1,hw,λG' H' v g rp=>h G' v H' (r1.zR g) (s1.kZ g.gg) rp⟩
    .exact h.oa
   .exact h.oa
 .exact h.oa
end
def dz:ai aO->ai S->d3 (ai W)
 |[],_=>ab []
 |j::js,e=>match e[j]? with
  |ab (.fr w)=>(dz js e).a6 (w::·)
  |_=>none
theorem Ju{σ:L2.St}(r:pZ K Z G σ H e):∀{js:ai aO}{aL:ai W},dz js e=ab aL->∃zs:ai V,ah K G aL zs/\zs.aj=js.aj/\∀(i j:aO) z,js[i]?=ab j->zs[i]?=ab z->σ[j]?=ab (ab z)
 |[],aL,h=>by
  cases h;exact⟨[],rfl,rfl,λi j z h _=>by simp at h⟩
 |j::js,aL,h=>by
  unfold dz at h;split at h
  .rename_i w hw;let⟨cs,h1,rfl⟩:=w0j.mp h;let⟨zs,r1,r2,r3⟩:=Ju r h1;let⟨v,v1,v2⟩:=r.fr hw;refine⟨v::zs,⟨v,zs,rfl,v2,r1⟩,by simp[r2],λi zcG z g1 g2=>?_⟩
   cases i with
   |Yf=>
    simp only[w0g,d3.ab.injEq]at g1 g2;subst g1;subst g2;exact v1
   |Ye i=>exact r3 i zcG z (by simpa using g1) (by simpa using g2)
  .cases h
def iR(e1:ai S):FR->R W
 |.ok (.fr w)=>if ZU w=true then .ok w e1 else .no
 |.ex c=>.ex c e1
 |_=>.no
def e7(F:ai W->FR)(j:aO)(l:Lm)(w:W)(e1:ai S):d3 (ai W)->R W
 |ab aL=>iR e1 (F [w,.fn j l aL])
 |none=>.no
def d6(F:ai W->FR)(j:aO)(l:Lm)(js:ai aO)(d:iw W):iw W:=λe=>(d e).r7 λw e1=>e7 F j l w e1 (dz js e1)
section
variable{e uG:p6}{uu:Z7}{d:iw W}{eA:vW}{k:aO}{ps N nf:ai et}{js:ai aO}{sc fv:zF}{F:ai W->FR}
def Oo(j:aO)(l:Lm)(C:sv X.je X.w X.K X.mg X.k_ k x ps (oR X.K F))(hr:br k X.A)(hx:eW (fe X.je X.w) X EE)(M:ϛ X)(qC:∀y,X.fn y=true)(he:DE Z X EE e d)(ok:cP sc fv N nf js=true)
  (hl:autoParam (l=⟨X.dt.t_++"<lambda>", uu,uG,fv,nf⟩) jJ)(lB:autoParam (â uu X.dt=([],[])) jJ)(hsc:autoParam (X.dt.fv=sc) jJ)(hN:autoParam (X.N=N) jJ)(hg:autoParam (Gl X x) jJ)
  (jT:autoParam ((x==("__debug__":et))=false) jK)(ky:autoParam (pg [e,.Ze uu uG fv eA] X.dt=(false,eval e X.dt)::pg [.Ze uu uG fv eA] X.dt) jJ)
  (wM:autoParam (pg [.Ze uu uG fv eA] X.dt=(false,eval (.Ze uu uG fv eA) X.dt)::pg [] X.dt) jJ)(dP:autoParam ((y0 gw (pg [.Ze uu uG fv eA] X.dt)).uJ (·.1)=false) jJ):
  DE Z X EE (.wO (.oh x p) [e,.Ze uu uG fv eA] [] gw) (d6 F j l js d):=by
 let⟨fa,fd,FF,m,kp,bd⟩:=C.ex;unfold cP at ok;simp only[w0q,w1c,_e,Ϣ,w1r,w0y]at ok;obtain⟨⟨⟨⟨⟨⟨k1,k2⟩,k3⟩,k4⟩,k5⟩,k6⟩,k7⟩:=ok;have zc:∀x,X.dt.zj x=sc.qW.g6 x:=λx=>by rw[<- hsc];rfl
 refine PE.k8 (zbK (Nf:=nf) (js:=js) FF hr hg m kp bd hx M qC he lB (λx hx hf=>?_) (λi j y e1 e2=>?_) jT ky wM dP) ?_
 .rw[zc];rcases k4 x hx with(z|z)|z
  .exact uz hf z
  .exact .jd z
  .exact .lb z
 .have bZ:i<js.aj:=(w0b.mp e2).1;have z:=k6 i bZ;rw[e1,e2]at z;let⟨z1,z2⟩:=k7 y (w0w e1);refine⟨by rw[hN];simpa using z,n9.Z2 z1,?_,?_⟩
  .rw[hsc];rcases z2 with z|z
   .exact .lb (.jd z)
   .exact .lb (.lb z)
  .rw[zc];rcases z2 with z|z<;>(rw[z];decide)
 .rintro σ H Q ⟨G,en,mQ,h⟩;simp only[d6,R.ar]at h;refine⟨G,en,mQ,h.uM (λw e1 h G1 v1 H1 r1 s1 p1 f a8 H2 la=>?_) λ_ _ h=>h⟩
  let⟨e5,Hm,pm,eS,c',hH,hf,rfl⟩:=la
  have rm:pZ X.K Z G1 σ Hm e1:=by
   rcases hH with rfl|⟨c,oc,hc,rfl⟩
   .exact r1
   .exact r1.zR (aK.ox r1.p9 hc _)
  have gl:=aK.JN rm.p9 hf (mf (ZM "<lambda>" (X.dt.t_++"<lambda>") uu uG fv a8 pm c' eS) (X.dt.t_++"<lambda>") c');have r2:=rm.zR gl;refine⟨a8,e5,λcs co=>?_⟩
  cases ly:dz js e1 with
  |none=>rw[ly]at h;exact h.oa
  |ab aL=>
   rw[ly]at h;let⟨zs,rz,zl,zv⟩:=Ju r1 ly;have sJ:∀b o,cs.g6 b=ab o->oL Hm f (mf (ZM "<lambda>" (X.dt.t_++"<lambda>") uu uG fv a8 pm c' eS) (X.dt.t_++"<lambda>") c') b=none:=λb o z=>(co.ou b o z).1
   have zY:∀b o,cs.g6 b=ab o->oL G1 f (mf (ZM "<lambda>" (X.dt.t_++"<lambda>") uu uG fv a8 pm c' eS) (X.dt.t_++"<lambda>") c') b=none:=λb o z=>by
    cases q:oL G1 f (mf (ZM "<lambda>" (X.dt.t_++"<lambda>") uu uG fv a8 pm c' eS) (X.dt.t_++"<lambda>") c') b with
    |none=>rfl
    |ab u=>have:=r2.p9 b u q;rw[sJ b o z]at this;cases this
   have sA:=gl.gg.kZ (Ka zY)
   have wB:cs.g6 f=none:=by
    cases q:cs.g6 f with
    |none=>rfl
    |ab o=>have:=zY f o q;rw[bN]at this;cases this
   have fc:fZ (bQ (oL G1 f (mf (ZM "<lambda>" (X.dt.t_++"<lambda>") uu uG fv a8 pm c' eS) (X.dt.t_++"<lambda>") c')) cs) a8 l zs cs:=by
    subst hl;refine⟨co.zT,co.A',co.t9,λc o z=>⟨pE z,(co.ou c o z).2⟩,λi y z g1 g2=>?_,by rw[zl];exact k5⟩
    have hi:i<js.aj:=by rw[<- zl];exact(w0b.mp g2).1
    have g3:js[i]?=ab js[i]:=w0c hi;exact co.vV i y js[i] z g1 g3 (zv i _ z g3 g2)
   have JK:qk X.K (bQ (oL G1 f (mf (ZM "<lambda>" (X.dt.t_++"<lambda>") uu uG fv a8 pm c' eS) (X.dt.t_++"<lambda>") c')) cs) (.fn j l aL) (.dr f):=by
    refine⟨f,a8,zs,cs,rfl,⟨pm,c',eS,?_⟩,fc,ah.k8 sA aL rz⟩;rw[ir wB,bN,hl]
   refine⟨_,[w,.fn j l aL],D7 r2.p9,⟨v1,[.dr f],rfl,qk.k8 sA w p1,⟨.dr f,[],rfl,JK,rfl⟩⟩,?_⟩;cases q:F [w,.fn j l aL]with
   |ok s=>
    simp only[e7,q]at h;cases s with
    |fr w'=>
     simp only[iR]at h;split at h
     .rename_i VR;intro G' H' v g sl;let⟨u,h1,h2⟩:=sl;cases h1;have g':=aK.gb g sJ r2.p9;have ci:bA G' cs:=λb o z=>g.gg b _ (pE z)
      exact h (dE G' cs) v (dE H' cs) (r2.zR g') (s1.kZ (gl.gg.kZ g'.gg)) (qk.rm ci w' VR h2)
     .exact h.oa
    |_=>exact h.oa
   |ex c=>
    simp only[e7,q,iR]at h;intro H' sh;refine Lx r2 (s1.kZ gl.gg) h (dE H' cs) λb u z=>?_
    cases q2:cs.g6 b with
    |ab o=>rw[sJ b o q2]at z;cases z
    |none=>rw[mK q2];exact sh b u (by rw[ir q2];exact z)
   |no=>simp only[e7,q,iR]at h;exact h.oa
end
section
variable{a b:p6}{da db:iw W}
def uD:W->W->d3 (ai W)
 |.dI ws,.aT k=>if pD k=true/\ws.aj*k.uh<=16777216 then ab (ai.w8 k.uh ws).Ys else none
 |_,_=>none
def kJ(da db:iw W):iw (ai W):=λe=>(da e).r7 λx e1=>(db e1).r7 λy e2=>bp (uD x y) e2
def Q3w(ha:DE Z X EE a da)(hb:DE Z X EE b db):DF Z X EE (._A a .ι b gw) (kJ da db):=by
 refine PE.k8 (SD QU ha hb) ?_;rintro σ H Q ⟨G,e,mQ,h⟩;simp only[kJ,R.ar,aZ]at h;refine⟨G,e,mQ,h.uM (λx e1 h G1 v1 H1 r1 s1 p1=>?_) λ_ _ h=>h⟩
 refine⟨G1,e1,r1,h.uM (λy e2 h G2 v2 H2 r2 s2 p2=>?_) λ_ _ h G' H' r s=>h G' H' r (s1.kZ s)⟩
 let⟨xH,hf,h⟩:=h;unfold uD at hf;split at hf
 .rename_i ws k;split at hf
  .rename_i hc;cases hf;let⟨l,xs,rfl,hq,rp⟩:=qk.k8 s2 _ p1;cases(show v2=.aT k from p2);have b:=rE hc.1;refine⟨l,k,xs,rfl,rfl,r2.p9.p7 hq,by omega,by omega,by rw[rp.aj,LP];exact hc.2,?_⟩;exact Ed r2 (s1.kZ s2) (D' rp k.uh) h
  .cases hf
 .cases hf
end
theorem z7p{da db:iw W}:kJ da db e=(da e).r7 λx e1=>(db e1).r7 λy e2=>bp (uD x y) e2:=rfl
def keyOf:W->d3 Ya
 |.aT i=>ab (.jd i)
 |.str x=>ab (.lb x)
 |_=>none
def zeg(i:aO)(v:Sv)(e:ai S):d3 Ya->SR
 |ab k=>.nx (e.rk i (.aV (.k [(k,v)])))
 |none=>.no
def lP(i:aO)(v:Sv)(e:ai S):d3 S->SR
 |ab (.fr w)=>zeg i v e (keyOf w)
 |_=>.no
def iO(i j:aO)(v:Sv):ai S->SR:=λe=>lP i v e e[j]?
section
variable{y:et}
def z1c(i j:aO){n:a7}{c cp}{Yw qr:vW}(hN:X.N.xZ)(hk:PE X (.oh y p) (r_ j))(hi:autoParam (X.N[i]?=ab x) jJ)(hx:autoParam (YU X.dt.fv x) jM)(hs:autoParam (Zk (.ϕ [ab (.oh y p)] [.ZD (.aT n) c cp] qr) (ab (.oh x Yw)) gw.Yd X.dt=vX false) jJ)(hf:autoParam (X.fn x=true\/X.dt.fv.qW.g6 x=ab .local) jL):
  DS Z X EE (.Zu [.oh x Yw] (.ϕ [ab (.oh y p)] [.ZD (.aT n) c cp] qr) gw) (iO i j (.jd n)):=by
 refine PS.k8 (yP i hN (US hk K7) hi hx hs hf) ?_;rintro D σ H ⟨G,e,mQ,h⟩;unfold iO lP at h;split at h
 .rename_i w hw;let⟨v,hv,rv⟩:=mQ.fr hw;cases hk:keyOf w with
  |none=>rw[hk]at h;exact h.oa
  |ab k=>
   rw[hk]at h;intro q hq
   have ev:v=kV k:=by
    cases w with
    |aT i=>cases hk;cases rv;rfl
    |str x=>cases hk;cases rv;rfl
    |_=>cases hk
   refine⟨v,hv,k,ev,bN,?_⟩;rw[Ei];have g:=aK.ox mQ.p9 hq (dO (.k [(k,.jd n)]));exact h G _ _ ((mQ.zR g).zeh (kvs:=.k [(k,.jd n)]) bN (mQ.p9.tD hq) (pF mQ hq)) (.t8 _)
 .exact h.oa
theorem z1d{j:aO}{v:Sv}:iO i j v e=lP i v e e[j]?:=rfl
theorem z1e{v:Sv}{n:a7}:lP i v e (ab (.fr (.aT n)))=.nx (e.rk i (.aV (.k [(.jd n,v)]))):=rfl
end
def xj:p6:=.oh "" ⟨0,0,0,0⟩
def xV(i:aO)(st:Mu):Mu:=(cS st).hX i (.Pass ⟨0,0,0,0⟩)
def rS:Mu->p6
 |.Zu _ v _=>v
 |.ϟ (ab v) _=>v
 |.For _ it _ _ _=>it
 |.p6 v _=>v
 |_=>xj
def uX(i:aO):p6->p6
 |.wO _ as _ _=>as.hX i xj
 |_=>xj
def zel:p6->p6
 |.Yb v _ _=>v
 |_=>xj
def iQ:p6->Z7
 |.Ze p _ _ _=>p
 |_=>default
def lH:p6->p6
 |.Ze _ b _ _=>b
 |_=>xj
def jY:p6->zF
 |.Ze _ _ s _=>s
 |_=>default
def l6(K:Fg)(x:et)(eM:d0):Prop:=∃c P a,eM=.dr c/\á K c P=true/\(a,ip P ((x++".<locals>.")++"<lambda>"))∈K
section
variable{P:xc}{w:vr}{mg:et->d3 d0}{k_:g0}
def Lr{CX:mY}{N:ai et}{fv:zF}{f:fy}{eM:d0}{A:C_}{tB:ai S'}{s:p5}{E:XK}(h:l6 K x eM)(b:_z k_ mg):ϛ (i9 CX P w K mg k_ N x fv f eM A tB s H E):=by
 let⟨c,P,a,rfl,h1,h2⟩:=h;exact⟨⟨c,P,a,rfl,h1,h2⟩,b⟩
def Fx{bM:aO->d3 Lm}(h:∀i ws,r i ws=.no:=by intro _ _;rfl):sx P w K mg k_ (fe P w) 0 (yS K bM r):=by
 rintro x vs H Q E ⟨G,i,l,aL,ws,w',sg,rf,rv,nw,nc,hl,hr,q⟩;rw[h]at hr;cases hr
end
def dq(K:Fg)(xY:ai (fy×et)):Fg:=K++xY.a6 λp=>(Yi,ip p.1 p.2)
section
variable{xY:ai (fy×et)}{a:fy}{o:sT}
def q5w(h:K.g6 a=ab o):(dq K xY).g6 a=ab o:=by
 unfold dq;rw[w5q,h];rfl
def KN(hG:(K.g6 Yi).z_=true):(dq K xY).g6 a=K.g6 a:=by
 unfold dq;rw[w5q];cases q:K.g6 a with
 |ab o=>rfl
 |none=>
  have ne:a≠Yi:=λz=>by rw[<- z,q]at hG;cases hG
  have:∀l:ai (fy×et),(l.a6 λp=>(Yi,ip p.1 p.2)).g6 a=none:=λl=>by
   induction l with
   |so=>rfl
   |qT p l ih=>rw[w0m,w3w,϶.wa ne];exact ih
  rw[this];rfl
theorem GD{h:g0}(hG:(K.g6 Yi).z_=true)(X:K.In h):(dq K xY).In h:=λb u e=>X b u (by rw[<- KN (xY:=xY) hG];exact e)
theorem no_m(hG:(K.g6 Yi).z_=true)(n:eV K):eV (dq K xY):=λb u e=>n b u (by grind [KN])
def ns_m{r:d3 d0}(h:n9.W.Τ K a x=ab r):n9.W.Τ (dq K xY) a x=ab r:=by
 unfold n9.W.Τ at h |-
 cases q:K.g6 a with
 |none=>rw[q]at h;cases h
 |ab o=>rw[q5w q];rw[q]at h;exact h
def Q3x{cd:d0}(h:n9.W._F K cd x=true):n9.W._F (dq K xY) cd x=true:=by
 cases cd with
 |dr a=>
  unfold n9.W._F at h |-
  dsimp only at h |-
  cases q:K.g6 a with
  |none=>rw[q]at h;cases h
  |ab o=>rw[q5w q];rw[q]at h;exact h
 |_=>cases h
def Q3y(t:funAt K a=true):_L (dq (d7 K) xY) (.dr a)=true:=by
 have h:=t;unfold funAt at t
 rw[w0q]at t
 grind [W._L,q5w,q1f]
theorem zbz(h:gQ K=true)(hd:xY.t9 (λp=>xY.g6 p.1==ab p.2)=true):∀a q P,(a,ip P q)∈dq K xY->xY.g6 P=ab q:=λa q P m=>by
 rcases w2s.mp m with m|m
 .have:=w1c.mp h _ m;cases this
 grind
theorem zar(h:gQ K=true):gQ (d7 K)=true:=w1c.wa λp hp=>w1c.mp h p (w1k.mp hp).1
theorem kU(hG:(K.g6 Yi).z_=true)(h:xY.t9 (λp=>(K.g6 p.1).ř)=true):∀P q,xY.g6 P=ab q->(dq K xY).g6 P=none:=λP q e=>by
 rw[KN hG];have:=w1c.mp h _ (j0 e)
 simpa using this
where
 j0:∀{l:ai (fy×et)}{P:fy}{q:et},l.g6 P=ab q->(P,q)∈l
 |[],_,_,e=>by cases e
 |(b,t)::l,P,q,e=>by
  rw[w3w]at e
  by_cases hb:(P==b)=true
  .rw[hb]at e;cases e;rw[ċ hb];exact .head _
  .rw[w2l.wa hb]at e;exact .Χ _ (j0 e)
theorem z7q{h:g0}(X:K.In h)(hT:∀P∈xY.a6 (·.1),h.ik P=ab (ϫ #[]))(hc:∀p∈xY,∃c,á K c p.1=true):∀P q,xY.g6 P=ab q->h.ik P=ab (ϫ #[])/\Ď h P:=λP q e=>by
 have m:=kU.j0 e;let⟨c,hc⟩:=hc _ m;have g:=hT P (w0u.wa ⟨_,m,rfl⟩);exact⟨g,((n9.W.codeHd_of_K X hc)._m g).Ď⟩
end
section
variable{ws aL:ai W}{bM:aO->d3 Lm}{d:iw W}{j:aO}{l:Lm}{w:W}{F:ai W->FR}{js:ai aO}
theorem z1f:iK bM r i dA e=lj bM r dA e e[i]?:=rfl
theorem y6r:lj bM r dA e (ab (.fr (.fn j l aL)))=(dA e).r7 λws e1=>iH bM r j l aL ws e1:=rfl
def OH(h1:bM j=ab l)(h2:bE ws=true)(h3:bE aL=true)(h4:r j (ws++aL)=.ok (.fr w)):iH bM r j l aL ws e=.ok w e:=by
 unfold iH;rw[nZ ⟨h1,h2,h3⟩,h4]
theorem y25:d6 F j l js d e=(d e).r7 λw e1=>e7 F j l w e1 (dz js e1):=rfl
theorem M1:e7 F j l w e (ab aL)=iR e (F [w,.fn j l aL]):=rfl
theorem OI(h:ZU w=true):iR e (.ok (.fr w))=.ok w e:=nZ h
theorem z1g:dz [] e=ab []:=rfl
end
end D
namespace L2
open PySem PySem.Spec PyProof.Rows
def T4(hl:PE X l tl):PE X l (λσ H Q=>tl σ H λv H1=>∃a xs,H1 a=ab (.dI xs)/\∀o,Q v (oL H1 a (.cK o (.dI xs)))):=by
 intro dN s σ H Q I h;refine bq (hl dN s σ H _ I h) λv s1 ⟨x,H1,I1,r1,q1⟩=>?_
 let⟨a,xs,e,q⟩:=q1;let⟨aw,_,⟨o,n,g,_⟩,_⟩:=I1.xm (bD.of e);exact⟨x,_,I1.lx e g,r1,q o⟩
end L2
namespace D
open PySem L2 PySem.Spec PyProof.Rows
open PyProof.Rows (envOfC)
variable{X:Cx}{es:ai p6}{p gw:vW}{K:Fg}{x:et}{Z:Zt}
mutual
theorem OJ{K:Fg}{Z:Zt}{G:Hp}:∀(w:W){v:V},cq w=true->Rep K G w v->dR K Z G w v
 |.aB,_,_,p=>p
 |.bl _,_,_,p=>p
 |.int _,_,_,p=>p
 |.str _,_,_,p=>p
 |.tup ws,_,h,⟨a,xs,e,q,r⟩=>⟨a,xs,e,q,Oq ws h r⟩
 |.lst _,_,h,_=>by cases h
 |.exc _,_,h,_=>by cases h
 |.aV _,_,h,_=>by cases h
 |.dw _ _ _ _,_,h,_=>by cases h
 |.fn _ _ _,_,h,_=>by cases h
theorem Oq{K:Fg}{Z:Zt}{G:Hp}:∀(ws:List W){vs:List V},cU ws=true->ah K G ws vs->aY K Z G ws vs
 |[],_,_,p=>p
 |w::ws,_,h,⟨x,r,e,p,q⟩=>by
  have h:(cq w&&cU ws)=true:=h;rw[w0q]at h;exact⟨x,r,e,OJ w h.1 p,Oq ws h.2 q⟩
end
theorem aY.aj(h:aY K Z G ws xs):ws.aj=xs.aj:=(aY.ed ws h).aj.symm
section
variable{e:ai S}
def pZ.refill(r:pZ K Z G σ H (e.rk i .no)){s0:S}{v:V}(hv:σ[i]?=ab (ab v))(hs:∀b ws,s0≠.ku b ws)(q:c7 K Z G H s0 (ab v)):pZ K Z G σ H (e.rk i s0):=by
 have h:=r.xP (i:=i) hs q;rw[ai.set_set]at h
 have:σ.rk i (ab v)=σ:=by
  let⟨hi,h2⟩:=w0b.mp hv;rw[<- h2,ai.set_getElem_self]
 rw[this]at h;exact h
theorem pZ.zeB(r:pZ K Z G σ H e)(i:aO):pZ K Z G σ H (e.rk i .no):=r.forget (by simp) λk s z=>by
 by_cases hk:k=i
 .subst hk
  have hi:k<e.aj:=by
   have:=(w0b.mp z).1;simpa using this
  rw[w0k hi]at z;cases z;exact .jd rfl
 .rw[w0h (λz=>hk z.symm)]at z;exact .lb z
end
section
variable{EE:L2.St->XK}{a b c e:p6}{d:iw W}{dA:iw (ai W)}{y:et}{p1:vW}
def zeV(i j:aO)(e:ai S):d3 S->d3 S->SR
 |ab (.x (.tG us)),ab (.ku none ws)=>if(us.aj<16777216/\cU ws=true)/\((e.rk j .no).rk i .no).t9 (λs=>!kN s)=true then .nx ((e.rk j .no).rk i (.x (.tG (us++[.dI ws]))))else .no
 |_,_=>.no
end
section
variable(K:Fg)(Z:Zt)(EE:L2.St->XK)
def AS(d:iw W):TE:=λσ H Q=>pM K Z σ H λG e=>(d e).SA (λw e'=>∀G' v H',pZ K Z G' σ H' e'->ao G G'->dR K Z G' w v->Q v H') (XH K Z EE σ G)
def zep(d:iw (ai W)):TA:=λσ H Q=>pM K Z σ H λG e=>(d e).SA (λws e'=>∀G' vs H',pZ K Z G' σ H' e'->ao G G'->aY K Z G' ws vs->Q vs H') (XH K Z EE σ G)
end
def DN(Z:Zt)(X:Cx)(EE:L2.St->XK)(e:p6)(d:iw W):Prop:=PE X e (AS X.K Z EE d)
def y_(Z:Zt)(X:Cx)(EE:L2.St->XK)(es:ai p6)(d:iw (ai W)):Prop:=PA X es (zep X.K Z EE d)
section
variable{EE:L2.St->XK}{a b c e:p6}{da d:iw W}{dA zfh:iw (ai W)}{y:et}{p1 p2 p3:vW}
def jC(d:iw W):iw W:=λe=>(d e).r7 λw e1=>if cq w=true then .ok w e1 else .no
def z7r(he:DE Z X EE e d):DN Z X EE e (jC d):=by
 refine PE.k8 he ?_;rintro σ H Q ⟨G,e,mQ,h⟩;refine⟨G,e,mQ,(R.ar.mp h).uM (λw e1 h G1 v H1 r1 s1 p1=>?_) λ_ _ h=>h⟩
 split at h
 .rename_i hf;exact h G1 v H1 r1 s1 (OJ w hf p1)
 .exact h.oa
def A4(e:ai S):d3 S->R W
 |ab (.x (.vd w))=>.ok w e
 |_=>.no
theorem z7s:y_ Z X EE [] ag:=PA.k8 xC λσ H Q ⟨G,e,r,h⟩=>h G [] H r (.t8 _) rfl
def Kb(ha:DN Z X EE e da)(hr:y_ Z X EE es dA)(hs:autoParam (pg (e::es) X.dt=(false,eval e X.dt)::pg es X.dt) jJ):y_ Z X EE (e::es) (ae da dA):=by
 refine PA.k8 (rG ha hr hs) ?_;rintro σ H Q ⟨G,e,mQ,h⟩;simp only[ae,R.ar]at h;refine⟨G,e,mQ,h.uM (λx e1 h G1 v1 H1 r1 s1 p1=>?_) λ_ _ h=>h⟩
 refine⟨G1,e1,r1,h.uM (λxs e2 h G2 vs H2 r2 s2 p2=>?_) λ_ _ h=>XH.kZ s1 h⟩
 exact h G2 (v1::vs) H2 r2 (s1.kZ s2) ⟨v1,vs,rfl,dR.yy s2 (λ_ _ _ z=>z) x p1,p2⟩
def Tz{x1}(h:y_ Z X EE es dA):DN Z X EE (.Yg es x1 gw) (a_ dA):=by
 refine PE.k8 (K9 h) ?_;rintro σ H Q ⟨G,e,mQ,h⟩;simp only[a_,R.ar]at h;refine⟨G,e,mQ,h.uM (λws e1 h G1 vs H1 r1 s1 p1=>?_) λ_ _ h=>h⟩
 split at h
 .rename_i hl;refine⟨by rw[<- p1.aj,LP];exact hl,λp hp=>?_⟩
  have g:=aK.JN r1.p9 hp (.gs vs);exact(show ∀G' v H',_->_->dR X.K Z G' (.gs ws) v->Q v H' from h) _ (.dr p) _ (r1.zR g) (s1.kZ g.gg) ⟨p,vs,rfl,bK.of bN,aY.yy g.gg (λ_ _ _ z=>z) ws p1⟩
 .exact h.oa
def jG(d:iw W):ai S->SR:=λe=>(d e).cH λw e1=>.rt (.x (.vd w)) e1
def z1h(he:DN Z X EE e d):DS Z X EE (.ϟ (ab e) gw) (jG d):=by
 refine PS.k8 (BQ he) ?_;rintro D σ H ⟨G,e,mQ,h⟩;exact⟨G,e,mQ,(i3 h).uM (λw e1 h G1 v1 H1 r1 s1 p1=>h G1 σ v1 H1 r1 s1 ⟨v1,rfl,p1⟩) λ_ _ h=>h⟩
def jH(i:aO)(d:iw W):ai S->SR:=λe=>(d e).cH λw e1=>.nx (e1.rk i (.x (.vd w)))
def z1i(i:aO){Yw:vW}(hN:X.N.xZ)(he:DN Z X EE e d)(hi:autoParam (X.N[i]?=ab x) jJ)(hx:autoParam (YU X.dt.fv x) jM)(hs:autoParam (Zk e (ab (.oh x Yw)) gw.Yd X.dt=vX false) jJ)(hf:autoParam (X.fn x=true\/X.dt.fv.qW.g6 x=ab .local) jL):
  DS Z X EE (.Zu [.oh x Yw] e gw) (jH i d):=by
 refine PS.k8 (yP i hN he hi hx hs hf) ?_;rintro D σ H ⟨G,e,mQ,h⟩;exact⟨G,e,mQ,(i3 h).uM (λw e1 h G1 v1 H1 r1 q1 p1=>h G1 _ H1 (r1.xP (s:=.x (.vd w)) (λ_ _ z=>nomatch z) ⟨v1,rfl,p1⟩) q1) λ_ _ h=>h⟩
end
def lh(e:ai S):FR->R W
 |.ok (.x (.vd w))=>.ok w e
 |.ex c=>.ex c e
 |_=>.no
def iJ(F:ai W->FR)(dA:iw (ai W)):iw W:=λe=>(dA e).r7 λws e1=>lh e1 (F ws)
section
variable{EE:L2.St->XK}{e uG:p6}{uu:Z7}{d:iw W}{dA:iw (ai W)}{eA:vW}{k:aO}{ps N nf:ai et}{js:ai aO}{sc fv:zF}{F:ai W->FR}
def Q31(C:sv X.je X.w X.K X.mg X.k_ k x ps (oR X.K F))(hr:br k X.A)(hx:eW (fe X.je X.w) X EE)(ha:DA Z X EE (e::es) dA)(hg:autoParam (Gl X x) jJ)
  (jT:autoParam ((x==("__debug__":et))=false) jK)(he:autoParam (pg (e::es) X.dt=(false,eval e X.dt)::pg es X.dt) jJ)(dP:autoParam ((y0 gw (pg es X.dt)).uJ (·.1)=false) jJ):
  DN Z X EE (.wO (.oh x p) (e::es) [] gw) (iJ F dA):=by
 refine PE.k8 (K_ C hr hx ha hg jT he dP) ?_;rintro σ H Q ⟨G,e,mQ,h⟩;simp only[iJ,R.ar]at h;refine⟨G,e,mQ,h.uM (λws e1 h G1 vs H1 r1 s1 p1=>?_) λ_ _ h=>h⟩
 refine⟨G1,ws,r1.p9,by rw[w1q];exact p1,?_⟩;cases q:F ws with
 |ok s=>
  rw[q]at h;intro G' H' v g sl;cases s with
  |x k=>
   cases k with
   |vd w=>
    let⟨u,h1,h2⟩:=sl;cases h1;exact h G' _ H' (r1.zR g) (s1.kZ g.gg) (dR.yy (.t8 _) (λa _ _ z=>pF r1 z) w h2)
   |_=>exact h.oa
  |_=>exact h.oa
 |ex c=>
  rw[q]at h;exact Lx r1 s1 h
 |no=>rw[q]at h;exact h.oa
end
def my(h:d3 HO)(o:HO):ie:=fw o||h.ř
def fb(G G2 H:Hp):Hp:=λa=>match G a with
 |ab o=>ab o
 |none=>match G2 a with
  |ab o=>if my (H a) o=true then ab o else none
  |none=>none
section
variable{Z':Zt}{G G':Hp}
def oZ.kX(q:oZ fz G a sh kvs bc)(h:∀o,G a=ab o->G' a=ab o):oZ fz G' a sh kvs bc:=by
 cases fz with
 |true=>let⟨o,q⟩:=q;exact⟨o,h _ q⟩
 |false=>exact h _ q
mutual
theorem bV.kX(hU:∀a u,fw u=true->G a=some u->G' a=some u):∀(k:Kx){v:V},bV G k v->bV G' k v
 |.aB,_,x=>x
 |.bl _,_,x=>x
 |.int _,_,x=>x
 |.str _,_,x=>x
 |.tup ks,_,⟨a,xs,e,q,r⟩=>⟨a,xs,e,q.imp (λz=>hU _ _ rfl z) (fun⟨o,z⟩=>⟨o,hU _ _ rfl z⟩),de.kX hU ks r⟩
theorem de.kX(hU:∀a u,fw u=true->G a=some u->G' a=some u):∀(ks:List Kx){vs:List V},de G ks vs->de G' ks vs
 |[],_,x=>x
 |k::ks,_,⟨v,r,e,h1,h2⟩=>⟨v,r,e,bV.kX hU k h1,de.kX hU ks h2⟩
end
theorem cf.kX(hU:∀a u,fw u=true->G a=ab u->G' a=ab u):∀{ks:ai Kx}{bs:ai fy},cf G ks bs->cf G' ks bs
 |[],[],_=>trivial
 |k::ks,b::bs,h=>⟨bV.kX hU k h.1,cf.kX hU h.2⟩
 |[],_::_,h=>h.oa
 |_::_,[],h=>h.oa
def bH.kX(hU:∀a u,fw u=true->G a=ab u->G' a=ab u)(h:bH sh G ks bs):bH sh G' ks bs:=by
 unfold bH at h |-
 split at h
 .grind
 .rename_i hi;rw[r5 hi];exact h.kX hU
mutual
theorem dR.kX(hT:∀a xs,bK K G a xs->bK K G' a xs)(hU:∀a u,fw u=true->G a=some u->G' a=some u)(hL:∀a o,G a=some o->Z.H a=none->G' a=some o/\Z'.H a=none):∀(w:W){v:V},dR K Z G w v->dR K Z' G' w v
 |.aB,_,h=>h
 |.bl _,_,h=>h
 |.int _,_,h=>h
 |.str _,_,h=>h
 |.tup ws,_,⟨a,xs,e,q,r⟩=>⟨a,xs,e,hT _ _ q,aY.kX hT hU hL ws r⟩
 |.lst ws,_,⟨a,xs,e,q,n,r,nd⟩=>⟨a,xs,e,(hL _ _ q n).1,(hL _ _ q n).2,aY.kX hT hU hL ws r,nd⟩
 |.exc _,_,h=>h.elim
 |.aV _,_,h=>h.elim
 |.dw fz sh ks ws,_,⟨a,kvs,bc,e,q,n,h1,h2,r⟩=>⟨a,kvs,bc,e,q.kX (λo z=>(hL _ o z n).1),(let ⟨_,z⟩:=q.ex;(hL _ _ z n).2),h1,bH.kX hU h2,aY.kX hT hU hL ws r⟩
 |.fn _ _ _,_,h=>h.elim
theorem aY.kX(hT:∀a xs,bK K G a xs->bK K G' a xs)(hU:∀a u,fw u=true->G a=some u->G' a=some u)(hL:∀a o,G a=some o->Z.H a=none->G' a=some o/\Z'.H a=none):∀(ws:List W){vs:List V},aY K Z G ws vs->aY K Z' G' ws vs
 |[],_,h=>h
 |w::ws,_,⟨x,r,e,p,q⟩=>⟨x,r,e,dR.kX hT hU hL w p,aY.kX hT hU hL ws q⟩
end
end
def pZ.oV(r:pZ K Z G σ H e0)(nE:Z.io=[])(r2:pZ K ⟨H,cy Z G H,[]⟩ G2 σ H2 e2):pZ K Z (fb G G2 H) σ H2 e0:=by
 have hh:ao H H2:=λa o h=>r2.VB a o h (λz=>nomatch z)
 have sg:ao G (fb G G2 H):=λa o h=>by unfold fb;rw[h]
 have cF:∀a o,H a=ab o->G a=none->fw o=false->fb G G2 H a=none:=λa o h1 h2 h3=>by
  have z:G2 a=cy Z G H a:=r2.gen a (by grind)
  grind [fb,cy,my]
 refine⟨λa o h=>?_,λi s h=>?_,r.uN,r.kq,λa o h n=>hh _ _ (r.VB a o h n),λa h=>(by rw[nE]at h;cases h),λa h=>?_⟩
 .unfold fb at h;cases q:G a with
  |ab u=>rw[q]at h;cases h;exact hh _ _ (r.p9 _ _ q)
  |none=>
   rw[q]at h;cases q2:G2 a with
   |none=>rw[q2]at h;cases h
   |ab u=>
    rw[q2]at h;dsimp only at h;split at h
    .cases h;exact r2.p9 _ _ q2
    .cases h
 .have q:=r.xM i s h;cases s with
  |no=>trivial
  |fr w=>
   let⟨u,q1,q2⟩:=q;exact⟨u,q1,qk.k8 sg w q2⟩
  |ku b ws=>
   let⟨a,xs,q1,q2,q3,q4,q5⟩:=q;exact⟨a,xs,q1,hh _ _ q2,cF _ _ q2 q3 rfl,q4,ah.k8 sg ws q5⟩
  |aV kvs=>
   let⟨a,q1,q2,q3,q4⟩:=q;exact⟨a,q1,hh _ _ q2,cF _ _ q2 q3 (by cases kvs<;>rfl),q4⟩
  |dW us ws vs=>
   let⟨t,l,o,xs,ys,zs,q1,q2,q3,q4,q5,q6,q7,q8⟩:=q;exact⟨t,l,o,xs,ys,zs,q1,sg _ _ q2,hh _ _ q3,cF _ _ q3 q4 rfl,q5,ah.k8 sg us q6,ah.k8 sg ws q7,ah.k8 sg vs q8⟩
  |YL cb=>exact b8.yy q sg λl o ys k1 k2 k3=>⟨hh _ _ k1,cF _ _ k1 k2 rfl,k3⟩
  |x k=>exact m9.yy q sg λl o ys k1 k2 k3=>⟨hh _ _ k1,cF _ _ k1 k2 rfl,k3⟩
  |dw sh ks ws=>exact gH.yy q sg λl o ys k1 k2 k3=>⟨hh _ _ k1,cF _ _ k1 k2 P5,k3⟩
 .have e:∃o,H a=ab o:=by
   cases q:Z.H a with
   |none=>exact uz q h
   |ab o=>exact⟨o,r.VB a o q (by grind)⟩
  let⟨o,ho⟩:=e;rw[<- r.gen a h];unfold fb;cases q:G a with
  |ab u=>rfl
  |none=>
   have z:G2 a=cy Z G H a:=r2.gen a (by grind)
   grind [cy]
def oD(e:ai S):R W->R W
 |.ok w _=>.ok w e
 |.ex c _=>.ex c e
 |.no=>.no
def iN(d:iw W):iw W:=λe=>oD e (d (bF e))
def z7t{X:L2.Cx}(nE:Z.io=[])(he:∀Z',DN Z' X EE e d):DN Z X EE e (iN d):=by
 intro dN s σ H Q I hq;let⟨G,e0,mQ,h⟩:=hq;refine he ⟨H,cy Z G H,[]⟩ dN s σ H Q I ⟨_,bF e0,mQ.AR nE,?_⟩;unfold iN oD at h;cases q:d (bF e0)with
 |ok w e2=>
  rw[q]at h;dsimp only at h;intro G2 v H2 r2 s2 p
  have kp:∀b o,G2 b=ab o->my (H b) o=true->fb G G2 H b=ab o:=λb o h1 h2=>by
   unfold fb;cases qq:G b with
   |ab u=>
    have h3:G2 b=ab u:=s2 b u (by
     unfold cy;cases q9:Z.H b with
     |none=>exact mQ.p9 _ _ qq
     |ab _=>exact qq)
    grind
   |none=>simp only[h1,h2];rfl
  refine h (fb G G2 H) v H2 (mQ.oV nE r2) (λb o z=>by unfold fb;rw[z]) (dR.kX (λb ys z=>?_) (λb u hk z=>kp _ _ z (by grind [my])) (λb xs h1 h2=>⟨kp _ _ h1 (by grind [my]),pF mQ h2⟩) w p)
  rcases z with(z|⟨o,z⟩)|z
  .exact .jd (.jd (kp _ _ z rfl))
  .exact .jd (.lb ⟨o,kp _ _ z rfl⟩)
  .exact .lb z
 |ex k e2=>
  rw[q]at h;intro G2 H2 r2 s2;exact h (fb G G2 H) H2 (mQ.oV nE r2) (λb o z=>by unfold fb;rw[z])
 |no=>rw[q]at h;exact h.oa
section
variable(K:Fg)(Z:Zt)(EE:L2.St->XK)
def zex(D:_B):SR->Prop
 |.nx e'=>∀G' aJ H',pZ K Z G' aJ H' e'->D.nx aJ H'
 |.bk e'=>∀G' aJ H',pZ K Z G' aJ H' e'->D.bk aJ H'
 |.ct e'=>∀G' aJ H',pZ K Z G' aJ H' e'->D.ct aJ H'
 |.rt s e'=>∀G' aJ v H',pZ K Z G' aJ H' e'->c7 K Z G' H' s (ab v)->D.rt v H'
 |.ex c e'=>∀G' aJ H',pZ K Z G' aJ H' e'->EE aJ c none H'
 |.no=>vk
def AU(d:ai S->SR):TS:=λD σ H=>pM K Z σ H λG e=>zex K Z EE D (d e)
end
def E8(Z:Zt)(X:Cx)(EE:L2.St->XK)(gf:ai Mu)(d:ai S->SR):Prop:=l7 X gf (AU X.K Z EE d)
section
variable{e:ai S}{w u:W}{i:aO}{d:iw W}{l:Lm}
theorem z1j:cU []=true:=rfl
theorem z7u:jC d e=(d e).r7 λw e1=>if cq w=true then .ok w e1 else .no:=rfl
theorem Q32:cq (.aT n)=true:=rfl
theorem z7v:A4 e (ab (.x (.vd w)))=.ok w e:=rfl
theorem z1k:jG d e=(d e).cH λw e1=>.rt (.x (.vd w)) e1:=rfl
theorem z1l:jH i d e=(d e).cH λw e1=>.nx (e1.rk i (.x (.vd w))):=rfl
theorem z1m:iJ F dA e=(dA e).r7 λws e1=>lh e1 (F ws):=rfl
theorem z1n:lh e (.ok (.x (.vd w)))=.ok w e:=rfl
theorem y6s:lh e (.ex c)=.ex c e:=rfl
theorem z1o:iN d e=oD e (d (bF e)):=rfl
theorem z1p:oD e (.ok w e')=.ok w e:=rfl
theorem z1q:dM (.x (.w5 w))=.fr w:=rfl
theorem z1r:dM (.x (.vd w))=.fr w:=rfl
theorem z1s:dM (.x (.tG ws))=.fr (.dI ws):=rfl
theorem y6t:dM (.x (.n5 us ws vs))=.fr (.gs (us++.dI ws::vs)):=rfl
end
end D
namespace L2
open PySem PySem.Spec PyProof.Rows
def z1t(hl:PA X es tl):PA X es (λσ H Q=>tl σ H λvs H1=>∃a o xs,H1 a=ab (.cK o (.dI xs))/\(∀o v,X.aF a≠ab (.cK o v))/\Q vs (oL H1 a (.dI xs))):=by
 intro p dN s σ H Q I h;refine bq (hl p dN s σ H _ I h) λv s1 ⟨x,H1,I1,r1,q1⟩=>?_
 let⟨a,o,xs,e,hf,q⟩:=q1;exact⟨x,_,I1.vn e hf,r1,q⟩
end L2
namespace D
open PySem L2 PySem.Spec PyProof.Rows
open PyProof.Rows (envOfC)
theorem z7w:dM (.x (.tn us cb))=.fr (.gs (us++[.dI (cb.a6 W.dI)])):=rfl
open PySem L2
variable{X:Cx}{dA:iw (ai W)}{db:iw W}{EE:L2.St->XK}{gw:vW}{Z:Zt}
def bW(r:ai ie):W:=.gs (r.a6 .bl)
theorem Qz:∀x y:ai ie,cX (x.a6 .bl) (y.a6 .bl)=ab (decide (x=y))
 |[],[]=>rfl
 |[],_::_=>rfl
 |_::_,[]=>rfl
 |a::x,b::y=>by
  show(match gK (.bl a) (.bl b),cX (x.a6 .bl) (y.a6 .bl)with|ab p,ab q=>ab (p&&q)|_,_=>none)=_;rw[Qz x y];show ab ((a==b)&&decide (x=y))=_;congr 1
  grind
def TB(r:ai ie):bX (bW r)<=1:=by
 have:∀r:ai ie,bS (r.a6 .bl)=0:=λr=>by
  induction r with
  |so=>rfl
  |qT b r ih=>show max 0 (bS (r.a6 .bl))=0;omega
 show bS (r.a6 .bl)+1<=1;rw[this];exact w0f _
abbrev lU:=ai ie×aO
variable{rs:ai (ai lU)}{r:ai lU}
def rn(p:lU):W:=.gs [.gs (p.1.a6 .bl),.aT (p.2:a7)]
def gW(s:ai lU):W:=.dI (s.a6 rn)
def TC(p q:lU):gK (rn p) (rn q)=ab (decide (p=q)):=by
 show(match cX (p.1.a6 .bl) (q.1.a6 .bl),ab (((p.2:a7)==(q.2:a7))&&true)with|ab a,ab b=>ab (a&&b)|_,_=>none)=_;rw[Qz];let⟨a,i⟩:=p;let⟨b,j⟩:=q;show ab (decide (a=b)&&(((i:a7)==(j:a7))&&true))=_;congr 1;rw[w4q,w1v];simp;omega
def yO(x y:ai lU):gK (gW x) (gW y)=ab (decide (x=y)):=by
 show cX (x.a6 rn) (y.a6 rn)=_
 induction x generalizing y with
 |so=>cases y<;>rfl
 |qT a x ih=>
  cases y with
  |so=>rfl
  |qT b y=>
   show(match gK (rn a) (rn b),cX (x.a6 rn) (y.a6 rn)with|ab p,ab q=>ab (p&&q)|_,_=>none)=_;rw[TC,ih];show ab (decide (a=b)&&decide (x=y))=_;congr 1;rw[w1v];simp
def R3(s:ai lU):bX (gW s)<=3:=by
 have h2:∀p,bX (rn p)<=2:=λp=>by
  show max (bX (bW p.1)) (max 0 0)+1<=2;have:=TB p.1;omega
 have:∀s:ai lU,bS (s.a6 rn)<=2:=λs=>by
  induction s with
  |so=>exact w1g _
  |qT b r ih=>exact aO.max_le.wa ⟨h2 b,ih⟩
 exact aO.succ_le_succ (this s)
def R4{x y:ai lU}(h:gW x=gW y):x=y:=by
 have:=yO x y;rw[h,yO]at this
 simpa using this
open Classical in
def pq(w:W):d3 (ai lU):=if h:∃r,w=gW r then ab h.ŋ else none
open Classical in
def kR(ws:ai W):d3 (ai (ai lU)):=if h:∃rs:ai (ai lU),ws=rs.a6 gW then ab h.ŋ else none
def z7x{w:W}(h:pq w=ab r):w=gW r:=by
 unfold pq at h;split at h
 .rename_i z;cases h;exact z.ß
 .cases h
def z1u{ws:ai W}(h:kR ws=ab rs):ws=rs.a6 gW:=by
 unfold kR at h;split at h
 .rename_i z;cases h;exact z.ß
 .cases h
def z7y(r:ai lU):pq (gW r)=ab r:=by
 unfold pq;have h:∃q,gW r=gW q:=⟨r,rfl⟩;rw[Ő h,<- R4 h.ß]
theorem QA:∀{x y:ai (ai lU)},x.a6 gW=y.a6 gW->x=y
 |[],[],_=>rfl
 |[],_::_,h=>nomatch h
 |_::_,[],h=>nomatch h
 |a::x,b::y,h=>by
  injection h with h1 h2
  rw[R4 h1,QA h2]
def z1v(rs:ai (ai lU)):kR (rs.a6 gW)=ab rs:=by
 unfold kR;have h:∃q:ai (ai lU),rs.a6 gW=q.a6 gW:=⟨rs,rfl⟩;rw[Ő h,<- QA h.ß]
def y6w{X:L2.Cx}{σ:L2.St}(I:j3 X dN σ H s)(sg:ao G H)(hu:A.zd+3<zm)(hr:ah X.K G (rs.a6 gW) xs)(px:qk X.K G (gW r) x)(vl:uw xs aw)(rx:uI x v):
  ∃e:d0->ie,(∀k (hk:k<aw.aj),∃q,rs[k]?=ab q/\e aw[k]=decide (q=r))/\∀y∈aw,yl.Wh A s y v (e y):=by
 have _c:∀k (hk:k<aw.aj),∃q xk,rs[k]?=ab q/\qk X.K G (gW q) xk/\uI xk aw[k]:=λk hk=>by
  have l1:=hr.aj;have l2:=vl.aj;rw[w0a]at l1;have hx:k<xs.aj:=by omega
  have hq:k<rs.aj:=by omega
  let⟨u1,e1,vQ⟩:=vl.Ff (w0c hx);let⟨w1,f1,p1⟩:=hr.jc (w0c hx)
  grind
 refine⟨λy=>@decide (∃k,∃(hk:k<aw.aj),aw[k]=y/\rs[k]?=ab r) (ζ.ï _),?_⟩
 have first:∀k (hk:k<aw.aj),∃q,rs[k]?=ab q/\@decide (∃k',∃(lC:k'<aw.aj),aw[k']=aw[k]/\rs[k']?=ab r) (ζ.ï _)=decide (q=r):=λk hk=>by
  let⟨q,xk,h1,h2,h3⟩:=_c k hk;refine⟨q,h1,?_⟩
  by_cases z:q=r
  .grind
  .rw[YY z];refine @YY _ (ζ.ï _) ?_;rintro⟨k',lC,e1,e2⟩;let⟨q',xk',g1,g2,g3⟩:=_c k' lC;rw[g1]at e2;cases(e2);rw[e1]at g3;rw[g3.zT h3]at g2;have:=BK I sg (gW q) h2 g2 (yO q r)
   grind
 refine⟨first,λy hy=>?_⟩
 let⟨k,hk,rfl⟩:=w1n.mp hy;let⟨q,h1,h2⟩:=first k hk
 refine(ZQ (yl.Wh A s aw[k] v) h2).wa ?_;let⟨q',xk,g1,g2,g3⟩:=_c k hk;rw[h1]at g1;cases g1;refine J4 g3 (J3 g2) (Ly I sg 3 (R3 q) hu g2 px g3 rx (yO q r)) λz=>?_
 subst z;rw[g3.zT rx]at g2;exact BK I sg (gW q) g2 px (yO q r)
def iP:W->ai W->d3 W
 |.dI ws,[x]=>match pq x,kR ws with
  |ab r,ab rs=>if r∈rs then ab (.aT (rs.S6 r:aO))else none
  |_,_=>none
 |_,_=>none
def oO(K:Fg):V->ai V->Hp->VK->Prop:=λv vs H Q=>∃(G:Hp)(b:fy)(xs:ai V)(rs:ai (ai lU))(r:ai lU)(x:V),v=.dr b/\vs=[x]/\ao G H/\bD K G b xs/\ah K G (rs.a6 gW) xs/\qk K G (gW r) x/\r∈rs/\Q (.aT (rs.S6 r:aO)) H
def y6x{X:L2.Cx}(hu:X.A.zd+150<zm):v5 X "list.index" (oO X.K):=by
 intro dN s σ H x vs v us Q I rx rv h;let⟨G,b,xs,rs,r,x0,rfl,rfl,sg,hB,hr,px,hm,q⟩:=h;cases rx;let⟨u,rfl,ru⟩:=rv.YE;let⟨aw,vl,pl,hz⟩:=I.xm (sg.p7 hB);let⟨⟨o4,dd,pJ,sl⟩,ho,hc,n,hd⟩:=pl.zD;simp only at hc hd;subst hc hd;have l1:=hr.aj;have l2:=vl.aj;rw[w0a]at l1;have hj:=w2m.wa hm;have F8:=fU;let⟨e,h1,h2⟩:=y6w I sg (A:=X.A.Ba) (by grind) hr px vl ru;refine _W F.Ğ ⟨_,ho,rfl⟩ F.zcj (F.zb1 _ _) (yl.zcT b aw.l8 n dd sl u e (rs.S6 r) (by grind) (by omega) ?_ ?_) ⟨ho,?_,?_⟩
 .grind
 .intro m hm bZ;have F9:m<aw.aj:=by simpa using hm
  let⟨q,a1,a2⟩:=h1 m F9;rw[ai.getElem_toArray,a2];refine YY λz=>?_
  have sI:m<rs.aj:=by omega
  rw[w0c sI]at a1;injection a1 with a1
  have:=w4y (p:=(·==r)) bZ
  grind
 .grind
 .exact⟨.aT (rs.S6 r:aO),H,I.Ym _,⟨_,rfl⟩,q⟩
def y6y{K:Fg}:CF K (oO K) iP:=by
 intro G H x xs wx ws w Q s px pr hf h;unfold iP at hf;split at hf
 .rename_i us x0;let⟨y,r,rfl,py,pr⟩:=pr;cases(show r=[]from pr);split at hf
  .rename_i r rs h1 h2;split at hf
   .rename_i hm;cases hf;let⟨a,cs,rfl,hq,rp⟩:=px;rw[z7x h1]at py;rw[z1u h2]at rp;exact⟨G,a,cs,rs,r,y,rfl,rfl,s,hq,rp,py,hm,h G _ H (.t8 s) rfl⟩
   .cases hf
  .cases hf
 .cases hf
section
variable{a b o e:p6}{da d:iw W}
theorem y6z{Yo bh:vW}(hu:X.A.zd+150<zm)(ho:DE Z X EE o d)(ha:DA Z X EE [e] dA)
  (dg:autoParam (Κ o "index" X.dt (eval o X.dt)=eval o X.dt) jJ)
  (bY:autoParam (((y0 bh (pg [e] X.dt)).t9 (λx=>!x.1)&&(Λ bh (Ρ [] X.dt)).t9 (λx=>x.1.z_)&&decide ([e].aj+([]:ai Zd).aj+(if([]:ai Zd).U7 then 0 else 1)<30))=true) jJ)
  (dj:autoParam ((Yo.Ο==bh.Yd)=true) jJ)(hs:autoParam (pg [e] X.dt=(false,eval e X.dt)::pg [] X.dt) jJ)(bT:autoParam ((y0 bh (pg [] X.dt)).uJ (·.1)=false) jJ):
  DE Z X EE (.wO (._o o "index" Yo) [e] [] bh) (eY "list" iP d dA):=
 KD n9.F.Ė n9.F.Ğ n9.F.zdJ (y6x hu) y6y ho ha dg bY dj hs bT
end
def y60(h:r∈rs):iP (.dI (rs.a6 gW)) [gW r]=ab (.aT (rs.S6 r:aO)):=by
 show(match pq (gW r),kR (rs.a6 gW)with|ab r,ab rs=>if r∈rs then ab (W.aT (rs.S6 r:aO))else none|_,_=>none)=_;rw[z7y,z1v];exact nZ h
end D
namespace L2
open PySem PySem.Spec PyProof.Rows
end L2
namespace D
open PySem L2
end D
namespace L2
open PySem PySem.Spec PyProof.Rows
end L2
namespace D
open PySem L2
section
variable{X:Cx}{Z:Zt}{EE:L2.St->XK}{e a b:p6}{da db:iw W}{gw:vW}
def Wa:W->W->d3 W
 |.str i,.str j=>match i.Yp.wL with
  |[c]=>ab (.bl (decide (c∈j.Yp.wL)))
  |_=>none
 |_,_=>none
end
section
variable{X:Cx}{Z:Zt}{EE:L2.St->XK}{JM x9 a:p6}{zS:ai p6}{fv sc:zF}{gw pt:vW}{x:et}{Nf N:ai et}{js:ai aO}{di:iw W}{dA:iw (ai W)}{c:iw ie}{d:iw W}{kt:aO}
theorem zas(hh:A.YV=none)(it l)(gm:l≠it)(ro):
  Draws je w A it [it,l] ro.dS (λi v=>ro[i]?=ab v) (λi h=>h._q it l i/\h.YD l ro) where
 live:=λ_ _ st=>let ⟨o,ho,_⟩:=st.1;⟨o,ho⟩
 ä:=λ_ _ _ st hk=>⟨st.1.at λo e=>hk it (by simp) o e,st.2.at λo e=>hk l (by simp) o e⟩
 ZS:=λi s Q E hi st hQ=>by
  refine NC st.1 st.2 (x:=ro[i]) (by simp[hi]) λh' F3 jf=>?_
  exact hQ _ h' s.tK (by simp[hi]) ⟨F3,st.2.x8 jf.x8 gm⟩ jf
 done:=λs Q E st hE=>Iq hh st.1 st.2 (by simp) hE
theorem y61(hh:A.YV=none)(it l)(ro)(i)(hx:ro[i]?=none):
  Draws je w A it [it,l] i (λ_ _=>vk) (λj h=>j=i/\h._q it l j/\h.YD l ro) where
 live:=λ_ _ st=>let ⟨o,ho,_⟩:=st.2.1;⟨o,ho⟩
 ä:=λ_ _ _ st hk=>⟨st.1,st.2.1.at λo e=>hk it (by simp) o e,st.2.2.at λo e=>hk l (by simp) o e⟩
 ZS:=λj s Q E hi st hQ=>uz st.1 (w0t hi)
 done:=λs Q E st hE=>Iq hh st.2.1 st.2.2 hx hE
def j7(dA:iw (ai W)):iw (ai (W×W)):=λe=>(dA e).r7 λws e1=>match ws with
 |[.gs us]=>.ok (cj 0 us) e1
 |_=>.no
def vZ(K:Fg)(a:fy):It:=
 ⟨λi H=>∃xs x,bK K H a xs/\xs[i]?=ab x,λi H x H'=>∃b y,x=.dr b/\H b=none/\(∀xs,bK K H a xs->xs[i]?=ab y)/\H'=oL H b (.gs [.aT i,y]),λi H=>∃xs,bK K H a xs/\xs.aj<=i⟩
section
open AutoSeq1 (wpAny_loadPart')
theorem Wv(l)(ro)(n)(Fq)(sl):
  _D (uK.«enumerate.__new__» ⟨[.ke "enumerate", .dr l],[]⟩) (λ_ R s=>s.bj.ik l=ab {o4:=.ke "tuple", xg:=Fq,pJ:=.p7 ro n,YN:=sl} /\
   R (.ok (.CJ (.dr (s.bj.tM {o4:=.ke "tuple_iterator", pJ:=.MU #[.dr l,.aT 0 0]}).f'.dS)))
    {s with bj:=(s.bj.tM {o4:=.ke "tuple_iterator", pJ:=.MU #[.dr l,.aT 0 0]}).tM {o4:=.ke "enumerate", pJ:=.MU #[.none,.xN false,.dr s.bj.f'.dS,_x 0,.none,.none]}}):=
 ._M λje w A R s h=>by
  let⟨hp,g,d,tk,os⟩:=s;let⟨hl,h⟩:=h;have qH:=sub_enumerate;have hL:g0.YD (p5.bj ⟨hp,g,d,tk,os⟩) l ro:=⟨_,hl,rfl,n,rfl⟩
  wp_walk using þ hl
  refine wpAny_stack_any λst=>ui ?_
  split
  .rename_i c _ _ _ _ _;cases(c==d0.ke "enumerate")
   .wp_walk using þ hl,ϒ hL
    exact⟨_,rfl,h⟩
   .wp_walk using þ hl,ϒ hL
    exact⟨_,rfl,h⟩
  .wp_walk using þ hl,ϒ hL
   exact⟨_,rfl,h⟩
end
def Ww{s:p5}(hL:s.bj.YD l ro)
  (h:∀h',ă h' (s.bj.f'.dS+1) s.bj.f'.dS 0 .none->h'._q s.bj.f'.dS l 0->h'.f'.dS=s.bj.f'.dS+2 ->
   (∀b o,s.bj.ik b=ab o->h'.ik b=ab o)->Q (.dr (s.bj.f'.dS+1)) {s with bj:=h'}):
  oP (qX je w) A (zb (.ke "enumerate") [.dr l]) Q E s:=by
 let⟨⟨c,Fq,zch,sl⟩,hl,hc,n,hd⟩:=hL
 replace hc:c=.ke "tuple":=hc
 replace hd:zch=.p7 ro n:=hd
 subst hc hd
 refine ŉ F.called_enumerate (by decide) (F.typeCall_enumerate_1 _) (F.newCall_enumerate_1 _) (λWd=>F.zb2 Wd _) F.entry_enumerate_new
  (Wv l ro n Fq sl) ⟨hl,?_⟩
 have hz:(s.bj.tM {o4:=.ke "tuple_iterator", pJ:=.MU #[.dr l,.aT 0 0]}).f'.dS=s.bj.f'.dS+1:=g0.ZN ..;show _/\_;rw[hz]
 have he:ă ((s.bj.tM {o4:=.ke "tuple_iterator", pJ:=.MU #[.dr l,.aT 0 0]}).tM
   {o4:=.ke "enumerate", pJ:=.MU #[.none,.xN false,.dr s.bj.f'.dS,_x 0,.none,.none]}) (s.bj.f'.dS+1) s.bj.f'.dS 0 .none:=by
  have:=g0.A2 (s.bj.tM {o4:=.ke "tuple_iterator", pJ:=.MU #[.dr l,.aT 0 0]})
   (o:={o4:=.ke "enumerate", pJ:=.MU #[.none,.xN false,.dr s.bj.f'.dS,_x 0,.none,.none]}) rfl
  grind
 refine⟨⟨_,he,rfl⟩,h _ he ⟨_,g0.w6 _ (g0.A2 _ rfl),rfl,rfl⟩ (by rw[g0.ZN,hz]) λb o x=>g0.w6 _ (g0.w6 _ x)⟩
theorem zbA{P:xc}{w:vr}{K:Fg}{_g:ai p6}(a e it:fy)(gm:e≠it):ν P w K (.Yg _g kt pt) (vZ K a) [e,it] e (λi h=>∃w5,n9.ă h e it (i:aO) w5/\h._q it a i) where
 Yj:=by simp
 Wd:=λi h ⟨w5,jo,iU⟩ b hb=>by
  simp only[w0i,w1f,Zj]at hb;rcases hb with rfl|rfl
  .exact⟨_,jo,λv z=>by cases z⟩
  .let⟨o,e,c,d⟩:=iU;exact⟨o,e,λv z=>by rw[d]at z;cases z⟩
 xW:=λi h h' ⟨w5,jo,iU⟩ k=>⟨w5,k e (by simp) _ jo,iU.at λo e=>k it (by simp) o e⟩
 ZS:=by
  intro X hP hw hK hc i dN s σ H E I hf st hg;subst hP hw hK;let⟨w5,jo,iU⟩:=st;let⟨xs,x,hq,hx⟩:=hg;let⟨aw,rv,p,hz⟩:=I.Tc hq;let⟨u,hu,ru⟩:=rv.Ff hx
  have Mz:a≠it:=λz=>by
   let⟨o,e1,c1,_⟩:=iU;let⟨o',e2,c2,_⟩:=p;rw[z]at e2;rw[e1]at e2;cases e2;rw[c1]at c2;simp at c2
  have VD:e≠a:=λz=>by
   let⟨o',e2,c2,_⟩:=p;rw[<- z]at e2;have e1:s.bj.ik e=ab _:=jo;rw[e1]at e2;cases e2;simp at c2
  refine wpAny_pyNext_enum_itemD (zas (A:=X.A.Ba) (I.ok.hd hc) it a Mz aw.l8) jo ⟨iU,p⟩ (by simpa using (w0b.mp hu).1) gm (by simp[gm,VD]) λu' h1 tk Gx tY mq Gv ML qE=>⟨_,rfl,?_⟩
  obtain rfl:u'=u:=d3.ab.zT (by rw[<- Gx,<- hu];simp);have wI:=mq.1;refine zd_ tY λh2 nB gT=>?_
  have gT:g0.Z_ e h1 h2:=gT;have bZ:e<s.bj.f'.dS:=g0.xX jo;have nC:H s.bj.f'.dS=none:=I.aQ.xK (w0f _);have AB:h2.ik s.bj.f'.dS=ab {o4:=.ke "tuple", pJ:=.p7 #[.aT i tk,u']}:=(gT.2 _ (w2t bZ)).kZ Gv;refine⟨.dr s.bj.f'.dS,oL H s.bj.f'.dS (.gs [.aT i,x]),?_,rfl,⟨_,x,rfl,nC,λys hy=>by rw[I.gh hy hq];exact hx,rfl⟩,⟨u',nB,?_⟩,λb hb=>?_⟩
  .show L2.j3 X dN σ _ {s with bj:=h2,tK:=tk+1};refine Jr (fp:=[e,it]) I (λb o hb q=>?_) hf (w0f _) ⟨?_,[.aT i tk,u'],.qT ⟨_,rfl⟩ (.qT ru .so),⟨_,AB,rfl,?_⟩,⟨_,AB,rfl⟩⟩
   .simp only[w0i,w1f,Zj,ē]at hb;exact(gT.2 b hb.1).kZ (qE b o hb.1 hb.2 q)
   .rw[LP];simp
   .exact⟨_,rfl⟩
  .exact wI.at λo q=>(gT.2 it (Ne.symm gm)).kZ q
  .have:b≠s.bj.f'.dS:=by
    obtain⟨o,q,_⟩:∃o,s.bj.ik b=ab o/\j':=by
     simp only[w0i,w1f,Zj]at hb;rcases hb with rfl|rfl
     .exact⟨_,jo,trivial⟩
     .let⟨o,e,_⟩:=iU;exact⟨o,e,trivial⟩
    exact w0t (g0.xX q)
   rw[aN this];exact(hf b hb).1
 done:=by
  intro X hP hw hK hc i dN s σ H E I hf st hg;subst hP hw hK;let⟨w5,jo,iU⟩:=st;let⟨xs,hq,hx⟩:=hg;let⟨aw,rv,p,hz⟩:=I.Tc hq;let⟨f0,f1,f2,f3,f4,f5⟩:=hf it (by simp);have hl:=rv.aj
  have Mz:a≠it:=λz=>by
   let⟨o,e1,c1,_⟩:=iU;let⟨o',e2,c2,_⟩:=p;rw[z]at e2;rw[e1]at e2;cases e2;rw[c1]at c2;simp at c2
  refine wpAny_pyNext_enum_endD (y61 (A:=X.A.Ba) (I.ok.hd hc) it a aw.l8 i (by simp;omega)) jo ⟨rfl,iU,p⟩ λh' eb=>⟨rfl,I.Z5 (t':=s.tK) (λb o hb e=>eb b o hb e) f0 f1 f3 f4 f5⟩
 self:=λ_ _ _ _ _ ⟨w5,jo,_⟩ h=>Ĵ jo h
def zdY(K:Fg)(ta:TA):TI:=λσ H R=>ta σ H λvs H1=>∃a,vs=[.dr a]/\(∃xs,bK K H1 a xs)/\R (vZ K a) H1
def z1w{_g:ai p6}{ta:TA}{p gw:vW}(hg:Gl X "enumerate")(hm:X.mg "enumerate"=none)(ha:PA X [a] ta)(hs:autoParam (pg [a] X.dt=[(false,eval a X.dt)]) jJ):PI X (.Yg _g kt pt) (.wO (.oh "enumerate" p) [a] [] gw) (zdY X.K ta):=by
 intro dN s σ H R I h;refine CG.Fe.Ò (pY I hg hm CG.Fe.zb7 (CG.Fe.χ (bq (ha gw dN s σ H _ I h) λus s1 ⟨vs,H1,I1,r1,q1⟩=>?_) hs rfl))
 let⟨l,e,⟨xs,hq⟩,q⟩:=q1;subst e;cases r1 with
 |qT r rr=>
  cases rr;cases r;let⟨aw,rv,p,hz⟩:=I1.Tc hq;refine Ww p λh' he ZL hsz hk=>?_
  refine Ĵ he ?_;refine⟨s1.bj.f'.dS+1,[s1.bj.f'.dS+1,s1.bj.f'.dS],_,_,H1,rfl,I1.Yc (t':=s1.tK) hk,zbA l _ _ (w3v _),⟨_,he,ZL⟩,λb hb=>?_,q⟩
  simp only[w0i,w1f,Zj]at hb;rcases hb with rfl|rfl
  .exact I1.jR (by omega) (I1.aQ.xK (by omega))
  .exact I1.jR (w0f _) (I1.aQ.xK (w0f _))
def zat(rp:ah K G1 ws xs)(hq:bK K G1 b xs):jw K G1 (vZ K b) (cj 0 ws):=by
 have hx:=rp.aj;have hl:=Jp 0 ws;refine⟨λi G H s s' h=>⟨xs,xs[i]'(by omega),ao.gs s' (ao.gs s hq),by simp⟩,λi G H x H' s s' hy u v h=>?_,λi G H s s' h=>⟨xs,ao.gs s' (ao.gs s hq),by omega⟩⟩
 let⟨c,y,rfl,hn,vg,rfl⟩:=hy;let⟨hu,hv⟩:=Jq 0 ws i u v h;let⟨w,hw,pw⟩:=rp.jc (vg xs (ao.gs s' (ao.gs s hq)));rw[hv]at hw;cases hw;refine⟨aK.ox s' hn _,λm n σ Q hQ=>⟨c,[.aT i,y],rfl,bK.of bN,rfl,.aT i,[y],rfl,y,[],rfl,rfl,hQ _ _ ?_ (qk.k8 s _ pw)⟩⟩
 rw[hu,w1y];exact rfl
def z1x{_g:ai p6}{p gw:vW}(hm:X.mg "enumerate"=none)(ha:DA Z X EE [a] dA)(hg:autoParam (Gl X "enumerate") jJ)(hs:autoParam (pg [a] X.dt=[(false,eval a X.dt)]) jJ):DI Z X EE (.Yg _g kt pt) (.wO (.oh "enumerate" p) [a] [] gw) (j7 dA):=by
 refine PI.k8 (z1w hg hm ha hs) ?_;rintro σ H RR ⟨G,e,mQ,h⟩;simp only[j7,R.ar]at h;refine⟨G,e,mQ,h.uM (λws e1 h G1 vs H1 r1 s1 p1=>?_) λ_ _ h=>h⟩
 split at h
 .rename_i us;let⟨y,r,rfl,e1,e2⟩:=p1;cases(show r=[]from e2);let⟨b,xs,rfl,hq,rp⟩:=e1;exact⟨b,rfl,⟨xs,r1.p9.gs hq⟩,h _ _ _ r1 s1 (zat rp hq)⟩
 .exact h.oa
end
theorem Q7l:Wa (.str ⟨#[c]⟩) (.str j)=ab (.bl (decide (c∈j.Yp.wL))):=rfl
def rR(e1:ai S):ai W->R (ai (W×W))
 |[.gs us]=>.ok (cj 0 us) e1
 |_=>.no
def z7z:j7 dA e=(dA e).r7 λws e1=>rR e1 ws:=by
 unfold j7;congr 1
theorem z1y:rR e [.gs ws]=.ok (cj 0 ws) e:=rfl
theorem Q7m:AL (.aV (.k kvs)) (.str x)=(lk kvs (.lb x)).a6 Ew:=rfl
theorem z1z:j6 i (.aT n) (.str x) e (ab (.aV (.k kvs)))=if kvs.aj<16777216/\mJ i e=true then .nx (e.rk i (.aV (.k (Α kvs (.lb x) (.jd n)))))else .no:=rfl
def vP(e:ai S):d3 S->SR
 |ab (.aV d)=>.rt (.aV d) e
 |_=>.no
def z70:zeA i e=vP e e[i]?:=by
 rfl
theorem z71:vP e (ab (.aV dd))=.rt (.aV dd) e:=rfl
end D
namespace L2
open PySem PySem.Spec PyProof.Rows
namespace tE
end tE
open PySem PySem.Spec PyProof.Rows
def WC(a v):Û "list.sort" ⟨[a],[(et.YM "key", v)]⟩:=by unfold Û;kernel_rfl
def Xn(a v):Û "sorted" ⟨[a],[(et.YM "key", v)]⟩:=by unfold Û;kernel_rfl
def lG(a:fy)(f ks x:d0)(ro:yb d0):_R (Ζ ϝ):=do
 match <- (zb f [x]).attempt with
 |.ok k=>do
  uK.ai.ύ ks (·.tM k)
  vX (Ζ.ϯ ϝ.unit)
 |._H e=>do
  _k "list.sort.key-raised"
  let made <- uK.ai.ś ks
  uK.ai.ύ ks λ_=>#[]
  letGo made.wL.We [e]
  uK.ai.ύ (.dr a) λ_=>ro
  throw e
def XW(a f:fy):uK.«list.sort» ⟨[.dr a],[(et.YM "key", .dr f)]⟩=(do
  let ro <- uK.ai.ś (.dr a)
  uK.ai.ύ (.dr a) λ_=>#[]
  let before <- Ť a
  let held <- newTuple ro.wL
  let h_ <- newList []
  _K [held,h_] do
   _k "list.sort.key"
   let _ <- ϥ ro ϝ.unit λx (_:ϝ)=>lG a (.dr f) h_ x ro
   let é <- uK.ai.ś h_
   let zc <- if ro.dS<2 then vX general' else keyKind' é
   let ((),s) <- (if ro.dS<2 then vX ()else sortRuns').nN (SortSt.mk' zc (é.xR ro) #[] 7 none)
   let sorted:=(ą s).a6 (·.2)
   uK.ai.ύ h_ λ_=>#[]
   letGo ((ą s).a6 (·.1)).wL (Č s).wL
   let Ī:=(<- Ť a) != before
   uK.ai.ύ (.dr a) λ_=>sorted
   if let ab e:=Č s then _k "list.sort.comparison-raised";throw e
   if Ī then _k "list.sort.modified";raiseError "ValueError" "list modified during sort"
   CJ .none):=by
 first|rfl|(fail "not by rfl")
def z72{σ:St}{Q:VK}
  (F:sx X.je X.w X.K X.mg X.k_ (fe X.je X.w) k sp)(hr:br k A)(hA:A.YH=X.A.YH)(I:j3 X dN σ H s)(hc:∀b o,cs.g6 b=ab o->H b=none/\s.bj.ik b=ab o)
  (hv:∀b o,cs.g6 b=ab o->b∉gM X.WZ)(hn:∀b o,cs.g6 b=ab o->X.k_.ik b=none)(r:uw vs us)
  (h:sp (.dr f) vs (bQ H cs) (λv H'=>Q v (dE H' cs)) λ_ _ _=>vk):
  oP (qX X.je X.w) A (zb (.dr f) us) (λu s'=>(∀b o,cs.g6 b=ab o->s'.bj.ik b=ab o)/\EP X dN σ (λv H'=>(∀b o,cs.g6 b=ab o->H' b=none)/\Q v H') u s') E s:=by
 have e0:=I.qv
 have xH:∀b,H b=none->(∀o,cs.g6 b≠ab o)->bQ H cs b=none:=λb n z=>by
  cases q:cs.g6 b with
  |ab o=>exact uz q (z o)
  |none=>rw[ir q];exact n
 have e1:i8 X.je X.w X.K X.mg X.k_ A X.WZ s (bQ H cs):=by
  refine⟨hA.kZ e0.YH,e0.Yv,λb o q=>⟨(e0.bs b o q).1,xH b (e0.bs b o q).2 λo' z=>?_⟩,e0.o7,e0.fQ,λb hb=>xH b (e0.qx b hb) λo z=>?_,e0.aQ.add hc,e0.Td,λa q P m=>?_⟩
  .grind
  .exact hv b o z hb
  .let⟨ps,e,p⟩:=e0._m a q P m;refine⟨ps,?_,p⟩;cases z:cs.g6 P with
   |ab o=>grind
   |none=>rw[ir z];exact e
 let⟨zcq,oc,od,fd,sl,u,ex,ef,nN⟩:=F _ _ _ _ _ h;cases ex;refine Ϭ (Ν (nN A X.WZ s us hr e1 r) λr s' hq=>?_)
 cases r with
 |_H e=>
  let⟨_,_,_,_,_,_,_,_,_,_,hE⟩:=hq;exact hE.oa
 |ok fl=>
  cases fl with
  |CJ u=>
   let⟨v,H',os,Td,un,aQ,rv,q⟩:=hq;have CI:bA H' cs:=λb o z=>un.aX b o _ (pE z)
   exact⟨λb o z=>(show s'.bj.ik b=ab o/\_ from aQ b _ (CI b o z)).1,I.ϡ ⟨v,dE H' cs,os,Td,un.gb aQ hc,aQ.rm CI,rv,λb o z=>xD z,q⟩⟩
  |next=>exact vk.oa hq
  |_r=>exact vk.oa hq
  |_s=>exact vk.oa hq
def mZ(cs:Cs)(H:Hp)(h:g0):Prop:=∀b o,cs.g6 b=ab o->H b=none/\h.ik b=ab o
end L2
namespace D
open PySem L2
variable{X:Cx}{EE:L2.St->XK}{gw:vW}{x:et}{Z:Zt}
theorem aK.Zl(g:aK G H G' H')(hn:H a=none)(hg:G' a=none):aK G H G' (oL H' a o) where
 hh:=λb u e=>by rw[aN (gU e hn)];exact g.hh b u e
 gg:=g.gg
 p9:=λb u e=>by rw[aN (gU e hg)];exact g.p9 b u e
 vd:=g.vd
def kwAt(i:aO):p6->p6
 |.wO _ _ ks _=>match ks[i]? with
  |ab k=>k.ZC
  |none=>xj
 |_=>xj
end D
namespace L2
open PySem PySem.Spec PyProof.Rows
def fN(o:d3 (a7×a7))(i n:a7):d3 (a7×a7):=match o with
 |none=>ab (i,n)
 |ab (b,m)=>if n<m then ab (i,n)else ab (b,m)
def nL(sp:V->ai V->Hp->VK->XK->Prop)(f:V)(cs:Cs)(K:Fg)(p:fy)(xs:ai V)(Q:VK):ai a7->d3 (a7×a7)->Hp->Prop
 |[],o,H=>∃b m,o=ab (b,m)/\Q (.aT b) H
 |i::is,o,H=>sp f [.aT i] (bQ H cs) (λv H'=>∃n,v=.aT n/\bD K (dE H' cs) p xs/\nL sp f cs K p xs Q is (fN o i n) (dE H' cs)) λ_ _ _=>vk
def qe(ZP:yb d0):d3 (a7×a7)->Prop
 |none=>ZP=#[]
 |ab (b,m)=>∃t u,ZP=#[.aT b t,.aT m u]
section
variable{X:Cx}{A:C_}{k:aO}{sp:V->ai V->Hp->VK->XK->Prop}{dN:ai (fy×sT)}{σ:St}{f I S p:fy}{cs:Cs}{Q:VK}{lW:ai a7}
theorem PJ(F:sx X.je X.w X.K X.mg X.k_ (fe X.je X.w) k sp)(hr:br k A.Ba)(hA:A.Ba.YH=X.A.YH)(hh:A.Ba.YV=none)(hv:∀b o,cs.g6 b=ab o->b∉gM X.WZ)(hn:∀b o,cs.g6 b=ab o->X.k_.ik b=none)
  (CS:S≠I)(Gm:p≠I)(FH:∀b o,cs.g6 b=ab o->b≠I/\b≠S):∀(is:ai a7)(j:aO)(o:d3 (a7×a7))(ZP:yb d0)(c:aO)(s:p5)(H:Hp),lW.xO j=is->j<=lW.aj->j3 X dN σ H s->eU X dN H I->eU X dN H S->bD X.K H p (lW.a6 V.aT)->s.bj.ϙ I p j ->
   s.bj.ik S=ab (Yx "list" ZP c)->qe ZP o->mZ cs H s.bj->nL sp (.dr f) cs X.K p (lW.a6 V.aT) Q is o H ->
   Zn (qX X.je X.w) A (.w4 "min.loop" ⟨[.dr I,.dr f,.dr S],[]⟩) (λr s'=>match r with|.ok (.CJ v)=>EP X dN σ Q v s'|.ok _=>vk|._H e=>X.xe e s') s
 |[],j,o,ZP,c,s,H,hd,hj,In,fI,fS,hq,ZL,hS,hb,hc,h=>by
  have yr:j=lW.aj:=by
   have:=ZQ ai.aj hd;rw[w3u,ai.length_nil]at this;omega
  let⟨aw,rI,pl,hz⟩:=In.xm hq;have Ao:aw.aj=lW.aj:=by rw[<- rI.aj,w0a]
  let⟨b,m,rfl,q⟩:=h;let⟨t,u,rfl⟩:=hb;have W:=ξ.xm (je:=X.je) (w:=X.w) (A:=A.Ba) hh I p Gm aw.l8;refine à n9.F.zck ?_;rw[C_.į n9.F.Ì _];show oP _ A.Ba (Ě (.dr S) >>= _) _ _ _;refine ny (_O hS rfl ?_);show oP _ A.Ba (ī (Φ (.dr I)) _ >>= _) _ _ _;refine ny (ķ (W.done _ _ _ ⟨by rw[w0e,Ao,<- yr];exact ZL,pl.zD⟩ λh' Eu lC=>?_))
  have I1:=In.Z5 (t':=Eu) (it:=I) (h':=h') (λb o z e=>lC b o (by simpa using z) e) fI.1 fI.2.1 fI.2.2.2.1 fI.2.2.2.2.1 fI.2.2.2.2.2
  have Ac:=lC S _ (by simpa using CS) hS;show oP _ A.Ba (updateSeq S (λ_=>#[]) >>= _) _ _ _
  refine ny (ĸ Ac rfl (ny (δ (ui ?_))));have I2:=I1.Z5 (t':=Eu) (it:=S) (h':=h'.Yn S (sT.Yt λ_=>#[])) (λb o z e=>(g0._J _ _ (Ne.symm z)).kZ e) fS.1 fS.2.1 fS.2.2.2.1 fS.2.2.2.2.1 fS.2.2.2.2.2
  exact⟨.aT b,H,I2,⟨t,rfl⟩,q⟩
 |i::is,j,o,ZP,c,s,H,hd,hj,In,fI,fS,hq,ZL,hS,hb,hc,h=>by
  have mn:(ĩ "min"++ĩ ".loop":Yq)="min.loop":=by decide
  have bZ:j<lW.aj:=by
   have:=ZQ ai.aj hd;rw[w3u,w0z]at this;omega
  have sH:lW[j]?=ab i:=by
   have:=ZQ ai.head? hd;rw[ai.head?_drop]at this
   simpa using this
  have Mp:lW.xO (j+1)=is:=by
   rw[<- ai.drop_drop,hd];rfl
  let⟨aw,rI,pl,hz⟩:=In.xm hq;have Ao:aw.aj=lW.aj:=by rw[<- rI.aj,w0a]
  have W:=ξ.xm (je:=X.je) (w:=X.w) (A:=A.Ba) hh I p Gm aw.l8;refine à n9.F.zck ?_;rw[C_.į n9.F.Ì _];show oP _ A.Ba (Ě (.dr S) >>= _) _ _ _;refine ny (_O hS rfl ?_);show oP _ A.Ba (ī (Φ (.dr I)) _ >>= _) _ _ _;refine ny (ķ (W.ZS j _ _ _ (by rw[w0e,Ao];exact bZ) ⟨ZL,pl.zD⟩ λv h' Eu hP Gu lC=>?_))
  have V3:aw[j]?=ab v:=by simpa using hP
  obtain⟨t,rfl⟩:∃t,v=.aT i t:=by
   let⟨u,hu,ru⟩:=rI.Ff (i:=j) (x:=V.aT i) (by rw[w0s,sH];rfl);rw[V3]at hu;cases hu;exact ru
  have I1:=In.Z5 (t':=Eu) (it:=I) (h':=h') (λb o z e=>lC b o (by simpa using z) e) fI.1 fI.2.1 fI.2.2.2.1 fI.2.2.2.2.1 fI.2.2.2.2.2
  have Ac:=lC S _ (by simpa using CS) hS;let⟨A_,Gd,wK,MC⟩:=id Gu.1;have zcd:∀v,A_.pJ≠.uL v:=λv z=>by rw[MC]at z;cases z
  have zce:∀v,(Yx "list" ZP c).pJ≠.uL v:=λv z=>nomatch z
  have I2:=I1.jm (pins':=(I,A_)::(S,Yx "list" ZP c)::dN) λq hq=>by
   rcases w0i.mp hq with rfl|hq
   .exact⟨Gd,fI.1,fI.2.1,fI.2.2.1,zcd⟩
   .rcases w0i.mp hq with rfl|hq
    .exact⟨Ac,fS.1,fS.2.1,fS.2.2.1,zce⟩
    .exact I1.YS q (w0l _ hq)
  have CU:mZ cs H h':=λb o z=>⟨(hc b o z).1,lC b o (by simpa using (FH b o z).1) (hc b o z).2⟩
  have Χ:∀(u:d0)(s2:p5)(n:a7)(H2:Hp),j3 X ((I,A_)::(S,Yx "list" ZP c)::dN) σ H2 s2->(∃t2,u=.aT n t2)->(∀b o,cs.g6 b=ab o->s2.bj.ik b=ab o)->(∀b o,cs.g6 b=ab o->H2 b=none)->bD X.K H2 p (lW.a6 V.aT) ->
    nL sp (.dr f) cs X.K p (lW.a6 V.aT) Q is (fN o i n) H2->∀(oq:yb d0)(c':aO)(s3:p5),qe oq (fN o i n)->s3.os=s2.os->s3.YI=s2.YI->s3.ψ=s2.ψ->(∀b o,b≠S->s2.bj.ik b=ab o->s3.bj.ik b=ab o)->s3.bj.ik S=ab (Yx "list" oq c') ->
    s3={s2 with bj:=s3.bj,tK:=s3.tK} ->
    Zn (qX X.je X.w) A (.w4 "min.loop" ⟨[.dr I,.dr f,.dr S],[]⟩) (λr s'=>match r with|.ok (.CJ v)=>EP X dN σ Q v s'|.ok _=>vk|._H e=>X.xe e s') s3:=by
   intro u s2 n H2 I3 hu tV VA Gs hm oq c' s3 ml _ _ _ F5 Vv Vh;have pI:=I3.YS (I,A_) (w0l _ w1b);have pS:=I3.YS (S,Yx "list" ZP c) (w0l _ (w0p _ w1b));have I4:j3 X dN σ H2 s2:=I3.jm λq hq=>I3.YS q (w0l _ (w0p _ (w0p _ hq)))
   have Vk:eU X dN H2 I:=⟨pI.2.1,fI.2⟩;have yj:eU X dN H2 S:=⟨pS.2.1,fS.2⟩;have I5:=I4.Z5 (t':=s3.tK) (it:=S) (h':=s3.bj) F5 yj.1 yj.2.1 yj.2.2.2.1 yj.2.2.2.2.1 yj.2.2.2.2.2;rw[<- Vh]at I5;exact PJ F hr hA hh hv hn CS Gm FH is (j+1) _ oq c' s3 H2 Mp bZ I5 Vk yj Gs ⟨A_,F5 I _ (Ne.symm CS) pI.1,wK,MC⟩ Vv ml (λb o z=>⟨VA b o z,F5 b o (FH b o z).2 (tV b o z)⟩) hm
  show oP _ A.Ba (ī (_K [.aT i t] (zb (.dr f) [.aT i t])) _ >>= _) _ _ _;refine ny (ķ (ZW (Zs (z72 (cs:=cs) (Q:=λv H'=>∃n,v=.aT n/\bD X.K H' p (lW.a6 V.aT)/\nL sp (.dr f) cs X.K p (lW.a6 V.aT) Q is (fN o i n) H') F hr hA I2 CU hv hn (vs:=[.aT i]) (.qT ⟨t,rfl⟩ .so) h) (λw s2 C4=>?_) (λ_ _ z=>z))))
  let⟨g1,v,H2,I3,rv,g2,n,rfl,e1,e2⟩:=C4;let⟨t2,rfl⟩:=(show ∃t2,w=d0.aT n t2 from rv);have pS:=(I3.YS (S,Yx "list" ZP c) (w0l _ (w0p _ w1b))).1;cases o with
  |none=>
   cases(show ZP=#[]from hb);obtain⟨c2,du⟩:∃c2,(s2.bj.Yn S (sT.Yt λ_=>#[.aT i t,.aT n t2])).ik S=ab (Yx "list" #[.aT i t,.aT n t2] c2):=⟨_,Ä pS λ_=>#[.aT i t,.aT n t2]⟩
   show oP _ A.Ba (updateSeq S (λ_=>#[.aT i t,.aT n t2]) >>= _) _ _ _
   refine ny (ĸ pS rfl ?_);rw[mn];exact ui ⟨Ë n9.F.Ì _,Χ _ s2 n H2 I3 ⟨t2,rfl⟩ g1 g2 e1 e2 _ c2 _ ⟨t,t2,rfl⟩ rfl rfl rfl (λb o z e=>(g0._J _ _ (Ne.symm z)).kZ e) du rfl⟩
  |ab bm=>
   let⟨b,m⟩:=bm;let⟨tb,tm,rfl⟩:=(show ∃t u,ZP=#[.aT b t,.aT m u]from hb);show oP _ A.Ba (ī (_K [.aT i t,.aT n t2] (richCompare .Lt (.aT n t2) (.aT m tm) >>= _)) _ >>= _) _ _ _;refine ny (ķ (ZW (ny (CmpOf.ints_lt (je:=X.je) (w:=X.w) (A:=A.Ba) (P:=λz v=>∃t,v=.aT (if z=0 then n else m) t) (λz=>if z=0 then n else m) (λi v h=>h) 0 1 _ _ _ _ _ ⟨t2,rfl⟩ ⟨tm,rfl⟩ ?_))))
   refine ny (ZW (Ε ?_));refine ny (δ (ui ?_))
   by_cases ml:n<m
   .obtain⟨c2,du⟩:∃c2,(s2.bj.Yn S (sT.Yt λ_=>#[.aT i t,.aT n t2])).ik S=ab (Yx "list" #[.aT i t,.aT n t2] c2):=⟨_,Ä pS λ_=>#[.aT i t,.aT n t2]⟩
    rw[nZ (show decide ((if(0:aO)=0 then n else m)<(if(1:aO)=0 then n else m))=true by simp[ml])];refine ny (ĸ pS rfl (ny (δ ?_)));rw[mn];exact ui ⟨Ë n9.F.Ì _,Χ _ s2 n H2 I3 ⟨t2,rfl⟩ g1 g2 e1 e2 _ c2 _ (by unfold fN;simp only[nZ ml];exact⟨t,t2,rfl⟩) rfl rfl rfl (λb o z e=>(g0._J _ _ (Ne.symm z)).kZ e) du rfl⟩
   .rw[r5 (show ¬decide ((if(0:aO)=0 then n else m)<(if(1:aO)=0 then n else m))=true by simp[ml])];refine ny (δ ?_);rw[mn];exact ui ⟨Ë n9.F.Ì _,Χ _ s2 n H2 I3 ⟨t2,rfl⟩ g1 g2 e1 e2 _ c s2 (by unfold fN;simp only[r5 ml];exact⟨tb,tm,rfl⟩) rfl rfl rfl (λb o _ e=>e) pS rfl⟩
def y62{s:p5}{H:Hp}(F:sx X.je X.w X.K X.mg X.k_ (fe X.je X.w) k sp)(hr:br (k+1) X.A)(Ag:X.MT=true)(hv:∀b o,cs.g6 b=ab o->b∉gM X.WZ)(hn:∀b o,cs.g6 b=ab o->X.k_.ik b=none)
  (In:j3 X dN σ H s)(hc:mZ cs H s.bj)(hq:bD X.K H p (lW.a6 V.aT))(h:nL sp (.dr f) cs X.K p (lW.a6 V.aT) Q lW none H):
  oP (qX X.je X.w) X.A (zb (.w4 "min") [.dr p] [(et.YM "key", .dr f)]) (EP X dN σ Q) X.xe s:=by
 have mn:(ĩ "min"++ĩ ".loop":Yq)="min.loop":=by decide
 let⟨aw,rI,pl,hz⟩:=In.xm hq;have hl:=pl.zD;have bZ:p<s.bj.f'.dS:=by let⟨_,e,_⟩:=hl;exact g0.xX e
 refine kmk_tree n9.F.kind_min n9.F.plain_min n9.F.entry_min (kmk_min_key _ _) ?_;show oP _ X.A.Ba (uK.Builtins.bindParams "min" ["key", "default"] 0 ⟨[],[(et.YM "key", .dr f)]⟩ >>= _) _ _ s;refine ny (ϭ (show uK.Builtins.bindParams "min" ["key", "default"] 0 ⟨[],[(et.YM "key", .dr f)]⟩=vX [ab (.dr f),none]from rfl) ?_);refine ny (ui ?_);refine ny (Δ hl ?_);refine ny (Ź ?_ (w1g _));rw[mn];have hS:(s.bj.tM {o4:=.ke "list_iterator", pJ:=.MU #[.dr p,.aT 0 0]}).f'.dS=s.bj.f'.dS+1:=size_push' ..;have k2:∀b o,s.bj.ik b=ab o->((s.bj.tM {o4:=.ke "list_iterator", pJ:=.MU #[.dr p,.aT 0 0]}).tM (Yx "list" #[] 0)).ik b=ab o:=λb o e=>g0.w6 _ (g0.w6 _ e)
 have I2:j3 X dN σ H {s with bj:=(s.bj.tM {o4:=.ke "list_iterator", pJ:=.MU #[.dr p,.aT 0 0]}).tM (Yx "list" #[] 0)}:=In.Yc (t':=s.tK) k2;refine ui ⟨Ë n9.F.Ì _,PJ F hr.Ba rfl (In.ok.hd Ag) hv hn (I:=s.bj.f'.dS) (S:=(s.bj.tM {o4:=.ke "list_iterator", pJ:=.MU #[.dr p,.aT 0 0]}).f'.dS) (by rw[hS];exact w3v _) (w0t bZ) (λb o z=>?_) lW 0 none #[] 0 _ H rfl (w1g _) I2 (In.jR (w0f _) (In.aQ.xK (w0f _))) (In.jR (by rw[hS];exact w4p _) (In.aQ.xK (by rw[hS];exact w4p _))) hq ⟨_,g0.w6 _ (g0.A2 _ rfl),rfl,rfl⟩ (g0.A2 _ rfl) rfl (λb o z=>⟨(hc b o z).1,k2 b o (hc b o z).2⟩) h⟩
 have:=g0.xX (hc b o z).2;exact⟨w0t this,by rw[hS];exact w0t (w1s this)⟩
end
def Cg(sp:V->ai V->Hp->VK->XK->Prop)(X:Cx)(uu:Z7)(uG:p6)(fv:zF)(Nf:ai et)(js:ai aO)(ta:TE):TE:=λσ H Q=>ta σ H λv H1=>∃(p:fy)(is:ai a7),v=.dr p /\
 ∀f a8 H2,oi X uu uG fv a8 f H1 H2->∀cs,kY a8 Nf fv js σ H2 cs->bD X.K H2 p (is.a6 V.aT)/\nL sp (.dr f) cs X.K p (is.a6 V.aT) Q is none H2
section
variable{X:Cx}{k:aO}{sp:V->ai V->Hp->VK->XK->Prop}
def z73{uu:Z7}{uG a:p6}{fv:zF}{eA p gw kp:vW}{Nf:ai et}{js:ai aO}{ta:TE}(F:sx X.je X.w X.K X.mg X.k_ (fe X.je X.w) k sp)(hr:br (k+1) X.A)(hc:X.MT=true)(hg:Gl X "min")(hm:X.mg "min"=none)
  (M:ϛ X)(qC:∀y,X.fn y=true)(ha:PE X a ta)(lB:â uu X.dt=([],[]))
  (cL:∀x∈fv.qW,x.2=.tD->X.dt.zj x.1=ab .uL\/X.dt.zj x.1=ab .tD)
  (nu:∀(i j:aO) y,Nf[i]?=ab y->js[i]?=ab j->X.N[j]?=ab y/\(y,Wn.tD)∈fv.qW/\kD X.dt.fv y/\X.dt.zj y≠ab .local)
  (he:autoParam (pg [a] X.dt=[(false,eval a X.dt)]) jJ):
  PE X (.wO (.oh "min" p) [a] [⟨ab "key", .Ze uu uG fv eA,kp⟩] gw) (Cg sp X uu uG fv Nf js ta):=by
 intro dN s σ H Q I h;refine γ (pY I hg hm CG.Fe._p.«min» ?_ (by decide) (by decide));refine callWith_kw ?_ (by rw[he];rfl) (by rw[he];rfl);rw[he];show oP _ _ (Î ((false,eval a X.dt)::[])) _ _ s;refine Zc.ô (bq (ha dN s σ H _ I h) λu s1 ⟨v,H1,I1,r1,q1⟩=>?_)
 let⟨pa,is,rfl,q⟩:=q1;obtain rfl:u=d0.dr pa:=r1;refine Zc.õ ?_;refine kws_cons (bq (RN M lB cL _ _ σ H1 (λv H2=>∃f a8,v=.dr f/\oi X uu uG fv a8 f H1 H2) I1 (λf a8 H2 z=>⟨f,a8,rfl,z⟩)) λzcv s3 ⟨v3,H2,I3,WG,f,a8,ev,la⟩=>kws_nil ?_)
 subst ev;obtain rfl:zcv=d0.dr f:=WG;let⟨eX,nA,fh,mW⟩:=Bs (fv:=fv) (dt:=X.dt) λx hx hf=>I.ok.A' x.1 (cL x hx hf)
 obtain rfl:eX=a8:=j5 (nA.symm.kZ la.1)
 have VE:∀b o,(d4 eX s3.bj).g6 b=ab o->∃x,X.dt.Yh.g6 x=ab b/\s3.bj.ik b=ab o:=λb o z=>by
  let⟨x,h1,h2⟩:=Ip z;exact⟨x,fh x b h1,h2⟩
 have kL:∀b o,(d4 eX s3.bj).g6 b=ab o->H2 b=none/\s3.bj.ik b=ab o:=λb o z=>by
  let⟨x,h1,h2⟩:=VE b o z;exact⟨I3.fu x b h1,h2⟩
 have sE:∀b o,(d4 eX s3.bj).g6 b=ab o->X.ay.bj.f'.dS<=b:=λb o z=>by
  let⟨x,h1,h2⟩:=VE b o z;exact I3.ok.zP x b (qC x) h1
 have CO:kY eX Nf fv js σ H2 (d4 eX s3.bj):=by
  refine⟨λx y c e1 e2=>I3.ok.zT x y c (fh x c e1) (fh y c e2),mW,λx c e=>?_,λc o e=>⟨(kL c o e).1,?_⟩,λi y j z e1 e2 e3=>?_⟩
  .let⟨v,o,g,_⟩:=I3.uL x c (fh x c e);exact⟨o,D0 e g⟩
  .let⟨x,h1,h2⟩:=VE c o e;let⟨v,o',g,d⟩:=I3.uL x c h1;rw[h2]at g;cases g;exact⟨v,d⟩
  .let⟨n1,n2,n3,n4⟩:=nu i j y e1 e2;let⟨m,hm,hl⟩:=I3.Zi;let⟨u,ru,l⟩:=hl j y z n1 e3 n3;rcases l with⟨k1,_⟩|⟨k1,c,ec,o,g,d⟩
   .exact uz k1 n4
   .let⟨c',tO⟩:=mW y n2;have e4:=fh y c' tO;rw[ec]at e4;cases e4;exact⟨c,o,u,tO,D0 tO g,d,ru⟩
 show oP _ _ (zb (.w4 "min") [.dr pa] [(et.YM "key", .dr f)]) _ _ _;let⟨hq,sI⟩:=q f eX H2 la _ CO;refine y62 F hr hc ?_ (λb o z=>g0.ŕ (w1a I3.ok.o7 (sE b o z))) I3 (λb o z=>kL b o z) hq sI
 exact λb o z hb=>by
  rcases w0i.mp (I3.j_ b hb)with e|Ad
  .let⟨x,h1,_⟩:=VE b o z;exact I3.tL x b h1 e
  .let⟨_,o',q',_⟩:=I3.ok.fQ.Yj Ad
   exact uz (g0.xX q') (w3m.wa (sE b o z))
end
end L2
namespace D
open PySem L2
def gD:FR->d3 a7
 |.ok (.fr (.aT n))=>ab n
 |_=>none
def fV(F:a7->d3 a7):ai a7->d3 (a7×a7)->d3 a7
 |[],o=>o.a6 (·.1)
 |i::is,o=>match F i with
  |ab n=>fV F is (fN o i n)
  |none=>none
def qV(r:aO->ai W->FR)(j:aO)(e1:ai S):W->d3 (ai W)->R W
 |.dI ws,ab aL=>match dn ws with
  |ab is=>if bE aL=true then bp ((fV (λi=>gD (r j (.aT i::aL))) is none).a6 .aT) e1 else .no
  |none=>.no
 |_,_=>.no
def kH(r:aO->ai W->FR)(j:aO)(js:ai aO)(d:iw W):iw W:=λe=>(d e).r7 λw e1=>qV r j e1 w (dz js e1)
theorem z74:kH r j js d e=(d e).r7 λw e1=>qV r j e1 w (dz js e1):=rfl
theorem QB{K:Fg}{bM:aO->d3 Lm}{r:aO->ai W->FR}{j:aO}{lm:Lm}{aL:ai W}{G1 H1:Hp}{cs:Cs}{f p:fy}{xs:ai V}{Q:VK}{xH:a7}(hl:bM j=ab lm)(C1:bE aL=true)(hq:bD K G1 p xs)
  (hQ:∀Gc Hc,aK G1 H1 Gc Hc->Q (.aT xH) Hc):
  ∀(is:ai a7)(o:d3 (a7×a7))(Gc Hc:Hp),fV (λi=>gD (r j (.aT i::aL))) is o=ab xH->aK G1 H1 Gc Hc->(∀b o,cs.g6 b=ab o->Hc b=none)->qk K (bQ Gc cs) (.fn j lm aL) (.dr f) ->
   nL (yS K bM r) (.dr f) cs K p xs Q is o Hc
 |[],o,Gc,Hc,hm,g,hc,rf=>by
  cases o with
  |none=>cases hm
  |ab bm=>
   let⟨b,m⟩:=bm;cases hm;exact⟨_,_,rfl,hQ Gc Hc g⟩
 |i::is,o,Gc,Hc,hm,g,hc,rf=>by
  obtain⟨n,hn,hm⟩:∃n,gD (r j (.aT i::aL))=ab n/\fV (λi=>gD (r j (.aT i::aL))) is (fN o i n)=ab xH:=by
   grind [fV]
  have hn:r j (.aT i::aL)=.ok (.fr (.aT n)):=by
   unfold gD at hn
   grind
  refine⟨bQ Gc cs,j,lm,aL,[.aT i],.aT n,D7 g.p9,rf,⟨_,_,rfl,rfl,rfl⟩,rfl,C1,hl,hn,λG' H' v g' rv=>?_⟩
  cases(show v=V.aT n from rv);have gn:=aK.gb g' hc g.p9;refine⟨n,rfl,gn.p9.p7 ((g.gg.kZ gn.gg).p7 hq),QB hl C1 hq hQ is (fN o i n) (dE G' cs) _ hm (g.kZ gn) (λb o z=>xD z) (qk.k8 (D7 gn.gg) _ rf)⟩
section
variable{X:Cx}{Z:Zt}{EE:L2.St->XK}{e uG:p6}{uu:Z7}{d:iw W}{eA p gw kp:vW}{k:aO}{N nf:ai et}{js:ai aO}{sc fv:zF}{bM:aO->d3 Lm}{r:aO->ai W->FR}
def z75(j:aO)(l:Lm)(F:sx X.je X.w X.K X.mg X.k_ (fe X.je X.w) k (yS X.K bM r))(hr:br (k+1) X.A)(hc:X.MT=true)(hm:X.mg "min"=none)(M:ϛ X)(qC:∀y,X.fn y=true)(he:DE Z X EE e d)(C0:bM j=ab l)(ok:cP sc fv N nf js=true)
  (hl:autoParam (l=⟨X.dt.t_++"<lambda>", uu,uG,fv,nf⟩) jJ)(lB:autoParam (â uu X.dt=([],[])) jJ)(hsc:autoParam (X.dt.fv=sc) jJ)(hN:autoParam (X.N=N) jJ)(hg:autoParam (Gl X "min") jJ)
  (ky:autoParam (pg [e] X.dt=[(false,eval e X.dt)]) jJ):
  DE Z X EE (.wO (.oh "min" p) [e] [⟨ab "key", .Ze uu uG fv eA,kp⟩] gw) (kH r j js d):=by
 unfold cP at ok;simp only[w0q,w1c,_e,Ϣ,w1r,w0y]at ok;obtain⟨⟨⟨⟨⟨⟨k1,k2⟩,k3⟩,k4⟩,k5⟩,k6⟩,k7⟩:=ok;have zc:∀x,X.dt.zj x=sc.qW.g6 x:=λx=>by rw[<- hsc];rfl
 refine PE.k8 (z73 (Nf:=nf) (js:=js) F hr hc hg hm M qC he lB (λx hx hf=>?_) (λi j y e1 e2=>?_) ky) ?_
 .rw[zc];rcases k4 x hx with(z|z)|z
  .exact uz hf z
  .exact .jd z
  .exact .lb z
 .have bZ:i<js.aj:=(w0b.mp e2).1;have z:=k6 i bZ;rw[e1,e2]at z;let⟨z1,z2⟩:=k7 y (w0w e1);refine⟨by rw[hN];simpa using z,n9.Z2 z1,?_,?_⟩
  .rw[hsc];rcases z2 with z|z
   .exact .lb (.jd z)
   .exact .lb (.lb z)
  .rw[zc];rcases z2 with z|z<;>(rw[z];decide)
 .rintro σ H Q ⟨G,en,mQ,h⟩;simp only[kH,R.ar]at h;refine⟨G,en,mQ,h.uM (λw e1 h G1 v1 H1 r1 s1 p1=>?_) λ_ _ h=>h⟩
  cases w with
  |dI ws=>
   cases ly:dz js e1 with
   |none=>rw[ly]at h;exact h.oa
   |ab aL=>
   rw[ly]at h;simp only[qV]at h;cases hi:dn ws with
   |none=>rw[hi]at h;exact h.oa
   |ab is=>
   rw[hi]at h;simp only[]at h;split at h
   .rename_i C1;cases ho:fV (λi=>gD (r j (.aT i::aL))) is none with
    |none=>rw[ho]at h;exact h.oa
    |ab xH=>
    rw[ho]at h;let⟨pa,xs,rfl,q,rr⟩:=p1;cases BB hi rr;refine⟨pa,is,rfl,λf a8 H2 la cs co=>?_⟩
    let⟨e5,Hm,pm,eS,c',hH,hf,rfl⟩:=la
    have rm:pZ X.K Z G1 σ Hm e1:=by
     rcases hH with rfl|⟨c,oc,hc,rfl⟩
     .exact r1
     .exact r1.zR (aK.ox r1.p9 hc _)
    have gl:=aK.JN rm.p9 hf (mf (ZM "<lambda>" (X.dt.t_++"<lambda>") uu uG fv a8 pm c' eS) (X.dt.t_++"<lambda>") c');have r2:=rm.zR gl;let⟨zs,rz,zl,zv⟩:=Ju r1 ly;have sJ:∀b o,cs.g6 b=ab o->oL Hm f (mf (ZM "<lambda>" (X.dt.t_++"<lambda>") uu uG fv a8 pm c' eS) (X.dt.t_++"<lambda>") c') b=none:=λb o z=>(co.ou b o z).1
    have zY:∀b o,cs.g6 b=ab o->oL G1 f (mf (ZM "<lambda>" (X.dt.t_++"<lambda>") uu uG fv a8 pm c' eS) (X.dt.t_++"<lambda>") c') b=none:=λb o z=>by
     cases q:oL G1 f (mf (ZM "<lambda>" (X.dt.t_++"<lambda>") uu uG fv a8 pm c' eS) (X.dt.t_++"<lambda>") c') b with
     |none=>rfl
     |ab u=>have:=r2.p9 b u q;rw[sJ b o z]at this;cases this
    have sA:=gl.gg.kZ (Ka zY)
    have wB:cs.g6 f=none:=by
     cases q:cs.g6 f with
     |none=>rfl
     |ab o=>have:=zY f o q;rw[bN]at this;cases this
    have fc:fZ (bQ (oL G1 f (mf (ZM "<lambda>" (X.dt.t_++"<lambda>") uu uG fv a8 pm c' eS) (X.dt.t_++"<lambda>") c')) cs) a8 l zs cs:=by
     subst hl;refine⟨co.zT,co.A',co.t9,λc o z=>⟨pE z,(co.ou c o z).2⟩,λi y z g1 g2=>?_,by rw[zl];exact k5⟩
     have hi:i<js.aj:=by rw[<- zl];exact(w0b.mp g2).1
     have g3:js[i]?=ab js[i]:=w0c hi;exact co.vV i y js[i] z g1 g3 (zv i _ z g3 g2)
    have JK:qk X.K (bQ (oL G1 f (mf (ZM "<lambda>" (X.dt.t_++"<lambda>") uu uG fv a8 pm c' eS) (X.dt.t_++"<lambda>") c')) cs) (.fn j l aL) (.dr f):=by
     refine⟨f,a8,zs,cs,rfl,⟨pm,c',eS,?_⟩,fc,ah.k8 sA aL rz⟩;rw[ir wB,bN,hl]
    have q2:bD X.K (oL G1 f (mf (ZM "<lambda>" (X.dt.t_++"<lambda>") uu uG fv a8 pm c' eS) (X.dt.t_++"<lambda>") c')) pa (is.a6 V.aT):=gl.gg.p7 q;refine⟨r2.p9.p7 q2,QB C0 C1 q2 (λGc Hc g=>?_) is none _ _ ho (aK.t8 r2.p9) sJ JK⟩
    exact h Gc _ Hc (r2.zR g) (s1.kZ (gl.gg.kZ g.gg)) rfl
   .exact h.oa
  |_=>exact h.oa
end
end D
namespace L2
open PySem PySem.Spec PyProof.Rows
def dQ{α β:Type}(R:α->β->Prop):ai α->ai β->Prop
 |[],[]=>j'
 |a::as,b::bs=>R a b/\dQ R as bs
 |_,_=>vk
def dQ.perm{α β:Type}{R:α->β->Prop}{LZ bs:ai β}(h:LZ.Zx bs):∀{as:ai α},dQ R as bs->∃CK,CK.Zx as/\dQ R CK LZ:=by
 induction h with
 |so=>exact λ{as} r=>⟨as,.t8 _,r⟩
 |qT x _ ih=>
  intro as r;cases as with
  |so=>exact r.oa
  |qT a as=>
   let⟨CK,p,q⟩:=ih r.2;exact⟨a::CK,p.qT a,r.1,q⟩
 |swap x y l=>
  intro as r;cases as with
  |so=>exact r.oa
  |qT a as=>
   cases as with
   |so=>exact r.2.oa
   |qT b as=>exact⟨b::a::as,.swap ..,r.2.1,r.1,r.2.2⟩
 |kZ _ _ V_ V'=>
  intro as r;let⟨a2,p2,q2⟩:=V' r;let⟨a1,p1,q1⟩:=V_ q2;exact⟨a1,p1.kZ p2,q1⟩
theorem dQ.Ff{α β:Type}{R:α->β->Prop}:∀{as:ai α}{bs:ai β},dQ R as bs->∀(i:aO) a,as[i]?=ab a->∃b,bs[i]?=ab b/\R a b
 |a::as,b::bs,r,0,_,e=>by cases e;exact⟨b,rfl,r.1⟩
 |a::as,b::bs,r,i+1,x,e=>dQ.Ff r.2 i x e
 |[],[],_,i,_,e=>by simp at e
theorem dQ.aj:∀{as:ai α}{bs:ai β},dQ R as bs->as.aj=bs.aj
 |[],[],_=>rfl
 |_::_,_::_,r=>ZQ (·+1) (dQ.aj r.2)
theorem dQ.a6{f:α->zfI}{g:β->zfJ}(h:∀a b,R a b->R' (f a) (g b)):∀{as:ai α}{bs:ai β},dQ R as bs->dQ R' (as.a6 f) (bs.a6 g)
 |[],[],_=>trivial
 |_::_,_::_,r=>⟨h _ _ r.1,dQ.a6 h r.2⟩
def LO(a:et×V)(b:Keyed):Prop:=(∃t,b.1=.str a.1 t)/\uI a.2 b.2
theorem RX:∀{ns:ai et}{xs:ai V}{ws us:ai d0},uw (ns.a6 V.str) ws->uw xs us->dQ LO (ns.xR xs) (ws.xR us)
 |[],_,_,us,h1,_=>by cases h1;exact trivial
 |_::_,[],_,_,h1,h2=>by cases h1;cases h2;exact trivial
 |n::ns,x::xs,_,_,h1,h2=>by
  cases h1 with
  |qT r1 h1=>
  cases h2 with
  |qT r2 h2=>exact⟨⟨r1,r2⟩,RX h1 h2⟩
theorem PK:∀{xs:ai V}{us:ai d0},dQ uI xs us->uw xs us
 |[],[],_=>.so
 |_::_,_::_,r=>.qT r.1 (PK r.2)
theorem OK:∀{ns:ai et}{ws:ai d0},uw (ns.a6 V.str) ws->Ŀ ws ns
 |[],_,h=>by cases h;exact .so
 |n::ns,_,h=>by
  cases h with
  |qT r h=>
   let⟨t,rfl⟩:=r;exact .qT n t (OK h)
theorem y64:∀{ws:ai d0}{ns:ai et},Ŀ ws ns->2<=ws.aj->keyKind' ws.l8=vX oneType'
 |[],_,_,h=>uz h (by simp)
 |[_],_,_,h=>uz h (by simp)
 |_::_::_,_,hJ,_=>keyKind_strs hJ
abbrev v_(zs:ai (et×V)):Prop:=zs.Zf λa b=>¬b.1.Yp.wL<a.1.Yp.wL
def y65(r:dQ LO zs YX.wL)(h:ľ Ĥ YX YX.dS):v_ zs:=by
 have ZT:∀i (hi:i<zs.aj),KK Ĥ YX i=zs[i].1.Yp.wL:=λi hi=>by
  let⟨b,e,⟨t,hb⟩,_⟩:=r.Ff i zs[i] (w0c hi)
  simp_all [KK]
 refine w3a.wa λi j hi hj sH=>?_
 have hl:zs.aj=YX.dS:=by rw[r.aj];simp
 have:=h i j (w3p sH) (by omega);rw[ZT i hi,ZT j hj]at this;exact of_decide_eq_false this
def z76{σ:St}(F:eT X.je X.w X.K X.mg X.k_ (fe X.je X.w) k f fd ps sp)(hr:br k A)(hA:A.YH=X.A.YH)(hb:ZO X.K fd ps [])
  (I:j3 X dN σ H s)(r:uw vs us)(h:sp vs H Q λ_ _ _=>vk):oP (qX X.je X.w) A (zb (.dr f) us) (EP X dN σ Q) E s:=by
 have hl:(us++[]).aj=ps.aj:=by rw[w1q,<- r.aj];exact F.uN _ _ _ _ h
 have e0:=I.qv;have bd:=hb s us I.mw hl;rw[w1q]at bd;refine Ϭ (Ν (F.nN A X.WZ s H ⟨us,[]⟩ us vs Q _ hr ⟨hA.kZ e0.YH,e0.Yv,e0.bs,e0.o7,e0.fQ,e0.qx,e0.aQ,e0.Td,e0._m⟩ bd r h) λr s' hq=>?_)
 cases r with
 |_H e=>
  let⟨_,_,_,_,_,_,_,_,_,_,hE⟩:=hq;exact hE.oa
 |ok fl=>
  cases fl with
  |CJ u=>exact I.ϡ hq
  |next=>exact vk.oa hq
  |_r=>exact vk.oa hq
  |_s=>exact vk.oa hq
def mz(sp:Sp)(l:fy)(o:sT)(ks:fy)(K:ai et->Hp->Prop):ai V->ai et->Hp->Prop
 |[],ns,H=>K ns H
 |x::xs,ns,H=>sp [x] H (λv H'=>∃n,v=.str n/\H' l=ab (.cK o (.dI []))/\H' ks=ab (.dI (ns.a6 V.str))/\mz sp l o ks K xs (ns++[n]) (oL H' ks (.dI ((ns++[n]).a6 V.str)))) λ_ _ _=>vk
section
variable{X:Cx}{A:C_}{k:aO}{f:fy}{fd:Zv}{ps:ai et}{sp:Sp}{dN:ai (fy×sT)}{σ:St}{l ks:fy}{E:d0->p5->Prop}{o:sT}{K:ai et->Hp->Prop}
theorem Ot(F:eT X.je X.w X.K X.mg X.k_ (fe X.je X.w) k f fd ps sp)(hr:br k A)(hA:A.YH=X.A.YH)(hb:ZO X.K fd ps [])
  (pd:l≠ks)(ro:yb d0):∀(xs:ai V)(us:ai d0)(ns:ai et)(s:p5)(H:Hp),uw xs us->j3 X dN σ H s->H l=ab (.cK o (.dI []))->H ks=ab (.dI (ns.a6 V.str))->ns.aj+xs.aj<=1000->mz sp l o ks K xs ns H ->
  oP (qX X.je X.w) A (ϥ us ϝ.unit λx (_:ϝ)=>lG l (.dr f) (.dr ks) x ro) (λ_ s'=>∃(H':Hp)(sQ:ai et),j3 X dN σ H' s'/\H' l=ab (.cK o (.dI []))/\H' ks=ab (.dI (sQ.a6 V.str))/\sQ.aj=ns.aj+xs.aj/\K sQ H') E s
 |[],us,ns,s,H,r,I,hl,hk,hz,h=>by
  cases r;rw[w4i];exact ui ⟨H,ns,I,hl,hk,rfl,h⟩
 |x::xs,us,ns,s,H,r,I,hl,hk,hz,h=>by
  cases r with
  | @qT _ u _ us r rr=>
   rw[w3g];refine ny ?_;unfold lG;refine ny (û ?_);refine Zs (z76 (Q:=λv H'=>∃n,v=.str n/\H' l=ab (.cK o (.dI []))/\H' ks=ab (.dI (ns.a6 V.str))/\mz sp l o ks K xs (ns++[n]) (oL H' ks (.dI ((ns++[n]).a6 V.str)))) F hr hA hb I (.qT r .so) h) (λw s1 hq=>?_) (λ_ _ z=>z)
   let⟨v,H1,I1,rv,n,rfl,e1,e2,h2⟩:=hq;let⟨ML,aw,m,rI,eo⟩:=(show aU X.je X.w H1 s1.bj ks (.dI (ns.a6 V.str))from I1.aQ ks _ e2);have Ao:aw.aj=ns.aj:=by rw[<- rI.aj,w0a]
   refine ny (đ eo rfl ?_ (hsz:=by rw[w0e,LP];omega) (hsz2:=by rw[yb.ZN,w0e,LP];omega))
   obtain⟨m2,Ma⟩:∃m2,(s1.bj.Yn ks (sT.Yt (·.tM w))).ik ks=ab {o4:=.ke "list", pJ:=.p7 (aw++[w]).l8 m2}:=by
    have z:=Ä eo (·.tM w);rw[show aw.l8.tM w=(aw++[w]).l8 by simp]at z;exact⟨_,z⟩
   have I2:j3 X dN σ (oL H1 ks (.dI ((ns++[n]).a6 V.str))) {s1 with bj:=s1.bj.Yn ks (sT.Yt (·.tM w))}:=by
    refine I1.Zl (t':=s1.tK) (by rw[e2];exact j'.intro) (.jd rfl) (λb u hb q=>(g0._J _ _ (Ne.symm hb)).kZ q) ⟨_,Ma⟩ (show aU X.je X.w _ _ _ (.dI _)from⟨by rw[w0a,w1e,LP];simp;omega,aw++[w],m2,?_,Ma⟩)
    rw[w0x];exact rI.Wi (.qT rv .so)
   refine ui ?_;show oP _ _ (ϥ us ϝ.unit _) _ _ _;refine Zs (Ot F hr hA hb pd ro xs us (ns++[n]) _ _ rr I2 (by rw[aN pd];exact e1) bN (by rw[w1e];simp at hz |-;omega) h2) (λ_ s' hq=>?_) (λ_ _ z=>z)
   let⟨H',sQ,a1,a2,a3,a4,a5⟩:=hq;exact⟨H',sQ,a1,a2,a3,by rw[a4,w1e];simp;omega,a5⟩
def oU(sp:Sp)(l:fy)(xs:ai V)(H:Hp)(Q:VK):Prop:=
 ∀o ks,oL H l (.cK o (.dI [])) ks=none->mz sp l o ks (λns H'=>∀zs:ai (et×V),zs.Zx (ns.xR xs)->v_ zs->Q (.dr l) (oL (oL H' ks (.dI [])) l (.dI (zs.a6 (·.2))))) xs [] (oL (oL H l (.cK o (.dI []))) ks (.dI []))
def y66{Q:VK}{xs:ai V}{H:Hp}{s:p5}(F:eT X.je X.w X.K X.mg X.k_ (fe X.je X.w) k f fd ps sp)(hr:br k A)(hA:A.YH=X.A.YH)(hb:ZO X.K fd ps [])
  (I:j3 X dN σ H s)(el:H l=ab (.dI xs))(hf:∀o v,X.aF l≠ab (.cK o v))(FD:xs.aj<64)(h:oU sp l xs H Q):
  oP (qX X.je X.w) A (uK.«list.sort» ⟨[.dr l],[(et.YM "key", .dr f)]⟩) (λxT s'=>xT=.done (.CJ .none)/\EP X dN σ Q (.dr l) s') E s:=by
 rw[XW];let⟨_,us,m,rU,eo⟩:=(show aU X.je X.w H s.bj l (.dI xs)from I.aQ l _ el);have Gy:us.aj=xs.aj:=by rw[<- rU.aj]
 refine ny (zcS eo rfl ?_);refine ny (đ eo rfl ?_ (hsz:=by rw[w0e,LP];omega));obtain⟨e1,CM⟩:∃e1,(s.bj.Yn l (sT.Yt λ_=>#[])).ik l=ab (Yx "list" #[] e1):=⟨_,Ä eo (λ_=>#[])⟩
 have I1:j3 X dN σ (oL H l (.dI [])) {s with bj:=s.bj.Yn l (sT.Yt λ_=>#[])}:=
  I.Zl (t':=s.tK) (by rw[el];exact j'.intro) (.jd rfl) (λb u hb q=>(g0._J _ _ (Ne.symm hb)).kZ q) ⟨_,CM⟩ (show aU X.je X.w _ _ _ (.dI [])from⟨w1g _,[],e1,.so,CM⟩)
 have I2:=I1.lx (a:=l) (xs:=[]) (o:=Yx "list" #[] e1) bN CM;rw[Ei]at I2;refine ny (seqEpoch_at CM rfl ?_);refine ny (zd' ?_ (hsz:=by rw[LP];simp;omega));have I3:=I2.Yc (t':=s.tK) (h':=(s.bj.Yn l (sT.Yt λ_=>#[])).tM (Yx "tuple" us.l8.wL.l8 0)) λb u q=>g0.w6 _ q
 refine ny (Ź ?_);have fr:=I3.aQ.xK (w0f _)
 have I4:=I3.JN (t':=s.tK) (o:=.dI []) (h':=((s.bj.Yn l (sT.Yt λ_=>#[])).tM (Yx "tuple" us.l8.wL.l8 0)).tM (Yx "list" #[] 0)) (λb u q=>g0.w6 _ q) (w0f _)
  (show aU X.je X.w _ _ _ (.dI [])from⟨w1g _,[],0,.so,g0.A2 _ rfl⟩)
 refine ZW ?_;refine ny (ÿ ?_);rw[ai.forIn_toArray]
 have pd:l≠((s.bj.Yn l (sT.Yt λ_=>#[])).tM (Yx "tuple" us.l8.wL.l8 0)).f'.dS:=λz=>by
  rw[<- z,bN]at fr;cases fr
 refine ny (Zs (Ot F hr hA hb pd us.l8 xs us [] _ _ rU I4 (by rw[aN pd];exact bN) bN (by simp;omega) (h _ _ fr)) (λ_ s5 hq=>?_) (λ_ _ z=>z))
 let⟨H5,ns,I5,L9,L8,lV,q⟩:=hq
 clear I1 I2 I3 I4
 generalize ((s.bj.Yn l (sT.Yt λ_=>#[])).tM (Yx "tuple" us.l8.wL.l8 0)).f'.dS=ks at *
 let⟨_,ws,mk,rW,ew⟩:=(show aU X.je X.w H5 s5.bj _ (.dI (ns.a6 V.str))from I5.aQ _ _ L8);have qJ:ws.aj=us.aj:=by rw[<- rW.aj,w0a,lV,Gy];simp
 have hJ:=OK rW;have Vf:s5.bj.ik l=ab (Yx "list" #[] e1):=(show _/\_ from I5.aQ _ _ L9).1;refine ny (zcS ew rfl ?_)
 have xT:∀YX:yb Keyed,YX.Zx (ws.l8.xR us.l8)->ľ Ĥ YX YX.dS->oP (qX X.je X.w) A (do
   uK.ai.ύ (.dr ks) λ_=>#[]
   letGo (YX.a6 (·.1)).wL ([]:ai d0)
   let Ī:=(<- Ť l) != e1
   uK.ai.ύ (.dr l) λ_=>YX.a6 (·.2)
   if Ī then _k "list.sort.modified";raiseError "ValueError" "list modified during sort"
   CJ .none) (λxT s'=>xT=.done (.CJ .none)/\EP X dN σ Q (.dr l) s') E s5:=λYX hp hs=>by
  have C3:YX.wL.Zx (ws.xR us):=by
   have:=yb.perm_iff_toList_perm.mp hp
   simpa using this
  let⟨zs,pz,rz⟩:=dQ.perm C3 (RX rW rU);have up:=y65 rz hs
  have hy:uw (zs.a6 (·.2)) (YX.a6 (·.2)).wL:=by
   rw[yb.toList_map];exact PK (dQ.a6 (λ_ _ h=>h.2) rz)
  have MI:YX.dS=us.aj:=by rw[hp.size_eq];simp[qJ]
  have V9:zs.aj=us.aj:=by rw[rz.aj];simp[MI]
  refine ny (đ ew rfl ?_ (hsz:=by rw[w0e,LP];omega));obtain⟨e6,Md⟩:∃e6,(s5.bj.Yn ks (sT.Yt λ_=>#[])).ik ks=ab (Yx "list" #[] e6):=⟨_,Ä ew (λ_=>#[])⟩
  have I6:j3 X dN σ (oL H5 ks (.dI [])) {s5 with bj:=s5.bj.Yn ks (sT.Yt λ_=>#[])}:=
   I5.Zl (t':=s5.tK) (by rw[L8];exact j'.intro) (.jd rfl) (λb u hb q=>(g0._J _ _ (Ne.symm hb)).kZ q) ⟨_,Md⟩ (show aU X.je X.w _ _ _ (.dI [])from⟨w1g _,[],e6,.so,Md⟩)
  have Vd:oL H5 ks (.dI []) l=ab (.cK (Yx "list" #[] e1) (.dI [])):=by rw[aN pd];exact L9
  have Fu:(s5.bj.Yn ks (sT.Yt λ_=>#[])).ik l=ab (Yx "list" #[] e1):=(g0._J _ _ (Ne.symm pd)).kZ Vf
  have I7:=I6.vn Vd hf;refine ny (δ ?_);refine ny (seqEpoch_at Fu rfl ?_);refine ny (đ Fu rfl ?_ (hsz2:=by rw[yb.size_map,MI,LP];omega));obtain⟨e8,Mb⟩:∃e8,((s5.bj.Yn ks (sT.Yt λ_=>#[])).Yn l (sT.Yt λ_=>YX.a6 (·.2))).ik l=ab (Yx "list" (YX.a6 (·.2)) e8):=⟨_,Ä Fu (λ_=>YX.a6 (·.2))⟩
  have I8:=I7.Zl (x:=l) (e:=l) (o:=.dI (zs.a6 (·.2))) (t':=s5.tK) (h':=(s5.bj.Yn ks (sT.Yt λ_=>#[])).Yn l (sT.Yt λ_=>YX.a6 (·.2))) (by rw[bN];exact j'.intro) (.jd rfl) (λb u hb q=>(g0._J _ _ (Ne.symm hb)).kZ q) ⟨_,Mb⟩
   (show aU X.je X.w _ _ _ (.dI (zs.a6 (·.2)))from⟨by rw[w0a,V9,LP];omega,(YX.a6 (·.2)).wL,e8,hy,by rw[w5h];exact Mb⟩)
  rw[Ei]at I8;simp only[bne_self_eq_false,w4f,_t];exact ui ⟨rfl,.dr l,_,I8,rfl,q zs pz up⟩
 have MM:(ws.l8.xR us.l8).dS=us.aj:=by simp[qJ]
 by_cases h2:us.l8.dS<2
 .rw[nZ h2,nZ h2];refine ny (ui ?_);dsimp only;rw[StateT.run_pure];refine ny (ui ?_);refine xT (ws.l8.xR us.l8) (yb.Zx.t8 _) λi j sH hj=>?_
  have hsz:us.l8.dS=us.aj:=by simp
  have:i=j:=by omega
  subst this;exact KeyOrd.kle_refl _
 .rw[r5 h2,r5 h2];have hsz:us.l8.dS=us.aj:=by simp
  rw[y64 hJ (by omega)];refine ny (ui ?_)
  refine ny (Zs (wpS_sortRunsK (a₀:=ws.l8.xR us.l8) (st:=SortSt.mk' oneType' (ws.l8.xR us.l8) #[] 7 none)
   (Q:=λ_ nX=>(ą nX).Zx (ws.l8.xR us.l8)/\Č nX=none/\ľ Ĥ (ą nX) (ws.l8.xR us.l8).dS)
   strKind_oneLt (λp hp=>?_) ⟨yb.Zx.t8 _,rfl,rfl,rfl⟩ (by rw[MM];omega) (by rw[MM];omega) λnX a1 a2 a3=>⟨a1,a2,a3⟩) ?_ λ_ _ e=>e)
  .have hm:p∈ws.xR us:=by simpa using hp
   have hw:=(w3i hm).1;let⟨i,hi,e⟩:=w1n.mp hw;have yq:i<ns.aj:=by rw[<- w0a (f:=V.str),rW.aj];exact hi
   let⟨u,hu,t,ru⟩:=rW.Ff (i:=i) (x:=V.str ns[i]) (by rw[w0s,w0c yq];rfl);rw[w0c hi,e]at hu;cases hu;exact⟨_,by rw[ru]⟩
  rintro⟨⟨⟩,nX⟩ s' ⟨rfl,hp,CY,VX⟩;have z:=xT _ hp (by rw[hp.size_eq];exact VX);rw[<- show(Č nX).wL=([]:ai d0) by rw[CY];rfl]at z;dsimp only at z |-
  rw[CY]at z |-
  exact z
end
def zeo(sp:Sp)(K:Fg)(ta:TE):TE:=λσ H Q=>ta σ H λv H1=>∃(p:fy)(xs:ai V),v=.dr p/\bD K H1 p xs/\xs.aj<64/\∀l,H1 l=none->oU sp l xs (oL H1 l (.dI xs)) Q
section
variable{X:Cx}{k:aO}{f:fy}{fd:Zv}{ps:ai et}{sp:Sp}
def z11{a:p6}{x:et}{np p gw kp:vW}{ta:TE}(F:eT X.je X.w X.K X.mg X.k_ (fe X.je X.w) k f fd ps sp)(hr:br (k+2) X.A)(hb:ZO X.K fd ps [])(VG:X.mg x=ab (.dr f))(FX:Gl X x)(hg:Gl X "sorted")(hm:X.mg "sorted"=none)
  (ha:PE X a ta)(he:autoParam (pg [a] X.dt=[(false,eval a X.dt)]) jJ)(FP:autoParam ((x==("__debug__":et))=false) jK):
  PE X (.wO (.oh "sorted" p) [a] [⟨ab "key", .oh x np,kp⟩] gw) (zeo sp X.K ta):=by
 intro dN s σ H Q I h;refine γ (pY I hg hm CG.Fe._p.«sorted» ?_ (by decide) (by decide));refine callWith_kw ?_ (by rw[he];rfl) (by rw[he];rfl);rw[he];show oP _ _ (Î ((false,eval a X.dt)::[])) _ _ s;refine Zc.ô (bq (ha dN s σ H _ I h) λu s1 ⟨v,H1,I1,r1,q1⟩=>?_)
 let⟨pa,xs,rfl,hq,FD,q⟩:=q1;obtain rfl:u=d0.dr pa:=r1;refine Zc.õ ?_;refine kws_cons (Ej I1 FX VG (kws_nil ?_) FP);show oP _ _ (zb (.w4 "sorted") [.dr pa] [(et.YM "key", .dr f)]) _ _ _;let⟨aw,rI,pl,hz⟩:=I1.xm hq;have Ao:aw.aj=xs.aj:=rI.aj.symm;refine call_function_entry_kw kind_sorted plain_sorted entry_sorted (Xn _ _) ?_
 unfold uK.«sorted»;refine ny (m:=checkCount "sorted" 1 1 _) (ui ?_);refine ny (collect_list pl.zD ?_);have k5:∀b o,s1.bj.ik b=ab o->((s1.bj.tM (Yx "list" #[] 0)).Yn s1.bj.f'.dS (sT.Yt (·++aw.l8))).ik b=ab o:=λb o e=>(g0._J _ _ (w2t (g0.xX e))).kZ (g0.w6 _ e)
 have I5:j3 X dN σ H1 {s1 with bj:=(s1.bj.tM (Yx "list" #[] 0)).Yn s1.bj.f'.dS (sT.Yt (·++aw.l8))}:=I1.Yc (t':=s1.tK) k5;refine ny (Ź ?_ (hsz:=by rw[LP];omega));have CP:=I5.aQ.xK (w0f _)
 have I6:=I5.JN (t':=s1.tK) (o:=.dI xs) (h':=((s1.bj.tM (Yx "list" #[] 0)).Yn s1.bj.f'.dS (sT.Yt (·++aw.l8))).tM {o4:=.ke "list", pJ:=.p7 aw.l8}) (λb o q=>g0.w6 _ q) (w0f _)
  (show aU X.je X.w _ _ _ (.dI _)from⟨hz,aw,0,rI,g0.A2 _ rfl⟩)
 refine ny (ZW (wpAny_call_entry_kw slot_list_sort ⟨_,g0.A2 _ rfl,rfl⟩ entry_list_sort (Zs (y66 (Q:=Q) (xs:=xs) F ((hr.Ba).Ba) rfl hb I6 bN ?_ FD (q _ CP)) (λxT s' hq=>⟨_,hq.1,?_⟩) λ_ _ z=>z) (WC _ _)))
 .intro o v z;have:=I5.k_.aX _ o v z;rw[CP]at this;cases this
 .exact ui ⟨_,rfl,hq.2⟩
end
end L2
namespace yV
open PySem PySem.W PySem.Calls PyProof.Rows
theorem QC:∀{ns:ai a7}{m:aO},YG.İ (ns.a6 YG.aT)<=m->∀i∈ns,uK.a7.Æ i<=m
 |[],_,_,_,h=>nomatch h
 |n::ns,m,hw,i,h=>by
  have e:YG.İ ((n::ns).a6 YG.aT)=uK.a7.Æ n+1+YG.İ (ns.a6 YG.aT):=rfl;rw[e]at hw;cases h with
  |head=>omega
  |Χ _ h=>exact QC (by omega) i h
def z12{ns:ai a7}(h:YG.layableAll [YG.xm (ns.a6 YG.aT)]=true):∀i∈ns,uK.a7.Æ i<=1048576:=by
 have h1:(YG.layable (YG.xm (ns.a6 YG.aT))&&true)=true:=h;rw[w4q]at h1;unfold YG.layable at h1;rw[w0q]at h1;have h2:=_j h1.2;have e:YG.weight (YG.xm (ns.a6 YG.aT))=YG.İ (ns.a6 YG.aT):=rfl;rw[e]at h2;exact QC h2
def zcM{l:Θ}
  (hn:l.É=ab n)(tW:d.uu.À=[])
  (zb:∀(w:vr)(ay aD:p5)(mg mb:et->d3 d0)(fa:fy)(o:sT)(pm cd Yr:d0)(a:fy)(vs:ai d0)(ns:ai a7),
   Ground q _Y [] XP w ay mg mb aD.bj->YP w aD.bj ->
   aD.bj.ik fa=ab o->o.pJ=.Zo (docDef d.name d.uu d.uG d.fv pm cd Yr)->aD.bj.Ĺ cd d.name->mg d.name=ab (.dr fa) ->
   aD.bj.ik a=ab {o4:=.ke "list", pJ:=.p7 vs.l8}->Ϙ vs ns->ns.aj<=n->(∀i∈ns,uK.a7.Æ i<=1048576)->aD.YI=#[] ->
   Zn (qX l.je w) ZY (.zb (.dr fa) ⟨[.dr a],[]⟩) (λr s'=>r=.ok (.CJ (.xN true))/\Ϝ aD.bj s'.bj/\s'.os=aD.os/\Z6 s'.YI) aD):
  Ú q _Y XP YP l.ot.ϑ d [] (λf vs=>n9.zb f vs):=by
 intro w ay aD mg mb G Y fa o pm cd Yr dV kV ho hd fg hD hmg hg args ù as ph Av VV qJ VO;obtain rfl:dV=.none:=ā.none hD tW;obtain rfl:kV=.none:=ā.noKw hD;let⟨a,vs,ns,rfl,rfl,nH,ό,wZ⟩:=OU hn ph qJ;refine enter_call (Ν (zb w ay aD mg mb fa o pm cd Yr a vs ns G Y ho (fd_plain hd) fg hmg nH ό wZ (z12 Av) hg) λr s' hq=>?_)
 let⟨rfl,h2,h3,h4⟩:=hq;exact⟨.jd ⟨.xN true,.xN true,[],rfl,λ_=>rfl,.xN true,OV l _,λ_=>⟨ai.Zf.so,λ_ hm=>(nomatch hm)⟩⟩,h2,h3,h4⟩
end yV
namespace L2
open PySem PySem.Spec PyProof.Rows
end L2
namespace D
open PySem L2
def CB(ns:ai a7):Prop:=ns.aj<=63/\∀i∈ns,uK.a7.Æ i<=1048576
def lQ(K:Fg):Sp:=λvs H Q _=>∃(a:fy)(ns:ai a7),vs=[.dr a]/\bD K H a (ns.a6 V.aT)/\CB ns/\∀H',Q (.bl true) H'
def y67(hF:∀ns:ai a7,CB ns->F [.dI (ns.a6 .aT)]=.ok (.fr (.bl true)))(h:lQ K vs H Q E):oR K F vs H Q E:=by
 let⟨a,ns,rfl,hS,hl,q⟩:=h;refine⟨λb=>if b=a then H a else none,[.dI (ns.a6 .aT)],λb o z=>?_,⟨.dr a,[],rfl,⟨a,ns.a6 V.aT,rfl,?_,OD ns⟩,rfl⟩,?_⟩
 .grind
 .rcases hS with(h|⟨o,h⟩)|h
  .exact .jd (.jd (by simpa using h))
  .exact .jd (.lb ⟨o,by simpa using h⟩)
  .exact .lb h
 .rw[hF ns hl];intro G' H' v g sl;let⟨u,h1,h2⟩:=sl;cases h1;cases(show v=V.bl true from h2);exact q H'
end D
namespace L2
open PySem PySem.Spec PyProof.Rows
end L2
namespace D
open PySem L2
open Classical in
noncomputable instance zeY (k:Kx) (sh:Sh):Ó (_h k sh):=ζ.ï _
end D
namespace L2
open PySem PySem.Spec PyProof.Rows
structure kC(x:et)(Nf:ai et)(sc:zF):Prop where
 zc:sc.zc=.ZK
 co:sc.ç=false
 gen:sc.è=false
 Ϗ:sc.qW.g6 x=ab .uL
 YE:∀n cl,Þ n sc.qW cl=(x,n)::cl
 Bc:∀h:g0,pushCells h sc.qW=h.tM {o4:=.ke "cell", pJ:=.uL none}
 only:∀y∈sc.qW,y.2=.uL->y.1=x
 fr:∀y∈Nf,sc.qW.g6 y=ab .tD
end L2
namespace D
open PySem L2
structure zeS(P:xc)(w:vr)(K:Fg)(mg:et->d3 d0)(k_:g0)(n:aO)(l:Lm)(x:et)(F:ai W->FR):Prop where
 sc:kC x l.nf l.fv
 r7:∀(cl:ai (et×fy))(pm:d0)(c':fy)(eS u:d0),ρ (ê "<lambda>" l.t_ l.uu l.uG l.fv cl pm (.dr c') eS) ⟨[u],[]⟩=vX [(x,u)]
 uN:∀ws,F ws≠.no->ws.aj=1+l.nf.aj
 uG:∀ws,F ws≠.no->∀(Z:Zt)(f:fy)(cd:d0)(cl:ai (et×fy))(A:C_)(tB:ai S')(s:p5)(H:Hp),br n (A.ZJ (eO l.t_ l.fv f cd cl s)) ->
  ∃d,DE Z (kF P w K mg k_ ([x]++l.nf) l.t_ l.fv f cd cl A tB s H) (λ_=>E0) l.uG d/\gL (d (ws.a6 .fr))=F ws
end D
namespace L2
open PySem PySem.Spec PyProof.Rows
def zd2(P:xc)(w:vr)(K:Fg)(mg:et->d3 d0)(k_:g0)(N:ai et)(t_:et)(fv:zF)(f:fy)(cd:d0)(cl:ai (et×fy))(A:C_)(tB:ai S')(s:p5)(H:Hp)(E:XK):Cx:=
 {kF P w K mg k_ N t_ fv f cd cl A tB s H with xe:=λe s'=>oP (qX P w) (A.ZJ (eO t_ fv f cd cl s)) (leaving (eO t_ fv f cd cl s) e) (λ_ iT=>fe P w tB H s E e iT) (λe' iT=>fe P w tB H s E e' iT) s'}
end L2
namespace D
open PySem L2
variable{X:Cx}{EE:L2.St->XK}{p gw:vW}{K:Fg}{x:et}{Z:Zt}
structure zeN(P:xc)(w:vr)(K:Fg)(mg:et->d3 d0)(k_:g0)(n:aO)(l:Lm)(x:et)(F:ai W->FR):Prop where
 sc:kC x l.nf l.fv
 r7:∀(cl:ai (et×fy))(pm:d0)(c':fy)(eS u:d0),ρ (ê "<lambda>" l.t_ l.uu l.uG l.fv cl pm (.dr c') eS) ⟨[u],[]⟩=vX [(x,u)]
 uN:∀ws,F ws≠.no->ws.aj=1+l.nf.aj
 uG:∀ws,F ws≠.no->∀(Z:Zt)(f:fy)(cd:d0)(cl:ai (et×fy))(A:C_)(tB:ai S')(s:p5)(H:Hp)(E:XK),br n (A.ZJ (eO l.t_ l.fv f cd cl s)) ->
  ∃d,DE Z (zd2 P w K mg k_ ([x]++l.nf) l.t_ l.fv f cd cl A tB s H E) (λ_=>E) l.uG d/\gL (d (ws.a6 .fr))=F ws
open PySem L2 PySem.Spec PyProof.Rows
def kA:d3 ie->d0->ie
 |none,.none=>true
 |ab b,.xN c=>b==c
 |_,_=>false
def G5:d3 ie->d0
 |none=>.none
 |ab b=>.xN b
def vB(h:kA k v=true):v=G5 k:=by
 cases k with
 |none=>cases v<;>first|rfl|cases h
 |ab b=>
  cases v with
  |xN c=>
   have:b=c:=_e.mp h;subst this;rfl
  |_=>cases h
def j4(w:vr):d3 ie->a7
 |none=>kP w .aB
 |ab b=>kP w (.bl b)
def y68(k)(hv:kA k v=true)(h:Q (j4 w k) {s with tK:=s.tK+1}):oP (qX je w) A (Ę v) Q E s:=by
 have:=vB hv;subst this;cases k with
 |none=>exact pyHash_slot (T:="NoneType") rfl F.slot_NoneType_hash F.entry_NoneType_hash (F.args_NoneType_hash_1 _) (zb5 _) (.jd rfl) (ny (ui (ny (Ĳ (ui ⟨_,_,rfl,h⟩)))))
 |ab b=>
  refine pyHash_slot (T:="bool") rfl F.slot_bool_hash entry_int_hash (args_int_hash _) (zb5 _) (.jd rfl) ?_;cases b
  .exact(show oP _ _ (do CJ (<- mkInt 0)) _ _ s from ny (Ĳ (ui ⟨_,_,rfl,h⟩)))
  .exact(show oP _ _ (do CJ (<- mkInt 1)) _ _ s from ny (Ĳ (ui ⟨_,_,rfl,h⟩)))
def UT(hu:kA a u=true)(hv:kA b v=true)(h:Q (decide (a=b)) s):oP (qX je w) A (ã u v) Q E s:=by
 have h1:=vB hu;have h2:=vB hv;subst h1;subst h2;cases a with
 |none=>
  cases b with
  |none=>exact yl.Wh.same _ je w E Q (by simpa using h)
  |ab c=>exact yl.Wh.ì c je w E Q (by simpa using h)
 |ab a=>
  cases b with
  |none=>exact yl.Wh.Ý a je w E Q (by simpa using h)
  |ab c=>
   have e:decide (ab a=ab c)=(a==c):=by grind
   rw[e]at h;exact yl.Wh.Ϸ a c je w E Q h
def q_(je)(w):KeyKind je w (d3 ie) where
 is:=kA
 Å:=j4 w
 zT:=λv a b ha hb=>by
  have h1:=vB ha;subst h1;cases a with
  |none=>cases b with
   |none=>rfl
   |ab c=>cases hb
  |ab a=>cases b with
   |none=>cases hb
   |ab c=>have:c=a:=_e.mp hb;rw[this]
 byValue:=λk v h=>by
  have:=vB h;subst this;cases k<;>rfl
 Ę:=λ{A E s k v Q} hv h=>y68 k hv h
 ã:=λ{A E s a b u v Q} hu hv h=>UT hu hv h
 «strs»:=λk x t v h=>(by cases k<;>cases h)
def Yy:d3 ie->et
 |none=>"-"
 |ab true=>"1"
 |ab false=>"0"
def oW(v:d0)(x:et):ie:=match v with
 |.str y _=>y==x
 |_=>false
def oB(w:vr)(o:sT):ie:=match o.o4,o.xg,o.YN.wL,o.pJ with
 |.ke c,none,[],.xg es _=>c=="dict"&&(match es.wL with
  |[e1,e2,e3]=>(kA (ab true) e1.ZT&&e1.Å==j4 w (ab true)&&oW e1.vV "1")&&(kA (ab false) e2.ZT&&e2.Å==j4 w (ab false)&&oW e2.vV "0")&&(kA none e3.ZT&&e3.Å==j4 w none&&oW e3.vV "-")
  |_=>false)
 |_,_,_,_=>false
structure oj(w:vr)(K:Fg)(d:fy):Prop where
 Wd:∃o,K.g6 d=ab o/\oB w o=true
def Ir(h:oW v x=true):∃t,v=.str x t:=by
 cases v with
 |str y t=>exact⟨t,by rw[show y=x from _e.mp h]⟩
 |_=>cases h
def y69{je:xc}{w:vr}{d:fy}(T:oj w K d){h:g0}(x:K.In h):∃f:d3 ie->d3 d0,h.MapOf (q_ je w) d f/\∀k,∃t,f k=ab (.str (Yy k) t):=by
 let⟨o,h1,h2⟩:=T.Wd;unfold oB at h2;split at h2
 .rename_i c es ep hc hd hs Ai;rw[w0q]at h2;let⟨fg,h2⟩:=h2;split at h2
  .rename_i e1 e2 e3 FQ;simp only[w0q,_e]at h2;let⟨⟨⟨⟨a1,a2⟩,a3⟩,⟨b1,b2⟩,b3⟩,⟨c1,c2⟩,c3⟩:=h2;let⟨t1,v1⟩:=Ir a3;let⟨t2,v2⟩:=Ir b3;let⟨t3,v3⟩:=Ir c3;have k1:=vB a1;have k2:=vB b1;have k3:=vB c1;have he:es=#[e1,e2,e3]:=by apply yb.ű.mp;rw[FQ]
   refine⟨findBy kA es,⟨o,es,ep,x d o h1,⟨?_,hd,?_⟩,Ai,λe hm=>?_,λ_=>rfl⟩,λk=>?_⟩
   .rw[hc,_e.mp fg]
   .apply yb.ű.mp;rw[hs]
   .rw[he]at hm;simp only[ai.mem_toArray,w0i,w1f,Zj]at hm;rcases hm with rfl|rfl|rfl
    .exact⟨ab true,a1,a2⟩
    .exact⟨ab false,b1,b2⟩
    .exact⟨none,c1,c2⟩
   .rw[he];unfold findBy;rw[ai.find?_toArray];cases k with
    |none=>exact⟨t3,by simp only[w2i,k1,k2,k3];exact ZQ ab v3⟩
    |ab b=>
     cases b with
     |true=>exact⟨t1,by simp only[w2i,k1,k2,k3];exact ZQ ab v1⟩
     |false=>exact⟨t2,by simp only[w2i,k1,k2,k3];exact ZQ ab v2⟩
  .cases h2
 .cases h2
def uF:W->d3 W
 |.aB=>ab (.str (Yy none))
 |.bl b=>ab (.str (Yy (ab b)))
 |_=>none
section
variable{k:p6}{dk:iw W}{d:fy}
def JH(d:fy):R2:=λx y H Q=>x=.dr d/\((y=.aB/\Q (.str (Yy none)) H)\/∃b,y=.bl b/\Q (.str (Yy (ab b))) H)
def TH(T:oj X.w X.K d):qg X (JH d):=by
 intro ZC Z4 dN s σ H x y v u Q I rx ry h hs;let⟨rfl,h⟩:=h;cases rx;let⟨f,hm,hf⟩:=y69 (je:=X.je) T I.mw
 have ZT:∃k:d3 ie,u=G5 k/\Q (.str (Yy k)) H:=by
  rcases h with⟨rfl,q⟩|⟨b,rfl,q⟩
  .exact⟨none,ry,q⟩
  .exact⟨ab b,ry,q⟩
 let⟨k,rfl,q⟩:=ZT;let⟨t,ht⟩:=hf k
 have hk:kA k (G5 k)=true:=by
  cases k with
  |none=>rfl
  |ab b=>exact Ņ b
 exact CG.Fe.ů hm.Zr F.zdr.g6 (zd6 (knd:=q_ X.je X.w) hk hm ht ⟨.str (Yy k),H,I.Ym _,⟨t,rfl⟩,q⟩) hs
def Q36(T:∃d,X.mg x=ab (.dr d)/\oj X.w X.K d)(hk:DE Z X EE k dk)(hg:autoParam (Gl X x) jJ)(hd:autoParam ((x==("__debug__":et))=false) jK)(hs:g9 k:=by intro _ _;rfl):
  DE Z X EE (.Yb (.oh x p) k gw) (nq uF dk):=by
 let⟨d,hm,T⟩:=T;refine PE.k8 (EX (TH T) (QI (v:=.dr d) hg hm rfl hd) hk hs) ?_;rintro σ H Q ⟨G,e,mQ,h⟩;simp only[nq,R.ar,aZ]at h;refine⟨G,e,mQ,h.uM (λw e1 h G1 v1 H1 r1 s1 p1=>?_) λ_ _ h=>h⟩
 let⟨w',hw,h⟩:=h;unfold uF at hw;split at hw
 .cases hw;cases p1;exact⟨rfl,.jd ⟨rfl,h G1 _ H1 r1 s1 rfl⟩⟩
 .rename_i b;cases hw;cases p1;exact⟨rfl,.lb ⟨b,rfl,h G1 _ H1 r1 s1 rfl⟩⟩
 .cases hw
end
def oT:FR->d3 et
 |.ok (.fr (.str n))=>ab n
 |_=>none
def iZ(F:ai W->FR):ai W->d3 (ai et)
 |[]=>ab []
 |w::ws=>match oT (F [w]),iZ F ws with
  |ab n,ab ns=>ab (n::ns)
  |_,_=>none
abbrev uW(zs:ai (et×W)):Prop:=zs.Zf λa b=>a.1.Yp.wL<b.1.Yp.wL
open Classical in
def nW(ns:ai et)(ws:ai W):d3 (ai W):=if h:ns.aj=ws.aj/\∃zs:ai (et×W),zs.Zx (ns.xR ws)/\uW zs then ab (h.2.ŋ.a6 (·.2))else none
theorem KO:∀{l m:ai (et×W)},uW l->uW m->l.Zx m->l=m
 |[],m,_,_,p=>p.nil_eq
 |x::l,[],_,_,p=>(ai.cons_ne_nil _ _ p.eq_nil).oa
 |x::l,y::m,hl,hm,p=>by
  have h1:=w4g.mp hl;have h2:=w4g.mp hm
  have e:x=y:=by
   grind
  subst e;rw[KO h1.2 h2.2 (ai.Zx.cons_inv p)]
def z77(hl:ns.aj=ws.aj)(hp:zs.Zx (ns.xR ws))(hu:uW zs):nW ns ws=ab (zs.a6 (·.2)):=by
 unfold nW;have h:ns.aj=ws.aj/\∃zs:ai (et×W),zs.Zx (ns.xR ws)/\uW zs:=⟨hl,zs,hp,hu⟩;rw[Ő h];let⟨c1,c2⟩:=h.2.ß;rw[KO c2 hu (c1.kZ hp.symm)]
def z13(h:nW ns ws=ab us):ns.aj=ws.aj/\∃zs:ai (et×W),zs.Zx (ns.xR ws)/\uW zs/\us=zs.a6 (·.2):=by
 unfold nW at h;split at h
 all_goals grind
def z78{y:et}(h:x.Yp.wL=y.Yp.wL):x=y:=by
 cases x;simp_all
def UU{zs ys:ai (et×W)}(h:zs.Zf λa b=>¬b.1.Yp.wL<a.1.Yp.wL)(hp:zs.Zx ys)(hy:uW ys):uW zs:=by
 have zc3:(ys.a6 (·.1)).xZ:=by
  refine w3o.wa (hy.uM λ{a b} h e=>?_)
  rw[e]at h;exact ai.lt_irrefl _ h
 have nz:(zs.a6 (·.1)).xZ:=(hp.a6 _).nodup_iff.wa zc3;have nz:=w3o.mp nz;refine(h.and nz).uM λ{a b} h=>?_
 by_cases l:a.1.Yp.wL<b.1.Yp.wL
 .exact l
 .exact(h.2 (z78 (ai.le_antisymm (ai.Ē.mp h.1) (ai.Ē.mp l)))).oa
def uH(F:ai W->FR):W->d3 (ai W)
 |.dI ws=>if ws.aj<64 then(iZ F ws).r7 λns=>nW ns ws else none
 |_=>none
def kK(F:ai W->FR)(d:iw W):iw (ai W):=λe=>(d e).r7 λw e1=>bp (uH F w) e1
theorem z79:kK F d e=(d e).r7 λw e1=>bp (uH F w) e1:=rfl
def LN(K:Fg)(G:Hp)(a:et×W)(b:et×V):Prop:=a.1=b.1/\qk K G a.2 b.2
theorem rP:∀{ns:ai et}{ws:ai W}{xs:ai V},ah K G ws xs->dQ (LN K G) (ns.xR ws) (ns.xR xs)
 |[],_,_,_=>trivial
 |n::ns,[],xs,h=>by cases(show xs=[]from h);exact trivial
 |n::ns,w::ws,_,h=>by
  let⟨x,xs,rfl,h1,h2⟩:=h;exact⟨⟨rfl,h1⟩,rP h2⟩
theorem oQ:∀{ws:ai W}{xs:ai V},dQ (qk K G) ws xs->ah K G ws xs
 |[],[],_=>rfl
 |w::ws,x::xs,h=>⟨x,xs,rfl,h.1,oQ h.2⟩
def B7{G:Hp}{zw:ai (et×W)}{zs:ai (et×V)}(r:dQ (LN K G) zw zs)(h:v_ zs):zw.Zf λa b=>¬b.1.Yp.wL<a.1.Yp.wL:=by
 refine w3a.wa λi j hi hj sH=>?_
 let⟨b1,e1,r1,_⟩:=r.Ff i zw[i] (w0c hi);let⟨b2,e2,r2,_⟩:=r.Ff j zw[j] (w0c hj);let⟨sF,rfl⟩:=w0b.mp e1;let⟨CZ,rfl⟩:=w0b.mp e2;rw[r1,r2];exact w3a.mp h i j sF CZ sH
theorem O5{F:ai W->FR}{G1 H1:Hp}{l ks:fy}{o:sT}{Kk:ai et->Hp->Prop}(pd:l≠ks)(n2:H1 ks=none)(t9:ai et)
  (hK:∀Gc Hc,aK G1 H1 Gc Hc->Gc l=none->Gc ks=none->Hc l=ab (.cK o (.dI []))->Hc ks=ab (.dI (t9.a6 V.str))->Kk t9 Hc):
  ∀(ws:ai W)(xs:ai V)(yz ns:ai et)(Gc Hc:Hp),ah K Gc ws xs->iZ F ws=ab ns->yz++ns=t9->aK G1 H1 Gc Hc->Gc l=none->Gc ks=none->Hc l=ab (.cK o (.dI []))->Hc ks=ab (.dI (yz.a6 V.str)) ->
   mz (oR K F) l o ks Kk xs yz Hc
 |[],xs,yz,ns,Gc,Hc,r,hk,ha,g,g1,g2,h1,h2=>by
  cases(show xs=[]from r);cases hk;rw[w1q]at ha;subst ha;exact hK Gc Hc g g1 g2 h1 h2
 |w::ws,xs,yz,ns,Gc,Hc,r,hk,ha,g,g1,g2,h1,h2=>by
  let⟨x,xs,rfl,r1,r2⟩:=r
  obtain⟨n,sQ,hn,lC,rfl⟩:∃n sQ,oT (F [w])=ab n/\iZ F ws=ab sQ/\ns=n::sQ:=by
   grind [iZ]
  have hn:F [w]=.ok (.fr (.str n)):=by
   unfold oT at hn
   grind
  refine⟨Gc,[w],g.p9,⟨x,[],rfl,r1,rfl⟩,?_⟩;rw[hn];intro G' H' v g' sl;let⟨v',e',rp⟩:=sl;cases e';cases(show v=V.str n from rp);have e1:=g'.hh _ _ h1;have e2:=g'.hh _ _ h2;have k1:G' l=none:=by rw[g'.vd l (by grind)];exact g1
  have k2:G' ks=none:=by rw[g'.vd ks (by grind)];exact g2
  refine⟨n,rfl,e1,e2,O5 pd n2 t9 hK ws xs (yz++[n]) sQ G' _ (ah.k8 g'.gg ws r2) lC (by grind) ((g.kZ g').Zl n2 k2) k1 k2 (by grind [aN]) bN⟩
section
variable{e:p6}{d:iw W}{np kp:vW}{k:aO}{ps:ai et}{F:ai W->FR}
def z8a(C:sv X.je X.w X.K X.mg X.k_ k x ps (oR X.K F))(hr:br (k+2) X.A)(hm:X.mg "sorted"=none)(he:DE Z X EE e d)(FX:autoParam (Gl X x) jJ)(hg:autoParam (Gl X "sorted") jJ)
  (ky:autoParam (pg [e] X.dt=[(false,eval e X.dt)]) jJ)(FP:autoParam ((x==("__debug__":et))=false) jK):
  DF Z X EE (.wO (.oh "sorted" p) [e] [⟨ab "key", .oh x np,kp⟩] gw) (kK F d):=by
 let⟨fa,fd,FF,m,kpp,bd⟩:=C.ex;refine PE.k8 (z11 FF hr bd m FX hg hm he ky FP) ?_;rintro σ H Q ⟨G,en,mQ,h⟩;simp only[kK,R.ar,aZ]at h;refine⟨G,en,mQ,h.uM (λw e1 h G1 v1 H1 r1 s1 p1=>?_) λ_ _ h=>h⟩
 let⟨xH,hf,h⟩:=h;cases w with
 |dI ws=>
  simp only[uH]at hf;split at hf
  .rename_i FD;let⟨ns,lV,hf⟩:=w1w.mp hf;let⟨hl,ys,py,uy,rfl⟩:=z13 hf;let⟨pa,xs,rfl,q,rr⟩:=p1;have MH:xs.aj=ws.aj:=rr.aj;refine⟨pa,xs,rfl,r1.p9.p7 q,by omega,λlA Au o ks Ar=>?_⟩
   rw[Ei]at Ar |-
   have pd:lA≠ks:=λz=>by subst z;rw[bN]at Ar;cases Ar
   have yt:H1 ks=none:=by rw[aN (Ne.symm pd)]at Ar;exact Ar
   have gl:G1 lA=none:=r1.p9.tD Au;have gk:G1 ks=none:=r1.p9.tD yt;refine O5 (G1:=G1) (H1:=H1) pd yt ns (λGc Hc g c1 c2 c3 c4 zs pz zdR=>?_) ws xs [] ns G1 _ rr lV rfl (((aK.t8 r1.p9).Zl Au gl).Zl yt gk) gl gk (by rw[aN pd];exact bN) bN
   let⟨zw,pw,rz⟩:=dQ.perm pz (rP (K:=X.K) (G:=Gc) (ns:=ns) (ah.k8 g.gg ws rr));have zdQ:=UU (B7 rz zdR) (pw.kZ py.symm) uy;cases KO zdQ uy (pw.kZ py.symm);have zcA:=(g.Zl (o:=.dI []) yt c2).Zl (o:=.dI (zs.a6 (·.2))) Au c1;exact h Gc lA _ _ (r1.zR zcA) (s1.kZ g.gg) bN c1 (pF r1 Au) (yG r1 Au) (oQ (dQ.a6 (λ_ _ h=>h.2) rz))
  .cases hf
 |_=>cases hf
end
def zez{P:xc}{w:vr}{mg:et->d3 d0}{k_:g0}{k:aO}{st:Mu}{ps:ai et}{F:ai W->FR}(A:At K mg x st ps)(hF:∀ws,F ws=.no:=by intro _;rfl):sv P w K mg k_ k x ps (oR K F):=by
 let⟨f,fd,F0,m,b⟩:=A.ex;exact⟨f,fd,⟨λvs H Q E h=>(RF hF h).oa,λA tB s H args us vs Q E _ _ _ _ h=>(RF hF h).oa⟩,m,F0.kp,b⟩
end D
namespace L2
open PySem PySem.Spec PyProof.Rows
def y7a{l:n9.W.Θ}{K:Ø->Fg}{CX:vr->mY}{sp:vr->Sp}{xY:ai (fy×et)}
  (hn:l.É=ab n)(sJ:n<=wm)(tW:d.uu.À=[])(hr:br k ZY)
  (hY:∀(w:vr)(h:g0),YP w h->(K w.uu).In h)
  (F:∀(w:vr)(mg:et->d3 d0)(fa:fy)(h:g0),(K w.uu).In h->h.Ns Yi mg->mg d.name=ab (.dr fa) ->
   ∃fd:Zv,(∀(s:p5)(u:d0),_Q s fd ⟨[u],[]⟩ [(x,u)]) /\
    ∀k_:g0,(K w.uu).In k_->k_.Ns Yi mg->_z k_ mg->eT l.je w (K w.uu) mg k_ (CX w) k fa fd [x] (sp w))
  (sN:∀(w:vr)(H:Hp)(a:fy)(ns:ai a7),ns.aj<=n->(∀i∈ns,uK.a7.Æ i<=1048576)->bD (K w.uu) H a (ns.a6 V.aT)->sp w [.dr a] H (λv _=>v=.bl true) λ_ _ _=>vk)
  (wD:∀(w:vr)(H:Hp)(s:p5)(e:d0)(s':p5),CX w [] H s (λ_ _ _=>vk) e s'->vk)
  (hM:∀(w:vr) a q P,(a,ip P q)∈K w.uu->xY.g6 P=ab q)(hT:∀(w:vr)(h:g0),YP w h->∀P q,xY.g6 P=ab q->h.ik P=ab (ϫ #[])/\Ď h P)(FE:∀(w:vr) P q,xY.g6 P=ab q->(K w.uu).g6 P=none):
  n9.W.Ú q _Y XP YP l.ot.ϑ d [] (λf vs=>n9.zb f vs):=by
 refine yV.zcM hn tW λw ay aD mg mb fa o pm cd Yr a vs ns G Y ho hd fg hmg nH ό wZ Ae hg=>?_
 have KX:=hY w _ Y;let⟨fd,hb,hF⟩:=F w mg fa _ KX G.T.g hmg;exact y6q KX G.T.g G.T.b G.T.ϸ G.T.ë hg nH ό (w1a wZ sJ) hr hF hb (λH hS=>sN w H a ns wZ Ae hS) (λH e s'=>wD w H aD e s') G.T.bmain (hM w) (hT w _ Y) (FE w)
end L2
namespace D
open PySem L2
variable{N:ai et}{i:aO}{x:et}
variable{K:Fg}
section
variable{X:Cx}{Z:Zt}{EE:L2.St->XK}{JM x9 a b:p6}{zS:ai p6}{fv sc:zF}{gw pt:vW}{Nf:ai et}{js:ai aO}{di:iw W}{dA:iw (ai W)}{c:iw ie}{d:iw W}
def y7b{x0:et}(S:jk x0 fv){p1 p2:vW}(hc:X.MT=true)(hm:X.mg "range"=none)(ha:DA Z X EE [a] dA)(ok:f9 sc fv N Nf js=true)
  (ht:∀Z' cl C ay aF ex,tq Z' (X.cp ([x]++Nf) fv cl C ay aF ex) (λ_=>E0) zS c)(he:∀Z' cl C ay aF ex,DE Z' (X.cp ([x]++Nf) fv cl C ay aF ex) (λ_=>E0) JM d)
  (hg:∀cl C ay aF ex,PG (X.cp ([x]++Nf) fv cl C ay aF ex) (.oh x pt) (bL 0))
  (FW:autoParam (Gl X "range") jJ)(oz:autoParam (pg [a] X.dt=[(false,eval a X.dt)]) jJ)(hsc:autoParam (X.dt.fv=sc) jJ)(hN:autoParam (X.N=N) jJ)(hs:∀x,ZR (.wO (.oh "range" p1) [a] [] p2) X.dt x=vX x:=by intro _;rfl):
  DF Z X EE (.Zm JM [⟨.oh x pt,.wO (.oh "range" p1) [a] [] p2,zS,0⟩] fv gw) (cQ dG js dA c d):=by
 exact PE.k8 (OY (Nl:=[x]) (tc:=cT X.K c) (te:=cE X.K d) hc (Jc FW hm ha oz) (.lb ⟨_,S⟩) ok hg (Cu ht) (Cv he) hsc hN hs) N6
end
open PySem L2 PySem.Spec PyProof.Rows
open PyProof.Rows (envOfC)
section
variable{X:Cx}{Z:Zt}{EE:L2.St->XK}{a b c e:p6}{es:ai p6}{db d:iw W}{dF dA:iw (ai W)}{gw p gq iy:vW}
def om(i:aO)(k:ai S->SR)(e:ai S):d3 S->SR
 |ab (.dW us _ [])=>if us.aj=2 then k e else .no
 |_=>.no
def oo(i:aO)(xs:ai W)(e:ai S):d3 S->SR
 |ab (.dW us ws [])=>if ws.aj<16777216/\(e.rk i .no).t9 (λs=>!kN s)=true then .nx (e.rk i (.dW us (ws++[.dI xs]) []))else .no
 |_=>.no
def kG(i:aO)(d:iw (ai W)):ai S->SR:=λe=>om i (λe1=>(d e1).cH λxs e2=>oo i xs e2 e2[i]?) e e[i]?
def z8b(i:aO){Yo bh:vW}{kk kp}(hz:Z.H=X.aF)(ha:DF Z X EE e dF)(hN:autoParam (X.N[i]?=ab x) jJ)(hv:autoParam (kD X.dt.fv x) jN)(hd:autoParam ((x==("__debug__":et))=false) jK)(fg:autoParam ((x==("__classdict__":et))=false) jK)
  (hs:g9 (.ZD (.aT ((2:aO):a7)) kk kp):=by intro _ _;rfl)
  (dg:autoParam (Κ (.Yb (.oh x p) (.ZD (.aT ((2:aO):a7)) kk kp) iy) "append" X.dt (eval (.Yb (.oh x p) (.ZD (.aT ((2:aO):a7)) kk kp) iy) X.dt)=eval (.Yb (.oh x p) (.ZD (.aT ((2:aO):a7)) kk kp) iy) X.dt) jJ)
  (bY:autoParam (((y0 bh (pg [e] X.dt)).t9 (λx=>!x.1)&&(Λ bh (Ρ [] X.dt)).t9 (λx=>x.1.z_)&&decide (([e]:ai p6).aj+([]:ai Zd).aj+(if([]:ai Zd).U7 then 0 else 1)<30))=true) jJ)
  (dj:autoParam ((Yo.Ο==bh.Yd)=true) jJ)(ky:autoParam (pg [e] X.dt=(false,eval e X.dt)::pg [] X.dt) jJ)(bT:autoParam ((y0 bh (pg [] X.dt)).uJ (·.1)=false) jJ)
  (qI:autoParam (Zk (.wO (._o (.Yb (.oh x p) (.ZD (.aT ((2:aO):a7)) kk kp) iy) "append" Yo) [e] [] bh) none gw.Yd X.dt=vX false) jJ):
  DS Z X EE (.p6 (.wO (._o (.Yb (.oh x p) (.ZD (.aT ((2:aO):a7)) kk kp) iy) "append" Yo) [e] [] bh) gw) (kG i dF):=by
 refine PS.k8 (Ek (T4 (RM (EX qM (pv i hN hv hd fg) K7 hs) (z1t (rG ha xC ky)) dg bY dj ky bT)) qI) ?_;rintro D σ H ⟨G,e,mQ,h⟩;unfold kG at h;unfold om at h;split at h
 case h_2=>exact h.oa
 rename_i us ws he;split at h
 case isFalse=>exact h.oa
 rename_i hu;have r0:=mQ;let⟨t,l,o,xs,ys,zs,h1,h2,h3,h4,h5,h6,h7,h8⟩:=r0.xM i _ he;cases(show zs=[]from h8);have hv:=r0.at he λ_=>h1
 have MH:xs.aj=2:=by rw[<- hu];exact h6.aj
 have tU:eu (xs++[V.dr l]) ((2:aO):a7)=ab (.dr l):=by
  refine pU ?_;rw[w1l (by omega),MH];rfl
 refine⟨.dr t,hv,t,xs++[V.dr l],((2:aO):a7),.dr l,rfl,rfl,bK.of (r0.p9 _ _ h2),tU,.jd ⟨rfl,ys,.jd (.lb ⟨o,h3⟩)⟩,G,e,r0,(i3 (σ:=σ) h).uM (λE2 e2 h G2 a1 n6 H2 r2 s2 q1 q2 q3 q4 p2=>?_) λ_ _ h=>h⟩
 unfold oo at h;split at h
 .rename_i us2 W3 nB;split at h
  .rename_i hc;let⟨hl,hT⟩:=hc;let⟨sg,rg⟩:=r2.ò q1 q2 q3 q4;let⟨t2,l2,o2,Y3,yU,zs3,k1,k2,k3,k4,k5,k6,k7,zcK⟩:=rg.xM i _ nB;cases(show zs3=[]from zcK);have AE:=rg.at nB λ_=>k1
   rw[hv]at AE;cases AE
   have zcn:xs++[V.dr l]=Y3++[V.dr l2]:=by
    have z:=sg _ _ (s2 _ _ h2);rw[k2]at z;injection z with z;injection z with z
    exact z.symm
   let⟨rfl,e3⟩:=ai.append_inj' zcn rfl;injection e3 with e3;injection e3 with e3
   subst e3;refine⟨l,o2,yU,k3,λ_ _ z=>(by rw[<- hz,k5]at z;cases z),l,yU,.dr a1,rfl,rfl,bN,by rw[k7.aj,LP];exact hl,l,yU++[.dr a1],bN,λo'=>?_⟩
   rw[show ∀u u',oL (oL (oL H2 l (.dI yU)) l u) l u'=oL H2 l u' from λu u'=>by funext c;unfold oL;split<;>rfl]
   have r3:=(rg.zeB i).GS (u:=.cK o' (.dI (yU++[.dr a1]))) k3 k4 k5 (Fn hT);exact h _ σ _ (r3.refill (s0:=.dW us2 (W3++[.dI E2]) []) hv (λ_ _ z=>nomatch z) ⟨t,l,o',xs,yU++[.dr a1],[],rfl,k2,bN,k4,k5,k6,k7.Wi ⟨.dr a1,[],rfl,⟨a1,n6,rfl,bD.of bN,ah.k8 sg E2 p2⟩,rfl⟩,rfl⟩) (s2.kZ sg)
  .exact h.oa
 .exact h.oa
theorem z8c{d:iw (ai W)}{e:ai S}:kG i d e=om i (λe1=>(d e1).cH λxs e2=>oo i xs e2 e2[i]?) e e[i]?:=rfl
theorem z8d{k:ai S->SR}{e:ai S}{us ws:ai W}:om i k e (ab (.dW us ws []))=if us.aj=2 then k e else .no:=rfl
theorem z8e{xs:ai W}{e:ai S}{us ws:ai W}:oo i xs e (ab (.dW us ws []))=if ws.aj<16777216/\(e.rk i .no).t9 (λs=>!kN s)=true then .nx (e.rk i (.dW us (ws++[.dI xs]) []))else .no:=rfl
end
@[inline] def zcY:Mu->et
 |.Ă x _ _ _ _ _ _ _ _ _=>x
 |_=>""
def G6(s:Mu):ai et:=(eI s).args.a6 λx=>x.arg
def GZ(s:Mu):ai et:=(a9 s).qW.Ϥ λp=>match p.2 with
 |.local=>ab p.1
 |.uL=>ab p.1
 |_=>none
def De(N:ai et)(js:ai aO):ai et:=js.a6 λj=>N.hX j ""
theorem nj(h:cP sc fv N (De N js) js=true):cP sc fv N (De N js) js=true:=h
theorem Wl(h:f9 sc fv N (De N js) js=true):f9 sc fv N (De N js) js=true:=h
theorem A6(h:decide N.xZ=true):N.xZ:=_j h
def wC(N P:ai et)(sc:zF):ie:=sc.zc==.ZK&&!sc.ç&&!sc.è&&decide N.xZ&&N.wj P.aj==P&&P.t9 (λx=>sc.qW.g6 x==ab .local||sc.qW.g6 x==ab .uL)&&sc.qW.t9 λy=>y.2 != .tD
def TJ(h:wC N P sc=true):f6 N P sc:=by
 simp only[wC,w0q,ie.not_eq_true',w1c,_e,Ϣ,w1r,decide_eq_true_eq]at h;obtain⟨⟨⟨⟨⟨⟨h1,h2⟩,h3⟩,h4⟩,h5⟩,h6⟩,h7⟩:=h;exact⟨h1,h2,h3,h4,h5,h6,h7⟩
def qF(k m:aO)(d:ai S->SR)(ws:ai W):FR:=if ws.aj=k then(d (Z0 m ws)).fn else .no
def qL(k:aO)(d:iw W)(ws:ai W):FR:=if ws.aj=k then gL (d (ws.a6 .fr))else .no
def EZ{c:Prop} [Ó c]{x:FR}(h:(if c then x else .no)≠.no):c/\(if c then x else .no)=x:=by
 split at h
 .rename_i q;exact⟨q,nZ q⟩
 .exact uz rfl h
section
variable{P:xc}{w:vr}{K:Fg}{mg:et->d3 d0}{k_:g0}
def u3{st:Mu}{ps:ai et}{k:aO}{b:ie}{d:ai S->SR}{f:fy}{fd:Zv}(F0:zo K x x st f fd)(m:mg x=ab (.dr f))(hm:b=true->∀f oc od fd sl,mg x=ab (.dr f)->K.g6 f=ab ⟨oc,od,.Zo fd,sl⟩->l6 K x fd.Μ)(sc:f6 N ps (a9 st))
  (hb:∀(f:fy)(eM:d0)(A:C_)(tB:ai S')(s:p5)(H:Hp)(E:XK)(Z:Zt),br k (A.ZJ (CG.Fe.ZZ x (a9 st) s.bj.f'.dS f eM))->(Z.H=H/\Z.io=[])->(b=true->l6 K x eM) ->
   m7 Z (i9 (fe P w) P w K mg k_ N x (a9 st) f eM A tB s H E) (λ_=>E) (cS st) d):eT P w K mg k_ (fe P w) (k+1) f fd ps (oR K (qF ps.aj N.aj d)):=by
 let⟨oc,od,kV,Yr,pm,an,eM,ct,vt,rfl,lk,fg⟩:=F0.ex;refine UH lk fg sc (λvs H Q E h=>?_) (λA tB s H vs Q E hr h=>?_)
 .let⟨G,ws,hn,r⟩:=RQ h;exact r.aj.kZ (EZ hn).1
 .let⟨G,ws,sg,rp,h⟩:=h;have hn:qF ps.aj N.aj d ws≠.no:=λz=>by rw[z]at h;exact h
  exact⟨_,hb f eM A tB s H E ⟨H,G,[]⟩ hr ⟨rfl,rfl⟩ (λz=>hm z f _ _ _ _ m lk),G,Z0 N.aj ws,PU sg rp,z4q (EZ hn).2.symm h⟩
def Fp{st:Mu}{ps:ai et}{k:aO}{b:ie}{d:ai S->SR}(A:At K mg x st ps)(hm:b=true->∀f oc od fd sl,mg x=ab (.dr f)->K.g6 f=ab ⟨oc,od,.Zo fd,sl⟩->l6 K x fd.Μ)(sc:f6 N ps (a9 st))
  (hb:∀(f:fy)(eM:d0)(A:C_)(tB:ai S')(s:p5)(H:Hp)(E:XK)(Z:Zt),br k (A.ZJ (CG.Fe.ZZ x (a9 st) s.bj.f'.dS f eM))->(Z.H=H/\Z.io=[])->(b=true->l6 K x eM) ->
   m7 Z (i9 (fe P w) P w K mg k_ N x (a9 st) f eM A tB s H E) (λ_=>E) (cS st) d):sv P w K mg k_ (k+1) x ps (oR K (qF ps.aj N.aj d)):=by
 let⟨f,fd,F0,m,bd⟩:=A.ex;exact⟨f,fd,u3 F0 m hm sc hb,m,F0.kp,bd⟩
theorem wY{n:aO}{l:Lm}{ps:ai et}{d:iw W}(h1:gZ ps l.nf l.fv)(h2:∀(cl:ai (et×fy))(pm:d0)(c':fy)(eS:d0)(us:ai d0),us.aj=ps.aj->ρ (ê "<lambda>" l.t_ l.uu l.uG l.fv cl pm (.dr c') eS) ⟨us,[]⟩=vX (ps.xR us))
  (hb:∀(Z:Zt)(f:fy)(cd:d0)(cl:ai (et×fy))(A:C_)(tB:ai S')(s:p5)(H:Hp),br n (A.ZJ (eO l.t_ l.fv f cd cl s))->DE Z (kF P w K mg k_ (ps++l.nf) l.t_ l.fv f cd cl A tB s H) (λ_=>E0) l.uG d):
  l5 P w K mg k_ n l ps (qL (ps.aj+l.nf.aj) d):=
 ⟨h1,h2,λws h=>(EZ h).1,λws h Z f cd cl A tB s H hr=>⟨d,hb Z f cd cl A tB s H hr,(EZ h).2.symm⟩⟩
end
end D
namespace Fh
def uf(a:a7)(ot:ai ie):a7:=ot.zx (λtG b=>2*tG+(if b=true then 1 else 0)) a
def num(ot:ai ie):a7:=uf 0 ot
def b2(b:ie):a7:=if b=true then 1 else 0
def y7c(a)(ot)(b):uf a (ot++[b])=2*uf a ot+b2 b:=by
 unfold uf;rw[ai.foldl_append];rfl
theorem QD:num []=0:=rfl
theorem PL(ot)(b):num (ot++[b])=2*num ot+b2 b:=y7c 0 ot b
def z14(b):b2 b=0\/b2 b=1:=by cases b<;>simp[b2]
def z15{P:ai ie->Prop}(h0:P [])(h1:∀l b,P l->P (l++[b])):∀l,P l:=by
 intro l
 have:∀r:ai ie,P r.We:=by
  intro r
  induction r with
  |so=>simpa using h0
  |qT b r ih=>grind
 have:=this l.We
 grind
def zbB(ot):0<=num ot/\num ot<2^ot.aj:=by
 induction ot using z15 with
 |h0=>simp[QD]
 |h1 l b ih=>
  rw[PL,w1e,ai.length_singleton,w4h]
  grind [z14]
def Zh:aO->a7->ai ie
 |0,_=>[]
 |m+1,n=>decide (n%2=1)::Zh m (n / 2)
def xb:aO->a7->a7
 |0,n=>n
 |m+1,n=>xb m (n / 2)
theorem BE:∀m n,(Zh m n).aj=m
 |0,_=>rfl
 |m+1,n=>by rw[Zh,w0z,BE m]
theorem O6:∀m n,Zh (m+1) n=Zh m n++[decide (xb m n%2=1)]
 |0,n=>rfl
 |m+1,n=>by rw[Zh,O6 m (n / 2),Zh,xb];rfl
theorem O7:∀m n,xb (m+1) n=xb m n / 2
 |0,n=>rfl
 |m+1,n=>by rw[xb,O7 m (n / 2)];rfl
def PM(m):∀n:a7,n=num (Zh m n).We+2^m*xb m n:=by
 induction m with
 |Yf=>grind [Zh,xb,QD]
 |Ye m ih=>
  intro n;rw[Zh,xb,w2x,PL,w4h]
  grind [b2]
def z16(m):(0:a7)<2^m:=by
 induction m with
 |Yf=>decide
 |Ye m ih=>rw[w4h];omega
def O8{m:aO}{n:a7}(h0:0<=n)(h1:n<2^m):xb m n=0:=by
 have h:=PM m n;have hb:=zbB (Zh m n).We;rw[w4a,BE]at hb;have hp:=z16 m
 by_cases hr:xb m n=0
 .exact hr
 .exfalso;rcases a7.lt_or_gt_of_ne hr with h2|h2
  .have:2^m*xb m n<=2^m*(-1):=w3x (by omega) (by omega);omega
  .have:2^m*1<=2^m*xb m n:=w3x (by omega) (by omega);omega
def z17(h0:0<=n)(h1:n<2^m):num (Zh m n).We=n:=by
 have h:=PM m n;rw[O8 h0 h1,a7.mul_zero]at h;omega
def part(ot:ai ie)(i:aO):a7:=num (ot.wj i)*2^(ot.aj-i)
end Fh
namespace Q
open PySem L2 D
variable{k_:g0}{x_ tl:ai aO}{ws:ai W}{L L' i j n p x:aO}{B:aO->Prop}{K:Fg}{mg:et->d3 d0}{α:Type}
seal DN y_ E8 DE DF DT DW DA DS m7 tq DO S8 PE PT PW PA PS l7 PG zy PI PF sy PC fK zI qg cZ zH v5 Fi uU PO
theorem us1{P:ai α->Prop}(h:∀x0,P [x0]):∀us:ai α,us.aj=1->P us
 |[x0],_=>h x0
theorem us2{P:ai α->Prop}(h:∀x0 x1,P [x0,x1]):∀us:ai α,us.aj=2->P us
 |[x0,x1],_=>h x0 x1
theorem us3{P:ai α->Prop}(h:∀x0 x1 x2,P [x0,x1,x2]):∀us:ai α,us.aj=3->P us
 |[x0,x1,x2],_=>h x0 x1 x2
theorem us4{P:ai α->Prop}(h:∀x0 x1 x2 x3,P [x0,x1,x2,x3]):∀us:ai α,us.aj=4->P us
 |[x0,x1,x2,x3],_=>h x0 x1 x2 x3
theorem us5{P:ai α->Prop}(h:∀x0 x1 x2 x3 x4,P [x0,x1,x2,x3,x4]):∀us:ai α,us.aj=5->P us
 |[x0,x1,x2,x3,x4],_=>h x0 x1 x2 x3 x4
@[inline] def zdC(i:aO):Mu:=n9.Ā.pw_circuits_k66_made_keeps.main.uG.hX i (.Pass ⟨0,0,0,0⟩)
structure yg(P:xc)(w:vr)(K:Fg)(mg:et->d3 d0):Prop where
 LR:mg "all"=none
 LS:mg "any"=none
 wb:mg "bool"=none
 uY:mg "enumerate"=none
 LU:mg "int"=none
 g_:mg "isinstance"=none
 LV:mg "len"=none
 Fo:mg "list"=none
 LW:mg "max"=none
 zN:mg "min"=none
 tH:mg "range"=none
 wc:mg "reversed"=none
 zO:mg "sorted"=none
 LX:mg "sum"=none
 tI:mg "tuple"=none
 LY:mg "zip"=none
 Et:∃d,mg "SIGNS"=ab (.dr d)/\oj w K d
structure aH where
 zcL:fy
 zeJ:fy
 zdE:fy
 zdf:fy
 zc4:fy
 dZ:d0
 dY:d0
 jt:d0
 g8:d0
 iW:d0
variable{a:aH}
structure m8(K:Fg)(mg:et->d3 d0)(a:aH):Prop where
 z:j'
 zfq:mg "CircuitError"=ab (.dr a.zcL)
 zeQ:mg "NoRow"=ab (.dr a.zeJ)
 zfH:mg "NoTable"=ab (.dr a.zdE)
 zfD:mg "TooGreat"=ab (.dr a.zdf)
 zfA:mg "NoMachine"=ab (.dr a.zc4)
 mH:mg "MOST_PLACES_tables"=ab a.dZ
 mG:mg "MOST_PLACES_covers"=ab a.dY
 ub:mg "MOST_CELLS"=ab a.jt
 qU:mg "MOST_ANSWERS"=ab a.g8
 sP:mg "MOST_WISHED"=ab a.iW
 mj:c5 K (.aT 10) a.dZ=true
 mi:c5 K (.aT 4) a.dY=true
 tR:c5 K (.aT 4) a.jt=true
 qy:c5 K (.aT 6) a.g8=true
 sD:c5 K (.aT 4) a.iW=true
 zfn:YR K (.ke "NoneType") (.ke "tuple")=ab false
 zft:YR K (.ke "bool") (.ke "tuple")=ab false
 zfx:YR K (.ke "int") (.ke "tuple")=ab false
 zfz:YR K (.ke "str") (.ke "tuple")=ab false
 cz:YR K (.ke "tuple") (.ke "tuple")=ab true
 zfu:YR K (.ke "list") (.ke "tuple")=ab false
 zfo:YR K (.ke "NoneType") (.ke "bool")=ab false
 zcV:YR K (.ke "bool") (.ke "bool")=ab true
 zc0:YR K (.ke "int") (.ke "bool")=ab false
 zfC:YR K (.ke "str") (.ke "bool")=ab false
 zfv:YR K (.ke "tuple") (.ke "bool")=ab false
 zfy:YR K (.ke "list") (.ke "bool")=ab false
 nt:eV K
abbrev BF:aO:=0
abbrev rC:aO:=1
abbrev IF:aO:=2
abbrev Jv:aO:=3
abbrev Bv:aO:=4
abbrev Bp:aO:=5
abbrev Iu:aO:=6
abbrev sU:aO:=7
abbrev DK:aO:=8
abbrev Ea:aO:=9
abbrev DQ:aO:=10
abbrev Hr:aO:=11
abbrev xx:aO:=12
abbrev Du:aO:=13
abbrev Bm:aO:=14
abbrev EJ:aO:=15
abbrev Kc:aO:=16
abbrev Iw:aO:=17
abbrev IG:aO:=18
abbrev HP:aO:=19
abbrev HQ:aO:=20
abbrev yC:aO:=21
abbrev Hs:aO:=22
abbrev Hf:aO:=23
abbrev HR:aO:=24
abbrev Io:aO:=25
abbrev rH:aO:=26
abbrev Kh:aO:=27
abbrev Bx:aO:=28
abbrev Ht:aO:=29
abbrev IH:aO:=30
abbrev D8:aO:=31
abbrev G8:aO:=32
abbrev DG:aO:=33
abbrev Em:aO:=34
abbrev Hu:aO:=35
abbrev xr:aO:=36
abbrev Dv:aO:=37
abbrev Bq:aO:=38
abbrev Iy:aO:=39
abbrev IA:aO:=40
abbrev Hg:aO:=41
abbrev Bl:aO:=42
abbrev DL:aO:=43
abbrev xt:aO:=44
abbrev xw:aO:=45
abbrev DH:aO:=46
abbrev G9:aO:=47
abbrev HS:aO:=48
abbrev Hh:aO:=49
abbrev HY:aO:=50
abbrev HZ:aO:=51
abbrev Dl:aO:=52
abbrev DR:aO:=53
abbrev DM:aO:=54
abbrev vy:aO:=55
abbrev vw:aO:=56
abbrev DJ:aO:=57
abbrev Ls:aO:=58
@[inline] def zdB:ai aO:=[7,8,9,12,13,14,16,17,18,19,22,23,24,25,28,29,30,31,32,33,34,35,36,37,39,40,41,42,43,45,46,47,49,50,52,53,58,59,60,61,62,63,65,66,67,68,69,70,71,72,73,74,75,76,77,78,79,80,81]
@[inline] abbrev s8(i:aO):Mu:=zdC (zdB.hX i 0)
@[inline] def n8(i:aO):et:=zcY (s8 i)
def ps(i:aO):ai et:=G6 (s8 i)
def Ns:aO->ai et
 |27=>["reaches", "left"]
 |34=>["machine", "states", "kinds", "found", "numbers", "number"]
 |i=>GZ (s8 i)
def lv:aO->aO
 |24=>2
 |26=>1
 |27=>1
 |36=>2
 |41=>2
 |58=>2
 |_=>0
theorem Ep(h:i<59):f6 (Ns i) (ps i) (a9 (s8 i)):=TJ ((by decide +kernel:∀i,i<59->wC (Ns i) (ps i) (a9 (s8 i))=true) i h)
abbrev II:p6:=(kwAt 0 (rS (xV 0 (s8 27))))
abbrev D1:Lm:=⟨("rarest"++".<locals>.")++"<lambda>", iQ II,lH II,jY II,["reaches"]⟩
abbrev xv:aO:=59
abbrev Jw:p6:=(uX 1 (rS (xV 3 (s8 34))))
abbrev yE:Lm:=⟨("small"++".<locals>.")++"<lambda>", iQ Jw,lH Jw,jY Jw,["states", "kinds"]⟩
abbrev HU:aO:=60
abbrev Jx:p6:=(uX 1 (zel (rS (xV 5 (s8 34)))))
abbrev yF:Lm:=⟨("small"++".<locals>.")++"<lambda>", iQ Jx,lH Jx,jY Jx,["states"]⟩
abbrev HV:aO:=61
def bM:aO->d3 Lm
 |59=>ab D1
 |60=>ab yE
 |61=>ab yF
 |_=>none
theorem XX:bM 59=ab D1:=rfl
theorem zaH:bM 60=ab yE:=rfl
theorem zaI:bM 61=ab yF:=rfl
set_option hygiene false
local macro_rules|`(Lean.Parser.Command.declaration|def $i:ident:=$v)=>if v.raw.isOfKind ``Lean.Parser.Term.explicit||v.raw.isOfKind ``Lean.Parser.Term.byTactic then Lean.Macro.throwUnsupported else `(Lean.Parser.Command.declaration|noncomputable def $i:ident(K:Fg)(a:aH)(r:Nat->List W->FR):=$v)
set_option hygiene true
def Dw:=
 (bP bB (ae (av (r Bx) (ae (af 1) (ae (af 0) ag))) ag))
def Dn:=
 (av (r Hu) (ae (af 1) (ae (af 2) (ae (af 0) ag))))
def Dp:=
 (aq aP (af 1) (af 0))
def IJ:=
 (ak (fF 2 (ae (aq zf (aq b9 (af 3) (dC (.aT 2))) (dC (.aT 1))) ag))
  (aA 3 (aq cn (af 3) (dC (.aT 2)))))
def Ki:=
 (ak (df 2 (cR ag))
  (ak (aA 3 (af 0))
  (ak (cJ 4 dG (ae (af 1) ag)
  (IJ K a r))
  (ak (aR (ax (aq YK (af 3) (dC (.aT 0))))
  o8
  cM)
  (aG (nq iC (af 2)))))))
def Bn:=
 (aA 1 (aq iq (dC (.aT 2)) (af 1)))
def DU:=
 (ak (aA 1 (dC (.aT 1)))
  (ak (cJ 2 dG (ae (af 0) ag)
  (Bn K a r))
  (aG (af 1))))
def ND:=
 (av (r BF) (ae (af 0) (ae (af 1) ag)))
def Jj:=
 (eG (cQ dG [0] (ae (av (r rC) (ae (af 0) ag)) ag) bx (ND K a r)))
def IK:=
 (ni (aq kO (af 0) (dC .aB)) (aq zf (af 0) (af 1)))
def Jy:=
 (ak (aR (ax (aq YK (bP bB (ae (af 0) ag)) (bP bB (ae (af 1) ag))))
  (aG (dC (.bl false)))
  cM)
  (aG (bP ο (ae (dB (d5 [] (nV (ae (af 0) (ae (af 1) ag))) bx (IK K a r))) ag))))
def N0:=
 (af 0)
def N1:=
 (cW (av (r Jv) (ae (af 2) (ae (af 1) ag))))
def Jz:=
 (eG (d5 [0] (mM (ae (av (r IF) (ae (bP bB (ae (af 0) ag)) ag)) ag)) (N1 K a r) (N0 K a r)))
def Np:=
 (nq uF (af 0))
def IL:=
 (aG (eY "str" mv (dC (.str "")) (ae (dB (ba [] (af 0) bx (Np K a r))) ag)))
def IM:=
 (ak (aR (ax (aq zf (aq aP (af 0) (dC (.aT 0))) (dC (.str "is"))))
  (aG (a_ (ae (dC (.str "is")) (ae (hV (aq aP (af 0) (dC (.aT 1)))) ag))))
  cM)
  (aG (a_ (ae (dC (.str "not")) (ae (af 0) ag)))))
def KP:=
 (ak (aR (ax (aq zf (aq aP (af 1) (dC (.aT 0))) (dC (.str "is"))))
  (aG (av (r DK) (ae (af 0) (ae (aq aP (af 1) (dC (.aT 1))) (ae (af 2) ag)))))
  cM)
  (ak (aR (ax (aq zf (aq aP (af 2) (dC (.aT 0))) (dC (.str "is"))))
  (aG (av (r DK) (ae (af 0) (ae (aq aP (af 2) (dC (.aT 1))) (ae (af 1) ag)))))
  cM)
  (aG (a_ (ae (af 0) (ae (af 1) (ae (af 2) ag)))))))
def H_:=
 (ak (aR (ax (aq zf (af 0) (dC (.str "and"))))
  (aG (u4 (cW (af 1)) (af 2) (a_ (ae (dC (.str "is")) (ae (dC (.bl false)) ag)))))
  cM)
  (ak (aR (ax (aq zf (af 0) (dC (.str "or"))))
  (aG (u4 (cW (af 1)) (a_ (ae (dC (.str "is")) (ae (dC (.bl true)) ag))) (af 2)))
  cM)
  (aG (u4 (cW (af 1)) (av (r Iu) (ae (af 2) ag)) (af 2)))))
def Kj:=
 (ak (aA 3 (a_ (ae (dC (.str "at")) (ae (af 0) ag))))
  (ak (aR (ax (aq zf (af 1) (a_ (ae (dC (.str "is")) (ae (dC (.bl true)) ag)))))
  (aG (av (r sU) (ae (dC (.str "or")) (ae (a_ (ae (dC (.str "not")) (ae (af 3) ag))) (ae (af 2) ag)))))
  cM)
  (ak (aR (ax (aq zf (af 2) (a_ (ae (dC (.str "is")) (ae (dC (.bl true)) ag)))))
  (aG (av (r sU) (ae (dC (.str "or")) (ae (af 3) (ae (af 1) ag)))))
  cM)
  (aG (av (r sU) (ae (dC (.str "or")) (ae (av (r sU) (ae (dC (.str "and")) (ae (a_ (ae (dC (.str "not")) (ae (af 3) ag))) (ae (af 1) ag)))) (ae (av (r sU) (ae (dC (.str "and")) (ae (af 3) (ae (af 2) ag)))) ag))))))))
def HW:=
 (aR (ax (aq zf (bP bB (ae (af 0) ag)) (av (r rC) (ae (af 1) ag))))
  (aG (af 1))
  cM)
def IP:=
 (ak (cJ 1 dG (ae (aq bg (dC (.aT 10)) (dC (.aT 1))) ag)
  (HW K a r))
  o8)
def Hv:=
 (ak (jB (av (r DQ) (ae (af 0) ag)))
  (aG (av (r xx) (ae (af 0) (ae (dC (.aT 0)) ag)))))
def Nq:=
 (hV (af 0))
def DV:=
 (ak (aR (cW (av (r Du) (ae (af 0) ag)))
  (aG (a_ (ae (dC (.str "is")) (ae (aq aP (af 0) (dC (.aT 0))) ag))))
  cM)
  (ak (aA 2 (aq cn (bP bB (ae (af 0) ag)) (dC (.aT 2))))
  (ak (aA 3 (mT (af 0) bI (dJ (af 2))))
  (ak (aA 4 (mT (af 0) (dJ (af 2)) bI))
  (ak (aA 5 (av (r xx) (ae (af 3) (ae (aq bg (af 1) (dC (.aT 1))) ag))))
  (ak (aR (ax (aq zf (af 3) (af 4)))
  (aG (af 5))
  cM)
  (ak (aR (iI (eN (cW (av (r Du) (ae (af 3) ag)))) (ax (aq zf (af 4) (dB (ba [] (af 3) bx (Nq K a r))))))
  (aG (a_ (ae (dC (.str "odd")) (ae (af 5) (ae (a_ (ae (dC (.str "at")) (ae (af 1) ag))) ag)))))
  cM)
  (aG (av (r Ea) (ae (af 1) (ae (af 5) (ae (av (r xx) (ae (af 4) (ae (aq bg (af 1) (dC (.aT 1))) ag))) ag))))))))))))
def M3:=
 (aq zf (af 0) (aq aP (af 1) (dC (.aT 0))))
def Hi:=
 (aG (bP ο (ae (dB (ba [0] (af 0) bx (M3 K a r))) ag)))
def HX:=
 (ak (aA 1 (av (r DQ) (ae (af 0) ag)))
  (ak (aR (ax (aq kx (af 1) (dC (.aT 4))))
  o8
  cM)
  (aG (af 1))))
def PN:=
 (aq gp (aq aP (af 1) (af 0)) (dC (.bl false)))
def K8:=
 (ak (aR (ax (aq YK (av (r Bm) (ae (af 1) ag)) (bP bB (ae (af 0) ag))))
  (aG (dC (.bl false)))
  cM)
  (aG (bP ο (ae (dB (ba [1] (av (r Bv) (ae (af 0) ag)) bx (PN K a r))) ag))))
def Ou:=
 (af 0)
def Ov:=
 (cW (av (r IG) (ae (af 0) (ae (af 1) ag))))
def Kl:=
 (eG (ba [0] (av (r Iw) (ae (av (r Bm) (ae (af 0) ag)) ag)) (Ov K a r) (Ou K a r)))
def Dq:=
 (nh 3 (ae (dB (cR (ae (aq bg (af 4) (a_ (ae (dC .aB) ag))) (ae (aq bg (af 4) (a_ (ae (dC (.bl false)) ag))) (ae (aq bg (af 4) (a_ (ae (dC (.bl true)) ag))) ag))))) ag))
def HC:=
 (ak (df 3 (cR ag))
  (ak (jD 4 (af 1)
  (Dq K a r))
  (aA 1 (af 3))))
def IQ:=
 (ak (aA 1 (dB (cR (ae (a_ ag) ag))))
  (ak (cJ 2 dG (ae (af 0) ag)
  (HC K a r))
  (aG (af 1))))
def NF:=
 (av (r EJ) (ae (af 0) (ae (af 1) ag)))
def NG:=
 (aq kO (aq aP (af 1) (af 0)) (dC (.bl true)))
def Jk:=
 (ak (aR (eN (cW (av (r EJ) (ae (af 0) (ae (af 1) ag)))))
  (aG (dC (.bl false)))
  cM)
  (ak (aR (eN (cW (bP m_ (ae (dB (ba [1] (av (r Bv) (ae (af 0) ag)) bx (NG K a r))) ag))))
  (aG (dC (.bl false)))
  cM)
  (aG (hV (bP m_ (ae (dB (ba [1] (av (r HP) (ae (af 0) ag)) bx (NF K a r))) ag))))))
def M_:=
 (aq bg (aq bg (mT (af 1) bI (dJ (af 0))) (a_ (ae (dC .aB) ag))) (mT (af 1) (dJ (aq bg (af 0) (dC (.aT 1)))) bI))
def Na:=
 (ax (aq gp (aq aP (af 1) (af 0)) (dC .aB)))
def HD:=
 (eG (cQ dG [0] (ae (bP bB (ae (af 0) ag)) ag) (Na K a r) (M_ K a r)))
def Nb:=
 (af 0)
def Nd:=
 (ax (aq kO (af 1) (dC (.bl true))))
def HE:=
 (ak (jB (av (r Bm) (ae (af 0) ag)))
  (eG (d5 [] (mM (ae (af 0) ag)) (Nd K a r) (Nb K a r))))
def Nr:=
 (af 0)
def Nt:=
 (ax (aq lL (af 0) (af 1)))
def IT:=
 (eG (ba [1] (af 0) (Nt K a r) (Nr K a r)))
def Bj:=
 (aA 1 (av (r sU) (ae (dC (.str "or")) (ae (af 1) (ae (av (r Hf) (ae (af 2) ag)) ag)))))
def Hw:=
 (ak (aA 1 (a_ (ae (dC (.str "is")) (ae (dC (.bl false)) ag))))
  (ak (jD 2 (af 0)
  (Bj K a r))
  (aG (af 1))))
def xu:=
 (aR (ax (aq kO (af 3) (dC (.bl true))))
  (aA 1 (av (r sU) (ae (dC (.str "and")) (ae (af 1) (ae (a_ (ae (dC (.str "at")) (ae (af 2) ag))) ag)))))
  (aR (ax (aq kO (af 3) (dC (.bl false))))
  (aA 1 (av (r sU) (ae (dC (.str "and")) (ae (af 1) (ae (a_ (ae (dC (.str "not")) (ae (a_ (ae (dC (.str "at")) (ae (af 2) ag))) ag))) ag)))))
  cM))
def Hj:=
 (ak (aA 1 (a_ (ae (dC (.str "is")) (ae (dC (.bl true)) ag))))
  (ak (iY 2 3 (j7 (ae (af 0) ag))
  (xu K a r))
  (aG (af 1))))
def Bk:=
 (ax (aq zf (aq aP (af 5) (dC (.aT 0))) (dC (.str "tree"))))
def Di:=
 (ak (aA 4 (aq aP (af 5) (dC (.aT 1))))
  (ak (aA 3 (aq bg (af 3) (dC (.aT 1))))
  (aA 5 (av (r rH) (ae (af 1) (ae (af 2) (ae (af 3) ag)))))))
def HF:=
 (ak (aA 1 (av (r Io) (ae (af 0) ag)))
  (ak (aA 2 (av (r HQ) (ae (af 0) ag)))
  (ak (aA 3 (dC (.aT 0)))
  (ak (aA 4 (dC .aB))
  (ak (aA 5 (av (r rH) (ae (af 1) (ae (af 2) (ae (af 3) ag)))))
  (ak (bw (Bk K a r)
  (Di K a r) 1000000)
  (aG (a_ (ae (dB (kK (r Bp) (aq aP (af 5) (dC (.aT 1))))) (ae (af 4) ag))))))))))
def Nm:=
 (a_ (ae (af 0) (ae (av (r Bv) (ae (af 0) ag)) ag)))
def Ia:=
 (eG (ba [] (av (r Kc) (ae (af 0) ag)) bx (Nm K a r)))
def vD:=
 (ak (aA 7 (av (r rH) (ae (af 0) (ae (av (r yC) (ae (af 1) (ae (af 6) ag))) (ae (aq rV (af 2) (dC (.aT 1))) ag)))))
  (ak (aR (ax (aq zf (aq aP (af 7) (dC (.aT 0))) (dC (.str "cover"))))
  (aG (a_ (ae (dC (.str "cover")) (ae (aq bg (dB (cR (ae (af 5) ag))) (aq aP (af 7) (dC (.aT 1)))) ag))))
  cM)
  (fF 4 (ae (a_ (ae (af 5) (ae (aq aP (af 7) (dC (.aT 1))) ag))) ag))))
def BN:=
 (ak (aR (ax (aq zf (bP bB (ae (af 1) ag)) (dC (.aT 0))))
  (aG (a_ (ae (dC (.str "cover")) (ae (dB (cR ag)) ag))))
  cM)
  (ak (aA 3 (av (r Kh) (ae (af 0) (ae (af 1) ag))))
  (ak (aR (ax (aq zf (af 2) (dC (.aT 0))))
  (aG (a_ (ae (dC (.str "tree")) (ae (a_ (ae (af 3) (ae (a_ ag) ag))) ag))))
  cM)
  (ak (df 4 (cR ag))
  (ak (iY 5 6 (j8 (av (r Bx) (ae (af 0) (ae (af 3) ag))))
  (vD K a r))
  (aG (a_ (ae (dC (.str "tree")) (ae (a_ (ae (af 3) (ae (bP iV (ae (af 4) ag)) ag))) ag)))))))))
def Km:=
 (aG (kH r 59 [0] (af 1)))
def Ow:=
 (af 0)
def Ox:=
 (ax (aq pk (af 1) (aq aP (af 0) (dC (.aT 1)))))
def Kn:=
 (eG (ba [1] (af 0) (Ox K a r) (Ow K a r)))
def G_:=
 (ak (aR (ax (aq YK (bP bB (ae (af 4) ag)) (aq aP (af 0) (dC (.aT 1)))))
  o8
  cM)
  (aR (eN (cW (av (r IH) (ae (af 0) (ae (af 5) ag)))))
  o8
  cM))
def Ha:=
 (ak (aR (ax (aq YK (bP bB (ae (af 3) ag)) (af 2)))
  o8
  cM)
  (iY 4 5 (j8 (af 3))
  (G_ K a r)))
def Hx:=
 (ak (aA 1 (aq aP (af 0) (dC (.aT 2))))
  (ak (aA 2 (av (r rC) (ae (aq aP (af 0) (dC (.aT 0))) ag)))
  (ak (aR (ax (aq zf (bP bB (ae (af 1) ag)) (dC (.aT 0))))
  o8
  cM)
  (jD 3 (af 1)
  (Ha K a r)))))
def Jl:=
 (aG (jA (aq w_ (dC (.aT 0)) (af 1)) (aq oF (af 1) (bP bB (ae (aq aP (af 0) (dC (.aT 2))) ag)))))
def yD:=
 (ak (aR (bR (ax (aq uc (af 8) (af 3))))
  (ak (kI 3 (i_ 2 bB) (af 8))
  (fF 2 (ae (af 8) ag)))
  cM)
  (fF 6 (ae (a_ (ae (af 7) (ae (c8 (aq AL (af 3) (af 8))) ag))) ag)))
def DX:=
 (bR (ax (aq oF (i_ 4 bB) (i_ 2 bB))))
def DY:=
 (ak (aA 5 (jE 2 (i_ 4 bB)))
  (ak (df 6 (cR ag))
  (ak (iY 7 8 (j8 (iK bM r 1 (ae (af 5) ag)))
  (yD K a r))
  (fF 4 (ae (af 6) ag)))))
def JA:=
 (ak (df 2 (cR (ae (af 0) ag)))
  (ak (iO 3 0 (.jd 0))
  (ak (df 4 (cR ag))
  (ak (bw (DX K a r)
  (DY K a r) 1000000)
  (aG (a_ (ae (af 4) (ae (af 2) ag))))))))
def Dh:=
 (ax (aq kx (bP ji (ae (af 2) ag)) (bP ji (ae (jE 1 (nq nM (dC (.aT 1)))) ag))))
def G7:=
 (ak (fF 1 (ae (af 2) ag))
  (aA 2 (av (r DG) (ae (af 0) (ae (af 2) ag)))))
def Hb:=
 (ak (df 1 (cR (ae (aq pH (dB (cR (ae (dC (.aT 0)) ag))) (bP bB (ae (af 0) ag))) ag)))
  (ak (aA 2 (av (r DG) (ae (af 0) (ae (jE 1 (nq nM (dC (.aT 1)))) ag))))
  (ak (bw (Dh K a r)
  (G7 K a r) 1000000)
  (hW 1))))
def Ng:=
 (a_ (ae (af 0) (ae (aq aP (af 2) (af 1)) ag)))
def Dk:=
 (ak (aA 5 (bP iV (ae (dB (d5 [1] (j8 (af 4)) bx (Ng K a r))) ag)))
  (ak (aR (bR (ax (aq pA (af 5) (af 2))))
  (l' 2 (c8 (bP mB (ae (af 2) ag))) (af 5))
  cM)
  (fF 3 (ae (c8 (aq wU (af 2) (af 5))) ag))))
def HG:=
 (ak (me 2 (.YZ (.gs [.YZ .bl,.aT])))
  (ak (df 3 (cR ag))
  (ak (jD 4 (af 0)
  (Dk K a r))
  (hW 3))))
def D9:=
 (o9 4 (eY "list" fT (aq aP (af 3) (dC (.aT 1))) (ae (aq aP (af 2) (af 5)) ag)) (af 5))
def KQ:=
 (ak (jB (av (r Ht) (ae (af 0) ag)))
  (ak (aA 1 (aq aP (af 0) (dC (.aT 2))))
  (ak (aA 2 (aq aP (av (r G8) (ae (af 1) ag)) (nq nM (dC (.aT 1)))))
  (ak (aA 3 (d6 (r D8) 60 yE [1,2] (aq aP (af 2) (dC (.aT 0)))))
  (ak (df 4 (kJ (dB (cR (ae (dC .aB) ag))) (bP bB (ae (af 1) ag))))
  (ak (jD 5 (aq aP (d6 (r D8) 61 yF [1] (dC (.aT 0))) (dC (.aT 1)))
  (D9 K a r))
  (aG (a_ (ae (a_ (ae (aq aP (af 0) (dC (.aT 0))) (ae (aq aP (af 0) (dC (.aT 1))) (ae (aq aP (af 3) (dC (.aT 0))) ag)))) (ae (af 4) ag))))))))))
def M6:=
 (a_ (ae (af 0) (ae (aq aP (af 2) (af 1)) ag)))
def Hy:=
 (eG (d5 [1] (j8 (aq aP (af 0) (eY "list" fT (af 1) (ae (af 2) ag)))) bx (M6 K a r)))
def Nn:=
 (a_ (ae (dC (.bl false)) (ae (af 0) ag)))
def Dx:=
 (av (r Hg) (ae (af 0) ag))
def Ib:=
 (ak (aA 1 (av (r Dv) (ae (af 0) ag)))
  (ak (aA 2 (av (r Bq) (ae (af 1) ag)))
  (ak (aA 3 (dB (ba [] (av (r Iy) (ae (af 1) ag)) bx (Dx K a r))))
  (ak (aA 4 (bP iV (ae (dB (ba [] (mT (af 3) bI (dJ (af 2))) bx (Nn K a r))) ag)))
  (jG (a_ (ae (jC (aq aP (af 1) (dC (.aT 0)))) (ae (jC (af 4)) (ae (jC (bP iV (ae (mT (af 3) (dJ (af 2)) bI) ag))) ag)))))))))
def Hk:=
 (ak (aA 1 (aq aP (av (r Em) (ae (af 0) ag)) (dC (.aT 0))))
  (ak (aR (ax (aq kx (av (r Bq) (ae (af 1) ag)) (dC (.aT 4))))
  o8
  cM)
  (ak (aR (ax (aq kx (aq aP (af 1) (dC (.aT 1))) (dC (.aT 6))))
  o8
  cM)
  (aG (af 1)))))
def Dr:=
 (ax (aq oF (av (r rC) (ae (af 1) ag)) (bP bB (ae (aq aP (af 0) (dC (.aT 2))) ag))))
def HH:=
 (aA 1 (aq bg (af 1) (dC (.aT 1))))
def IU:=
 (ak (aA 1 (dC (.aT 0)))
  (ak (bw (Dr K a r)
  (HH K a r) 1000000)
  (aG (af 1))))
def Nu:=
 (aq aP (af 0) (af 1))
def Nv:=
 (dB (ba [0] (af 1) bx (Nu K a r)))
def Nw:=
 (av (r IA) (ae (af 1) (ae (af 2) (ae (af 0) ag))))
def IV:=
 (ak (aA 1 (av (r Bq) (ae (af 0) ag)))
  (ak (aA 2 (dB (cQ dG [0,1] (ae (av (r rC) (ae (aq bg (aq aP (af 0) (dC (.aT 0))) (af 1)) ag)) ag) bx (Nw K a r))))
  (eG (cQ dG [2] (ae (aq bg (af 1) (aq aP (af 0) (dC (.aT 1)))) ag) bx (Nv K a r)))))
def IW:=
 (ak (aA 3 (aq b9 (af 2) (av (r rC) (ae (af 1) ag))))
  (ak (aR (ax (aq zX (af 3) (bP bB (ae (aq aP (af 0) (dC (.aT 2))) ag))))
  (aG (aq rM (a_ (ae (dC .aB) ag)) (aq bg (af 1) (aq aP (af 0) (dC (.aT 1))))))
  cM)
  (ak (aA 4 (aq aP (aq aP (aq aP (af 0) (dC (.aT 2))) (af 3)) (aq cn (af 2) (av (r rC) (ae (af 1) ag)))))
  (aG (aq bg (av (r BF) (ae (aq aP (af 4) (dC (.aT 1))) (ae (af 1) ag))) (aq aP (af 4) (dC (.aT 0))))))))
def M4:=
 (aq kO (af 0) (dC (.bl true)))
def Hl:=
 (ak (aR (ax (aq w_ (bP bB (ae (af 0) ag)) (av (r rC) (ae (dC (.aT 4)) ag))))
  (aG (av (r Hs) (ae (aq aP (av (r HR) (ae (af 0) ag)) (dC (.aT 0))) ag)))
  cM)
  (aG (av (r Hr) (ae (dB (ba [] (af 0) bx (M4 K a r))) ag))))
def Hn:=
 (ak (aR (ax (aq oF (af 1) (bP bB (ae (af 0) ag))))
  (aG (aq aP (af 0) (af 1)))
  cM)
  (aG (dC (.aT 0))))
def Ic:=
 (aG (aq b9 (aq rl (aq b9 (aq bg (aq iq (af 0) (dC (.aT 48271))) (aq iq (aq bg (af 1) (dC (.aT 1))) (dC (.aT 1299721)))) (dC (.aT 2147483647))) (dC (.aT 5))) (dC (.aT 2147483647))))
def vx:=
 (ak (aR (ax (aq zf (aq aP (af 0) (dC (.aT 0))) (dC (.str "is"))))
  (aG (aq aP (af 0) (dC (.aT 1))))
  cM)
  (ak (aR (ax (aq zf (aq aP (af 0) (dC (.aT 0))) (dC (.str "at"))))
  (aG (aq aP (af 1) (aq aP (af 0) (dC (.aT 1)))))
  cM)
  (ak (aA 2 (av (r xt) (ae (aq aP (af 0) (dC (.aT 1))) (ae (af 1) ag))))
  (ak (aR (ax (aq zf (aq aP (af 0) (dC (.aT 0))) (dC (.str "not"))))
  (aG (hV (af 2)))
  cM)
  (ak (aA 3 (av (r xt) (ae (aq aP (af 0) (dC (.aT 2))) (ae (af 1) ag))))
  (ak (aR (ax (aq zf (aq aP (af 0) (dC (.aT 0))) (dC (.str "and"))))
  (aG (jA (af 2) (af 3)))
  cM)
  (ak (aR (ax (aq zf (aq aP (af 0) (dC (.aT 0))) (dC (.str "or"))))
  (aG (ni (af 2) (af 3)))
  cM)
  (aG (aq YK (af 2) (af 3))))))))))
def Hz:=
 (ak (aA 2 (aq bg (dB (cR (ae (aq zf (aq b9 (af 0) (dC (.aT 2))) (dC (.aT 1))) ag))) (af 2)))
  (aA 0 (aq cn (af 0) (dC (.aT 2)))))
def HI:=
 (ak (aA 2 (dB (cR ag)))
  (ak (cJ 3 dG (ae (af 1) ag)
  (Hz K a r))
  (aG (bP iV (ae (af 2) ag)))))
def Xo:=
 (af 0)
def Nh:=
 (lu (eN (cW (iL K (.ke "bool") (aq aP (af 1) (af 0))))) (ax (aq YK (aq aP (af 1) (af 0)) (aq aP (af 2) (af 0)))))
def HJ:=
 (ak (aR (lu (eN (cW (iL K (.ke "tuple") (af 0)))) (ax (aq YK (bP bB (ae (af 0) ag)) (bP bB (ae (af 1) ag)))))
  (aG (dC (.bl false)))
  cM)
  (aG (jF (dB (cQ dG [0,1] (ae (bP bB (ae (af 1) ag)) ag) (Nh K a r) (Xo K a r))))))
def MZ:=
 (aq oF (aq b9 (av (r DL) (ae (af 1) (ae (aq bg (aq iq (dC (.aT 9)) (af 2)) (af 0)) ag))) (dC (.aT 5))) (dC (.aT 2)))
def Bh:=
 (ak (aA 10 (bP iV (ae (dB (cQ dG [7,9] (ae (af 3) ag) bx (MZ K a r))) ag)))
  (fF 8 (ae (a_ (ae (af 10) (ae (aq b9 (av (r DL) (ae (af 7) (ae (aq bg (dC (.aT 70)) (af 9)) ag))) (af 4)) ag))) ag)))
def Bi:=
 (ak (aA 7 (aq bg (av (r Bl) (ae (af 0) (ae (aq bg (dC (.aT 2)) (af 6)) ag))) (aq iq (dC (.aT 13)) (af 6))))
  (aR (iI (ax (aq zf (aq b9 (af 7) (dC (.aT 4))) (dC (.aT 3)))) (ax (aq kx (af 6) (dC (.aT 0)))))
  (fF 5 (ae (dB (Ξ (ae (jE 5 (aq b9 (aq cn (af 7) (dC (.aT 4))) (af 6))) ag))) ag))
  (ak (df 8 (cR ag))
  (ak (cJ 9 dG (ae (aq aP (dB (cR (ae (dC (.aT 1)) (ae (dC (.aT 2)) (ae (dC (.aT 4)) (ae (dC (.aT 8)) ag)))))) (af 2)) ag)
  (Bh K a r))
  (fF 5 (ae (af 8) ag))))))
def Hd:=
 (ak (aA 1 (av (r Bl) (ae (af 0) (ae (dC (.aT 0)) ag))))
  (ak (aA 2 (aq b9 (af 1) (dC (.aT 3))))
  (ak (aA 3 (aq bg (aq b9 (aq cn (af 1) (dC (.aT 3))) (dC (.aT 4))) (aq iq (dC (.aT 3)) (bP jV (ae (aq zf (aq b9 (aq cn (af 1) (dC (.aT 768))) (dC (.aT 5))) (dC (.aT 1))) ag)))))
  (ak (aA 4 (aq bg (dC (.aT 1)) (aq b9 (aq cn (af 1) (dC (.aT 12))) (dC (.aT 8)))))
  (ak (aR (ax (aq zf (aq b9 (aq cn (af 1) (dC (.aT 96))) (dC (.aT 8))) (dC (.aT 5))))
  (aA 4 (aq bg (af 4) (dC (.aT 8))))
  cM)
  (ak (aR (ax (aq zf (aq b9 (aq cn (af 1) (dC (.aT 96))) (dC (.aT 8))) (dC (.aT 6))))
  (ak (aA 2 (dC (.aT 3)))
  (ak (aA 4 (aq bg (dC (.aT 1)) (aq b9 (af 4) (dC (.aT 4)))))
  (aA 3 (aq b9 (af 3) (aq bg (aq bg (dC (.aT 1)) (aq iq (bP jV (ae (aq oF (af 4) (dC (.aT 3))) ag)) (dC (.aT 6)))) (bP jV (ae (aq kx (af 4) (dC (.aT 2))) ag)))))))
  cM)
  (ak (aR (lu (iI (ax (aq zf (af 2) (dC (.aT 2)))) (iI (ax (aq kx (af 4) (dC (.aT 4)))) (ax (aq kx (aq b9 (aq cn (af 1) (dC (.aT 768))) (dC (.aT 4))) (dC (.aT 0)))))) (ax (aq kx (af 4) (dC (.aT 8)))))
  (aA 2 (aq b9 (af 2) (dC (.aT 2))))
  cM)
  (ak (df 5 (cR ag))
  (ak (cJ 6 dG (ae (af 4) ag)
  (Bi K a r))
  (aG (a_ (ae (af 2) (ae (af 3) (ae (af 5) ag))))))))))))))
def Ni:=
 (dB (Ξ (ae (af 0) ag)))
def HK:=
 (ma (aq aP (af 0) (dC (.aT 0))) (aq aP (af 0) (dC (.aT 1))) (ba [] (aq aP (af 0) (dC (.aT 2))) bx (Ni K a r)))
def M5:=
 (eY "list" iP (af 1) (ae (af 0) ag))
def M7:=
 (a_ (ae (aq aP (af 0) (dC (.aT 0))) (ae (aq aP (af 1) (aq aP (af 0) (dC (.aT 1)))) ag)))
def M8:=
 (dB (ba [1] (af 0) bx (M7 K a r)))
def Dm:=
 (ak (aA 4 (dB (ba [2] (af 1) bx (M8 K a r))))
  (aA 2 (dB (ba [4] (af 4) bx (M5 K a r)))))
def M9:=
 (dC (.aT 0))
def Ho:=
 (ak (aA 1 (aq aP (af 0) (dC (.aT 2))))
  (ak (aA 2 (dB (ba [] (af 1) bx (M9 K a r))))
  (ak (cJ 3 dG (ae (bP bB (ae (af 1) ag)) ag)
  (Dm K a r))
  (aG (af 2)))))
def Dy:=
 (aR (bR (ax (aq lL (aq aP (af 1) (aq aP (af 4) (dC (.aT 1)))) (af 2))))
  (fF 2 (ae (aq aP (af 1) (aq aP (af 4) (dC (.aT 1)))) ag))
  cM)
def Dz:=
 (bR (ax (aq oF (af 3) (i_ 2 bB))))
def DB:=
 (ak (jD 4 (aq aP (aq aP (af 0) (dC (.aT 2))) (jE 2 (af 3)))
  (Dy K a r))
  (aA 3 (aq bg (af 3) (dC (.aT 1)))))
def IB:=
 (ak (df 2 (cR (ae (aq aP (af 1) (dC (.aT 0))) ag)))
  (ak (aA 3 (dC (.aT 0)))
  (ak (bw (Dz K a r)
  (DB K a r) 1000000)
  (hW 2))))
def yA:=
 (ax (aq oF (af 2) (af 0)))
def Hq:=
 (ak (aA 2 (aq iq (af 2) (dC (.aT 2))))
  (aA 1 (aq bg (af 1) (dC (.aT 1)))))
def IC:=
 (ak (aA 1 (dC (.aT 0)))
  (ak (aA 2 (dC (.aT 1)))
  (ak (bw (yA K a r)
  (Hq K a r) 1000000)
  (aG (af 1)))))
def Wy:=
 (af 0)
def M0:=
 (lu (eN (cW (iL K (.ke "tuple") (af 0)))) (lu (ax (aq YK (bP bB (ae (af 0) ag)) (dC (.aT 2)))) (ax (aq gp (aq aP (af 0) (dC (.aT 0))) (dC (.bl false))))))
def He:=
 (ak (aR (lu (eN (cW (iL K (.ke "tuple") (af 0)))) (lu (ax (aq YK (bP bB (ae (af 0) ag)) (dC (.aT 3)))) (lu (cW (iL K (.ke "bool") (aq aP (af 0) (dC (.aT 0))))) (ax (aq YK (aq aP (af 0) (dC (.aT 0))) (af 1))))))
  (aG (dC (.bl false)))
  cM)
  (ak (aR (lu (eN (cW (iL K (.ke "tuple") (aq aP (af 0) (dC (.aT 1)))))) (eN (cW (iL K (.ke "tuple") (aq aP (af 0) (dC (.aT 2)))))))
  (aG (dC (.bl false)))
  cM)
  (ak (aR (lu (ax (aq YK (bP bB (ae (aq aP (af 0) (dC (.aT 1))) ag)) (af 2))) (ax (aq YK (bP bB (ae (aq aP (af 0) (dC (.aT 2))) ag)) (af 3))))
  (aG (dC (.bl false)))
  cM)
  (aG (jF (dB (ba [] (aq aP (af 0) (dC (.aT 1))) (M0 K a r) (Wy K a r))))))))
def HL:=
 (av (r xt) (ae (af 0) (ae (af 1) ag)))
def Ds:=
 (ak (aA 7 (aq bg (av (r xw) (ae (af 6) (ae (af 1) ag))) (av (r xw) (ae (af 5) (ae (af 2) ag)))))
  (aR (ax (aq pk (dC (.bl true)) (dB (ba [7] (af 4) bx (HL K a r)))))
  (aG (dC (.bl false)))
  cM))
def Dt:=
 (cJ 6 dG (ae (aq aP (dB (cR (ae (dC (.aT 1)) (ae (dC (.aT 2)) (ae (dC (.aT 4)) (ae (dC (.aT 8)) ag)))))) (af 1)) ag)
  (Ds K a r))
def Nx:=
 (aq aP (af 0) (dC (.aT 1)))
def IX:=
 (ak (aA 4 (aq bg (dB (ba [] (aq aP (af 0) (dC (.aT 1))) bx (Nx K a r))) (dB (Ξ (ae (aq aP (af 0) (dC (.aT 2))) ag)))))
  (ak (cJ 5 xJ (ae (af 3) (ae (aq aP (dB (cR (ae (dC (.aT 1)) (ae (dC (.aT 2)) (ae (dC (.aT 4)) (ae (dC (.aT 8)) (ae (dC (.aT 16)) ag))))))) (af 2)) ag))
  (Dt K a r))
  (aG (dC (.bl true)))))
def HM:=
 (av (r xt) (ae (aq aP (af 0) (dC (.aT 1))) (ae (af 1) ag)))
def HN:=
 (av (r xt) (ae (af 0) (ae (af 1) ag)))
def DC:=
 (ak (aA 9 (aq bg (av (r xw) (ae (af 8) (ae (aq aP (af 1) (dC (.aT 0))) ag))) (af 6)))
  (ak (aR (eN (cW (av (r DH) (ae (bP iV (ae (dB (ba [9] (aq aP (af 0) (dC (.aT 2))) bx (HN K a r))) ag)) (ae (aq aP (aq aP (af 7) (af 8)) (dC (.aT 0))) ag)))))
  (aG (dC (.bl false)))
  cM)
  (ak (aA 10 (av (r xw) (ae (eY "list" fT (af 3) (ae (aq aP (af 2) (aq aP (aq aP (af 7) (af 8)) (dC (.aT 1)))) ag)) (ae (af 4) ag))))
  (aR (eN (cW (av (r DH) (ae (bP iV (ae (dB (ba [9] (aq aP (af 0) (dC (.aT 1))) bx (HM K a r))) ag)) (ae (af 10) ag)))))
  (aG (dC (.bl false)))
  cM))))
def DD:=
 (ak (aA 6 (av (r xw) (ae (af 5) (ae (af 4) ag))))
  (ak (aA 7 (aq aP (aq aP (af 1) (dC (.aT 2))) (aq aP (af 3) (af 5))))
  (cJ 8 dG (ae (bP bB (ae (af 7) ag)) ag)
  (DC K a r))))
def ID:=
 (ak (cJ 5 dG (ae (bP bB (ae (af 3) ag)) ag)
  (DD K a r))
  (aG (dC (.bl true))))
def Ie:=
 (av (r vy) (ae (af 0) ag))
def Br:=
 (ak (aR (ax (aq pk (aq aP (af 0) (dC (.aT 0))) (a_ (ae (dC (.str "is")) (ae (dC (.str "at")) ag)))))
  (aG (dC (.aT 1)))
  cM)
  (aG (aq bg (dC (.aT 1)) (bP ji (ae (dB (ba [] (mT (af 0) (dJ (dC (.aT 1))) bI) bx (Ie K a r))) ag)))))
def HA:=
 (av (r vw) (ae (af 0) ag))
def Bo:=
 (ak (aR (ax (aq pk (aq aP (af 0) (dC (.aT 0))) (a_ (ae (dC (.str "is")) (ae (dC (.str "at")) ag)))))
  (aG (dC (.aT 1)))
  cM)
  (aG (aq bg (dC (.aT 1)) (bP nY (ae (dB (ba [] (mT (af 0) (dJ (dC (.aT 1))) bI) bx (HA K a r))) ag)))))
def Xp:=
 (af 0)
def Nj:=
 (lu (ax (aq kx (av (r vy) (ae (af 0) ag)) (dC (.aT 60)))) (ax (aq kx (av (r vw) (ae (af 0) ag)) (dC (.aT 1000)))))
def Nk:=
 (aq aP (af 0) (dC (.aT 1)))
def Ig:=
 (ak (aA 1 (aq bg (dB (ba [] (aq aP (af 0) (dC (.aT 1))) bx (Nk K a r))) (dB (Ξ (ae (aq aP (af 0) (dC (.aT 2))) ag)))))
  (aG (aq zf (dB (ba [] (af 1) (Nj K a r) (Xp K a r))) (dB (cR ag)))))
def En:=
 (ak (jH 7 (iN (iJ (r xr) (ae (af 5) ag))))
  (ak (aR (eN (cW (av (r Dl) (ae (af 7) (ae (aq aP (af 1) (dC (.aT 0))) (ae (af 4) (ae (aq aP (af 1) (dC (.aT 1))) ag)))))))
  (aG (dC (.bl false)))
  cM)
  (ak (aR (eN (cW (av (r DJ) (ae (af 7) ag))))
  (aG (dC (.bl false)))
  cM)
  (ak (aR (lu (eN (cW (av (r DM) (ae (af 7) (ae (af 1) (ae (af 2) (ae (af 3) (ae (af 4) ag)))))))) (bR (ax (aq YK (mT (aq aP (af 5) (dC (.aT 2))) bI (dJ (bP bB (ae (aq aP (af 1) (dC (.aT 2))) ag)))) (aq aP (af 1) (dC (.aT 2)))))))
  (aG (dC (.bl false)))
  cM)
  (ak (aR (iI (ax (aq kx (aq bg (aq aP (af 1) (dC (.aT 0))) (af 4)) (dC (.aT 4)))) (eN (cW (av (r DR) (ae (af 7) (ae (aq aP (af 1) (dC (.aT 0))) (ae (af 4) (ae (bP bB (ae (af 3) ag)) ag))))))))
  (aG (dC (.bl false)))
  cM)
  (kG 5 (iM (Ξ (ae (aq aP (aq aP (af 1) (dC (.aT 2))) (dC (.aT 0))) ag)))))))))
def Lu:=
 (ak (aA 1 (av (r G9) (ae (af 0) ag)))
  (ak (aA 2 (av (r Hh) (ae (af 1) ag)))
  (ak (aA 3 (av (r HY) (ae (af 1) (ae (af 2) ag))))
  (ak (aA 4 (av (r HZ) (ae (bP bB (ae (af 3) ag)) ag)))
  (ak (md 5 (r HS) (ae (af 1) ag))
  (ak (cJ 6 dG (ae (dC (.aT 2)) ag)
  (En K a r))
  (aG (c8 (aq zf (mT (af 5) bI (dJ (dC (.aT 2)))) (mT (af 1) bI (dJ (dC (.aT 2)))))))))))))
def dd:aO->Fg->aH->(aO->ai W->FR)->ai S->SR
 |0=>Ki
 |1=>DU
 |2=>Jj
 |3=>Jy
 |4=>Jz
 |5=>IL
 |6=>IM
 |7=>KP
 |8=>H_
 |9=>Kj
 |10=>IP
 |11=>Hv
 |12=>DV
 |13=>Hi
 |14=>HX
 |15=>K8
 |16=>Kl
 |17=>IQ
 |18=>Jk
 |19=>HD
 |20=>HE
 |21=>IT
 |22=>Hw
 |23=>Hj
 |24=>HF
 |25=>Ia
 |26=>BN
 |27=>Km
 |28=>Kn
 |29=>Hx
 |30=>Jl
 |31=>JA
 |32=>Hb
 |33=>HG
 |34=>KQ
 |35=>Hy
 |36=>Ib
 |37=>Hk
 |38=>IU
 |39=>IV
 |40=>IW
 |41=>Hl
 |42=>Hn
 |43=>Ic
 |44=>vx
 |45=>HI
 |46=>HJ
 |47=>Hd
 |48=>HK
 |49=>Ho
 |50=>IB
 |51=>IC
 |52=>He
 |53=>IX
 |54=>ID
 |55=>Br
 |56=>Bo
 |57=>Ig
 |58=>Lu
 |_=>λ_ _ _ _=>.no
def GL(K:Fg)(a:aH)(r:aO->ai W->FR):aO->ai W->FR
 |59=>qL 2 (Dw K a r)
 |60=>qL 3 (Dn K a r)
 |61=>qL 2 (Dp K a r)
 |_=>λ_=>.no
def uG(K:Fg)(a:aH)(r:aO->ai W->FR)(i:aO):ai W->FR:=if i<59 then qF (ps i).aj (Ns i).aj (dd i K a r)else GL K a r i
def nN(K:Fg)(a:aH):aO->aO->ai W->FR
 |0,_=>λ_=>.no
 |n+1,i=>uG K a (nN K a n) i
abbrev RR(i k m:aO)(d:Fg->aH->(aO->ai W->FR)->ai S->SR):Prop:=∀{K:Fg}{a:aH}{n:aO}{ws:ai W},nN K a (n+1) i ws=if ws.aj=k then(d K a (nN K a n) (Z0 m ws)).fn else .no
theorem za_:RR BF 2 5 Ki:=rfl
theorem Ny:RR rC 1 3 DU:=rfl
theorem zaJ:RR IF 1 1 Jj:=rfl
theorem zau:RR Jv 2 2 Jy:=rfl
theorem zav:RR Bv 1 1 Jz:=rfl
theorem XY:RR Bp 1 1 IL:=rfl
theorem XZ:RR Iu 1 1 IM:=rfl
theorem y7d:RR sU 3 3 KP:=rfl
theorem XO:RR DK 3 3 H_:=rfl
theorem za':RR Ea 3 4 Kj:=rfl
theorem X0:RR DQ 1 2 IP:=rfl
theorem W4:RR Hr 1 1 Hv:=rfl
theorem Nz:RR xx 2 6 DV:=rfl
theorem Xc:RR Du 1 1 Hi:=rfl
theorem Xq:RR Bm 1 2 HX:=rfl
theorem z18:RR EJ 2 2 K8:=rfl
theorem zba:RR Kc 1 1 Kl:=rfl
theorem X1:RR Iw 1 5 IQ:=rfl
theorem zaK:RR IG 2 2 Jk:=rfl
theorem Xr:RR HP 1 1 HD:=rfl
theorem Xs:RR HQ 1 1 HE:=rfl
theorem X2:RR yC 2 2 IT:=rfl
theorem W5:RR Hs 1 3 Hw:=rfl
theorem Xd:RR Hf 1 4 Hj:=rfl
theorem Xt:RR HR 1 6 HF:=rfl
theorem XQ:RR Io 1 1 Ia:=rfl
theorem JB:RR rH 3 8 BN:=rfl
theorem zbb:RR Kh 2 2 Km:=rfl
theorem zbc:RR Bx 2 2 Kn:=rfl
theorem W6:RR Ht 1 6 Hx:=rfl
theorem zaP:RR IH 2 2 Jl:=rfl
theorem zaw:RR D8 2 9 JA:=rfl
theorem Wz:RR G8 1 3 Hb:=rfl
theorem Xu:RR DG 2 6 HG:=rfl
theorem y7e:RR Em 1 6 KQ:=rfl
theorem W7:RR Hu 3 3 Hy:=rfl
theorem XR:RR xr 1 5 Ib:=rfl
theorem Xe:RR Dv 1 2 Hk:=rfl
theorem X3:RR Bq 1 2 IU:=rfl
theorem X4:RR Iy 1 3 IV:=rfl
theorem X5:RR IA 3 5 IW:=rfl
theorem Xf:RR Hg 1 1 Hl:=rfl
theorem Xg:RR Bl 2 2 Hn:=rfl
theorem XB:RR DL 2 2 Ic:=rfl
theorem yB:RR xt 2 4 vx:=rfl
theorem Xv:RR xw 2 4 HI:=rfl
theorem Xw:RR DH 2 2 HJ:=rfl
theorem WA:RR G9 1 11 Hd:=rfl
theorem Xx:RR HS 1 1 HK:=rfl
theorem Xh:RR Hh 1 5 Ho:=rfl
theorem XC:RR HY 2 5 IB:=rfl
theorem XD:RR HZ 1 3 IC:=rfl
theorem WB:RR Dl 4 4 He:=rfl
theorem X6:RR DR 4 8 IX:=rfl
theorem XE:RR DM 5 11 ID:=rfl
theorem Ih:RR vy 1 1 Br:=rfl
theorem HB:RR vw 1 1 Bo:=rfl
theorem Xy:RR DJ 1 2 Ig:=rfl
theorem z8f:RR Ls 1 8 Lu:=rfl
theorem Xi:nN K a (n+1) xv ws=if ws.aj=2 then gL (Dw K a (nN K a n) (ws.a6 .fr))else .no:=rfl
theorem Xz:nN K a (n+1) HU ws=if ws.aj=3 then gL (Dn K a (nN K a n) (ws.a6 .fr))else .no:=rfl
theorem XA:nN K a (n+1) HV ws=if ws.aj=2 then gL (Dp K a (nN K a n) (ws.a6 .fr))else .no:=rfl
abbrev MP(K:Fg)(mg:et->d3 d0)(i:aO):Prop:=∀f oc od fd sl,mg (n8 i)=ab (.dr f)->K.g6 f=ab ⟨oc,od,.Zo fd,sl⟩->l6 K (n8 i) fd.Μ
def GR:ai aO:=[27,34]
structure oY(P:xc)(w:vr)(K:Fg)(mg:et->d3 d0)(k_:g0)(a:aH)(n:aO):Prop where
 c:∀i,i<59->sv P w K mg k_ (n+lv i) (n8 i) (ps i) (oR K (nN K a n i))
 lam:sx P w K mg k_ (fe P w) n (yS K bM (nN K a n))
def OO(i:aO):Prop:=∀{P:xc}{w:vr}{K:Fg}{mg:et->d3 d0}{k_:g0}{a:aH}{n:aO},yg P w K mg->m8 K mg a->oY P w K mg k_ a n->_z k_ mg->(Ns i).xZ->∀(f:fy)(eM:d0)(A:C_)(tB:ai S')(s:p5)(H:Hp)(E:XK)(Z:Zt),br (n+lv i) (A.ZJ (CG.Fe.ZZ (n8 i) (a9 (s8 i)) s.bj.f'.dS f eM))->(Z.H=H/\Z.io=[])->((GR._G i)=true->l6 K (n8 i) eM)->m7 Z (i9 (fe P w) P w K mg k_ (Ns i) (n8 i) (a9 (s8 i)) f eM A tB s H E) (λ_=>E) (cS (s8 i)) (dd i K a (nN K a n))
def cc{P:xc}{w:vr}{x:et}{q:ai et}(C:oY P w K mg k_ a n)(h:i<59)(hx:n8 i=x)(hp:ps i=q):sv P w K mg k_ (n+lv i) x q (oR K (nN K a n i)):=by
 subst hx;subst hp;exact C.c i h
theorem lz{b c:aO}(h:b<=c):n+b<=n+c:=aO.add_le_add_left h n
set_option hygiene false
local macro_rules | `(tactic| try?) => do
 let l:=(("%0|dv _|z4i ? ?|Q0j|z99|y9f ? ?|z4k ?|Q5j ? ?|Q0q @ ? ? ?|Q0n _ nd ?|Q0m ?|Q5h ? ? ?|z4j|Q0b|Q0k ?|Q5g ?|z6s ? ?|Q5b|Q09 B.LV ?|z4t|=z4v rfl ? ! ? ? ?|Q5v # ? ?|Q0l ?|Q0c ?|Q03 ? ?|Q0f ?|Q5w # ? ?|Q0o _ nd ?|z4o _ nd PassesOwn.leaving rfl B.tH ? ?|Q5d ? ?|Q0y _ ?|z4x ? ?|z4y|z4z ?|y9n ? ? ?|Q5t ? ?|z4m ?|y9p|z4u ?|Q0d ?|Q02 ? ?|y9o B.tI ?|Q5o # ? ?|Q0a|Q0p _ nd PassesOwn.leaving rfl ? ?|y9h _ PassesOwn.leaving ? ?|y54 ?|=y9m rfl B.tH ? ! ? ? ?|=z0b rfl ? ! ? ? ?|Q0e ? ?|z0c ?|z41 _ B.LV|Q5r ? ?|Q0w _ ?|%1|z42 B.Fo ?|Q0i ?|z4h ?|z6a _ _ nd PassesOwn.leaving rfl ? ?|Q7c # ? ?|y53 ?|Q5q ? ?|Q2w rfl B.LR ?|Q5f ? ? ?|z4l ?|Q5x ? ?|Q5l ? ?|Q05 ?|z69 rfl B.LW ?|z4n _|y5x ? ?|z7r ?|z54 B.LU ?|Q5e ? ?|z6c B.uY ?|Q3i rfl B.LS ?|Q07 ? ?|Q2v # ? ?|Q0h ? ?|pv _|%2|z7k ?|y5j rfl B.tI B.wc ?|Q3e B.LY ?|Q36 B.Et ?|z57 ? ?|q9a M.mH M.mj|q9a M.mG M.mi|Q06 ? ?|Q2y _ ?|z1x B.uY ?|z8a @ ? B.zO ?|Q01 ? ?|%3|Q5m ? ?|z1c _ _ nd ?|%4|z7g # ? ?|z7i _ # ? ?|Q3t # ? ?|Q29 ? ?|%5|z64 M.nt # ? ?|z65 B.LV ?|z67 _ M.nt # ? ?|Q3n M.nt # ? ?|%6|Q3w ? ?|%7|Q2z _ ? ?|=y2m _ nd rfl ? ! ? ? ?|%8|z1h ?|q9a M.ub M.tR|q9a M.qU M.qy|Q5u ? ?|z6m ? ?|q9a M.sP M.sD|Q5s ? ?|Q04 ? ?|Q5p # ? ?|Q5n ? ?|%9|y6z # ? ?|z4p _ nd PassesOwn.leaving rfl B.tH ? ?|Q3j rfl B.LX ?|z6y _ nd @ ? ? ?|Q31 @ ? ? ?|%10|z1i _ nd ?|%11|%12|Va ?|Q0g ?".splitOn "|").map fun s=>s.splitOn " ").reverse
 let q:=#[←`(tactic| refine y7b (hsc := rfl) (hN := rfl) ⟨rfl, λ_ _ => rfl, λ_ => rfl, by decide +kernel, by decide +kernel⟩ rfl B.tH ?_ (Wl (by kernel_rfl)) ?_ ?_ ?_),←`(tactic| refine RE (c0 := .ty _) rfl (QS PyProof.Rows.Boot.«tuple» B.tI) B.g_ ?_),←`(tactic| refine RE (c0 := .ty _) rfl (QS PyProof.Rows.Boot.«bool» B.wb) B.g_ ?_),←`(tactic| refine z75 (hsc := rfl) (hN := rfl) _ D1 (by exact C.lam) ?_ rfl B.zN (by exact Lr (Ay rfl) BM) (λ_ => rfl) ?_ XX (nj (by kernel_rfl))),←`(tactic| refine z1b _ (by exact C.lam) ?_ ?_ ?_ ?_),←`(tactic| refine z66 _ (.many (.tup [.many .bl, .int])) nd),←`(tactic| refine Oo (hsc := rfl) (hN := rfl) _ yE (by exact cc C (by decide) (by rfl) (by rfl)) ?_ ?_ (by exact Lr (Ay rfl) BM) (λ_ => rfl) ?_ (nj (by kernel_rfl))),←`(tactic| refine Oo (hsc := rfl) (hN := rfl) _ yF (by exact cc C (by decide) (by rfl) (by rfl)) ?_ ?_ (by exact Lr (Ay rfl) BM) (λ_ => rfl) ?_ (nj (by kernel_rfl))),←`(tactic| refine Tz (Kb ?_ (Kb ?_ (Kb ?_ z7s)))),←`(tactic| refine z6x hz.2 ?_ ?_ ?_),←`(tactic| refine z7t hz.2 ?_),←`(tactic| refine z6z hz.2 ?_),←`(tactic| refine z8b _ hz.1 ?_)]
 let mut x←`(tactic| first | exact uC 0 (A6 (by kernel_rfl)) | exact Tr (A6 (by kernel_rfl)) rfl | exact Be | exact Bf | exact hr | exact hr.mono (lz (by decide)) | exact hr.mono (Nat.le_add_right _ _) | assumption | decide)
 for r in l do
  let s:=r.head!
  let a←r.tail!.toArray.mapM λa=>match a with|"?"=>`(?_)|"_"=>`(_)|"!"=>`((nj (by kernel_rfl)))|"@"=>`((by exact cc C (by decide) (by rfl) (by rfl)))|"#"=>`((Wu hr))|a=>pure ⟨Lean.mkIdent a.toName⟩
  let f:=Lean.mkIdent (s.dropWhile (·=='=')).toName
  let y:Lean.TSyntax `tactic←if s.startsWith "%" then pure q[(s.drop 1).toNat!]! else if s.startsWith "=" then `(tactic| refine $f:ident (hsc := rfl) (hN := rfl) $a*) else let z:=Lean.Syntax.mkApp f a; `(tactic| refine $z)
  x←`(tactic| first | $y:tactic | $x:tactic)
 `(tactic| (intros; $x:tactic) <;> try?)
local macro_rules | `(tactic| walk_at "o") => `(tactic| (intro P w K mg base a n B M C BM nd f eM A outer s H E Z hr hz Ay; try?))
set_option hygiene true
seal iI jA fF kG c8 bR dC av iJ iK ba d5 cQ ae jB nh jC bP i_ jD iY cJ dB u4 aR iL jE d6 iM iN dList cR eY kH ag o8 bI eN jF hV cM aq lu ni dJ o9 kI l' kJ aG eG jG hW ma ak aA iO jH df md me mT kK ax cW a_ nq af bx mM j7 j8 nV bw
def z19:OO 0:=by walk_at "o"
def Y0:OO 1:=by walk_at "o"
def zbd:OO 2:=by walk_at "o"
def y7f:OO 3:=by walk_at "o"
def y7g:OO 4:=by walk_at "o"
def Y1:OO 5:=by walk_at "o"
def Y2:OO 6:=by walk_at "o"
def z8g:OO 7:=by walk_at "o"
def zaQ:OO 8:=by walk_at "o"
def z2a:OO 9:=by walk_at "o"
def zaa:OO 10:=by walk_at "o"
def Xj:OO 11:=by walk_at "o"
def zab:OO 12:=by walk_at "o"
def XF:OO 13:=by walk_at "o"
def X7:OO 14:=by walk_at "o"
def TK:OO 15:=by walk_at "o"
def z2b:OO 16:=by walk_at "o"
def zac:OO 17:=by walk_at "o"
def zbe:OO 18:=by walk_at "o"
def X8:OO 19:=by walk_at "o"
def X9:OO 20:=by walk_at "o"
def zad:OO 21:=by walk_at "o"
def Xk:OO 22:=by walk_at "o"
def XG:OO 23:=by walk_at "o"
def X_:OO 24:=by walk_at "o"
def zaR:OO 25:=by walk_at "o"
def z8h:OO 26:=by walk_at "o"
def z2c:OO 27:=by walk_at "o"
def z2d:OO 28:=by walk_at "o"
def Xl:OO 29:=by walk_at "o"
def zbf:OO 30:=by walk_at "o"
def y7h:OO 31:=by walk_at "o"
def W8:OO 32:=by walk_at "o"
def X':OO 33:=by walk_at "o"
def z8i:OO 34:=by walk_at "o"
def Xm:OO 35:=by walk_at "o"
def zaS:OO 36:=by walk_at "o"
def XI:OO 37:=by walk_at "o"
def zae:OO 38:=by walk_at "o"
def zaf:OO 39:=by walk_at "o"
def zag:OO 40:=by walk_at "o"
def XJ:OO 41:=by walk_at "o"
def XM:OO 42:=by walk_at "o"
def zaT:OO 43:=by walk_at "o"
def zaU:OO 44:=by walk_at "o"
def zay:OO 45:=by walk_at "o"
def zaz:OO 46:=by walk_at "o"
def W9:OO 47:=by walk_at "o"
def zaA:OO 48:=by walk_at "o"
def XN:OO 49:=by walk_at "o"
def zaV:OO 50:=by walk_at "o"
def zaW:OO 51:=by walk_at "o"
def W_:OO 52:=by walk_at "o"
def zah:OO 53:=by walk_at "o"
def zaX:OO 54:=by walk_at "o"
def zai:OO 55:=by walk_at "o"
def zaB:OO 56:=by walk_at "o"
def zaC:OO 57:=by walk_at "o"
def UW:OO 58:=by walk_at "o"
theorem zaj{P:xc}{w:vr}(B:yg P w K mg)(M:m8 K mg a)(C:oY P w K mg k_ a n):l5 P w K mg k_ n D1 ["number"] (qL 2 (Dw K a (nN K a n))):=
 wY ⟨rfl,rfl,rfl,by decide +kernel,by decide +kernel,by decide +kernel,by decide +kernel⟩ (λcl pm c' eS=>us1 λ_=>rfl) λZ f cd cl A tB s H hr=>by try?
theorem zbg{P:xc}{w:vr}(B:yg P w K mg)(M:m8 K mg a)(C:oY P w K mg k_ a n):l5 P w K mg k_ n yE ["kind"] (qL 3 (Dn K a (nN K a n))):=
 wY ⟨rfl,rfl,rfl,by decide +kernel,by decide +kernel,by decide +kernel,by decide +kernel⟩ (λcl pm c' eS=>us1 λ_=>rfl) λZ f cd cl A tB s H hr=>by try?
theorem zbh{P:xc}{w:vr}(B:yg P w K mg)(M:m8 K mg a)(C:oY P w K mg k_ a n):l5 P w K mg k_ n yF ["place"] (qL 2 (Dp K a (nN K a n))):=
 wY ⟨rfl,rfl,rfl,by decide +kernel,by decide +kernel,by decide +kernel,by decide +kernel⟩ (λcl pm c' eS=>us1 λ_=>rfl) λZ f cd cl A tB s H hr=>by try?
unseal iI jA fF kG c8 bR dC av iJ iK ba d5 cQ ae jB nh jC bP i_ jD iY cJ dB u4 aR iL jE d6 iM iN dList cR eY kH ag o8 bI eN jF hV cM aq lu ni dJ o9 kI l' kJ aG eG jG hW ma ak aA iO jH df md me mT kK ax cW a_ nq af bx mM j7 j8 nV bw
theorem zz:∀i,i<59->OO i
 |0,_=>z19
 |1,_=>Y0
 |2,_=>zbd
 |3,_=>y7f
 |4,_=>y7g
 |5,_=>Y1
 |6,_=>Y2
 |7,_=>z8g
 |8,_=>zaQ
 |9,_=>z2a
 |10,_=>zaa
 |11,_=>Xj
 |12,_=>zab
 |13,_=>XF
 |14,_=>X7
 |15,_=>TK
 |16,_=>z2b
 |17,_=>zac
 |18,_=>zbe
 |19,_=>X8
 |20,_=>X9
 |21,_=>zad
 |22,_=>Xk
 |23,_=>XG
 |24,_=>X_
 |25,_=>zaR
 |26,_=>z8h
 |27,_=>z2c
 |28,_=>z2d
 |29,_=>Xl
 |30,_=>zbf
 |31,_=>y7h
 |32,_=>W8
 |33,_=>X'
 |34,_=>z8i
 |35,_=>Xm
 |36,_=>zaS
 |37,_=>XI
 |38,_=>zae
 |39,_=>zaf
 |40,_=>zag
 |41,_=>XJ
 |42,_=>XM
 |43,_=>zaT
 |44,_=>zaU
 |45,_=>zay
 |46,_=>zaz
 |47,_=>W9
 |48,_=>zaA
 |49,_=>XN
 |50,_=>zaV
 |51,_=>zaW
 |52,_=>W_
 |53,_=>zah
 |54,_=>zaX
 |55,_=>zai
 |56,_=>zaB
 |57,_=>zaC
 |58,_=>UW
 |_+59,h=>uz h (by omega)
section
variable{P:xc}{w:vr}
theorem t9(A:∀i,i<59->At K mg (n8 i) (s8 i) (ps i))(B:yg P w K mg)(M:m8 K mg a)(BM:_z k_ mg)(MK:∀i∈GR,MP K mg i):∀n,oY P w K mg k_ a n
 |0=>⟨λi h=>zez (A i h),Fx⟩
 |n+1=>⟨λi h=>by
  rw[show n+1+lv i=n+lv i+1 from aO.add_right_comm n 1 (lv i),show nN K a (n+1) i=_ from nZ h];exact Fp (A i h) (λz=>MK i (w5c.mp z)) (Ep h) (zz i h B M (t9 A B M BM MK n) BM (Ep h).nd),T3 λi l h=>by
  unfold bM at h;split at h
  .cases h;exact⟨_,zaj B M (t9 A B M BM MK n)⟩
  .cases h;exact⟨_,zbg B M (t9 A B M BM MK n)⟩
  .cases h;exact⟨_,zbh B M (t9 A B M BM MK n)⟩
  .cases h⟩
end
theorem at_k{h:g0}{x:et}{st:Mu}{ps:ai et}{f:fy}{od an:d3 fy}{sl:yb (d3 d0)}{oc kV dc pm cd ct:d0}(X:K.In h)(G:h.Ns Yi mg)(a:n9.W.Τ K Yi x=ab (ab (.dr f)))(l:K.g6 f=ab ⟨oc,od,.Zo (n9.W._X x x (eI st) (cS st) (a9 st) .none kV dc pm an cd ct),sl⟩)(c:n9.W._F K cd x=true)(k:_L K (.dr f)=true)(hb:∀(kV Yr pm:d0)(an:d3 fy)(eM ct:d0)(us:ai d0),us.aj=ps.aj->ρ (n9.W._X x x (eI st) (cS st) (a9 st) .none kV Yr pm an eM ct) ⟨us,[]⟩=vX (ps.xR us)):At K mg x st ps:=
 ⟨⟨_,_,RK l c k,n9.W.mg_of X G a,(RK l c k).υ hb⟩⟩
theorem mk_k{h:g0}{x:et}{st:Mu}{f:fy}{od an:d3 fy}{sl:yb (d3 d0)}{oc kV dc pm cd ct:d0}{cc PP:fy}(X:K.In h)(G:h.Ns Yi mg)(a:n9.W.Τ K Yi x=ab (ab (.dr f)))(l:K.g6 f=ab ⟨oc,od,.Zo (n9.W._X x x (eI st) (cS st) (a9 st) .none kV dc pm an cd ct),sl⟩)(v:cd=.dr cc)(hh:á K cc PP=true)(m:(Yi,ip PP ((x++".<locals>.")++"<lambda>"))∈K):∀f oc od fd sl,mg x=ab (.dr f)->K.g6 f=ab ⟨oc,od,.Zo fd,sl⟩->l6 K x fd.Μ:=λf oc od fd sl e1 e2=>by
 have z:=(n9.W.mg_of X G a).symm.kZ e1;cases z;rw[l]at e2;cases e2;exact⟨cc,PP,_,v,hh,m⟩
def mk{l:n9.W.Θ}{w:vr}{fa:fy}{p0 p1 p2 p3 p4:fy}{zc_ zc' zda p8 zdb:d0}(VF:mg "law"=ab (.dr fa))(A:∀i,i<59->At K mg (n8 i) (s8 i) (ps i))(B:yg l.je w K mg)(M:m8 K mg ⟨p0,p1,p2,p3,p4,zc_,zc',zda,p8,zdb⟩)(MK:∀i∈GR,MP K mg i)(n:aO)(hL:∀a:aH,m8 K mg a->∀ns:ai a7,CB ns->nN K a (n+1) Ls [.dI (ns.a6 .aT)]=.ok (.fr (.bl true))):
  ∃fd:Zv,(∀(s:p5)(v:d0),_Q s fd ⟨[v],[]⟩ [("_law_script", v)])/\∀k_:g0,K.In k_->k_.Ns Yi mg->_z k_ mg->eT l.je w K mg k_ (fe l.je w) (n+3) fa fd ["_law_script"] (lQ K):=by
 let⟨f,fd,F,m,_⟩:=(A 58 (by decide)).ex;cases VF.symm.kZ m;have F':=F;let⟨_,_,_,_,_,_,_,_,_,rfl,_⟩:=F.ex;exact⟨_,λs v=>.Ê rfl,λk_ _ _ BM=>(u3 F' m (λz=>MK 58 (w5c.mp z)) (Ep (by decide)) (zz 58 (by decide) B M (t9 A B M BM MK n) BM (Ep (by decide)).nd)).uM λvs H Q E q=>y67 (hL _ M) q⟩
open Fh
local macro_rules | `(tactic| rw?) => do
 let l:=(("z7w z5m z8c z8d z8e z1f y6r y25 M1 z1g z1d z1e z7p z7l y6p z7m z7n z7o z09 z1a Q3u Q7j z7a z7b z7c Q3p z7e y6h z60 z61 Q3k z03 z04 z05 z06 y9r z6n z6o z6p z6q z0t y59 y6a y55 y2w y56 y57 y2x y2y y2z x9o z0r y58 z0s z6i z6j Q3f z0m z0n z0o z0p Q20 y95 y96 y5l z58 y5m y5n y97 Q21 y98 y99 y5o z59 Q22 Q23 Q24 z6d z0d z0e z0f z0g z0h z0i y5s Q26 z6e Q27 y2v z0j z0k Q1d Q1e Q1f Q1g Q1h Q1i Q1j z47 z43 z44 z45 y9q y5a Q1b Q1c z46 Q5y Q5z Q50 Q51 Q1k y2o y2p y5b Q1l Q1m z5a U' Q52 Q53 z5b z5c Q1n Q1o Q54 Q1p z5d Q1q Q1r Q55 z5e Q1s Q56 Q1t z5f Q1u Q1v Q57 Q58 z5g Q59 Q6a z5h Q1w z5i z5j z5k Q1x Q1y Q1z z5l z5n z5o y9u z5p z5q y9v y5c y9w y5d Q10 z5r y5e xA z5s z5t Za z5u z5v y9x Q11 y5f Q6b Q15 Q16 Q17 z5w Q18 Q6d Q6e Q6f y5g z5x y9y Q19 Q2a z5z z50 y90 y2q y2r Q2b y91 y5h z51 y92 Q2c Q2d Q2e Q2f Q2g z52 Q2h Q2i Q6g Q6h Q6i Q6j Q6k Q6l Q6m Q6n Q6o Q6p Q6q Q6r Q6s Q6t Q6u Q6v Q6w Q6x Q2j Q2k Q2l Q2m Q2n Q2o Q2p Wc Wb Q6y Q6z Q60 Q61 Q62 Q63 Q64 Q65 Q66 Q67 Q68 Q69 Q7a WJ WI WL WK WO at0 CL at2 Q2r dG xJ init Option.map_some Option.bind_some List.map_cons List.map_nil List.length_cons List.length_nil List.replicate_succ List.replicate_zero List.cons_append List.nil_append List.getElem?_cons_zero List.getElem?_cons_succ List.set_cons_zero List.set_cons_succ if_true if_false decide_eq_true_eq reduceIte Bool.false_eq_true ite_true ite_false Nat.reduceSub Nat.reduceAdd Nat.reduceLeDiff Nat.zero_add Nat.le_refl Int.reduceLT Int.reduceLE Int.reduceNeg true_and and_true true_or or_true false_and and_false false_or or_false not_true_eq_false not_false_eq_true decide_true decide_false Bool.not_true Bool.not_false String.reduceEq Nat.reduceEqDiff y93 Q7d Q7e Int.reduceToNat Int.reducePow Nat.reduceLT L4 L5 Int.reduceEq Int.reduceMod Int.reduceDiv Int.reduceAdd Int.reduceSub Int.reduceMul Q7l z7z z1y Q7m z1z z70 z71 y9t z1j z7u Q32 z7v z1k z1l z1m z1n y6s z1o z1p z1q z1r z1s y6t z48 z49 Q12 Q13 Q14 Q6c y9s z74 z79".splitOn " ").map fun s=>Lean.mkIdent s.toName).toArray
 `(tactic| try simp only [$[$l:ident],*])
section
def Qe(n)(ns:ai a7)  (hk:0<=k):nN K a (n+1) Bl [.dI (ns.a6 .aT),.aT k]=.ok (.fr (.aT (ns.hX k.uh 0))):=by
 rw[Xg];unfold Hn;rw?
 by_cases h:k<ns.aj
 .rw[nZ (by simpa using h),Tt hk]
  have e:(ns.a6 W.aT)[k.uh]?=ab (.aT (ns.hX k.uh 0)):=by
   have:k.uh<ns.aj:=by omega
   simp[ai.hX,this]
  rw[e];rw?
 grind
theorem O9   (st:S->ai S)(p)(rt:W->S):∀(ws:ai W)(z:S),(∀w∈ws,∀z,(p w=true->∃e',b ((st z).rk i (.fr w))=.rt (rt w) e')/\(p w=false->∃z',b ((st z).rk i (.fr w))=.nx (st z'))) ->
  (∀w,ws.Â p=ab w->∃e',cV i b ws (st z)=.rt (rt w) e')/\(ws.Â p=none->∃z',cV i b ws (st z)=.nx (st z'))
 |[],z,h=>⟨λw q=>by simp at q,λ_=>⟨z,rfl⟩⟩
 |w::ws,z,h=>by
  let⟨h1,h2⟩:=h w (by simp) z;cases q:p w with
  |true=>
   grind [uo,Za]
  |false=>
   let⟨z',h3⟩:=h2 q;have ih:=O9 st p rt ws z' λu hu=>h u (by simp[hu])
   rw[ai.find?_cons_of_neg (by simp[q]),uo,h3,xA];exact ih
def NA(n)(m)(h0:0<=m)(h1:m<1000):nN K a (n+1) rC [.aT m]=.ok (.fr (.aT (2^m.uh))):=by
 rw[Ny];unfold DU;rw?;rw[nZ (oK (by omega) (by omega))];rw?
 let⟨e',h2,z,rfl⟩:=pW (b:=Bn K a (nN K a n)) (i:=2) (lo:=0) (hi:=m) m.uh (by omega) (λj e=>∃z,e=[.fr (.aT m),.fr (.aT (2^j)),z]) [.fr (.aT m),.fr (.aT 1),.no] ⟨_,rfl⟩ (by
  rintro j e hj ⟨z,rfl⟩;unfold Bn;rw?;exact⟨_,rfl,_,by rw[w4h,w5v]⟩)
 rw[h2];rw?
def lg(n:aO):d3 aO:=(ai.CC 11).Â λm=>decide (2^m=n)
def jn(a:aH):d3 aO->FR
 |ab m=>.ok (.fr (.aT m))
 |none=>.no
def NB(n)(ws):nN K a (n+2) DQ [.dI ws]=jn a (lg ws.aj):=by
 rw[X0];unfold IP;rw?;rw[nZ (oK (by omega) (by omega))];rw?;have e:bu 0 11=(ai.CC 11).a6 fun(k:aO)=>W.aT (0+(k:a7)):=rfl
 have h:=O9 (i:=1) (b:=HW K a (nN K a (n+1))) (λz=>[.fr (.dI ws),z]) (λw=>match w with|.aT k=>decide ((ws.aj:a7)=2^k.uh)|_=>false) (λw=>.fr w) (bu 0 11) .no (by
  intro w hw z;rw[e]at hw;let⟨k,hk,rfl⟩:=w0u.mp hw;rw[w0y]at hk;unfold HW;rw?;rw[NA n _ (by omega) (by omega)];rw?
  simp_all)
 have e2:(bu 0 11).Â (λw=>match w with|.aT k=>decide ((ws.aj:a7)=2^k.uh)|_=>false)=(lg ws.aj).a6 fun(k:aO)=>W.aT (0+(k:a7)):=by
  rw[e,ai.find?_map];unfold lg;congr 2;funext k
  simp only[Function.comp];rw[show(0+(k:a7)).uh=k by omega]
  grind
 rw[e2]at h;cases q:lg ws.aj with
 |ab m=>
  rw[q]at h;let⟨e',h1⟩:=h.1 _ rfl;rw[h1];rw?;simp[jn]
 |none=>
  rw[q]at h;let⟨z',h1⟩:=h.2 rfl;rw[h1];rw?;rfl
def z8j(n)(i m)(h0:0<=m)(h1:m<1000)(hi:i.ώ<2^1000):nN K a (n+1) BF [.aT i,.aT m]=if xb m.uh i=0 then .ok (.fr (.gs ((Zh m.uh i).We.a6 .bl)))else .no:=by
 rw[za_];unfold Ki;rw?;rw[nZ (oK (by omega) (by omega))];rw?
 let⟨e',h2,z,rfl⟩:=pW (b:=IJ K a (nN K a n)) (i:=4) (lo:=0) (hi:=m) m.uh (by omega) (λj e=>∃z,e=[.fr (.aT i),.fr (.aT m),.ku none ((Zh j i).a6 .bl),.fr (.aT (xb j i)),z]) [.fr (.aT i),.fr (.aT m),.ku none [],.fr (.aT i),.no] ⟨_,rfl⟩ (by
  rintro j e hj ⟨z,rfl⟩;unfold IJ;rw?;rw[nZ (by rw[w0a,BE];omega)];rw?;exact⟨_,rfl,_,by rw[O6,O7,w0x];rfl⟩)
 rw[h2];rw?
 simp_all
def zek{i:a7}(h1:0<=i)(h2:i<100000):i.ώ<2^1000:=by
 grind
def b_(m:aO)(k:aO):ai ie:=(Zh m (k:a7)).We
def nR(m k):(b_ m k).aj=m:=by unfold b_;rw[w4a,BE]
def Q4(n){k m:aO}(hk:k<2^m)(hm:m<=10):nN K a (n+1) BF [.aT (k:a7),.aT (m:a7)]=.ok (.fr (.gs ((b_ m k).a6 .bl))):=by
 have tS:(2:aO)^m<=2^10:=w0r (by decide) hm;have zeC:(2:aO)^10=1024:=by decide
 have Mw:(k:a7)<2^m:=by exact_mod_cast hk
 rw[z8j n k m (by omega) (by omega) (zek (by omega) (by omega)),nZ (O8 (by omega) (by simpa using Mw))];rw[w2b];rfl
def z8k(m):(2:a7)^m=((2^m:aO):a7):=by exact_mod_cast rfl
def O_(q:aO):bu 0 (q:a7)=(ai.CC q).a6 λk=>W.aT ((k:aO):a7):=by
 simp_all [bu]
def YA(n){m:aO}(hm:m<=10):nN K a (n+2) IF [.aT (m:a7)]=.ok (.ku none ((ai.CC (2^m)).a6 λk=>W.gs ((b_ m k).a6 .bl))):=by
 have tS:(2:aO)^m<=2^10:=w0r (by decide) hm;have zeC:(2:aO)^10=1024:=by decide
 have hp0:0<(2:aO)^m:=aO.pow_pos (by decide);rw[zaJ];unfold Jj;rw?;rw[NA n m (by omega) (by omega)];rw?;rw[w2b,z8k,nZ (oK (by omega) (by omega))];rw?;rw[nZ (by rw[D6];omega)];simp only[cw,gF,w0d,w0g];rw[O_,D.PZ (g:=λw=>match w with|.aT k=>W.gs ((b_ m k.uh).a6 .bl)|w=>w)]
 .rw?;rw[w0v];rfl
 .intro w hw;let⟨k,hk,rfl⟩:=w0u.mp hw;rw[w0y]at hk;unfold ND;rw?;rw[Q4 n hk hm];rw?;exact⟨_,rfl⟩
def eo:d3 ie->W
 |none=>.aB
 |ab b=>.bl b
def mt:ai (d3 ie)->ai ie->ie
 |o::c,b::r=>(o==none||o==ab b)&&mt c r
 |_,_=>true
def eg(c:ai (d3 ie)):ai aO:=(ai.CC (2^c.aj)).Mk λk=>mt c (b_ c.aj k)
theorem xB{cc:iw ie}   {α:Type}{q:α->ie}{g:α->W}{en:α->W}:∀(xs:ai α),(∀x∈xs,∃e1,cc (.fr (en x)::pe)=.ok (q x) e1/\(q x=true->∃e2,d e1=.ok (g x) e2))->b7 cc d pe (xs.a6 en)=ab ((xs.Mk q).a6 g)
 |[],_=>rfl
 |x::xs,h=>by
  let⟨e1,h1,h2⟩:=h x (by simp);have ih:=xB (cc:=cc) (d:=d) (pe:=pe) (q:=q) (g:=g) (en:=en) xs λu hu=>h u (by simp[hu])
  rw[w0m,D5,h1,ih]
  grind
def kT   {g:α->W}{en:α->W}(xs:ai α)(h:∀x∈xs,∃e2,d (.fr (en x)::pe)=.ok (g x) e2):b7 bx d pe (xs.a6 en)=ab (xs.a6 g):=by
 rw[xB (cc:=bx) (q:=λ_=>true) (g:=g) xs λx hx=>⟨_,rfl,λ_=>h x hx⟩,w4c.wa λ_ _=>rfl]
theorem î  (hm:m<=10):2^m<=1024:=w1a (w0r (by decide) hm) (by decide)
theorem N2(r0):∀(c:ai (d3 ie))(r:ai ie),eF bx (IK K a r0) [] ((c.a6 eo).xR (r.a6 .bl))=ab (((c.xR r).a6 λp=>(p.1==none||p.1==ab p.2)).a6 .bl)
 |[],_=>rfl
 |_::_,[]=>rfl
 |o::c,b::r=>by
  have ih:=N2 r0 c r;simp only[w0m,w5r];rw[IE,ih];unfold IK;cases o with
  |none=>
   simp only[eo];rw?;rfl
  |ab d=>
   simp only[eo];rw?;cases d<;>cases b<;>rfl
theorem R9:∀(c:ai (d3 ie))(r:ai ie),((c.xR r).a6 λp=>(p.1==none||p.1==ab p.2)).t9 id=mt c r
 |[],_=>by cases ‹ai ie›<;>rfl
 |_::_,[]=>rfl
 |o::c,b::r=>by
  simp only[w5r,w0m,w2v,id,mt];rw[R9 c r]
def Y4(n)   (h:c.aj=r.aj)(hl:r.aj<=1000):nN K a (n+1) Jv [.gs (c.a6 eo),.gs (r.a6 .bl)]=.ok (.fr (.bl (mt c r))):=by
 rw[zau];unfold Jy;rw?;simp only[w0a,h];rw?;rw[nZ (by simp[ai.length_zip];omega),N2];rw?;rw[Lz];rw?;rw[R9]
theorem O'  : ∀(N j:aO),cj j ((ai.range' j N).a6 f)=(ai.range' j N).a6 fun(k:aO)=>(W.aT ((k:aO):a7),f k)
 |0,_=>rfl
 |N+1,j=>by
  rw[ai.range'_succ,w0m,w0m,<- O' N (j+1)];rfl
def N3  (N):cj 0 ((ai.CC N).a6 f)=(ai.CC N).a6 fun(k:aO)=>(W.aT ((k:aO):a7),f k):=by
 rw[ai.range_eq_range'];exact O' N 0
theorem Ko{cc:iw ie}{d:iw W}{pe:ai S}{α:Type}{q:α->ie}{g:α->W}{en:α->W×W}:∀(xs:ai α),(∀x∈xs,∃e1,cc (.fr (en x).1::.fr (en x).2::pe)=.ok (q x) e1/\(q x=true->∃e2,d e1=.ok (g x) e2))->eF cc d pe (xs.a6 en)=ab ((xs.Mk q).a6 g)
 |[],_=>rfl
 |x::xs,h=>by
  let⟨e1,h1,h2⟩:=h x (by simp);have ih:=Ko (cc:=cc) (d:=d) (pe:=pe) (q:=q) (g:=g) (en:=en) xs λu hu=>h u (by simp[hu])
  rw[w0m,IE,h1,ih];cases hq:q x with
  |true=>
   let⟨e2,h3⟩:=h2 hq;simp only[hq,h3,w2q,Zz];rfl
  |false=>simp[hq,w2q]
def IY(n)  (hc:c.aj<=10):nN K a (n+3) Bv [.gs (c.a6 eo)]=.ok (.ku none ((eg c).a6 fun(k:aO)=>W.aT (k:a7))):=by
 have tS:=î hc;rw[zav];unfold Jz;rw?;rw[w0a,YA n hc];rw?;rw[N3,nZ (by rw[w0a,w1t];omega)];simp only[cw,gF,w0d,w0g];rw[Ko (q:=λk=>mt c (b_ c.aj k)) (g:=fun(k:aO)=>W.aT (k:a7))]
 .rw?;rfl
 .intro k hk;unfold N1 N0;rw?;rw[Y4 (n+1) (by rw[nR]) (by rw[nR];omega)];rw?;exact⟨_,rfl,λ_=>⟨_,rfl⟩⟩
def gc   : k∈eg c↔k<2^c.aj/\mt c (b_ c.aj k)=true:=by
 unfold eg;rw[w1k,w0y]
def Q5(c):(eg c).aj<=2^c.aj:=by
 unfold eg
 grind
def TL{m:aO}(h:m<=10):lg (2^m)=ab m:=by
 have:m=0\/m=1\/m=2\/m=3\/m=4\/m=5\/m=6\/m=7\/m=8\/m=9\/m=10:=by omega
 rcases this with h|h|h|h|h|h|h|h|h|h|h<;>(subst h;decide)
def KR(n)  {m:aO}(hw:ws.aj=2^m)(hm:m<=4):nN K a (n+3) Bm [.dI ws]=.ok (.fr (.aT m)):=by
 rw[Xq];unfold HX;rw?;rw[NB n,hw,TL (by omega)];unfold jn;rw?;rw[r5 (by omega)]
def jb(c w:ai (d3 ie)):ie:=(eg c).t9 λk=>w.hX k none != ab false
def y7j(o):gp (eo o) (.bl false)=ab (.bl (o != ab false)):=by
 cases o with
 |none=>rfl
 |ab b=>cases b<;>rfl
def LA{w:ai (d3 ie)}  (h:k<w.aj):eu (w.a6 eo) (k:a7)=ab (eo (w.hX k none)):=by
 refine pU ?_;simp[ai.hX,h]
def Qf(n)  (hw:w.aj=2^c.aj)(hc:c.aj<=4):nN K a (n+4) EJ [.gs (c.a6 eo),.dI (w.a6 eo)]=.ok (.fr (.bl (jb c w))):=by
 have tS:=î (show c.aj<=10 by omega);rw[z18];unfold K8;rw?;rw[KR n (by rw[w0a];exact hw) hc];rw?;simp only[w0a];rw?;rw[IY n (by omega)];rw?;rw[nZ (by rw[w0a];have:=Q5 c;omega)];simp only[cw,gF,w0d,w0g];rw[kT (g:=λk=>W.bl (w.hX k none != ab false))]
 .rw?;have e:(eg c).a6 (λk=>W.bl (w.hX k none != ab false))=((eg c).a6 λk=>w.hX k none != ab false).a6 .bl:=by rw[w0v];rfl
  rw[e,Lz];rw?;unfold jb;rw[w5a];rfl
 .intro k hk;have h1:=gc.mp hk;unfold PN;rw?;rw[LA (by omega)];rw?;rw[y7j];exact⟨_,rfl⟩
def aS(c:ai (d3 ie)):W:=.gs (c.a6 eo)
def mR(c:ai (d3 ie)):ai (ai (d3 ie)):=[c++[none],c++[ab false],c++[ab true]]
def bt:aO->ai (ai (d3 ie))
 |0=>[[]]
 |m+1=>(bt m).Ã mR
theorem Bt:∀m,(bt m).aj=3^m
 |0=>rfl
 |m+1=>by
  show((bt m).Ã mR).aj=_;rw[ai.length_flatMap]
  have:∀l:ai (ai (d3 ie)),(l.a6 λc=>(mR c).aj)._N=3*l.aj:=by
   intro l
   induction l with
   |so=>rfl
   |qT c l ih=>rw[w0m,ai.sum_cons,ih,w0z];show 3+3*l.aj=_;omega
  rw[this,Bt m,w1p,w3e]
theorem um:∀(m:aO)(c:ai (d3 ie)),c∈bt m↔c.aj=m
 |0,c=>by
  show c∈[[]]↔_;rw[w1i];exact w4r.symm
 |m+1,c=>by
  show c∈(bt m).Ã mR↔_;rw[ai.mem_flatMap];constructor
  .rintro⟨d,hd,h⟩;have:=(um m d).mp hd;simp only[mR,w0i,w1f,Zj]at h;rcases h with rfl|rfl|rfl<;>simp[this]
  .intro h;rcases ai.eq_nil_or_concat c with rfl|⟨d,o,rfl⟩
   .simp at h
   .rw[ai.concat_eq_append]at h |-
    refine⟨d,(um m d).wa (by simpa using h),?_⟩;cases o with
    |none=>simp[mR]
    |ab b=>cases b<;>simp[mR]
def z2e  {p:d3 ie}(h:c++[o]=d++[p]):c=d/\o=p:=by
 have:=ai.append_inj' h rfl;exact⟨this.1,by simpa using this.2⟩
theorem NH:∀m,(bt m).xZ
 |0=>by decide
 |m+1=>by
  show((bt m).Ã mR).xZ;rw[w4e,w5d];refine⟨λc _=>?_,(w4e.mp (NH m)).uM λ{c d} gm x hx y hy e=>?_⟩
  .simp[mR]
  .simp only[mR,w0i,w1f,Zj]at hx hy;subst e;rcases hx with rfl|rfl|rfl<;>rcases hy with h|h|h<;>exact gm (z2e h).1
theorem Qg(r0:aO->ai W->FR)(x0 x1 x2:S):∀(cs tG:ai (ai (d3 ie)))(z:S),(∀c∈cs,c.aj<=10)->tG.aj+3*cs.aj<=1000 ->
  ∃z',cV 4 (Dq K a r0) (cs.a6 aS) [x0,x1,x2,.ku none (tG.a6 aS),z]=.nx [x0,x1,x2,.ku none ((tG++cs.Ã mR).a6 aS),z']
 |[],tG,z,_,_=>⟨z,by simp[cV]⟩
 |c::cs,tG,z,hc,hl=>by
  have h1:=hc c (by simp);rw[w0z]at hl;let⟨z',ih⟩:=Qg r0 x0 x1 x2 cs (tG++mR c) (.fr (aS c)) (λd h=>hc d (by simp[h])) (by rw[w1e];show tG.aj+3+_<=_;omega)
  refine⟨z',?_⟩;rw[w0m,uo]
  have e1:Dq K a r0 [x0,x1,x2,.ku none (tG.a6 aS),.fr (aS c)]=.nx [x0,x1,x2,.ku none ((tG++mR c).a6 aS),.fr (aS c)]:=by
   unfold Dq aS;rw?;have l1:(c.a6 eo).aj<=16777215:=by rw[w0a];omega
   have l2:(tG.a6 λc=>W.gs (c.a6 eo)).aj<=16777213:=by rw[w0a];omega
   simp_all [mR,eo]
  simp_all [xA]
theorem D_  (h:m<=4):3^m<=81:=w1a (w0r (by decide) h) (by decide)
def zaD(n){m:aO}(hm:m<=4):nN K a (n+1) Iw [.aT (m:a7)]=.ok (.fr (.dI ((bt m).a6 aS))):=by
 rw[X1];unfold IQ;rw?;rw[nZ (oK (by omega) (by omega))];rw?
 let⟨e',h5,z2,z3,z4,rfl⟩:=pW (b:=HC K a (nN K a n)) (i:=2) (lo:=0) (hi:=(m:a7)) m (by omega) (λj e=>∃(z2 z3 z4:S),e=[.fr (.aT (m:a7)),.fr (.dI ((bt j).a6 aS)),z2,z3,z4]) [.fr (.aT (m:a7)),.fr (.dI [.gs []]),.no,.no,.no] ⟨_,_,_,rfl⟩ (by
  rintro j e hj ⟨z2,z3,z4,rfl⟩;unfold HC;rw?;let⟨z',h⟩:=Qg (K:=K) (a:=a) (nN K a n) (.fr (.aT (m:a7))) (.fr (.dI ((bt j).a6 aS))) (.fr (.aT (0+(j:a7)))) (bt j) [] z4 (λc h=>by rw[(um j c).mp h];omega) (by rw[Bt];have:=D_ (show j<=4 by omega);simp only[ai.length_nil];omega)
  simp only[w1x,w4b]at h;rw[h];rw?;exact⟨_,rfl,_,_,_,rfl⟩)
 rw[h5];rw?
open Fh
def sG(c:ai (d3 ie))(k:aO):ai (d3 ie):=c.wj k++none::c.xO (k+1)
def BG   (h:k<c.aj):(sG c k).aj=c.aj:=by
 unfold sG;simp;omega
def Cr(c w:ai (d3 ie)):ie:=(eg c).uJ λk=>w.hX k none==ab true
def tf(c:ai (d3 ie)):ai (ai (d3 ie)):=((ai.CC c.aj).Mk λk=>c.hX k none != none).a6 (sG c)
def nO(c w:ai (d3 ie)):ie:=jb c w&&(Cr c w&&!((tf c).uJ λd=>jb d w))
def z8l(o):gp (eo o) .aB=ab (.bl (o != none)):=by
 cases o with
 |none=>rfl
 |ab b=>rfl
def Q6(o):kO (eo o) (.bl true)=ab (.bl (o==ab true)):=by
 cases o with
 |none=>rfl
 |ab b=>cases b<;>rfl
def Li  {k:aO}(h:k<=xs.aj):gJ xs none (ab (k:a7))=xs.wj k:=by
 unfold gJ;rw[HT.mL,HT.iu,aO.min_eq_left h];simp
def Qh  {k:aO}(h:k<=xs.aj):gJ xs (ab (k:a7)) none=xs.xO k:=by
 unfold gJ;rw[HT.mL,HT.iu,aO.min_eq_left h];exact w2a (by simp)
def UX{c:ai (d3 ie)}  (h:k<c.aj):s_ (.gs (c.a6 eo)) none (ab (k:a7))=ab (.gs ((c.wj k).a6 eo)):=by
 show(if ¬(HT.cA (c.a6 eo).aj 0 none=0/\HT.cA (c.a6 eo).aj (c.a6 eo).aj (ab (k:a7))=(c.a6 eo).aj)then ab (W.gs (gJ (c.a6 eo) none (ab (k:a7))))else none)=_;rw[HT.iu,nZ (by rw[w0a];omega),Li (by rw[w0a];omega),w4s]
def z8m{c:ai (d3 ie)}  (h:k<c.aj):s_ (.gs (c.a6 eo)) (ab ((k:a7)+1)) none=ab (.gs ((c.xO (k+1)).a6 eo)):=by
 rw[show(k:a7)+1=((k+1:aO):a7)from rfl];show(if ¬(HT.cA (c.a6 eo).aj 0 (ab ((k+1:aO):a7))=0/\HT.cA (c.a6 eo).aj (c.a6 eo).aj none=(c.a6 eo).aj)then ab (W.gs (gJ (c.a6 eo) (ab ((k+1:aO):a7)) none))else none)=_;rw[HT.iu,nZ (by rw[w0a];omega),Qh (by rw[w0a];omega),w4t]
def z2f(c)(k):(c.wj k).a6 eo++[W.aB]++(c.xO (k+1)).a6 eo=(sG c k).a6 eo:=by
 unfold sG;simp[eo]
def y7k(n)  (hc:c.aj<=10):nN K a (n+1) HP [.gs (c.a6 eo)]=.ok (.ku none ((tf c).a6 aS)):=by
 rw[Xr];unfold HD;rw?;rw[w0a,nZ (oK (by omega) (by omega))];rw?;rw[nZ (by rw[D6];omega)];simp only[cw,gF,w0d,w0g];rw[O_,xB (q:=λk=>c.hX k none != none) (g:=λk=>aS (sG c k)) (en:=λk=>W.aT ((k:aO):a7)) (ai.CC c.aj)]
 .unfold tf;rw[w0v];rfl
 .intro k hk;rw[w0y]at hk;unfold Na M_;rw?;rw[LA hk];rw?;rw[z8l];rw?;refine⟨_,rfl,λ_=>?_⟩
  rw?;rw[UX hk];rw?;rw[nZ (by rw[w0a,w3b];omega)];rw?;rw[z8m hk];rw?;rw[nZ (by grind)];rw[z2f];exact⟨_,rfl⟩
def z8n  (h:d∈tf c):d.aj=c.aj:=by
 unfold tf at h;let⟨k,hk,rfl⟩:=w0u.mp h;have:=(w1k.mp hk).1;rw[w0y]at this;exact BG this
theorem R_(bs:ai ie):m_ [.dI (bs.a6 .bl)]=ab (.bl (bs.uJ id)):=UO
def z8o(c):(tf c).aj<=c.aj:=by
 unfold tf
 grind
def YB(n)  (hw:w.aj=2^c.aj)(hc:c.aj<=4):nN K a (n+5) IG [.gs (c.a6 eo),.dI (w.a6 eo)]=.ok (.fr (.bl (nO c w))):=by
 have tS:=î (show c.aj<=10 by omega);have hr:=Q5 c;have qJ:=z8o c;rw[zaK];unfold Jk;rw?;rw[Qf n hw hc];unfold nO;cases hf:jb c w with
 |false=>rw?;rfl
 |true=>
  rw?;rw[IY (n+1) (by omega)];rw?;rw[nZ (by rw[w0a];omega)];simp only[cw,gF,w0d,w0g];rw[kT (g:=λk=>W.bl (w.hX k none==ab true))]
  .rw?;have e:(eg c).a6 (λk=>W.bl (w.hX k none==ab true))=((eg c).a6 λk=>w.hX k none==ab true).a6 .bl:=by rw[w0v];rfl
   rw[e,R_];rw?;have e2:((eg c).a6 λk=>w.hX k none==ab true).uJ id=Cr c w:=by unfold Cr;rw[w5b];rfl
   rw[e2];cases ht:Cr c w with
   |false=>rw?;rfl
   |true=>
    rw?;rw[y7k (n+3) (by omega)];rw?;rw[nZ (by rw[w0a];omega)];simp only[cw,gF,w0d,w0g];rw[kT (g:=λd=>W.bl (jb d w)) (en:=aS)]
    .rw?;have e3:(tf c).a6 (λd=>W.bl (jb d w))=((tf c).a6 λd=>jb d w).a6 .bl:=by rw[w0v];rfl
     rw[e3,R_];rw?;rw[w5b];rfl
    .intro d hd;have hl:=z8n hd;unfold NF aS;rw?;rw[Qf n (by rw[hl];exact hw) (by omega)];exact⟨_,rfl⟩
  .intro k hk;have h1:=gc.mp hk;unfold NG;rw?;rw[LA (by omega)];rw?;rw[Q6];exact⟨_,rfl⟩
def zbi(n)   (hw:w.aj=2^m)(hm:m<=4):nN K a (n+6) Kc [.dI (w.a6 eo)]=.ok (.ku none (((bt m).Mk λc=>nO c w).a6 aS)):=by
 have h81:=D_ hm;have hl:=Bt m;rw[zba];unfold Kl;rw?;rw[KR (n+2) (by rw[w0a];exact hw) hm];rw?;rw[zaD (n+4) hm];rw?;rw[nZ (by rw[w0a];omega)];simp only[cw,gF,w0d,w0g];rw[xB (q:=λc=>nO c w) (g:=aS) (en:=aS) (bt m)]
 .rfl
 .intro c hc;have h1:=(um m c).mp hc;unfold Ov Ou aS;rw?;rw[YB n (by rw[h1];exact hw) (by omega)];rw?;exact⟨_,rfl,λ_=>⟨_,rfl⟩⟩
def nI(k:aO):W:=.aT (k:a7)
def wr(w:ai (d3 ie)):ai aO:=(ai.CC w.aj).Mk λk=>w.hX k none==ab true
theorem KS:∀ts:ai aO,(ts.a6 nI).t9 aM=true
 |[]=>rfl
 |_::ts=>by rw[w0m,w2v,KS ts];rfl
theorem Sa(k:aO):∀ts:ai aO,((ts.a6 nI).uJ λy=>jI y (.aT (k:a7)))=ts._G k
 |[]=>rfl
 |t::ts=>by
  rw[w0m,w2w,Sa k ts,ai.contains_cons];congr 1;show(((t:a7)==(k:a7)):ie)=(k==t);apply w1v.wa;simp only[_e];omega
def Ue(k)(ts:ai aO):lL (nI k) (.dI (ts.a6 nI))=ab (.bl (!ts._G k)):=by
 show(if aM (.aT (k:a7))=true/\(ts.a6 nI).t9 aM=true then ab (W.bl (!(ts.a6 nI).uJ λy=>jI y (.aT (k:a7))))else none)=_
 rw[nZ ⟨rfl,KS ts⟩,Sa]
def zaE(n){ns ts:ai aO}(h:ns.aj<=2000):nN K a (n+1) yC [.dI (ns.a6 nI),.dI (ts.a6 nI)]=.ok (.ku none ((ns.Mk λk=>!ts._G k).a6 nI)):=by
 rw[X2];unfold IT;rw?;rw[nZ (by rw[w0a];omega)];simp only[cw,gF,w0d,w0g];rw[xB (q:=λk=>!ts._G k) (g:=nI) (en:=nI) ns]
 .rfl
 .intro k _;unfold Nt Nr;rw?;rw[Ue];rw?;exact⟨_,rfl,λ_=>⟨_,rfl⟩⟩
def z8p(w:ai (d3 ie)):cj 0 (w.a6 eo)=(ai.CC w.aj).a6 fun(k:aO)=>(W.aT ((k:aO):a7),eo (w.hX k none)):=by
 have e:w.a6 eo=(ai.CC w.aj).a6 λk=>eo (w.hX k none):=by
  apply w2h;intro k
  by_cases h:k<w.aj
  .simp[w5m h,h,ai.hX]
  .simp[h,w4v h]
 rw[e,N3]
def zbj(n)   (hw:w.aj=2^m)(hm:m<=4):nN K a (n+4) HQ [.dI (w.a6 eo)]=.ok (.ku none ((wr w).a6 nI)):=by
 have tS:=î (show m<=10 by omega);rw[Xs];unfold HE;rw?;rw[KR n (by rw[w0a];exact hw) hm];rw?;rw[z8p,nZ (by rw[w0a,w1t];omega)];rw[Ko (q:=λk=>w.hX k none==ab true) (g:=nI)]
 .rfl
 .intro k hk;unfold Nd Nb;rw?;rw[Q6];rw?;exact⟨_,rfl,λ_=>⟨_,rfl⟩⟩
def Ug(w):(wr w).aj<=w.aj:=by
 unfold wr
 grind
abbrev Cb:=ai (d3 ie)
def wQ(n:a7)(l:ai aO):ie:=l.uJ λk=>decide ((k:a7)=n)
def fi(c:Cb):W:=.gs [aS c,.dI ((eg c).a6 nI)]
def hv(P:ai Cb)(n:a7):ai Cb:=P.Mk λc=>wQ n (eg c)
def lf(l:ai aO)(c:Cb):ai aO:=l.Mk λk=>!(eg c)._G k
theorem Q7(n):∀ts:ai aO,((ts.a6 nI).uJ λy=>jI y (.aT n))=wQ n ts
 |[]=>rfl
 |t::ts=>by
  show(jI (.aT (t:a7)) (.aT n)||(ts.a6 nI).uJ λy=>jI y (.aT n))=(decide ((t:a7)=n)||wQ n ts)
  rw[Q7 n ts];congr 1
def Uh(n)(ts):pk (.aT n) (.dI (ts.a6 nI))=ab (.bl (wQ n ts)):=by
 show(if aM (.aT n)=true/\(ts.a6 nI).t9 aM=true then ab (W.bl ((ts.a6 nI).uJ λy=>jI y (.aT n)))else none)=_
 rw[nZ ⟨rfl,KS ts⟩,Q7]
def Oa(n)  (hP:P.aj<=1000)(x):nN K a (n+1) Bx [.dI (P.a6 fi),.aT x]=.ok (.ku none ((hv P x).a6 fi)):=by
 rw[zbc];unfold Kn;rw?
 rw[w0a,nZ (by omega),xB (q:=λc=>wQ x (eg c)) (g:=fi) (en:=fi) P λc _=>by
  simp only[fB,aX,cw,gF,w0m,w1x,w2g,ai.foldl_nil,w0d,w0g];refine⟨[.fr (fi c),.fr (.aT x)],?_,λ_=>⟨[.fr (fi c),.fr (.aT x)],?_⟩⟩
  .unfold Ox;rw?;rw[show aP (fi c) (.aT 1)=ab (.dI ((eg c).a6 nI))from rfl];rw?;rw[Uh];rw?
  .unfold Ow;rw?]
 rw?;rfl
def Y5(n){w:Cb}  (hw:w.aj=2^m)(hm:m<=4):nN K a (n+7) Io [.dI (w.a6 eo)]=.ok (.ku none (((bt m).Mk λc=>nO c w).a6 fi)):=by
 have hl:((bt m).Mk λc=>nO c w).aj<=81:=by
  grind [Bt,D_]
 have hc:∀c∈(bt m).Mk λc=>nO c w,c.aj=m:=λc h=>(um m c).mp (w1k.mp h).1
 have pr:=zbi (K:=K) (a:=a) n hw hm;rw[XQ];unfold Ia;rw?;rw[pr];rw?;generalize (bt m).Mk (λc=>nO c w)=P at hl hc
 rw[w0a,nZ (by omega),kT (g:=fi) (en:=aS) P λc h=>by
  unfold Nm aS;rw?;rw[IY (n+3) (c:=c) (by rw[hc c h];omega)];rw?;exact⟨_,rfl⟩]
 rw?
theorem z2g(l)(c):(lf l c).aj<=l.aj:=w3t _ _
def z8q(k:aO)(l):wQ (k:a7) l=l._G k:=by
 unfold wQ
 grind
def Pm(w:Cb)(m:aO):ai Cb:=(bt m).Mk λc=>nO c w
def LB(w)  (hm:m<=4):(Pm w m).aj<=81/\∀c∈Pm w m,c.aj=m:=by
 refine⟨?_,λc h=>(um m c).mp (w1k.mp h).1⟩
 have:=w3t (λc=>nO c w) (bt m)
 rw[Bt]at this;have:=D_ hm;exact w1a ‹_› this
def tx(cs:ai aO):et:=⟨cs.l8⟩
def z8r(cs):(tx cs).Yp.wL=cs:=by simp[tx]
def Sb(as bs):tx as++tx bs=tx (as++bs):=by
 show et.mk (as.l8++bs.l8)=_;simp[tx]
def z8s:("":et)=tx []:=by decide +kernel
theorem Q8:∀cs:ai aO,et._u "" (cs.a6 λc=>tx [c])=tx cs
 |[]=>rfl
 |[c]=>rfl
 |c::d::cs=>by
  show tx [c]++""++et._u "" ((d::cs).a6 λc=>tx [c])=_
  rw[Q8 (d::cs),z8s,Sb,Sb];rfl
theorem z2h(cs):_a._u "" (cs.a6 λc=>tx [c])=tx cs:=(StrLaws.glued_eq_join _ _).kZ (Q8 cs)
theorem Q9:∀xs:ai et,i5 (xs.a6 .str)=ab xs
 |[]=>rfl
 |x::xs=>by
  show(i5 (xs.a6 W.str)).a6 (x::·)=_;rw[Q9 xs];rfl
def z2i(c:ai (d3 ie)):i5 (c.a6 λo=>.str (Yy o))=ab (c.a6 Yy):=by
 have:=Q9 (c.a6 Yy)
 rwa [w0v]at this
def z8t(o):(Yy o).aj=1:=by
 cases o with
 |none=>rfl
 |ab b=>cases b<;>rfl
theorem Q_:∀c:ai (d3 ie),((c.a6 Yy).a6 λx=>x.aj)._N=c.aj
 |[]=>rfl
 |o::c=>by
  rw[w0m,w0m,ai.sum_cons,Q_ c,z8t];simp;omega
def z2j(c:ai (d3 ie))(h:c.aj<=1000):mv (.str "") [.dI (c.a6 λo=>.str (Yy o))]=ab (.str (_a._u "" (c.a6 Yy))):=by
 show(match i5 (c.a6 λo=>W.str (Yy o))with
   |ab ys=>if jX "" ys=true then ab (W.str (_a._u "" ys))else none
   |none=>none)=_
 rw[z2i];show(if jX "" (c.a6 Yy)=true then ab (W.str (_a._u "" (c.a6 Yy)))else none)=_;rw[nZ];unfold jX;rw[Q_,w0a];have:("":et).aj=0:=rfl;rw[this,aO.mul_zero,aO.ble_eq];omega
def z2k(n){c:ai (d3 ie)}(h:c.aj<=1000):nN K a (n+1) Bp [.gs (c.a6 eo)]=.ok (.fr (.str (_a._u "" (c.a6 Yy)))):=by
 rw[XY];unfold IL;rw?
 rw[nZ (by rw[w0a];omega),kT (g:=λo=>W.str (Yy o)) c λo _=>⟨[.fr (eo o)],by
  unfold Np;rw?;rw[show uF (eo o)=ab (.str (Yy o))from by cases o<;>rfl];rw?⟩]
 rw?;rw[z2j c h];rw?
def gP(P:ai Cb)(k:aO):aO:=(hv P (k:a7)).aj
def lO(P:ai Cb):aO->ai aO->aO
 |b,[]=>b
 |b,k::l=>if gP P k<gP P b then lO P k l else lO P b l
def sZ(P:ai Cb):ai aO->aO
 |[]=>0
 |k::l=>lO P k l
theorem Kq(P):∀(l:ai aO)(b:aO),lO P b l=b\/lO P b l∈l
 |[],b=>.jd rfl
 |k::l,b=>by
  unfold lO;split
  .rcases Kq P l k with h|h
   all_goals grind
  .rcases Kq P l b with h|h
   .exact .jd h
   .exact .lb (w0p _ h)
def Ra(P)(k)(l):sZ P (k::l)∈k::l:=by
 rcases Kq P l k with h|h
 .exact w0i.wa (.jd h)
 .exact w0p _ h
def tJ(go:Cb->ai Cb ⊕ W)(num:aO):ai Cb->ai W->ai Cb ⊕ W
 |[],tG=>.lb (.gs [nI num,.gs tG])
 |c::cs,tG=>match go c with
  |.jd d=>.jd (c::d)
  |.lb t=>tJ go num cs (tG++[.gs [aS c,t]])
def cY(P:ai Cb):aO->ai aO->ai Cb ⊕ W
 |_,[]=>.jd []
 |0,k::l=>.lb (.gs [nI (sZ P (k::l)),.gs []])
 |n+1,k::l=>tJ (λc=>cY P n (lf (k::l) c)) (sZ P (k::l)) (hv P (sZ P (k::l):a7)) []
def bJ:ai Cb ⊕ W->W
 |.jd cs=>.gs [.str "cover", .dI (cs.a6 aS)]
 |.lb t=>.gs [.str "tree", t]
def E7(cs:ai Cb)(l:ai aO):Prop:=∀k∈l,∃c∈cs,k∈eg c
def lI    : k∈lf l c↔k∈l/\k∉eg c:=by
 unfold lf;rw[w1k];simp
def nJ  {k:aO}  : c∈hv P (k:a7)↔c∈P/\k∈eg c:=by
 unfold hv;rw[w1k,z8q];simp
theorem Rb{go:Cb->ai Cb ⊕ W}{num:aO}:∀{cs:ai Cb}{tG:ai W}{t:W},tJ go num cs tG=.lb t->∀c∈cs,∃u,go c=.lb u
 |[],_,_,_,_,h=>nomatch h
 |c::cs,tG,t,e,d,h=>by
  unfold tJ at e;cases q:go c with
  |jd x=>rw[q]at e;cases e
  |lb u=>
   rw[q]at e;rcases w0i.mp h with rfl|h
   .exact⟨u,q⟩
   .exact Rb e d h
theorem Rc  {num:aO}:∀{cs:ai Cb}{tG:ai W}{x:ai Cb},tJ go num cs tG=.jd x->∃c∈cs,∃d,go c=.jd d/\x=c::d
 |[],_,_,e=>by cases e
 |c::cs,tG,x,e=>by
  unfold tJ at e;cases q:go c with
  |jd d=>rw[q]at e;exact⟨c,w1b,d,q,(ZG.jd.zT e).symm⟩
  |lb u=>
   rw[q]at e;let⟨c',h,r⟩:=Rc e;exact⟨c',w0p _ h,r⟩
theorem Pa(P:ai Cb):∀(n:aO)(l:ai aO)(t:W),cY P n l=.lb t->∀cs:ai Cb,(∀c∈cs,c∈P)->cs.aj<=n->¬E7 cs l
 |n,[],t,e=>by unfold cY at e;cases e
 |0,k::l,t,_=>λcs _ hl hc=>by
  let⟨c,h,_⟩:=hc k w1b;cases cs with
  |so=>cases h
  |qT x y=>simp at hl
 |n+1,k::l,t,e=>λcs hP hl hc=>by
  unfold cY at e;let⟨c,h1,h2⟩:=hc _ (Ra P k l);let⟨u,hu⟩:=Rb e c (nJ.wa ⟨hP c h1,h2⟩);refine Pa P n _ u hu (cs.erase c) (λd hd=>hP d (ai.mem_of_mem_erase hd)) (by rw[w4m h1];omega) λj hj=>?_
  let⟨h3,h4⟩:=lI.mp hj;let⟨d,h5,h6⟩:=hc j h3
  grind
theorem Ee(P):∀(n:aO)(l:ai aO)(cs:ai Cb),cY P n l=.jd cs->(∀c∈cs,c∈P/\∃k∈l,k∈eg c)/\cs.aj<=n/\E7 cs l/\cs.xZ
 |n,[],cs,e=>by
  unfold cY at e;cases ZG.jd.zT e;exact⟨λ_ h=>(by cases h),w1g _,λ_ h=>(by cases h),ai.nodup_nil⟩
 |0,k::l,cs,e=>by unfold cY at e;cases e
 |n+1,k::l,cs,e=>by
  unfold cY at e;let⟨c,h1,d,h2,rfl⟩:=Rc e;let⟨CU,du⟩:=nJ.mp h1;let⟨a1,a2,a3,a4⟩:=Ee P n _ d h2;refine⟨λx hx=>?_,by rw[w0z];omega,λj hj=>?_,w2e.wa ⟨λz=>?_,a4⟩⟩
  .rcases w0i.mp hx with rfl|hx
   .exact⟨CU,_,Ra P k l,du⟩
   .let⟨b1,i,b2,b3⟩:=a1 x hx;exact⟨b1,i,(lI.mp b2).1,b3⟩
  .by_cases h:j∈eg c
   .exact⟨c,w1b,h⟩
   .let⟨x,b1,b2⟩:=a3 j (lI.wa ⟨hj,h⟩);exact⟨x,w0p _ b1,b2⟩
  .let⟨_,i,b2,b3⟩:=a1 c z;exact(lI.mp b2).2 b3
theorem Qi(P:ai Cb):∀(l:ai aO),(∀k∈l,∃c∈P,k∈eg c)->∃cs:ai Cb,(∀c∈cs,c∈P)/\cs.aj<=l.aj/\E7 cs l
 |[],_=>⟨[],λ_ h=>(by cases h),w0f _,λ_ h=>(by cases h)⟩
 |k::l,h=>by
  let⟨cs,h1,h2,h3⟩:=Qi P l λj hj=>h j (w0p _ hj)
  let⟨c,hc,hk⟩:=h k w1b;refine⟨c::cs,λd hd=>?_,by simp;omega,λj hj=>?_⟩
  .rcases w0i.mp hd with rfl|hd
   .exact hc
   .exact h1 d hd
  .rcases w0i.mp hj with rfl|hj
   .exact⟨c,w1b,hk⟩
   .let⟨d,d1,d2⟩:=h3 j hj;exact⟨d,w0p _ d1,d2⟩
theorem Pb{β:Type}(f:aO->α ⊕ β):∀(n:aO),(∃x,f n=.jd x)->∃d,d<=n/\(∃x,f d=.jd x)/\∀i,i<d->∃t,f i=.lb t
 |0,h=>⟨0,w0f _,h,λi hi=>uz hi (aO.not_lt_zero _)⟩
 |n+1,h=>by
  by_cases z:∃i,i<=n/\∃x,f i=.jd x
  .let⟨i,h1,h2⟩:=z;let⟨d,d1,d2,zcc⟩:=Pb f i h2;exact⟨d,by omega,d2,zcc⟩
  .refine⟨n+1,w0f _,h,λi hi=>?_⟩
   cases q:f i with
   |jd x=>exact(z ⟨i,by omega,x,q⟩).oa
   |lb t=>exact⟨t,rfl⟩
termination_by n=>n
structure LC(P:ai Cb)(l:ai aO)(N:aO)(cs:ai Cb)(T:W):Prop where
 U_:cY P N l=.jd cs
 aB:N=0->T=.aB
 tree:∀n,N=n+1->cY P n l=.lb T
def z8u{P:ai Cb}  (h:∀k∈l,∃c∈P,k∈eg c):∃d,d<=l.aj/\(∃x,cY P d l=.jd x)/\∀i,i<d->∃t,cY P i l=.lb t:=by
 refine Pb (λn=>cY P n l) l.aj ?_
 let⟨cs,h1,h2,h3⟩:=Qi P l h;cases q:cY P l.aj l with
 |jd x=>exact⟨x,rfl⟩
 |lb t=>exact(Pa P _ l t q cs h1 h2 h3).oa
def nn(c:Cb):aO:=(c.Mk λo=>o==none).aj
theorem Rf:∀{c:Cb}{r:ai ie}{j:aO},mt c r=true->mt (sG c j) r=true\/c.aj<=j
 |[],r,j,_=>.lb (w1g _)
 |o::c,[],j,_=>.jd (by cases j<;>rfl)
 |o::c,b::r,0,h=>by
  have h:((o==none||o==ab b)&&mt c r)=true:=h;rw[w0q]at h;refine .jd ?_;show((none==(none:d3 ie)||none==ab b)&&mt c r)=true;rw[h.2];rfl
 |o::c,b::r,j+1,h=>by
  have h:((o==none||o==ab b)&&mt c r)=true:=h;rw[w0q]at h;rcases Rf (j:=j) h.2 with z|z
  .refine .jd ?_;show((o==none||o==ab b)&&mt (sG c j) r)=true;rw[h.1,z];rfl
  .exact .lb (by simp;exact z)
end
theorem Rg:∀{c:Cb}{j:aO},(c.hX j none != none)=true->nn (sG c j)=nn c+1
 |[],j,h=>by simp at h
 |o::c,0,h=>by
  have h:(o != none)=true:=h;cases o with
  |none=>cases h
  |ab b=>rfl
 |o::c,j+1,h=>by
  have ih:=Rg (c:=c) (j:=j) h;show((o::sG c j).Mk λo=>o==none).aj=((o::c).Mk λo=>o==none).aj+1
  rw[w2q,w2q];unfold nn at ih;split
  .rw[w0z,w0z,ih]
  .exact ih
theorem UY(c):nn c<=c.aj:=w3t _ _
theorem Of{w:Cb}{k:aO}(hk:w.hX k none=ab true):∀(f:aO)(c:Cb),c.aj<=nn c+f->jb c w=true->k∈eg c->∃d:Cb,d.aj=c.aj/\nO d w=true/\k∈eg d/\∀i∈eg c,i∈eg d
 |f,c,hf,h1,h2=>by
  by_cases ha:(tf c).uJ (λd=>jb d w)=true
  .let⟨d,d1,d2⟩:=w2r.mp ha;let⟨j,j1,rfl⟩:=w0u.mp d1;let⟨j2,zcH⟩:=w1k.mp j1;have yr:=w0y.mp j2;have hnn:=Rg zcH;have hle:=UY (sG c j);rw[BG yr]at hle
   have qH:∀i∈eg c,i∈eg (sG c j):=λi hi=>by
    grind [gc,BG,Rf]
   cases f with
   |Yf=>omega
   |Ye f=>
    let⟨d,e1,e2,e3,e4⟩:=Of hk f (sG c j) (by rw[BG yr];omega) d2 (qH k h2);exact⟨d,by rw[e1,BG yr],e2,e3,λi hi=>e4 i (qH i hi)⟩
  .refine⟨c,rfl,?_,h2,λi hi=>hi⟩
   have ht:Cr c w=true:=w2r.wa ⟨k,h2,by rw[hk];rfl⟩;unfold nO;rw[h1,ht,w2l.wa ha];rfl
theorem Rh:∀r s:ai ie,r.aj=s.aj->(mt (r.a6 ab) s=true↔r=s)
 |[],[],_=>⟨λ_=>rfl,λ_=>rfl⟩
 |a::r,b::s,h=>by
  have ih:=Rh r s (by simpa using h)
  simp_all [mt]
def z8v  (hk:k<2^m)(hj:j<2^m)(h:b_ m k=b_ m j):k=j:=by
 grind [b_,z17]
def y7o{w:Cb}  (hw:w.aj=2^m)  (hk:k∈wr w):∃c∈Pm w m,k∈eg c:=by
 let⟨h1,h2⟩:=w1k.mp hk;have bZ:k<2^m:=by rw[<- hw];exact w0y.mp h1
 have h2:w.hX k none=ab true:=by simpa using h2
 have hl:((b_ m k).a6 ab).aj=m:=by rw[w0a,nR]
 have yq:∀i,i∈eg ((b_ m k).a6 ab)↔i=k:=λi=>by
  rw[gc,hl,Rh _ _ (by rw[nR,nR])];exact⟨fun⟨a1,a2⟩=>(z8v bZ a1 a2).symm,λe=>by subst e;exact⟨bZ,rfl⟩⟩
 have hf:jb ((b_ m k).a6 ab) w=true:=w1c.wa λi hi=>by
  rw[(yq i).mp hi,h2];rfl
 let⟨d,e1,e2,e3,_⟩:=Of h2 m _ (by rw[hl];omega) hf ((yq k).wa rfl);exact⟨d,w1k.wa ⟨(um m d).wa (by rw[e1,hl]),e2⟩,e3⟩
theorem Pc:∀l:ai aO,bE (l.a6 nI)=true
 |[]=>rfl
 |_::l=>Pc l
theorem Kr:∀c:Cb,bE (c.a6 eo)=true
 |[]=>rfl
 |none::c=>Kr c
 |ab _::c=>Kr c
theorem Pd:∀P:ai Cb,bE (P.a6 fi)=true
 |[]=>rfl
 |c::P=>by
  show((bE (c.a6 eo)&&(bE ((eg c).a6 nI)&&true))&&bE (P.a6 fi))=true;rw[Kr,Pc,Pd P];rfl
def z2l(n)  (hP:P.aj<=1000)(k:aO):nN K a (n+2) xv [.aT (k:a7),.dI (P.a6 fi)]=.ok (.fr (.aT (gP P k:a7))):=by
 have hh:=Oa (K:=K) (a:=a) n hP (k:a7);rw[Xi,nZ (show[W.aT (k:a7),.dI (P.a6 fi)].aj=2 from rfl)];unfold Dw;generalize nN K a (n+1)=r at hh |-
 simp only[w0m,w1x];rw?;rw[hh];rw?;rw[w0a];rfl
theorem Ri:∀l:ai aO,dn (l.a6 nI)=ab (l.a6 fun(k:aO)=>(k:a7))
 |[]=>rfl
 |k::l=>by
  show(dn (l.a6 nI)).a6 ((k:a7)::·)=_;rw[Ri l];rfl
theorem JC   (hF:∀k:aO,F (k:a7)=ab (gP P k:a7)):∀(l:ai aO)(b:aO),fV F (l.a6 fun(k:aO)=>(k:a7)) (ab ((b:a7),(gP P b:a7)))=ab (lO P b l:a7)
 |[],b=>rfl
 |k::l,b=>by
  show(match F (k:a7)with
   |ab n=>fV F (l.a6 fun(k:aO)=>(k:a7)) (fN (ab ((b:a7),(gP P b:a7))) (k:a7) n)
   |none=>none)=_
  rw[hF];show fV F (l.a6 fun(k:aO)=>(k:a7)) (if(gP P k:a7)<(gP P b:a7)then ab ((k:a7),(gP P k:a7))else ab ((b:a7),(gP P b:a7)))=ab ((if gP P k<gP P b then lO P k l else lO P b l:aO):a7)
  by_cases h:gP P k<gP P b
  .rw[nZ (by omega),nZ h,JC hF l k]
  .rw[r5 (by omega),r5 h,JC hF l b]
def Oh(n)  (hP:P.aj<=1000)(k)(l):nN K a (n+3) Kh [.dI (P.a6 fi),.dI ((k::l).a6 nI)]=.ok (.fr (nI (sZ P (k::l)))):=by
 have lr:=λk=>z2l (K:=K) (a:=a) n hP k
 rw[zbb];unfold Km;generalize nN K a (n+2)=r at lr |-
 rw?;show SR.fn (R.cH (qV r xv _ (.dI ((k::l).a6 nI)) (ab [.dI (P.a6 fi)])) _)=_;unfold qV;simp only[Ri];rw[nZ (show bE [W.dI (P.a6 fi)]=true by show(bE (P.a6 fi)&&true)=true;rw[Pd];rfl)];have hF:∀j:aO,gD (r xv [.aT (j:a7),.dI (P.a6 fi)])=ab (gP P j:a7):=λj=>by rw[lr j];rfl
 have e:fV (λi=>gD (r xv [.aT i,.dI (P.a6 fi)])) ((k::l).a6 fun(k:aO)=>(k:a7)) none=ab (sZ P (k::l):a7):=by
  show(match gD (r xv [.aT (k:a7),.dI (P.a6 fi)])with
   |ab n=>fV (λi=>gD (r xv [.aT i,.dI (P.a6 fi)])) (l.a6 fun(k:aO)=>(k:a7)) (fN none (k:a7) n)
   |none=>none)=_
  rw[hF k];exact JC hF l k
 rw[e];rfl
def ja(P:ai Cb)(l:ai aO)(ya num:aO)(tG:ai W)(z5 z6 z7:S):ai S:=[.fr (.dI (P.a6 fi)),.fr (.dI (l.a6 nI)),.fr (.aT ((ya+1:aO):a7)),.fr (nI num),.ku none tG,z5,z6,z7]
def JY(P:ai Cb)(l:ai aO)(ya num:aO)(tG:ai W)(c:Cb):ai Cb ⊕ W->SR
 |.jd d=>.rt (.fr (bJ (.jd (c::d)))) (ja P l ya num tG (.fr (aS c)) (.fr (.dI ((eg c).a6 nI))) (.fr (bJ (.jd d))))
 |.lb t=>.nx (ja P l ya num (tG++[.gs [aS c,t]]) (.fr (aS c)) (.fr (.dI ((eg c).a6 nI))) (.fr (bJ (.lb t))))
def zbk(r)   {ya num:aO}  {c:Cb}(h1:r yC [.dI (l.a6 nI),.dI ((eg c).a6 nI)]=.ok (.ku none ((lf l c).a6 nI)))
  (h2:r rH [.dI (P.a6 fi),.dI ((lf l c).a6 nI),.aT (ya:a7)]=.ok (.fr (bJ g)))(hg:∀d,g=.jd d->d.aj<=1000)(tG)(ha:tG.aj<=1000)(z7):
  vD K a r (ja P l ya num tG (.fr (aS c)) (.fr (.dI ((eg c).a6 nI))) z7)=JY P l ya num tG c g:=by
 unfold vD ja;rw?;rw[h1];rw?;rw[show((ya+1:aO):a7)-1=(ya:a7) by omega,h2];rw?;cases g with
 |jd d=>
  have:=hg d rfl;unfold JY ja bJ;rw?;rw[w0a,nZ (by omega)];rw?
  first|done|rfl
 |lb t=>
  unfold JY ja bJ;rw?;rw[nZ (by omega)]
theorem Ol(r:aO->ai W->FR){P:ai Cb}{l:ai aO}{ya num:aO}{go:Cb->ai Cb ⊕ W}(h1:∀c∈P,r yC [.dI (l.a6 nI),.dI ((eg c).a6 nI)]=.ok (.ku none ((lf l c).a6 nI)))
  (h2:∀c∈P,r rH [.dI (P.a6 fi),.dI ((lf l c).a6 nI),.aT (ya:a7)]=.ok (.fr (bJ (go c))))(hg:∀c d,go c=.jd d->d.aj<=1000):∀(cs:ai Cb)(tG:ai W)(z5 z6 z7:S),(∀c∈cs,c∈P)->tG.aj+cs.aj<=1000 ->
  (∃d e,tJ go num cs tG=.jd d/\ez 5 6 (vD K a r) (cs.a6 λc=>(aS c,.dI ((eg c).a6 nI))) (ja P l ya num tG z5 z6 z7)=.rt (.fr (bJ (.jd d))) e) \/
  ∃o6 yc yd mX,o6.aj<=1000/\tJ go num cs tG=.lb (.gs [nI num,.gs o6])/\ez 5 6 (vD K a r) (cs.a6 λc=>(aS c,.dI ((eg c).a6 nI))) (ja P l ya num tG z5 z6 z7)=.nx (ja P l ya num o6 yc yd mX)
 |[],tG,z5,z6,z7,_,hl=>.lb ⟨tG,z5,z6,z7,by simpa using hl,rfl,rfl⟩
 |c::cs,tG,z5,z6,z7,hc,hl=>by
  simp only[w0z]at hl;have Mn:=hc c w1b;have e:=zbk (K:=K) (a:=a) r (num:=num) (h1 c Mn) (h2 c Mn) (hg c) tG (by omega) z7;have u:∀x,vD K a r (ja P l ya num tG (.fr (aS c)) (.fr (.dI ((eg c).a6 nI))) z7)=x->ez 5 6 (vD K a r) ((c::cs).a6 λc=>(aS c,.dI ((eg c).a6 nI))) (ja P l ya num tG z5 z6 z7)=x.eK (ez 5 6 (vD K a r) (cs.a6 λc=>(aS c,.dI ((eg c).a6 nI)))):=λx h=>by rw[<- h];rfl
  rw[u _ e];unfold tJ;cases q:go c with
  |jd d=>exact .jd ⟨_,_,rfl,rfl⟩
  |lb t=>exact Ol r h1 h2 hg cs (tG++[.gs [aS c,t]]) _ _ _ (λd hd=>hc d (w0p _ hd)) (by rw[w1e];simp;omega)
theorem Qj:∀cs:ai Cb,d_ (cs.a6 fi)=ab (cs.a6 λc=>(aS c,.dI ((eg c).a6 nI)))
 |[]=>rfl
 |c::cs=>by
  show(d_ (cs.a6 fi)).a6 ((aS c,.dI ((eg c).a6 nI))::·)=_;rw[Qj cs];rfl
theorem zbl     (hn:n<=1000)(h:cY P n l=.jd d):d.aj<=1000:=w1a (Ee P n l d h).2.1 hn
theorem Pe{P:ai Cb}(hP:P.aj<=81):∀(ya n:aO)(l:ai aO),l.aj<=100->ya<=100->nN K a (n+ya+4) rH [.dI (P.a6 fi),.dI (l.a6 nI),.aT (ya:a7)]=.ok (.fr (bJ (cY P ya l)))
 |ya,n,[],_,_=>by
  rw[JB];unfold BN cY bJ;rw?
 |0,n,k::l,_,_=>by
  have rr:=Oh (K:=K) (a:=a) n (P:=P) (by omega) k l;rw[JB];unfold BN cY bJ;generalize nN K a (n+0+3)=r at rr |-
  have e1:bP bB (ae (af 1) ag) (Z0 8 [.dI (P.a6 fi),.dI ((k::l).a6 nI),.aT ((0:aO):a7)])=.ok (.aT ((l.aj+1:aO):a7)) (Z0 8 [.dI (P.a6 fi),.dI ((k::l).a6 nI),.aT ((0:aO):a7)]):=by
   unfold Z0;rw?;rw[w0a]
  rw?;rw[w0a,r5 (by omega)];rw[w0m]at rr;rw[rr];rw?
 |ya+1,n,k::l,hl,ze9=>by
  have rr:=Oh (K:=K) (a:=a) (n+ya+1) (P:=P) (by omega) k l;have hh:=Oa (K:=K) (a:=a) (n+ya+3) (P:=P) (by omega) (sZ P (k::l):a7);have h1:∀c∈P,nN K a (n+ya+4) yC [.dI ((k::l).a6 nI),.dI ((eg c).a6 nI)]=.ok (.ku none ((lf (k::l) c).a6 nI)):=λc _=>zaE (K:=K) (a:=a) (n+ya+3) (by omega)
  have h2:∀c∈P,nN K a (n+ya+4) rH [.dI (P.a6 fi),.dI ((lf (k::l) c).a6 nI),.aT (ya:a7)]=.ok (.fr (bJ (cY P ya (lf (k::l) c)))):=λc _=>Pe hP ya n _ (w1a (z2g _ c) hl) (by omega)
  have lp:=Ol (K:=K) (a:=a) (nN K a (n+ya+4)) (num:=sZ P (k::l)) h1 h2 (λc d h=>zbl (by omega) h) (hv P (sZ P (k::l):a7)) [] .no .no .no (λc hc=>(nJ.mp hc).1) (by
   grind [hv])
  rw[show n+(ya+1)+4=n+ya+4+1 by omega,JB];unfold BN cY;rw[show n+ya+1+3=n+ya+4 by omega]at rr;generalize nN K a (n+ya+4)=r at rr hh lp |-
  unfold ja at lp;rw[w0m]at rr lp |-
  rw?;rw[w0a,r5 (by omega),rr];rw?;rw[r5 (show ¬(((ya+1:aO):a7)=0) by omega)];rw[show r Bx [.dI (P.a6 fi),nI (sZ P (k::l))]=_ from hh];rw?;rw[Qj];rw?;rcases lp with⟨d,e,b1,b2⟩|⟨o6,z5,z6,z7,b0,b1,b2⟩
  .rw[b2,b1];rfl
  .rw[b2,b1];unfold bJ;rw?
def sc:d3 ie->aO
 |none=>45
 |ab false=>48
 |ab true=>49
def Ui(o):Yy o=tx [sc o]:=by
 cases o with
 |none=>decide +kernel
 |ab b=>cases b<;>decide +kernel
def ď(c:Cb):(_a._u "" (c.a6 Yy)).Yp.wL=c.a6 sc:=by
 rw[show c.a6 Yy=(c.a6 sc).a6 λc=>tx [c] by rw[w0v];exact w1o λo _=>Ui o,z2h,z8r]
theorem Lj  (h:u<v):∀x:ai aO,x++u<x++v
 |[]=>h
 |a::x=>w2u.wa (.lb ⟨rfl,Lj h x⟩)
theorem Sd:∀{x y:ai aO}(u v:ai aO),x.aj=y.aj->x<y->x++u<y++v
 |[],[],_,_,_,h=>(ai.lt_irrefl _ h).oa
 |a::x,b::y,u,v,hl,h=>by
  rcases w2u.mp h with h|⟨e,h⟩
  .exact w2u.wa (.jd h)
  .exact w2u.wa (.lb ⟨e,Sd u v (by simpa using hl) h⟩)
theorem Pf:∀m,(bt m).Zf λc d=>c.a6 sc<d.a6 sc
 |0=>ai.pairwise_singleton _ _
 |m+1=>by
  show((bt m).Ã mR).Zf _;rw[w5d];refine⟨λc _=>?_,?_⟩
  .unfold mR;simp only[w4g,w0i,w1f,Zj,w0x,ai.Zf.so,and_true];refine⟨λx hx=>?_,λx hx=>?_,λ_ h=>(by cases h)⟩
   .rcases hx with rfl|rfl<;>(rw[w0x];exact Lj (by decide) _)
   .subst hx;rw[w0x];exact Lj (by decide) _
  .refine ai.Zf.imp_of_mem (λ{c d} hc hd h x hx y hy=>?_) (Pf m)
   have lc:=(um m c).mp hc;have ld:=(um m d).mp hd;simp only[mR,w0i,w1f,Zj]at hx hy
   grind [Sd]
def kc(c:Cb):et:=_a._u "" (c.a6 Yy)
theorem Se  (hF:∀c:Cb,c.aj<=1000->F [aS c]=.ok (.fr (.str (kc c)))):∀cs:ai Cb,(∀c∈cs,c.aj<=1000)->iZ F (cs.a6 aS)=ab (cs.a6 kc)
 |[],_=>rfl
 |c::cs,h=>by
  show(match oT (F [aS c]),iZ F (cs.a6 aS)with
   |ab n,ab ns=>ab (n::ns)
   |_,_=>none)=_
  rw[hF c (h c w1b),Se hF cs λd hd=>h d (w0p _ hd)]
  rfl
def gR(P cs:ai Cb):ai Cb:=P.Mk λc=>cs._G c
theorem zbm(w)(m)(cs):(gR (Pm w m) cs).xZ:=ai.Zf.Mk _ (ai.Zf.Mk _ (NH m))
def iA   : c∈gR P cs↔c∈P/\c∈cs:=by
 unfold gR;rw[w1k];simp
theorem Pg    (h1:∀c∈cs,c∈Pm w m)(h2:cs.xZ):(gR (Pm w m) cs).Zx cs:=
 (ai.perm_ext_iff_of_nodup (zbm w m cs) h2).wa λc=>iA.kZ ⟨λh=>h.2,λh=>⟨h1 c h,h⟩⟩
def z8w  (hF:∀c:Cb,c.aj<=1000->F [aS c]=.ok (.fr (.str (kc c))))   (hm:m<=4)  (h1:∀c∈cs,c∈Pm w m)(h2:cs.xZ)(h3:cs.aj<64):uH F (.dI (cs.a6 aS))=ab ((gR (Pm w m) cs).a6 aS):=by
 have wZ:∀c∈cs,c.aj<=1000:=λc hc=>by rw[(LB w hm).2 c (h1 c hc)];omega
 show(if(cs.a6 aS).aj<64 then(iZ F (cs.a6 aS)).r7 λns=>nW ns (cs.a6 aS)else none)=_
 rw[w0a,nZ h3,Se hF cs wZ];show nW (cs.a6 kc) (cs.a6 aS)=_
 have hz:(cs.a6 kc).xR (cs.a6 aS)=cs.a6 λc=>(kc c,aS c):=by
  rw[ai.zip_map',]
 have pm:=Pg h1 h2;rw[z77 (zs:=(gR (Pm w m) cs).a6 λc=>(kc c,aS c)) (by rw[w0a,w0a]) (by rw[hz];exact pm.a6 _) ?_,w0v]
 .rfl
 .refine w3o.wa (ai.Zf.uM (λ{c d} h=>?_) (ai.Zf.Mk _ (ai.Zf.Mk _ (Pf m))))
  show(kc c).Yp.wL<(kc d).Yp.wL;unfold kc;rw[ď,ď];exact h
theorem Qk(R:aO->ai W->FR){P:ai Cb}{l:ai aO}(A:W)(hR:∀ya:aO,ya<=100->R rH [.dI (P.a6 fi),.dI (l.a6 nI),.aT (ya:a7)]=.ok (.fr (bJ (cY P ya l)))):∀(d j NN:aO)(T:W),(∃x,cY P (j+d) l=.jd x)->(∀i,i<d->∃t,cY P (j+i) l=.lb t)->j+d<=100->d<NN ->
  ∃T',(d=0->T'=T)/\(∀e,d=e+1->cY P (j+e) l=.lb T')/\bw (Bk K a R) (Di K a R) NN [.fr A,.fr (.dI (P.a6 fi)),.fr (.dI (l.a6 nI)),.fr (.aT (j:a7)),.fr T,.fr (bJ (cY P j l))]=.nx [.fr A,.fr (.dI (P.a6 fi)),.fr (.dI (l.a6 nI)),.fr (.aT ((j+d:aO):a7)),.fr T',.fr (bJ (cY P (j+d) l))]
 |0,j,NN+1,T,h1,_,_,_=>by
  let⟨x,hx⟩:=h1;refine⟨T,λ_=>rfl,λe he=>by omega,?_⟩
  simp only[w3s]at hx |-
  rw[vF,hx,show bJ (.jd x)=.gs [.str "cover", .dI (x.a6 aS)]from rfl];unfold Bk;rw?
 |d+1,j,NN+1,T,h1,h2,h3,h4=>by
  let⟨t,ht⟩:=h2 0 (by omega);rw[w3s]at ht;have e1:j+(d+1)=j+1+d:=by omega
  rw[e1]at h1 |-
  let⟨T',a1,a2,a3⟩:=Qk R A hR d (j+1) NN t h1 (λi hi=>by
   grind) (by omega) (by omega)
  refine⟨T',λz=>by omega,λe he=>?_,?_⟩
  .cases e with
   |Yf=>
    have:d=0:=by omega
    rw[a1 this,w3s];exact ht
   |Ye e=>
    grind
  .rw[<- a3,vF,ht];have hr:=hR (j+1) (by omega)
   have ew:Bk K a R [.fr A,.fr (.dI (P.a6 fi)),.fr (.dI (l.a6 nI)),.fr (.aT (j:a7)),.fr T,.fr (bJ (.lb t))]=.ok true [.fr A,.fr (.dI (P.a6 fi)),.fr (.dI (l.a6 nI)),.fr (.aT (j:a7)),.fr T,.fr (bJ (.lb t))]:=by
    unfold Bk bJ;rw?
   have el:Di K a R [.fr A,.fr (.dI (P.a6 fi)),.fr (.dI (l.a6 nI)),.fr (.aT (j:a7)),.fr T,.fr (bJ (.lb t))]=.nx [.fr A,.fr (.dI (P.a6 fi)),.fr (.dI (l.a6 nI)),.fr (.aT ((j+1:aO):a7)),.fr t,.fr (bJ (cY P (j+1) l))]:=by
    unfold Di;rw[show bJ (.lb t)=.gs [.str "tree", t]from rfl];rw?;rw[show(j:a7)+1=((j+1:aO):a7) by omega,hr];rw?
   rw[ew,y5a,nZ rfl,el];rfl
def y7r(n:aO){w:Cb}{m:aO}(hw:w.aj=2^m)(hm:m<=4):∃N cs T,N<=16/\LC (Pm w m) (wr w) N cs T/\nN K a (n+120) HR [.dI (w.a6 eo)]=.ok (.fr (.gs [.dI ((gR (Pm w m) cs).a6 aS),T])):=by
 have FA:(wr w).aj<=16:=by
  have:=Ug w;have:2^m<=16:=w1a (w0r (by decide) hm) (by decide);omega
 have hP:=(LB w hm).1;let⟨N,hN,⟨cs,tV⟩,ht⟩:=z8u (P:=Pm w m) (l:=wr w) λk hk=>y7o hw hk
 have rr:=Y5 (K:=K) (a:=a) (n+112) hw hm;have wi:=zbj (K:=K) (a:=a) (n+115) hw hm
 have tr:∀ya:aO,ya<=100->nN K a (n+119) rH [.dI ((Pm w m).a6 fi),.dI ((wr w).a6 nI),.aT (ya:a7)]=.ok (.fr (bJ (cY (Pm w m) ya (wr w)))):=λya hc=>by
  have:=Pe (K:=K) (a:=a) hP ya (n+115-ya) (wr w) (by omega) hc
  rwa [show n+115-ya+ya+4=n+119 by omega]at this
 have tx:∀c:Cb,c.aj<=1000->nN K a (n+119) Bp [aS c]=.ok (.fr (.str (kc c))):=λc hc=>z2k (K:=K) (a:=a) (n+118) hc
 let⟨T,a1,a2,a3⟩:=Qk (K:=K) (a:=a) (nN K a (n+119)) (.dI (w.a6 eo)) tr N 0 1000000 .aB (by rw[w1y];exact⟨cs,tV⟩) (λi hi=>by rw[w1y];exact ht i hi) (by omega) (by omega)
 rw[w1y]at a3;have L:LC (Pm w m) (wr w) N cs T:=⟨tV,a1,λe he=>by have:=a2 e he;rwa [w1y]at this⟩
 let⟨b1,b2,b3,b4⟩:=Ee _ _ _ _ tV;refine⟨N,cs,T,by omega,L,?_⟩;have sr:=z8w (F:=nN K a (n+119) Bp) tx hm (λc hc=>(b1 c hc).1) b4 (by omega)
 rw[Xt];unfold HF;rw[show n+112+7=n+119 by omega]at rr;rw[show n+115+4=n+119 by omega]at wi;have t0:=tr 0 (by omega);generalize nN K a (n+119)=r at rr wi t0 a3 sr |-
 rw?;rw[rr];rw?;rw[wi];rw?;rw[show r rH [.dI (((bt m).Mk λc=>nO c w).a6 fi),.dI ((wr w).a6 nI),.aT 0]=_ from t0]
 rw?;rw[show((bt m).Mk λc=>nO c w)=Pm w m from rfl,show(0:a7)=((0:aO):a7)from rfl,a3,tV]
 rw[show bJ (.jd cs)=.gs [.str "cover", .dI (cs.a6 aS)]from rfl];rw?;rw[sr];rw?
set_option genInjectivity true in
inductive Fm where
 |is (b:ie)|at (p:aO)|not (f:Fm)|and (f g:Fm)|or (f g:Fm)|Y_ (f g:Fm)
def r8:Fm->W
 |.is b=>.gs [.str "is", .bl b]
 |.at p=>.gs [.str "at", .aT p]
 |.not f=>.gs [.str "not", r8 f]
 |.and f g=>.gs [.str "and", r8 f,r8 g]
 |.or f g=>.gs [.str "or", r8 f,r8 g]
 |.Y_ f g=>.gs [.str "odd", r8 f,r8 g]
def Fm.ql:Fm->aO
 |.is _=>1
 |.at _=>1
 |.not f=>f.ql+1
 |.and f g=>max f.ql g.ql+1
 |.or f g=>max f.ql g.ql+1
 |.Y_ f g=>max f.ql g.ql+1
inductive O3 where
 |a|o|d
def wd:O3->et
 |.a=>"and"
 |.o=>"or"
 |.d=>"odd"
def GQ:O3->Fm->Fm->Fm
 |.a=>.and
 |.o=>.or
 |.d=>.Y_
def Fm.qt:Fm->Fm
 |.is b=>.is (!b)
 |f=>.not f
def kf:O3->ie->Fm->Fm
 |.a,true,f=>f
 |.a,false,_=>.is false
 |.o,true,_=>.is true
 |.o,false,f=>f
 |.d,true,f=>f.qt
 |.d,false,f=>f
def Fm.fG(o:O3)(f g:Fm):Fm:=match f with
 |.is b=>kf o b g
 |f=>match g with
  |.is b=>kf o b f
  |g=>GQ o f g
def z2m(n)(f):nN K a (n+1) Iu [r8 f]=.ok (.fr (r8 f.qt)):=by
 rw[XZ];unfold IM;cases f<;>simp only[r8,Fm.qt]<;>rw?
def Ql(n)(o)(b)(f):nN K a (n+2) DK [.str (wd o),.bl b,r8 f]=.ok (.fr (r8 (kf o b f))):=by
 rw[XO];unfold H_;have h:=z2m (K:=K) (a:=a) n f;cases o<;>cases b<;>simp only[wd,kf]<;>rw?<;>first|rfl|(rw[h];rw?)
def Fm.hd:Fm->et
 |.is _=>"is"
 |.at _=>"at"
 |.not _=>"not"
 |.and _ _=>"and"
 |.or _ _=>"or"
 |.Y_ _ _=>"odd"
def Rj(f):aP (r8 f) (.aT 0)=ab (.str f.hd):=by cases f<;>rfl
def ET(f:Fm):f.hd="is"↔∃b,f=.is b:=by
 cases f with
 |is b=>exact⟨λ_=>⟨b,rfl⟩,λ_=>rfl⟩
 |_=>exact⟨λh=>uz h (by simp only[Fm.hd];decide),fun⟨b,h⟩=>by cases h⟩
theorem z8x    : Fm.fG o (.is b) g=kf o b g:=rfl
def BH    (hf:¬∃b,f=.is b):Fm.fG o f (.is b)=kf o b f:=by
 cases f with
 |is b=>exact uz ⟨b,rfl⟩ hf
 |_=>rfl
def sS   (hf:¬∃b,f=.is b)(hg:¬∃b,g=.is b):Fm.fG o f g=GQ o f g:=by
 cases f with
 |is b=>exact uz ⟨b,rfl⟩ hf
 |_=>cases g with
  |is b=>exact uz ⟨b,rfl⟩ hg
  |_=>rfl
def z8y   : r8 (GQ o f g)=.gs [.str (wd o),r8 f,r8 g]:=by cases o<;>rfl
def Ef(n)(o)(f g):nN K a (n+3) sU [.str (wd o),r8 f,r8 g]=.ok (.fr (r8 (f.fG o g))):=by
 rw[y7d];unfold KP;rw?;rw[Rj];rw?
 by_cases hf:∃b,f=.is b
 .let⟨b,rfl⟩:=hf;rw[nZ ((ET (.is b)).wa ⟨b,rfl⟩),z8x];simp only[r8];rw?;rw[Ql n o b g];rw?
 .rw[r5 (by rw[ET];exact hf),Rj];rw?
  by_cases hg:∃b,g=.is b
  .let⟨b,rfl⟩:=hg;rw[nZ ((ET (.is b)).wa ⟨b,rfl⟩),BH hf];simp only[r8];rw?;rw[Ql n o b f];rw?
  .rw[r5 (by rw[ET];exact hg),sS hf hg,z8y]
def Fm.dS:Fm->aO
 |.is _=>1
 |.at _=>1
 |.not f=>f.dS+1
 |.and f g=>f.dS+g.dS+1
 |.or f g=>f.dS+g.dS+1
 |.Y_ f g=>f.dS+g.dS+1
def Fm.A'(p:aO):Fm->ie
 |.is _=>false
 |.at q=>decide (q=p)
 |.not f=>f.A' p
 |.and f g=>f.A' p||g.A' p
 |.or f g=>f.A' p||g.A' p
 |.Y_ f g=>f.A' p||g.A' p
theorem vA:∀(f:Fm),bX (r8 f)<=f.ql
 |.is b=>by simp[r8,bX,bS,Fm.ql]
 |.at p=>by simp[r8,bX,bS,Fm.ql]
 |.not f=>by have:=vA f;simp[r8,bX,bS,Fm.ql];omega
 |.and f g=>by have:=vA f;have:=vA g;simp[r8,bX,bS,Fm.ql];omega
 |.or f g=>by have:=vA f;have:=vA g;simp[r8,bX,bS,Fm.ql];omega
 |.Y_ f g=>by have:=vA f;have:=vA g;simp[r8,bX,bS,Fm.ql];omega
def z2n(ws)(k:aO):gJ ws none (ab (k:a7))=ws.wj k:=by
 unfold gJ;rw[HT.iu];simp[HT.cA]
def z2o(ws)(k:aO)(h:k<=ws.aj):gJ ws (ab (k:a7)) none=ws.xO k:=by
 grind [gJ,HT.cA,ai.take_of_length_le]
def Zy(bs:ai ie):ie:=bs.t9 λb=>b==bs.hX 0 false
def Fm.kN:Fm->ie
 |.is true=>true
 |_=>false
def fO(p:aO)(l h:Fm):Fm:=
 if l.kN=true then Fm.fG .o (.not (.at p)) h
 else if h.kN=true then Fm.fG .o (.at p) l
 else Fm.fG .o (Fm.fG .a (.not (.at p)) l) (Fm.fG .a (.at p) h)
def ff:aO->aO->ai ie->Fm
 |0,_,bs=>.is (bs.hX 0 false)
 |m+1,p,bs=>
  if Zy bs=true then .is (bs.hX 0 false)
  else if bs.wj (2^m)=bs.xO (2^m)then ff m (p+1) (bs.wj (2^m))
  else if Zy (bs.wj (2^m))=false/\bs.xO (2^m)=(bs.wj (2^m)).a6 not then .Y_ (ff m (p+1) (bs.wj (2^m))) (.at p)
  else fO p (ff m (p+1) (bs.wj (2^m))) (ff m (p+1) (bs.xO (2^m)))
def fM(f:Fm):Prop:=¬∃b,f=.is b
theorem Sf  (h:Zy bs=true):∀b∈bs,b=bs.hX 0 false:=λb hb=>by
 have:=w1c.mp h b hb
 simpa using this
def Lk   (h:∀b∈bs,b=c):Zy bs=true:=by
 unfold Zy;rw[w1c];intro b hb;cases bs with
 |so=>cases hb
 |qT x xs=>
  have h1:=h x (by simp);have h2:=h b hb;simp[h1,h2]
def JD(p)(l h)(hn:∀b,¬(l=.is b/\h=.is b)):
  (l=.is true/\h=.is false/\fO p l h=.not (.at p))\/(l=.is true/\fM h/\fO p l h=.or (.not (.at p)) h) \/
  (l=.is false/\h=.is true/\fO p l h=.at p)\/(fM l/\h=.is true/\fO p l h=.or (.at p) l) \/
  (l=.is false/\fM h/\fO p l h=.and (.at p) h)\/(fM l/\h=.is false/\fO p l h=.and (.not (.at p)) l) \/
  (fM l/\fM h/\fO p l h=.or (.and (.not (.at p)) l) (.and (.at p) h)):=by
 have nt:fM (.not (.at p)):=fun⟨b,e⟩=>by cases e
 have _c:fM (.at p):=fun⟨b,e⟩=>by cases e
 have lD:∀f:Fm,fM f->f.kN=false:=λf hf=>by
  cases f with
  |is b=>exact uz ⟨b,rfl⟩ hf
  |_=>rfl
 by_cases hl:∃b,l=.is b
 .let⟨b,rfl⟩:=hl
  by_cases hh:∃c,h=.is c
  .let⟨c,rfl⟩:=hh;cases b<;>cases c
   .exact uz ⟨rfl,rfl⟩ (hn false)
   .exact .lb (.lb (.jd ⟨rfl,rfl,rfl⟩))
   .exact .jd ⟨rfl,rfl,rfl⟩
   .exact uz ⟨rfl,rfl⟩ (hn true)
  .have hT:=lD h hh;cases b with
   |true=>
    refine .lb (.jd ⟨rfl,hh,?_⟩);unfold fO;rw[nZ (show(Fm.is true).kN=true from rfl),sS nt hh];rfl
   |false=>
    refine .lb (.lb (.lb (.lb (.jd ⟨rfl,hh,?_⟩))));unfold fO;rw[r5 (by decide),r5 (by rw[hT];decide),BH nt,sS _c hh];rfl
 .have lT:=lD l hl
  by_cases hh:∃c,h=.is c
  .let⟨c,rfl⟩:=hh;cases c with
   |true=>
    refine .lb (.lb (.lb (.jd ⟨hl,rfl,?_⟩)));unfold fO;rw[r5 (by rw[lT];decide),nZ (show(Fm.is true).kN=true from rfl),sS _c hl];rfl
   |false=>
    refine .lb (.lb (.lb (.lb (.lb (.jd ⟨hl,rfl,?_⟩)))));unfold fO;rw[r5 (by rw[lT];decide),r5 (by decide),BH _c,sS nt hl];rfl
  .have hT:=lD h hh;refine .lb (.lb (.lb (.lb (.lb (.lb ⟨hl,hh,?_⟩)))));unfold fO;rw[r5 (by rw[lT];decide),r5 (by rw[hT];decide),sS nt hl,sS _c hh];rfl
def EG  {bs:ai ie}(h:bs.aj=2^(m+1)):(bs.wj (2^m)).aj=2^m/\(bs.xO (2^m)).aj=2^m:=by
 grind
theorem EH(m):0<2^m:=w3j m
theorem yT:∀(m p:aO)(bs:ai ie),bs.aj=2^m->∀b,ff m p bs=.is b->∀x∈bs,x=b
 |0,p,bs,hl,b,h,x,hx=>by
  have:bs.hX 0 false=b:=by injection h
  obtain⟨y,rfl⟩:∃y,bs=[y]:=by
   match bs,hl with
   |[y],_=>exact⟨y,rfl⟩
  simp at hx this;rw[hx,this]
 |m+1,p,bs,hl,b,h,x,hx=>by
  let⟨t1,t2⟩:=EG hl;unfold ff at h
  by_cases c1:Zy bs=true
  .rw[nZ c1]at h;have e:bs.hX 0 false=b:=by injection h
   rw[<- e];exact Sf c1 x hx
  .rw[r5 c1]at h
   by_cases c2:bs.wj (2^m)=bs.xO (2^m)
   .rw[nZ c2]at h;have ih:=yT m (p+1) _ t1 b h
    grind [ai.Ĩ]
   .rw[r5 c2]at h;exfalso
    by_cases c3:Zy (bs.wj (2^m))=false/\bs.xO (2^m)=(bs.wj (2^m)).a6 not
    .rw[nZ c3]at h;cases h
    .rw[r5 c3]at h
     have nn:∀b,¬(ff m (p+1) (bs.wj (2^m))=.is b/\ff m (p+1) (bs.xO (2^m))=.is b):=λb ⟨z1,z2⟩=>by
      have q1:=yT m (p+1) _ t1 b z1;have q2:=yT m (p+1) _ t2 b z2;refine c1 (Lk (c:=b) λy hy=>?_)
      grind [ai.Ĩ]
     grind [JD]
theorem UZ   (hl:bs.aj=2^(m+1))(c1:¬Zy bs=true):∀b,¬(ff m (p+1) (bs.wj (2^m))=.is b/\ff m (p+1) (bs.xO (2^m))=.is b):=λb ⟨z1,z2⟩=>by
 let⟨t1,t2⟩:=EG hl;have q1:=yT m (p+1) _ t1 b z1;have q2:=yT m (p+1) _ t2 b z2;refine c1 (Lk (c:=b) λy hy=>?_)
 grind [ai.Ĩ]
theorem EK{C:aO->aO->ai ie->Fm->Prop}(h0:∀m p bs,bs.aj=2^m->(∀x∈bs,x=bs.hX 0 false)->C m p bs (.is (bs.hX 0 false)))
  (h1:∀m p (bs l:ai ie),bs=l++l->l.aj=2^m->C m (p+1) l (ff m (p+1) l)->C (m+1) p bs (ff m (p+1) l))
  (h2:∀m p (bs l:ai ie),bs=l++l.a6 not->l.aj=2^m->Zy l=false->C m (p+1) l (ff m (p+1) l)->C (m+1) p bs (.Y_ (ff m (p+1) l) (.at p)))
  (h3:∀m p (bs l h:ai ie),bs=l++h->l.aj=2^m->h.aj=2^m->l≠h->C m (p+1) l (ff m (p+1) l)->C m (p+1) h (ff m (p+1) h)->(∀b,¬(ff m (p+1) l=.is b/\ff m (p+1) h=.is b))->C (m+1) p bs (fO p (ff m (p+1) l) (ff m (p+1) h))):
  ∀(m p:aO)(bs:ai ie),bs.aj=2^m->C m p bs (ff m p bs)
 |0,p,bs,hl=>by
  refine h0 0 p bs hl λx hx=>?_
  match bs,hl with
  |[y],_=>simpa using hx
 |m+1,p,bs,hl=>by
  let⟨t1,t2⟩:=EG hl;have e:bs=bs.wj (2^m)++bs.xO (2^m):=(w1u _ _).symm;have i1:=EK h0 h1 h2 h3 m (p+1) _ t1;have i2:=EK h0 h1 h2 h3 m (p+1) _ t2;unfold ff
  by_cases c1:Zy bs=true
  .rw[nZ c1];exact h0 _ _ _ hl (Sf c1)
  .rw[r5 c1]
   by_cases c2:bs.wj (2^m)=bs.xO (2^m)
   .rw[nZ c2];exact h1 m p bs _ (by rw[<- c2]at e;exact e) t1 i1
   .rw[r5 c2]
    by_cases c3:Zy (bs.wj (2^m))=false/\bs.xO (2^m)=(bs.wj (2^m)).a6 not
    .rw[nZ c3];exact h2 m p bs _ (by rw[<- c3.2];exact e) t1 c3.1 i1
    .rw[r5 c3];exact h3 m p bs _ _ e t1 t2 c2 i1 i2 (UZ hl c1)
def Fm.iF:Fm->aO->aO
 |.is _,_=>0
 |.at _,_=>0
 |.not f,l=>f.iF 3+(if 3<l then 1 else 0)
 |.and f g,l=>max (f.iF 2) (g.iF 3)+(if 2<l then 1 else 0)
 |.or f g,l=>max (f.iF 0) (g.iF 1)+(if 0<l then 1 else 0)
 |.Y_ f g,l=>max (f.iF 1) (g.iF 2)+(if 1<l then 1 else 0)
def BR(f:Fm)(l):f.iF l<=f.iF 0+1:=by
 cases f<;>simp only[Fm.iF]<;>first|omega|(split<;>simp<;>omega)
structure zi(m p:aO)(F:Fm):Prop where
 d:F.ql<=3*m+1
 z:(∃b,F=.is b)\/(F.dS+6<=4*2^m)
 o:F.iF 0<=m
 i:∀q,F.A' q=true->p<=q/\q<p+m
def KU(m p)(bs)(hl:bs.aj=2^m):zi m p (ff m p bs):=by
 refine EK (C:=λm p bs F=>zi m p F) ?_ ?_ ?_ ?_ m p bs hl
 .intro m p bs _ _;exact⟨by simp[Fm.ql],.jd ⟨_,rfl⟩,by simp[Fm.iF],λq h=>by cases h⟩
 .intro m p bs l _ _ ih;have:=EH m;refine⟨by have:=ih.d;omega,ih.z.uM id λh=>by rw[w1p];omega,by have:=ih.o;omega,λq h=>by have:=ih.i q h;omega⟩
 .intro m p bs l _ F7 hc ih;have h0:=EH m;have h1:=BR (ff m (p+1) l) 1;refine⟨by have:=ih.d;simp only[Fm.ql];omega,.lb ?_,by have:=ih.o;simp(config:={decide:=true}) only[Fm.iF,Zz,_t];omega,λq h=>?_⟩
  .rw[w1p];simp only[Fm.dS];rcases ih.z with⟨b,hb⟩|hz
   .have:=Lk (yT m (p+1) l F7 b hb);rw[hc]at this;cases this
   .omega
  .have h:((ff m (p+1) l).A' q||decide (p=q))=true:=h;rcases w1r _ _ ▸ h with z|z
   .have:=ih.i q z;omega
   .have:=_j z;omega
 .intro m p bs l h _ _ _ _ il ih nn;have h0:=EH m;have a1:=BR (ff m (p+1) l) 1;have a3:=BR (ff m (p+1) l) 3;have b1:=BR (ff m (p+1) h) 1;have b3:=BR (ff m (p+1) h) 3;have dl:=il.d;have dh:=ih.d;have ol:=il.o;have zfm:=ih.o;have zl:fM (ff m (p+1) l)->(ff m (p+1) l).dS+6<=4*2^m:=λn=>il.z.ϩ n
  have zh:fM (ff m (p+1) h)->(ff m (p+1) h).dS+6<=4*2^m:=λn=>ih.z.ϩ n
  have kl:=il.i;have kh:=ih.i;rcases JD p _ _ nn with⟨e1,e2,e⟩|⟨e1,e2,e⟩|⟨e1,e2,e⟩|⟨e1,e2,e⟩|⟨e1,e2,e⟩|⟨e1,e2,e⟩|⟨e1,e2,e⟩<;>rw[e]
  .refine⟨by simp only[Fm.ql];omega,.lb (by simp only[Fm.dS];rw[w1p];omega),by simp(config:={decide:=true}) only[Fm.iF,Zz,_t];omega,λq hq=>?_⟩
   have:=_j (show decide (p=q)=true from hq);omega
  .have:=zh e2;refine⟨by simp only[Fm.ql];omega,.lb (by simp only[Fm.dS];rw[w1p];omega),by simp(config:={decide:=true}) only[Fm.iF,Zz,_t];omega,λq hq=>?_⟩
   rcases w1r _ _ ▸ (show(decide (p=q)||(ff m (p+1) h).A' q)=true from hq)with z|z
   .have:=_j z;omega
   .have:=kh q z;omega
  .refine⟨by simp only[Fm.ql];omega,.lb (by simp only[Fm.dS];rw[w1p];omega),by simp(config:={decide:=true}) only[Fm.iF,Zz,_t];omega,λq hq=>?_⟩
   have:=_j (show decide (p=q)=true from hq);omega
  .have:=zl e1;refine⟨by simp only[Fm.ql];omega,.lb (by simp only[Fm.dS];rw[w1p];omega),by simp(config:={decide:=true}) only[Fm.iF,Zz,_t];omega,λq hq=>?_⟩
   rcases w1r _ _ ▸ (show(decide (p=q)||(ff m (p+1) l).A' q)=true from hq)with z|z
   .have:=_j z;omega
   .have:=kl q z;omega
  .have:=zh e2;refine⟨by simp only[Fm.ql];omega,.lb (by simp only[Fm.dS];rw[w1p];omega),by simp(config:={decide:=true}) only[Fm.iF,Zz,_t];omega,λq hq=>?_⟩
   rcases w1r _ _ ▸ (show(decide (p=q)||(ff m (p+1) h).A' q)=true from hq)with z|z
   .have:=_j z;omega
   .have:=kh q z;omega
  .have:=zl e1;refine⟨by simp only[Fm.ql];omega,.lb (by simp only[Fm.dS];rw[w1p];omega),by simp(config:={decide:=true}) only[Fm.iF,Zz,_t];omega,λq hq=>?_⟩
   rcases w1r _ _ ▸ (show(decide (p=q)||(ff m (p+1) l).A' q)=true from hq)with z|z
   .have:=_j z;omega
   .have:=kl q z;omega
  .have:=zl e1;have:=zh e2;refine⟨by simp only[Fm.ql];omega,.lb (by simp only[Fm.dS];rw[w1p];omega),by simp(config:={decide:=true}) only[Fm.iF,Zz,_t];omega,λq hq=>?_⟩
   rcases w1r _ _ ▸ (show((decide (p=q)||(ff m (p+1) l).A' q)||(decide (p=q)||(ff m (p+1) h).A' q))=true from hq)with z|z
   all_goals grind
theorem EL   (g):∀(ws:ai W),(∀w∈ws,∃e,d (.fr w::pe)=.ok (g w) e)->b7 bx d pe ws=ab (ws.a6 g)
 |[],_=>rfl
 |w::ws,h=>by
  let⟨e,h1⟩:=h w (by simp);rw[D5];show(match d (.fr w::pe)with|.ok y _=>(b7 bx d pe ws).a6 (y::·)|_=>none)=_;rw[h1,EL g ws λu hu=>h u (by simp[hu])]
  rfl
theorem Rl:∀as bs:ai ie,cX (as.a6 .bl) (bs.a6 .bl)=ab (decide (as=bs))
 |[],[]=>rfl
 |[],b::bs=>by simp[cX]
 |x::as,[]=>by simp[cX]
 |x::as,b::bs=>by
  rw[w0m,w0m];show(match gK (.bl x) (.bl b),cX (as.a6 .bl) (bs.a6 .bl)with|ab a,ab b=>ab (a&&b)|_,_=>none)=_;rw[Rl as bs];show ab ((x==b)&&decide (as=bs))=_;congr 1;rw[w1v];simp
theorem Qm:∀r:ai ie,bS (r.a6 .bl)=0
 |[]=>rfl
 |b::r=>by show max 0 (bS (r.a6 .bl))=0;rw[Qm r];rfl
def SX(as bs:ai ie):zf (.dI (as.a6 .bl)) (.dI (bs.a6 .bl))=ab (.bl (decide (as=bs))):=by
 show(if bS (as.a6 .bl)+1<=150 then(cX (as.a6 .bl) (bs.a6 .bl)).a6 W.bl else none)=_;rw[Qm,nZ (by omega),Rl];rfl
def KW(n)(bs)(hl:bs.aj<=100000):nN K a (n+1) Du [.dI (bs.a6 .bl)]=.ok (.fr (.bl (Zy bs))):=by
 rw[Xc];unfold Hi;rw?;rw[nZ (by rw[w0a];omega)];simp only[cw,gF,w0d,w0g];rw[EL (λw=>.bl (match w with|.bl b=>b==bs.hX 0 false|_=>false))]
 .rw?;have e:(bs.a6 W.bl).a6 (λw=>W.bl (match w with|.bl b=>b==bs.hX 0 false|_=>false))=(bs.a6 λb=>b==bs.hX 0 false).a6 W.bl:=by rw[w0v,w0v];rfl
  rw[e,Lz];rw?;unfold Zy;rw[w5a];rfl
 .intro w hw;let⟨b,hb,rfl⟩:=w0u.mp hw;unfold M3;rw?;have h0:0<bs.aj:=ai.length_pos_of_mem hb;have hx:(bs.a6 W.bl)[0]?=ab (.bl (bs.hX 0 false)):=by simp[ai.hX,h0]
  rw[hx];rw?
  grind
def eqT:∀f:Fm,gK (r8 f) (.gs [.str "is", .bl true])=ab f.kN:=by
 intro f
 match f with
 |.is b=>cases b<;>rfl
 |.at p=>rfl
 |.not f=>cases f<;>rfl
 |.and f g=>cases f<;>rfl
 |.or f g=>cases f<;>rfl
 |.Y_ f g=>cases f<;>rfl
def zV(f)(hd:f.ql<=149):zf (r8 f) (.gs [.str "is", .bl true])=ab (.bl f.kN):=by
 have:=vA f;show(if bX (r8 f)<=150 then(gK (r8 f) (.gs [.str "is", .bl true])).a6 W.bl else none)=_;rw[nZ (by omega),eqT];rfl
def z8z(n)(p:aO)(l h)(hd:l.ql<=149)(YQ:h.ql<=149):nN K a (n+4) Ea [.aT (p:a7),r8 l,r8 h]=.ok (.fr (r8 (fO p l h))):=by
 rw[za'];unfold Kj;rw?;rw[zV l hd];rw?;unfold fO;have eo:=λf g=>Ef (K:=K) (a:=a) n .o f g
 have ea:=λf g=>Ef (K:=K) (a:=a) n .a f g
 simp only[wd]at eo ea;have VB:(W.gs [.str "not", .gs [.str "at", .aT (p:a7)]])=r8 (.not (.at p)):=rfl;have L7:(W.gs [.str "at", .aT (p:a7)])=r8 (.at p):=rfl;cases l.kN with
 |true=>
  rw[nZ rfl];rw?;rw[VB,eo];rw?
 |false=>
  rw[r5 (by decide)];rw?;rw[zV h YQ];rw?;cases h.kN with
  |true=>
   rw[nZ rfl];rw?;rw[L7,eo];rw?
  |false=>
   rw[r5 (by decide)];rw?;rw[VB,ea];rw?;rw[L7,ea];rw?;rw[eo];rw?
theorem JE:∀(m n p:aO)(bs:ai ie),bs.aj=2^m->m<=10->nN K a (n+m+6) xx [.dI (bs.a6 .bl),.aT (p:a7)]=.ok (.fr (r8 (ff m p bs)))
 |0,n,p,bs,hl,hm=>by
  rw[show n+0+6=n+5+1 by omega,Nz];unfold DV;rw?
  obtain⟨y,rfl⟩:∃y,bs=[y]:=by
   match bs,hl with
   |[y],_=>exact⟨y,rfl⟩
  rw[KW (n+4) [y] (by simp),show Zy [y]=true by cases y<;>rfl];rw?;rfl
 |m+1,n,p,bs,hl,hm=>by
  have tS:2^(m+1)<=2^10:=w0r (by decide) hm;let⟨t1,t2⟩:=EG hl;have hp:=EH m;rw[show n+(m+1)+6=n+m+6+1 by omega,Nz];unfold DV;rw?;rw[KW (n+m+5) bs (by omega)];rw?;unfold ff;cases hc:Zy bs with
  |true=>
   rw[nZ rfl];rw?;have h0:0<bs.aj:=by omega
   have hx:(bs.a6 W.bl)[0]?=ab (.bl (bs.hX 0 false)):=by simp[ai.hX,h0]
   rw[hx];rw?;rfl
  |false=>
   rw[r5 (by decide)];rw?;rw[w0a,hl];rw[show((2^(m+1):aO):a7) / 2=((2^m:aO):a7) by rw[w1p];omega];rw[z2n,z2o _ _ (by rw[w0a];omega),<- w4s,<- w4t];rw?;have i1:=JE m n (p+1) (bs.wj (2^m)) t1 (by omega);have i2:=JE m n (p+1) (bs.xO (2^m)) t2 (by omega);rw[show((p+1:aO):a7)=(p:a7)+1 by omega]at i1 i2;rw[i1];rw?;rw[SX];rw?
   by_cases c2:bs.wj (2^m)=bs.xO (2^m)
   .rw[nZ c2,nZ c2]
   .rw[r5 c2,r5 c2];rw?;rw[KW (n+m+5) _ (by omega)];have d1:=(KU m (p+1) _ t1).d;have d2:=(KU m (p+1) _ t2).d
    have last:((((aG (av (nN K a (n+m+6) Ea) (ae (af 1) (ae (af 5) (ae (av (nN K a (n+m+6) xx) (ae (af 4) (ae (aq bg (af 1) (dC (.aT 1))) ag))) ag)))))):ai S->SR) [.fr (.dI (bs.a6 .bl)),.fr (.aT (p:a7)),.fr (.aT ((2^m:aO):a7)),.fr (.dI ((bs.wj (2^m)).a6 .bl)),.fr (.dI ((bs.xO (2^m)).a6 .bl)),.fr (r8 (ff m (p+1) (bs.wj (2^m))))]).fn=.ok (.fr (r8 (fO p (ff m (p+1) (bs.wj (2^m))) (ff m (p+1) (bs.xO (2^m)))))):=by
     rw?;rw[i2];rw?;rw[z8z (n+m+2) p _ _ (by omega) (by omega)];rw?
    cases c3:Zy (bs.wj (2^m))with
    |true=>
     rw[r5 (λz=>by cases z.1)]
     revert last;rw?;exact id
    |false=>
     rw?;rw[nZ (by rw[w0a];omega)];rw[EL (λw=>match w with|.bl b=>.bl (!b)|w=>w)]
     .rw?;have e:((bs.wj (2^m)).a6 W.bl).a6 (λw=>match w with|.bl b=>W.bl (!b)|w=>w)=((bs.wj (2^m)).a6 not).a6 W.bl:=by rw[w0v,w0v];rfl
      rw[e,SX];rw?
      by_cases c4:bs.xO (2^m)=(bs.wj (2^m)).a6 not
      .rw[nZ c4,nZ (by first|exact c4|exact⟨rfl,c4⟩)];rw?;rfl
      .rw[r5 c4,r5 (by first|exact c4|exact λz=>c4 z.2)]
       revert last;rw?;exact id
     .intro w hw;let⟨b,hb,rfl⟩:=w0u.mp hw;unfold Nq;rw?;exact⟨_,rfl⟩
def z2p(n:aO){m:aO}{bs:ai ie}(hl:bs.aj=2^m)(hm:m<=10):nN K a (n+17) Hr [.dI (bs.a6 .bl)]=.ok (.fr (r8 (ff m 0 bs))):=by
 rw[W4];unfold Hv;rw?
 have e:lg (bs.a6 W.bl).aj=ab m:=by
  rw[w0a,hl];have:m=0\/m=1\/m=2\/m=3\/m=4\/m=5\/m=6\/m=7\/m=8\/m=9\/m=10:=by omega
  rcases this with rfl|rfl|rfl|rfl|rfl|rfl|rfl|rfl|rfl|rfl|rfl<;>decide
 rw[NB (n+14),e];simp only[jn];rw?;have z:=JE (K:=K) (a:=a) m (n+(10-m)) 0 bs hl hm;rw[show n+(10-m)+m+6=n+16 by omega]at z;have z:nN K a (n+16) xx [.dI (bs.a6 .bl),.aT 0]=_:=z;rw[z];rw?
def mV:aO->Fm->ai (d3 ie)->Fm
 |_,f,[]=>f
 |p,f,none::c=>mV (p+1) f c
 |p,f,ab true::c=>mV (p+1) (Fm.fG .a f (.at p)) c
 |p,f,ab false::c=>mV (p+1) (Fm.fG .a f (.not (.at p))) c
def tQ:Fm->ai (ai (d3 ie))->Fm
 |f,[]=>f
 |f,c::cs=>tQ (Fm.fG .o f (mV 0 (.is true) c)) cs
def Sg(o):kO (eo o) (.bl true)=ab (.bl (o==ab true)):=by
 cases o with
 |none=>rfl
 |ab b=>cases b<;>rfl
def Si(o):kO (eo o) (.bl false)=ab (.bl (o==ab false)):=by
 cases o with
 |none=>rfl
 |ab b=>cases b<;>rfl
theorem Oy(n)(cu):∀(c:ai (d3 ie))(p:aO)(f:Fm)(z2 z3:S),∃y2 y3,ez 2 3 (xu K a (nN K a (n+3))) (cj p (c.a6 eo)) [.fr cu,.fr (r8 f),z2,z3]=.nx [.fr cu,.fr (r8 (mV p f c)),y2,y3]
 |[],p,f,z2,z3=>⟨_,_,rfl⟩
 |o::c,p,f,z2,z3=>by
  have ea:=λf g=>Ef (K:=K) (a:=a) n .a f g
  simp only[wd]at ea
  have e1:xu K a (nN K a (n+3)) [.fr cu,.fr (r8 f),.fr (.aT p),.fr (eo o)]=.nx [.fr cu,.fr (r8 (mV p f [o])),.fr (.aT p),.fr (eo o)]:=by
   unfold xu;rw?;rw[Sg];rw?;cases o with
   |none=>
    rw[r5 (by decide)];rw[Si];rw?;rfl
   |ab b=>
    cases b with
    |true=>
     rw[nZ (by decide)];rw[show W.gs [W.str "at", W.aT (p:a7)]=r8 (.at p)from rfl,ea];rw?;rfl
    |false=>
     rw[r5 (by decide),Si];rw?;rw[nZ (by decide),show W.gs [W.str "not", W.gs [W.str "at", W.aT (p:a7)]]=r8 (.not (.at p))from rfl,ea];rw?;rfl
  let⟨y2,y3,ih⟩:=Oy n cu c (p+1) (mV p f [o]) (.fr (.aT p)) (.fr (eo o));refine⟨y2,y3,?_⟩;rw[w0m];show ez 2 3 (xu K a (nN K a (n+3))) ((W.aT (p:a7),eo o)::cj (p+1) (c.a6 eo)) _=_;rw[y5r];simp only[w0n,w0o];rw[e1];show ez 2 3 (xu K a (nN K a (n+3))) (cj (p+1) (c.a6 eo)) _=_;rw[ih];cases o with
  |none=>rfl
  |ab b=>cases b<;>rfl
def y7v(n)(c):nN K a (n+4) Hf [.gs (c.a6 eo)]=.ok (.fr (r8 (mV 0 (.is true) c))):=by
 rw[Xd];unfold Hj;rw?;let⟨y2,y3,h⟩:=Oy (K:=K) (a:=a) n (.gs (c.a6 eo)) c 0 (.is true) .no .no;rw[show ez 2 3 (xu K a (nN K a (n+3))) (cj 0 (c.a6 eo)) [S.fr (W.gs (c.a6 eo)),S.fr (W.gs [W.str "is", W.bl true]),S.no,S.no]=_ from h];rw?
theorem N4(n)(co):∀(cs:ai (ai (d3 ie)))(f:Fm)(z:S),∃z',cV 2 (Bj K a (nN K a (n+4))) (cs.a6 aS) [co,.fr (r8 f),z]=.nx [co,.fr (r8 (tQ f cs)),z']
 |[],f,z=>⟨_,rfl⟩
 |c::cs,f,z=>by
  have L_:=λf g=>Ef (K:=K) (a:=a) (n+1) .o f g
  simp only[wd]at L_
  have e1:Bj K a (nN K a (n+4)) [co,.fr (r8 f),.fr (aS c)]=.nx [co,.fr (r8 (Fm.fG .o f (mV 0 (.is true) c))),.fr (aS c)]:=by
   unfold Bj aS;rw?;rw[y7v n];rw?;rw[L_];rw?
  let⟨z',ih⟩:=N4 n co cs (Fm.fG .o f (mV 0 (.is true) c)) (.fr (aS c));refine⟨z',?_⟩;rw[w0m,uo];simp only[w0n,w0o];rw[e1,xA];exact ih
def zbn(n)(cs):nN K a (n+5) Hs [.dI (cs.a6 aS)]=.ok (.fr (r8 (tQ (.is false) cs))):=by
 rw[W5];unfold Hw;rw?;let⟨z',h⟩:=N4 (K:=K) (a:=a) n (.fr (.dI (cs.a6 aS))) cs (.is false) .no;rw[show cV 2 (Bj K a (nN K a (n+4))) (cs.a6 aS) [S.fr (W.dI (cs.a6 aS)),S.fr (W.gs [W.str "is", W.bl false]),S.no]=_ from h];rw?
theorem KY{i:aO}{b:ai S->SR}(I:aO->ai S->Prop):∀(ws:ai W)(k:aO)(e:ai S),I k e->(∀(j:aO)(w:W)(e:ai S),w∈ws->I j e->∃e',b (e.rk i (.fr w))=.nx e'/\I (j+1) e')->∃e',cV i b ws e=.nx e'/\I (k+ws.aj) e'
 |[],k,e,h0,_=>⟨e,rfl,h0⟩
 |w::ws,k,e,h0,h=>by
  let⟨e1,h1,h2⟩:=h k w e (by simp) h0;let⟨e2,h3,h4⟩:=KY I ws (k+1) e1 h2 λj u e hu=>h j u e (by simp[hu])
  grind [uo,xA]
def eZ(bs:ai ie):W:=.gs (bs.a6 .bl)
abbrev Pr:=ai ie×aO
structure Mc where
 m:aO
 sG:aO
 aa:ai (ai Pr)
structure Mc.Og(c:Mc):Prop where
 gA:c.m<=3
 wg:c.sG<=40
 gw:0<c.aa.aj
 mo:c.aa.aj<=700
 st:∀s∈c.aa,s.aj=2^c.m
 pr:∀s∈c.aa,∀p∈s,p.1.aj=c.sG/\p.2<c.aa.aj
def Ph{l:ai α}(h):l.wj (j+1)=l.wj j++[l[j]]:=by
 simp_all
def bo(p:Pr):W:=.gs [eZ p.1,.aT (p.2:a7)]
def au(s:ai Pr):W:=.dI (s.a6 bo)
def aE(c:Mc):W:=.gs [.aT (c.m:a7),.aT (c.sG:a7),.dI (c.aa.a6 au)]
def yI(n m:aO)(hm:m<=100):nN K a (n+1) rC [.aT (m:a7)]=.ok (.fr (.aT ((2^m:aO):a7))):=by
 rw[Ny];unfold DU;rw?;rw[nZ (oK (by omega) (by omega))];rw?
 let⟨e',h2,z,rfl⟩:=pW (b:=Bn K a (nN K a n)) (i:=2) (lo:=0) (hi:=(m:a7)) m (by omega) (λj e=>∃z,e=[.fr (.aT (m:a7)),.fr (.aT ((2^j:aO):a7)),z]) [.fr (.aT (m:a7)),.fr (.aT 1),.no] ⟨.no,rfl⟩ (by
  rintro j e hj ⟨z,rfl⟩;unfold Bn;rw?
  simp_all [w1p,w5v])
 rw[h2];rw?
def Y6(n)(c:Mc)(h:s<c.aa.aj):nN K a (n+1) IH [aE c,.aT (s:a7)]=.ok (.fr (.bl true)):=by
 rw[zaP];unfold Jl aE;rw?
 grind
def DZ(l:ai Pr):d_ (l.a6 bo)=ab (l.a6 λp=>(eZ p.1,W.aT (p.2:a7))):=by
 induction l with
 |so=>rfl
 |qT p l ih=>
  grind [d_,bo]
theorem Qn{i:aO}{b:ai S->SR}(I:ai S->Prop):∀(ps:ai (W×W))(e:ai S),I e->(∀p∈ps,∀e,I e->∃e',b ((e.rk i (.fr p.1)).rk j (.fr p.2))=.nx e'/\I e')->∃e',ez i j b ps e=.nx e'/\I e'
 |[],e,h,_=>⟨e,rfl,h⟩
 |p::ps,e,h,st=>by
  let⟨e1,h1,h2⟩:=st p (by simp) e h;let⟨e2,h3,h4⟩:=Qn I ps e1 h2 (λq hq=>st q (by simp[hq]))
  refine⟨e2,?_,h4⟩;show(b ((e.rk i (.fr p.1)).rk j (.fr p.2))).eK (ez i j b ps)=_;rw[h1];exact h3
theorem uv(c):aP (aE c) (.aT 0)=ab (.aT (c.m:a7)):=rfl
theorem xF(c):aP (aE c) (.aT 1)=ab (.aT (c.sG:a7)):=rfl
theorem pG(c):aP (aE c) (.aT 2)=ab (.dI (c.aa.a6 au)):=rfl
def y7w(n)(c)(hc:c.Og):nN K a (n+2) Ht [aE c]=.ok (.fr .aB):=by
 rw[W6];unfold Hx;rw?;rw[pG];rw?;rw[uv];rw?;rw[yI n c.m (by have:=hc.gA;omega)];rw?;rw[w0a,r5 (by have:=hc.gw;omega)];rw?
 let⟨e',k1,z3,z4,z5,k2⟩:=KY (i:=3) (b:=Ha K a (nN K a (n+1))) (λ_ e=>∃z3 z4 z5,e=[.fr (aE c),.fr (.dI (c.aa.a6 au)),.fr (.aT ((2^c.m:aO):a7)),z3,z4,z5]) (c.aa.a6 au) 0 [.fr (aE c),.fr (.dI (c.aa.a6 au)),.fr (.aT ((2^c.m:aO):a7)),.no,.no,.no] ⟨_,_,_,rfl⟩ (by
  rintro j w e hw ⟨z3,z4,z5,rfl⟩;let⟨s,hs,rfl⟩:=w0u.mp hw;unfold Ha;simp only[au];rw?;rw[w0a,hc.st s hs,r5 (by simp)];rw?;rw[DZ];rw?
  let⟨e1,h1,z4,z5,rfl⟩:=Qn (i:=4) (j:=5) (b:=G_ K a (nN K a (n+1))) (λe=>∃z4 z5,e=[.fr (aE c),.fr (.dI (c.aa.a6 au)),.fr (.aT ((2^c.m:aO):a7)),.fr (.dI (s.a6 bo)),z4,z5]) (s.a6 λp=>(eZ p.1,W.aT (p.2:a7))) [.fr (aE c),.fr (.dI (c.aa.a6 au)),.fr (.aT ((2^c.m:aO):a7)),.fr (.dI (s.a6 bo)),z4,z5] ⟨_,_,rfl⟩ (by
   rintro q hq e ⟨z4,z5,rfl⟩;let⟨p,hp,rfl⟩:=w0u.mp hq;let⟨p1,p2⟩:=hc.pr s hs p hp;unfold G_;simp only[eZ];rw?;rw[xF];rw?;rw[w0a,p1,r5 (by simp)];rw?;rw[Y6 n c p2];rw?;exact⟨_,rfl,_,_,rfl⟩)
  rw[h1];exact⟨_,rfl,_,_,_,rfl⟩)
 rw[k1,k2];rfl
def Cz{c:Mc}(hs:s<c.aa.aj):eu (c.aa.a6 au) (s:a7)=ab (au (c.aa.hX s [])):=by
 grind [pU]
def YF:ai Kx->Kx->aO
 |[],_=>0
 |k::l,x=>if k=x then 0 else YF l x+1
theorem Ks{x:L2.Kx}:∀{l:ai Kx},x∈l->l[YF l x]?=ab x
 |[],h=>nomatch h
 |k::l,h=>by
  unfold YF
  by_cases e:k=x
  .rw[nZ e,e];rfl
  .rw[r5 e,w0d];exact Ks ((w0i.mp h).ϩ λz=>e z.symm)
theorem Rm{x:L2.Kx}(h:x∈l):YF l x<l.aj:=(w0b.mp (Ks h)).1
theorem Kt{x:L2.Kx}:∀{l:ai Kx},x∈l->YF (l++m) x=YF l x
 |[],h=>nomatch h
 |k::l,h=>by
  show(if k=x then 0 else YF (l++m) x+1)=(if k=x then 0 else YF l x+1)
  by_cases e:k=x
  .rw[nZ e,nZ e]
  .rw[r5 e,r5 e,Kt ((w0i.mp h).ϩ λz=>e z.symm)]
theorem Qo{x:L2.Kx}:∀{l:ai Kx},x∉l->YF (l++[x]) x=l.aj
 |[],_=>by show(if x=x then 0 else _)=0;rw[nZ rfl]
 |k::l,h=>by
  show(if k=x then 0 else YF (l++[x]) x+1)=l.aj+1;rw[r5 (λe=>h (by simp[e])),Qo (λz=>h (by simp[z]))]
def z2q{x:L2.Kx}(hx:x∈l)(hy:y∈l)(h:YF l x=YF l y):x=y:=by
 grind [Ks]
def eJ(o:aO):aO->ai W
 |0=>[]
 |n+1=>.aT (o:a7)::eJ (o+1) n
theorem Pj:∀(n o:aO),eJ o n++[.aT ((o+n:aO):a7)]=eJ o (n+1)
 |0,o=>rfl
 |n+1,o=>by
  show W.aT (o:a7)::(eJ (o+1) n++[W.aT ((o+(n+1):aO):a7)])=W.aT (o:a7)::eJ (o+1) (n+1);rw[show o+(n+1)=(o+1)+n by omega,Pj n (o+1)]
theorem Ey{x:L2.Kx}:∀(l:ai Kx)(o:aO),mE l (eJ o l.aj) x=if x∈l then ab (.aT ((o+YF l x:aO):a7))else none
 |[],o=>by rw[r5 (by simp)];rfl
 |k::l,o=>by
  show(if k=x then ab (W.aT (o:a7))else mE l (eJ (o+1) l.aj) x)=_
  by_cases e:k=x
  .simp_all [YF]
  .rw[r5 e,Ey l (o+1),show YF (k::l) x=YF l x+1 from r5 e]
   grind
def cB(l:ai Kx)(x:Kx):ai Kx:=if x∈l then l else l++[x]
def z2r(l)(x):∃m,cB l x=l++m:=by
 unfold cB;split
 all_goals simp_all
def Rn(l)(x):x∈cB l x:=by
 grind [cB]
def z2s(l)(x):(cB l x).aj<=l.aj+1:=by
 unfold cB;split<;>simp
theorem Ku:∀(xs l:ai Kx),∃m,xs.zx cB l=l++m
 |[],l=>⟨[],by simp⟩
 |x::xs,l=>by
  let⟨m1,h1⟩:=z2r l x;let⟨m2,h2⟩:=Ku xs (cB l x)
  grind
theorem BO:∀(xs l:ai Kx),∀x∈xs,x∈xs.zx cB l
 |[],_,_,h=>nomatch h
 |y::xs,l,x,h=>by
  rw[w2g];rcases w0i.mp h with rfl|h
  .let⟨m,e⟩:=Ku xs (cB l x)
   grind [Rn]
  .exact BO xs _ x h
theorem fP:∀(xs l:ai Kx),(xs.zx cB l).aj<=l.aj+xs.aj
 |[],l=>by simp
 |x::xs,l=>by
  rw[w2g];have:=fP xs (cB l x)
  grind [z2s]
def oG(ks:ai aO)(p:Pr):Kx:=.gs [.gs (p.1.a6 .bl),.aT ((ks.hX p.2 0:aO):a7)]
def Yl(ks:ai aO)(s:ai Pr):Kx:=.gs (s.a6 (oG ks))
def xT(c:Mc)(ks:ai aO):ai aO:=c.aa.a6 λs=>YF ((c.aa.a6 (Yl ks)).zx cB []) (Yl ks s)
def z80(c)(ks):(xT c ks).aj=c.aa.aj:=by simp[xT]
def Ro    (h:i<c.aa.aj):(xT c ks).hX i 0=YF ((c.aa.a6 (Yl ks)).zx cB []) (Yl ks (c.aa.hX i [])):=by
 unfold xT;simp[ai.hX,h]
def i4{c:Mc}(h:i<c.aa.aj):c.aa.hX i []∈c.aa:=by
 grind
def Uj(hi:i<c.aa.aj)(hj:j<c.aa.aj):(xT c ks).hX i 0=(xT c ks).hX j 0↔Yl ks (c.aa.hX i [])=Yl ks (c.aa.hX j []):=by
 rw[Ro hi,Ro hj];refine⟨λh=>z2q (BO _ _ _ (w2o (i4 hi))) (BO _ _ _ (w2o (i4 hj))) h,λh=>by rw[h]⟩
def Uk:∀k∈xT c ks,k<c.aa.aj:=by
 intro k hk;unfold xT at hk;let⟨s,hs,rfl⟩:=w0u.mp hk;have h1:=Rm (BO (c.aa.a6 (Yl ks)) [] _ (w2o hs))
 grind [fP]
def bU(c:Mc):aO->ai aO
 |0=>ai.w8 c.aa.aj 0
 |t+1=>xT c (bU c t)
theorem pV(c):∀t,(bU c t).aj=c.aa.aj
 |0=>w2f
 |t+1=>z80 c _
theorem EM(h:0<c.aa.aj):∀t,∀k∈bU c t,k<c.aa.aj
 |0,k,hk=>by
  have:=w4n hk;omega
 |t+1,k,hk=>Uk k hk
def kd(c:Mc)(t i:aO):aO:=(bU c t).hX i 0
def Mf(c:Mc)(i r:aO):ai ie:=((c.aa.hX i []).hX r ([],0)).1
def ee(c:Mc)(i r:aO):aO:=((c.aa.hX i []).hX r ([],0)).2
def nQ(hc:c.Og)(hi:i<c.aa.aj)(hr:r<2^c.m):ee c i r<c.aa.aj:=by
 have hs:=i4 hi;have hl:=hc.st _ hs;unfold ee;have Az:r<(c.aa.hX i []).aj:=by omega
 have e:(c.aa.hX i []).hX r ([],0)=(c.aa.hX i [])[r]:=by grind
 rw[e];exact(hc.pr _ hs _ (w1j Az)).2
def ur(c)(i):kd c 0 i=0:=by
 grind [kd,bU]
def z81{p:Q.Pr}:oG ks p=oG ks q↔p.1=q.1/\ks.hX p.2 0=ks.hX q.2 0:=by
 grind [oG,ai.map_inj_right]
def yK(hc:c.Og)(hi:i<c.aa.aj)(hj:j<c.aa.aj):kd c (t+1) i=kd c (t+1) j↔∀r,r<2^c.m->Mf c i r=Mf c j r/\kd c t (ee c i r)=kd c t (ee c j r):=by
 show(xT c (bU c t)).hX i 0=(xT c (bU c t)).hX j 0↔_;rw[Uj hi hj];have l1:=hc.st _ (i4 hi);have l2:=hc.st _ (i4 hj);unfold Yl Mf ee kd;generalize c.aa.hX i []=s at l1;generalize c.aa.hX j []=s' at l2
 have ZT:∀(s s':ai Pr),s.aj=s'.aj->(s.a6 (oG (bU c t))=s'.a6 (oG (bU c t))↔∀r,r<s.aj->oG (bU c t) (s.hX r ([],0))=oG (bU c t) (s'.hX r ([],0))):=by
  intro s s' hl;constructor
  .intro h r hr;have z:=ZQ (λl=>l[r]?) h
   grind
  .intro h;apply w2h
   grind
 grind [z81]
theorem D2{c:Mc}(hc:c.Og):∀(t:aO){i j:aO},i<c.aa.aj->j<c.aa.aj->kd c (t+1) i=kd c (t+1) j->kd c t i=kd c t j
 |0,i,j,_,_,_=>by rw[ur,ur]
 |t+1,i,j,hi,hj,h=>by
  rw[yK hc hi hj]at h |-
  exact λr hr=>⟨(h r hr).1,D2 hc t (nQ hc hi hr) (nQ hc hj hr) (h r hr).2⟩
theorem vI:∀(n:aO){l:ai aO},l.xZ->(∀x∈l,x<n)->l.aj<=n
 |0,l,_,h=>by
  cases l with
  |so=>simp
  |qT x l=>exact uz (h x (by simp)) (by omega)
 |n+1,l,hn,h=>by
  by_cases m:n∈l
  .have e:=w4m m
   have:=vI n (hn.erase n) (λx hx=>by
    grind)
   grind
  .have:=vI n hn (λx hx=>by
    grind)
   omega
theorem Ul{l:ai aO}(hn:l.xZ)(h:∀x∈l,x<n)(hl:n<=l.aj)(hy:y<n):y∈l:=ζ.byContradiction λz=>by
 have:=vI n (l:=y::l) (w2e.wa ⟨z,hn⟩) (λx hx=>by
  grind)
 simp at this;omega
def aW(l:ai aO)(x:aO):ai aO:=if x∈l then l else l++[x]
def z2t(l)(x):∃m,aW l x=l++m:=by
 unfold aW;split
 all_goals simp_all
def Rp(l)(x):x∈aW l x:=by
 grind [aW]
def z82(h:l.xZ)(x):(aW l x).xZ:=by
 grind [aW]
theorem D3:∀(xs l:ai aO),∃m,xs.zx aW l=l++m
 |[],l=>⟨[],by simp⟩
 |x::xs,l=>by
  let⟨m1,h1⟩:=z2t l x;let⟨m2,h2⟩:=D3 xs (aW l x)
  grind
theorem Qp:∀(xs l:ai aO),∀x∈xs,x∈xs.zx aW l
 |[],_,_,h=>nomatch h
 |y::xs,l,x,h=>by
  rw[w2g];rcases w0i.mp h with rfl|h
  .let⟨m,e⟩:=D3 xs (aW l x)
   grind [Rp]
  .exact Qp xs _ x h
theorem P8:∀(xs:ai aO){l:ai aO},l.xZ->(xs.zx aW l).xZ
 |[],_,h=>h
 |x::xs,l,h=>P8 xs (z82 h x)
theorem Pk:∀(xs l:ai aO),(∀x∈l,B x)->(∀x∈xs,B x)->∀x∈xs.zx aW l,B x
 |[],_,h,_=>h
 |y::xs,l,h,g=>Pk xs (aW l y) (λx hx=>by
   grind [aW]) λx hx=>g x (by simp[hx])
def Um{m:ai aO}(h:x∈l):(l++m).S6 x=l.S6 x:=by
 grind
theorem U0{l:ai aO}(h:x∈l):l.S6 x<l.aj:=w2m.wa h
def Uo{l:ai aO}(h:x∈l):l.hX (l.S6 x) 0=x:=by
 grind
def bf(g:aO->ai Pr)(b:aO):aO->ai aO
 |0=>[b]
 |i+1=>if i<(bf g b i).aj then((g ((bf g b i).hX i 0)).a6 (·.2)).zx aW (bf g b i)else bf g b i
def BS(g)(b i):∃m,bf g b (i+1)=bf g b i++m:=by
 show ∃m,(if i<(bf g b i).aj then((g ((bf g b i).hX i 0)).a6 (·.2)).zx aW (bf g b i)else bf g b i)=_;split
 all_goals simp_all [D3]
theorem Rq(g)(b i):∀d,∃m,bf g b (i+d)=bf g b i++m
 |0=>⟨[],by simp⟩
 |d+1=>by
  let⟨m1,h1⟩:=Rq g b i d;let⟨m2,h2⟩:=BS g b (i+d)
  grind
theorem xG(g)(b):∀i,(bf g b i).xZ
 |0=>by simp[bf]
 |i+1=>by
  unfold bf;split
  .exact P8 _ (xG g b i)
  .exact xG g b i
theorem uA{B:aO->Prop}(h0:B b)(hs:∀x,B x->∀p∈g x,B p.2):∀i,∀x∈bf g b i,B x
 |0=>λx hx=>by
  grind [bf]
 |i+1=>by
  unfold bf;split
  .rename_i hi;refine Pk _ _ (uA h0 hs i) λx hx=>?_
   let⟨p,hp,rfl⟩:=w0u.mp hx;refine hs _ (uA h0 hs i _ ?_) p hp
   grind
  .exact uA h0 hs i
def Rr(g)(b i):∃m,bf g b i=b::m:=by
 let⟨m,h⟩:=Rq g b 0 i;rw[w1y]at h;exact⟨m,by rw[h];rfl⟩
def bG(T:ai aO)(s:ai Pr):ai Pr:=s.a6 λp=>(p.1,T.S6 p.2)
def y7x(h:∀p∈s,p.2∈T):bG (T++m) s=bG T s:=by
 grind [bG,ai.zcW]
theorem LD{g:aO->ai Pr}{b:aO}:∀i,i<=(bf g b i).aj->∀x∈(bf g b i).wj i,∀p∈g x,p.2∈bf g b i
 |0,_,x,hx=>by simp at hx
 |i+1,hl,x,hx=>by
  let⟨m,hm⟩:=BS g b i;intro p hp
  by_cases hi:i<(bf g b i).aj
  .have vg:x∈(bf g b i).wj (i+1):=by
    grind
   rw[w3k hi]at vg;rcases w2s.mp vg with z|z
   .rw[hm];exact w2k _ (LD i (by omega) x z p hp)
   .rw[w1i]at z;subst z;unfold bf;rw[nZ hi]
    grind [Qp]
  .have e:bf g b (i+1)=bf g b i:=by
    simp_all [bf,r5]
   rw[e]at hl;omega
def U1(hi:i<(bf g b i).aj):((bf g b (i+1)).wj (i+1)).a6 (λx=>bG (bf g b (i+1)) (g x))=((bf g b i).wj i).a6 (λx=>bG (bf g b i) (g x))++[bG (bf g b (i+1)) (g ((bf g b i).hX i 0))]:=by
 let⟨m,hm⟩:=BS g b i;have e:(bf g b i).hX i 0=(bf g b i)[i]:=by simp[ai.hX,hi]
 have h1:(bf g b (i+1)).wj (i+1)=(bf g b i).wj i++[(bf g b i)[i]]:=by
  grind [ai.take_succ_eq_append_getElem]
 rw[h1,w0x,e];congr 1;refine w1o λx hx=>?_
 rw[hm];exact y7x (LD i (by omega) x hx)
theorem P9:∀{ks:ai aO},k∈ks->mr (k:a7) (ks.a6 λk:aO=>(k:a7))=ab (ks.S6 k)
 |[],h=>nomatch h
 |y::ks,h=>by
  show(if(y:a7)=(k:a7)then ab 0 else(mr (k:a7) (ks.a6 λk:aO=>(k:a7))).a6 (·+1))=_
  by_cases e:y=k
  .grind
  .rw[r5 (by omega),P9 ((w0i.mp h).ϩ λz=>e z.symm),w5e,beq_false_of_ne e]
   rfl
def aI(k:aO):W:=.aT (k:a7)
def aC(ks:ai aO):W:=.dI (ks.a6 aI)
theorem SY:∀bs:ai ie,ia (bs.a6 .bl)=ab (bs.a6 .bl)
 |[]=>rfl
 |b::bs=>by
  show(match yx (.bl b),ia (bs.a6 .bl)with|ab k,ab ks=>ab (k::ks)|_,_=>none)=_;rw[SY bs];rfl
def gG(ks:ai aO)(p:Pr):W:=.gs [eZ p.1,aI (ks.hX p.2 0)]
def U2(ks)(p):yx (gG ks p)=ab (oG ks p):=by
 show(ia [eZ p.1,aI (ks.hX p.2 0)]).a6 Kx.gs=_
 have e:ia [eZ p.1,aI (ks.hX p.2 0)]=ab [.gs (p.1.a6 .bl),.aT ((ks.hX p.2 0:aO):a7)]:=by
  show(match(ia (p.1.a6 .bl)).a6 Kx.gs,(ab [Kx.aT ((ks.hX p.2 0:aO):a7)]:d3 (ai Kx))with|ab k,ab ks=>ab (k::ks)|_,_=>none)=_;rw[SY];rfl
 rw[e];rfl
theorem Sj(ks):∀s:ai Pr,ia (s.a6 (gG ks))=ab (s.a6 (oG ks))
 |[]=>rfl
 |p::s=>by
  show(match yx (gG ks p),ia (s.a6 (gG ks))with|ab k,ab ks=>ab (k::ks)|_,_=>none)=_;rw[U2,Sj ks s];rfl
def Lf(ks)(s):kB (.gs (s.a6 (gG ks)))=ab (Yl ks s):=by
 show(ia (s.a6 (gG ks))).a6 Kx.gs=_;rw[Sj];rfl
theorem Rt:∀bs:ai ie,lZ (bs.a6 .bl) .bl
 |[]=>trivial
 |_::bs=>⟨trivial,Rt bs⟩
theorem Sk:∀bs:ai ie,Kx.dD (bs.a6 .bl)=0
 |[]=>rfl
 |b::bs=>by show max 0 (Kx.dD (bs.a6 .bl))=0;rw[Sk bs];rfl
def KZ(ks)(s):_h (Yl ks s) (.YZ (.gs [.YZ .bl,.aT])):=by
 have h1:∀s:ai Pr,lZ (s.a6 (oG ks)) (.gs [.YZ .bl,.aT]):=λs=>by
  induction s with
  |so=>trivial
  |qT p s ih=>exact⟨⟨Rt p.1,trivial,trivial⟩,ih⟩
 have h2:∀s:ai Pr,Kx.dD (s.a6 (oG ks))<=2:=λs=>by
  induction s with
  |so=>exact w1g _
  |qT p s ih=>
   show max (max (Kx.dD (p.1.a6 .bl)+1) (max 0 0)+1) (Kx.dD (s.a6 (oG ks)))<=2;rw[Sk];omega
 refine⟨h1 s,?_⟩;show Kx.dD (s.a6 (oG ks))+1<=7;have:=h2 s;omega
def Dj(c:Mc)(ks:ai aO)(j:aO):ai Kx:=((c.aa.wj j).a6 (Yl ks)).zx cB []
def Ru(h):Dj c ks (j+1)=cB (Dj c ks j) (Yl ks c.aa[j]):=by
 grind [Dj,Ph]
def Up(j):(Dj c ks j).aj<=j:=by
 grind [fP,Dj]
def Uq{x:L2.Kx}(h:x∈Dj c ks j):YF ((c.aa.a6 (Yl ks)).zx cB []) x=YF (Dj c ks j) x:=by
 have e:(c.aa.a6 (Yl ks)).zx cB []=(((c.aa.xO j).a6 (Yl ks)).zx cB (Dj c ks j)):=by
  grind [Dj,ai.Ĩ]
 rw[e];let⟨m,hm⟩:=Ku ((c.aa.xO j).a6 (Yl ks)) (Dj c ks j)
 grind [Kt]
def qw(c:Mc)(ks:ai aO)(s:ai Pr):aO:=YF ((c.aa.a6 (Yl ks)).zx cB []) (Yl ks s)
def pX{ks:ai aO}(h:i<ks.aj):eu (ks.a6 aI) (i:a7)=ab (aI (ks.hX i 0)):=by
 grind [pU]
def y70{c:Mc}(h:(c.aa.a6 au)[j]?=ab w):∃hj:j<c.aa.aj,w=au c.aa[j]:=by
 grind
def y71(n)(c)(hc:c.Og)(ks)(hk:ks.aj=c.aa.aj)(j)(hj)(xH)(ho:xH.aj<=1000)(w0)(z5):
  ∃yc,Dk K a (nN K a n) [.fr w0,.fr (aC ks),.dw (.YZ (.gs [.YZ .bl,.aT])) (Dj c ks j) (eJ 0 (Dj c ks j).aj),.ku none (xH.a6 aI),.fr (au c.aa[j]),z5] =
   .nx [.fr w0,.fr (aC ks),.dw (.YZ (.gs [.YZ .bl,.aT])) (Dj c ks (j+1)) (eJ 0 (Dj c ks (j+1)).aj),.ku none ((xH++[qw c ks c.aa[j]]).a6 aI),.fr (au c.aa[j]),yc]:=by
 have oy:=hc.mo;have hs:=hc.st _ (w1j hj);have Gn:=hc.pr _ (w1j hj);have p8:2^c.m<=8:=w1a (w0r (by decide) hc.gA) (by decide);have yq:=Rn (Dj c ks j) (Yl ks c.aa[j]);have pf:=Uq (c:=c) (ks:=ks) (j:=j+1) (x:=Yl ks c.aa[j]) (by grind [Ru]);have Mr:=Up (c:=c) (ks:=ks) j;have vf:=Ru (c:=c) (ks:=ks) hj;generalize ky:c.aa[j]=s at *
 have AA:ai.a6 (λp:W×W=>W.gs [p.1,(aP (aC ks) p.2).hX .aB]) (ai.Mk (λ_=>true) (s.a6 λp=>(eZ p.1,W.aT (p.2:a7))))=s.a6 (gG ks):=by
  rw[w4c.wa (λ_ _=>rfl),w0v]
  refine w1o λp hp=>?_
  show W.gs [eZ p.1,(eu (ks.a6 aI) (p.2:a7)).hX .aB]=gG ks p;rw[pX (by grind)];rfl
 unfold Dk;unfold au;rw?;rw[DZ];rw?;rw[nZ (by grind)];simp only[cw,gF,w0d,w0g];rw[Js (q:=λ_=>true) (g:=λp=>.gs [p.1,(aP (aC ks) p.2).hX .aB])]
 .rw?;rw[AA,TY (Lf ks s) (KZ ks s),Ey]
  have app:∀D:ai Kx,D=cB (Dj c ks j) (Yl ks s)->∃yc,(fF 3 (ae (c8 (aq wU (af 2) (af 5))) ag)) [.fr w0,.fr (aC ks),.dw (.YZ (.gs [.YZ .bl,.aT])) D (eJ 0 D.aj),.ku none (xH.a6 aI),.fr (.dI (s.a6 bo)),.fr (.gs (s.a6 (gG ks)))] =
    .nx [.fr w0,.fr (aC ks),.dw (.YZ (.gs [.YZ .bl,.aT])) (Dj c ks (j+1)) (eJ 0 (Dj c ks (j+1)).aj),.ku none ((xH++[qw c ks s]).a6 aI),.fr (.dI (s.a6 bo)),yc]:=by
   rintro D rfl;rw?;rw[UR (Lf ks s) (KZ ks s),Ey,nZ yq];rw?;rw[nZ (by grind),vf];refine⟨.fr (.gs (s.a6 (gG ks))),?_⟩;rw[vf]at pf;rw[<- pf,w0x];rfl
  by_cases hm:Yl ks s∈Dj c ks j
  .rw[nZ hm];have e:cB (Dj c ks j) (Yl ks s)=Dj c ks j:=nZ hm;have q:=app (Dj c ks j) e.symm;revert q;rw?;exact id
  .rw[r5 hm];have e:cB (Dj c ks j) (Yl ks s)=Dj c ks j++[Yl ks s]:=r5 hm;have q:=app _ e.symm;revert q;rw?;intro q;rw[z7d (Lf ks s) (by omega) (by rfl) (KZ ks s) (by rw[Ey,r5 hm])];rw?;rw[show eJ 0 (Dj c ks j).aj++[W.aT ((Dj c ks j).aj:a7)]=eJ 0 (Dj c ks j++[Yl ks s]).aj by rw[w1e];have:=Pj (Dj c ks j).aj 0;grind];exact q
 .intro q hq;let⟨p,hp,rfl⟩:=w0u.mp hq;refine⟨_,rfl,λ_=>?_⟩
  unfold Ng aC;rw?;rw[pX (by grind)];rw?;exact⟨_,rfl⟩
def Pl(n)(c)(hc:c.Og)(ks)(hk:ks.aj=c.aa.aj):nN K a (n+1) DG [.dI (c.aa.a6 au),aC ks]=.ok (.ku none ((xT c ks).a6 aI)):=by
 have oy:=hc.mo;rw[Xu];unfold HG;rw?
 let⟨e',h1,z4,z5,h2⟩:=La (b:=Dk K a (nN K a n)) (i:=4) (λj e=>∃z4 z5,e=[.fr (.dI (c.aa.a6 au)),.fr (aC ks),.dw (.YZ (.gs [.YZ .bl,.aT])) (Dj c ks j) (eJ 0 (Dj c ks j).aj),.ku none (((c.aa.wj j).a6 (qw c ks)).a6 aI),z4,z5]) (c.aa.a6 au) 0 [.fr (.dI (c.aa.a6 au)),.fr (aC ks),.dw (.YZ (.gs [.YZ .bl,.aT])) [] [],.ku none [],.no,.no] ⟨_,_,rfl⟩ (by
  rintro j w e hw ⟨z4,z5,rfl⟩;let⟨hj,rfl⟩:=y70 hw;rw[w1y]at *;let⟨yc,q⟩:=y71 (K:=K) (a:=a) n c hc ks hk j hj ((c.aa.wj j).a6 (qw c ks)) (by simp;omega) _ z5;refine⟨_,q,.fr (au c.aa[j]),yc,?_⟩;rw[Ph hj,w0x (f:=qw c ks)];rfl)
 rw[h1,h2];rw?;rw[w0a,w2a (by omega)];rfl
def jh(c:Mc)(t:aO):ai W:=(ai.CC (t+1)).a6 λs=>aC (bU c s)
def Pn(c)(t):jh c (t+1)=jh c t++[aC (bU c (t+1))]:=by
 grind [jh,ai.range_succ]
def z2u(c)(t):(jh c t).aj=t+1:=by unfold jh;simp
def K0{x:α}:eu (l++[x]) (-1)=ab x:=by
 unfold eu oC;rw[r5 (by decide),nZ (by simp;omega)];have e:(-1+((l++[x]).aj:a7)).uh=l.aj:=by simp;omega
 simp_all
def Po(c)(t):eu (jh c t) (-1)=ab (aC (bU c t)):=by
 cases t with
 |Yf=>exact K0 (l:=[])
 |Ye t=>rw[Pn];exact K0
def U3(m:aO)(h:m<=1000):pH (.dI [.aT 0]) (.aT (m:a7))=ab (aC (ai.w8 m 0)):=by
 rw[TM,nZ ⟨oK (by omega) (by omega),by simp;omega⟩,w2b]
 simp_all [aC,aI]
theorem R5(hc:c.Og)(t):bU c t≠[]:=λh=>by
 grind [pV,Mc.Og.gw]
def er(c:Mc)(L:aO):Prop:=∀i j,i<c.aa.aj->j<c.aa.aj->kd c L i=kd c L j->kd c (L+1) i=kd c (L+1) j
theorem Kv{c:Mc}(hc:c.Og)(h:er c L):∀(t i j:aO),i<c.aa.aj->j<c.aa.aj->kd c L i=kd c L j->kd c t i=kd c t j
 |0,i,j,_,_,_=>by rw[ur,ur]
 |t+1,i,j,hi,hj,e=>by
  have e1:=(yK hc hi hj).mp (h i j hi hj e);exact(yK hc hi hj).wa λr hr=>⟨(e1 r hr).1,Kv hc h t _ _ (nQ hc hi hr) (nQ hc hj hr) (e1 r hr).2⟩
theorem Pp:∀(xs D:ai Kx),(∀k,k<D.aj->∃x∈D,YF D x=k)->∀k,k<(xs.zx cB D).aj->∃x∈xs.zx cB D,YF (xs.zx cB D) x=k
 |[],D,h=>h
 |y::xs,D,h=>by
  rw[w2g];refine Pp xs (cB D y) λk hk=>?_
  unfold cB at hk |-
  by_cases hy:y∈D
  .grind
  .rw[r5 hy]at hk |-
   by_cases lC:k<D.aj
   .let⟨x,hx,e⟩:=h k lC;exact⟨x,w2k _ hx,by rw[Kt hx,e]⟩
   grind [Qo]
theorem Pq:∀(xs D:ai Kx),∀x∈xs.zx cB D,x∈D\/x∈xs
 |[],D,x,h=>.jd h
 |y::xs,D,x,h=>by
  rw[w2g]at h;rcases Pq xs (cB D y) x h with z|z
  all_goals grind [cB]
def uB(h:i<c.aa.aj):kd c t i∈bU c t:=by
 grind [pV,kd]
def Ur(h:k∈bU c t):∃i,i<c.aa.aj/\kd c t i=k:=by
 let⟨i,hi,e⟩:=w3d h;refine⟨i,by grind [pV],?_⟩
 grind [kd]
theorem z2v{c:Mc}(hc:c.Og):∀(t:aO){M k:aO},M∈bU c t->k<=M->∃i,i<c.aa.aj/\kd c t i=k
 |0,M,k,hM,hk=>by
  have e:M=0:=w4n hM;exact⟨0,hc.gw,by rw[ur];omega⟩
 |t+1,M,k,hM,hk=>by
  have CT:M∈xT c (bU c t):=hM;unfold xT at CT;let⟨s,hs,e⟩:=w0u.mp CT;have h1:=Rm (BO (c.aa.a6 (Yl (bU c t))) [] _ (w2o hs));let⟨x,hx,e2⟩:=Pp (c.aa.a6 (Yl (bU c t))) [] (λk hk=>by simp at hk) k (by omega)
  rcases Pq _ _ x hx with z|z
  .simp at z
  .let⟨s',jf,rfl⟩:=w0u.mp z;refine Ur (t:=t+1) ?_
   grind [xT,bU]
def z83  (hc:c.Og)  (hM:M∈bU c L)(Mg:∀k∈bU c L,k<=M)(Mh:∀k∈bU c (L+1),k<=M')(hle:M'<=M):er c L:=by
 have WQ:=λk (hk:k<=M)=>z2v hc L hM hk
 let yW:aO->aO:=λk=>ζ.epsilon λi=>i<c.aa.aj/\kd c L i=k
 have t6:∀k,k<=M->yW k<c.aa.aj/\kd c L (yW k)=k:=λk hk=>ζ.epsilon_spec (p:=λi=>i<c.aa.aj/\kd c L i=k) (WQ k hk)
 have VQ:((ai.CC (M+1)).a6 λk=>kd c (L+1) (yW k)).xZ:=by
  refine w3o.wa (ai.Zf.imp_of_mem (R:=(·≠·)) ?_ ai.nodup_range);intro x y hx hy gm e;refine gm ?_;have hx:=t6 x (by have:=w0y.mp hx;omega);have hy:=t6 y (by have:=w0y.mp hy;omega);have:=D2 hc L hx.1 hy.1 e;rw[hx.2,hy.2]at this;exact this
 have ZT:∀i,i<c.aa.aj->kd c (L+1) i=kd c (L+1) (yW (kd c L i)):=λi hi=>by
  have hm:=Ul (n:=M+1) VQ (λx hx=>by
   let⟨k,hk,rfl⟩:=w0u.mp hx;have hk:=t6 k (by have:=w0y.mp hk;omega);have:=Mh _ (uB (t:=L+1) hk.1);omega) (by simp) (y:=kd c (L+1) i) (by have:=Mh _ (uB (t:=L+1) hi);omega)
  let⟨k,hk,e⟩:=w0u.mp hm;have hk:=t6 k (by have:=w0y.mp hk;omega);have:=D2 hc L hk.1 hi e;rw[hk.2]at this;rw[<- this];exact e.symm
 intro i j hi hj e;rw[ZT i hi,ZT j hj,e]
def R6(h:ks≠[]):∃M:aO,ji [aC ks]=ab (.aT (M:a7))/\M∈ks/\∀k∈ks,k<=M:=by
 cases ks with
 |so=>exact uz rfl h
 |qT k ks=>
  have e:ji [aC (k::ks)]=ab (.aT (eQ (k:a7) (ks.a6 λx:aO=>(x:a7)))):=by
   have:=Ld (n:=(k:a7)) (ns:=ks.a6 λx:aO=>(x:a7))
   rw[w0m,w0v]at this;exact this
  let⟨h1,h2,h3⟩:=KJ (ks.a6 λx:aO=>(x:a7)) (k:a7)
  have qA:∀M:aO,eQ (k:a7) (ks.a6 λx:aO=>(x:a7))=(M:a7)->∀x∈k::ks,x<=M:=λM hM x hx=>by
   rcases w0i.mp hx with rfl|hx
   all_goals simp_all
  grind
def yW(c:Mc)(L k:aO):aO:=(bU c L).S6 k
def ki(h:k∈bU c L):yW c L k<c.aa.aj:=by
 rw[<- pV c L];exact U0 h
theorem rF(h:k∈bU c L):kd c L (yW c L k)=k:=Uo h
def cx(c:Mc)(L k:aO):ai Pr:=(c.aa.hX (yW c L k) []).a6 λp=>(p.1,kd c L p.2)
theorem Ez(hc:c.Og)(h:k∈bU c L):∀p∈cx c L k,p.2∈bU c L:=λp hp=>by
 unfold cx at hp;let⟨q,hq,rfl⟩:=w0u.mp hp;exact uB (hc.pr _ (i4 (ki h)) q hq).2
def fH(c:Mc)(L:aO)(T:ai aO):Mc:=⟨c.m,c.sG,T.a6 λk=>bG T (cx c L k)⟩
structure Cl(c:Mc)(L:aO)(T:ai aO):Prop where
 nd:T.xZ
 Yj:∀k∈T,k∈bU c L
 gw:0<T.aj
 cl:∀k∈T,∀p∈cx c L k,p.2∈T
theorem Cl.uN(hc:c.Og)(h:Cl c L T):T.aj<=c.aa.aj:=vI _ h.nd λk hk=>EM hc.gw L k (h.Yj k hk)
theorem Cl.ok(hc:c.Og)(h:Cl c L T):(fH c L T).Og where
 gA:=hc.gA
 wg:=hc.wg
 gw:=by show 0<(T.a6 _).aj;grind [gw]
 mo:=by
  show(T.a6 _).aj<=700;rw[w0a];have:=h.uN hc;have:=hc.mo;omega
 st:=λs hs=>by
  let⟨k,hk,rfl⟩:=w0u.mp hs;unfold bG cx;rw[w0a,w0a];exact hc.st _ (i4 (ki (h.Yj k hk)))
 pr:=λs hs p hp=>by
  let⟨k,hk,rfl⟩:=w0u.mp hs;have C3:=hp;unfold bG at hp;let⟨q,hq,rfl⟩:=w0u.mp hp;have h2:=h.cl k hk q hq;unfold cx at hq;let⟨q',Gp,rfl⟩:=w0u.mp hq;refine⟨(hc.pr _ (i4 (ki (h.Yj k hk))) q' Gp).1,?_⟩;show _<(T.a6 _).aj
  grind
def nD:aO->ai aO->ai (Ya×Sv)
 |_,[]=>[]
 |o,x::T=>(.jd (x:a7),.jd (o:a7))::nD (o+1) T
theorem Rv:∀(T:ai aO)(o:aO),nD o (T++[x])=nD o T++[(.jd (x:a7),.jd ((o+T.aj:aO):a7))]
 |[],o=>rfl
 |y::T,o=>by
  show _::nD (o+1) (T++[x])=_::(nD (o+1) T++_);rw[Rv T (o+1),show o+1+T.aj=o+(y::T).aj by simp;omega]
theorem R7:∀(T:ai aO)(o:aO),(nD o T).aj=T.aj
 |[],_=>rfl
 |_::T,o=>by show(nD (o+1) T).aj+1=_;rw[R7 T];rfl
theorem LF:∀(T:ai aO)(o:aO),lk (nD o T) (.jd (x:a7))=if x∈T then ab (.jd ((o+T.S6 x:aO):a7))else none
 |[],o=>by rw[r5 (by simp)];rfl
 |y::T,o=>by
  unfold lk;rw[nD,w2i]
  by_cases e:y=x
  .subst e;simp
  .rw[YY (λz=>e (by grind))]
   show lk (nD (o+1) T) (.jd (x:a7))=_;rw[LF T (o+1)]
   grind
def Us{T:ai aO}(h:x∉T):Α (nD 0 T) (.jd (x:a7)) (.jd (T.aj:a7))=nD 0 (T++[x]):=by
 have e:∀(T:ai aO)(o:aO),x∉T->((nD o T).uJ λp=>decide (p.1=.jd (x:a7)))=false:=λT=>by
  induction T with
  |so=>intro _ _;rfl
  |qT y T ih=>
   intro o h;show(decide ((ZG.jd (y:a7):Ya)=.jd (x:a7))||(nD (o+1) T).uJ _)=false
   grind
 unfold Α;rw[r5 (by grind),Rv,w1y]
theorem z2w{n:a7}:j6 i (.aT m) (.aT n) e (ab (.aV (.k kvs)))=if kvs.aj<16777216/\mJ i e=true then .nx (e.rk i (.aV (.k (Α kvs (.jd n) (.jd m)))))else .no:=rfl
def y75(r)(w0 w1)(T)(hT:T.aj<=1000)(gf)(z5)(st:ai Pr)(ky:st.aj<=1000)(t)(f:aO):
  yD K a r [.fr w0,.fr w1,.ku none (T.a6 aI),.aV (.k (nD 0 T)),.ku none gf,.fr z5,.ku none (st.a6 bo),.fr (eZ t),.fr (.aT (f:a7))] =
   .nx [.fr w0,.fr w1,.ku none ((aW T f).a6 aI),.aV (.k (nD 0 (aW T f))),.ku none gf,.fr z5,.ku none ((st++[(t,(aW T f).S6 f)]).a6 bo),.fr (eZ t),.fr (.aT (f:a7))]:=by
 unfold yD;rw?;rw[LF]
 by_cases h:f∈T
 .have e:aW T f=T:=nZ h;rw[nZ h,r5 (by simp)];rw?;rw[nZ (by rfl),nZ (by grind),w0x,e];rfl
 .have e:aW T f=T++[f]:=r5 h;rw[r5 h,nZ (by rfl),z2w,nZ ⟨by rw[R7];omega,by rfl⟩,w0a,Us h];rw?;rw[nZ (by grind)];rw?;rw[LF,nZ (by simp)];rw?;rw[nZ (by rfl),nZ (by grind),w0x,e,w0x];rfl
theorem P_(r:aO->ai W->FR)(w0 w1:W)(gf:ai W)(z5:W):∀(ps:ai Pr)(T:ai aO)(st:ai Pr)(z7 z8:S),T.aj+ps.aj<=1000->st.aj+ps.aj<=100 ->
  ∃mX sj,ez 7 8 (yD K a r) (ps.a6 λp=>(eZ p.1,W.aT (p.2:a7))) [.fr w0,.fr w1,.ku none (T.a6 aI),.aV (.k (nD 0 T)),.ku none gf,.fr z5,.ku none (st.a6 bo),z7,z8] =
   .nx [.fr w0,.fr w1,.ku none (((ps.a6 (·.2)).zx aW T).a6 aI),.aV (.k (nD 0 ((ps.a6 (·.2)).zx aW T))),.ku none gf,.fr z5,.ku none ((st++bG ((ps.a6 (·.2)).zx aW T) ps).a6 bo),mX,sj]
 |[],T,st,z7,z8,_,_=>⟨z7,z8,by show SR.nx _=_;simp[bG]⟩
 |p::ps,T,st,z7,z8,h1,h2=>by
  have q:=y75 (K:=K) (a:=a) r w0 w1 T (by simp at h1;omega) gf z5 st (by simp at h2;omega) p.1 p.2;have hl:(aW T p.2).aj<=T.aj+1:=by unfold aW;split<;>simp
  let⟨mX,sj,g⟩:=P_ r w0 w1 gf z5 ps (aW T p.2) (st++[(p.1,(aW T p.2).S6 p.2)]) (.fr (eZ p.1)) (.fr (.aT (p.2:a7))) (by simp at h1;omega) (by simp at h2 |-;omega);refine⟨mX,sj,?_⟩;show(yD K a r [.fr w0,.fr w1,.ku none (T.a6 aI),.aV (.k (nD 0 T)),.ku none gf,.fr z5,.ku none (st.a6 bo),.fr (eZ p.1),.fr (.aT (p.2:a7))]).eK (ez 7 8 (yD K a r) (ps.a6 λp=>(eZ p.1,W.aT (p.2:a7))))=_
  rw[q];rw?;rw[g];show _=SR.nx [.fr w0,.fr w1,.ku none (((ps.a6 (·.2)).zx aW (aW T p.2)).a6 aI),.aV (.k (nD 0 ((ps.a6 (·.2)).zx aW (aW T p.2)))),.ku none gf,.fr z5,.ku none ((st++bG ((ps.a6 (·.2)).zx aW (aW T p.2)) (p::ps)).a6 bo),mX,sj];let⟨m,hm⟩:=D3 (ps.a6 (·.2)) (aW T p.2)
  have e:(st++[(p.1,(aW T p.2).S6 p.2)])++bG ((ps.a6 (·.2)).zx aW (aW T p.2)) ps=st++bG ((ps.a6 (·.2)).zx aW (aW T p.2)) (p::ps):=by
   simp_all [bG,Um,Rp]
  rw[e]
structure k9(K:Fg)(a:aH)(n:aO)(j:aO)(l:Lm)(aL:ai W)(g:aO->ai Pr)(B:aO->Prop):Prop where
 zb:∀x,B x->∀e,iH bM (nN K a n) j l aL [.aT (x:a7)] e=.ok (au (g x)) e
 next:∀x,B x->∀p∈g x,B p.2
 gA:∀x,B x->x<700
 uN:∀x,B x->(g x).aj<=8
def kn(w0 w1:W)(g:aO->ai Pr)(b i:aO)(z5 z6 z7 z8:S):ai S:=[.fr w0,.fr w1,.ku none ((bf g b i).a6 aI),.aV (.k (nD 0 (bf g b i))),.ku none ((((bf g b i).wj i).a6 λx=>bG (bf g b i) (g x)).a6 au),z5,z6,z7,z8]
theorem Pt(n:aO){l:Lm}{aL:ai W}{g:aO->ai Pr}(H:k9 K a n j l aL g B)(w0:W)(b:aO)(hb:B b):∀(NN i:aO)(z5 z6 z7 z8:S),i<=(bf g b i).aj->701<=i+NN ->
  ∃(I:aO)(y5 y6 y7 y8:S),(bf g b I).aj=I/\bw (DX K a (nN K a n)) (DY K a (nN K a n)) (NN+1) (kn w0 (.fn j l aL) g b i z5 z6 z7 z8)=.nx (kn w0 (.fn j l aL) g b I y5 y6 y7 y8)
 |0,i,z5,z6,z7,z8,hi,hf=>by
  have:=vI 700 (xG g b i) (λx hx=>H.gA x (uA hb H.next i x hx))
  omega
 |NN+1,i,z5,z6,z7,z8,hi,hf=>by
  have hl:=vI 700 (xG g b i) (λx hx=>H.gA x (uA hb H.next i x hx))
  have ht:(((bf g b i).wj i).a6 λx=>bG (bf g b i) (g x)).aj=i:=by grind
  have hw:DX K a (nN K a n) (kn w0 (.fn j l aL) g b i z5 z6 z7 z8)=.ok (decide (i<(bf g b i).aj)) (kn w0 (.fn j l aL) g b i z5 z6 z7 z8):=by
   unfold DX kn;rw?
   simp_all
  rw[vF,hw]
  by_cases h:i<(bf g b i).aj
  .have hB:B ((bf g b i).hX i 0):=uA hb H.next i _ (by grind);have hgl:=H.uN _ hB
   have he:bf g b (i+1)=((g ((bf g b i).hX i 0)).a6 (·.2)).zx aW (bf g b i):=by
    simp_all [bf]
   let⟨y7,y8,q⟩:=P_ (K:=K) (a:=a) (nN K a n) w0 (.fn j l aL) ((((bf g b i).wj i).a6 λx=>bG (bf g b i) (g x)).a6 au) (.aT ((bf g b i).hX i 0:a7)) (g ((bf g b i).hX i 0)) (bf g b i) [] z7 z8 (by omega) (by grind)
   rw[<- he]at q
   have Vy:DY K a (nN K a n) (kn w0 (.fn j l aL) g b i z5 z6 z7 z8)=.nx (kn w0 (.fn j l aL) g b (i+1) (.fr (.aT ((bf g b i).hX i 0:a7))) (.fr (au (bG (bf g b (i+1)) (g ((bf g b i).hX i 0))))) y7 y8):=by
    unfold DY kn;rw?;rw[w0a,ht,pX h];unfold aI at q |-
    rw?;rw[H.zb _ hB];unfold au at q |-
    rw?;rw[DZ];rw?;rw[show([]:ai W)=([]:ai Pr).a6 bo from rfl,q];rw?;rw[nZ (by grind),U1 h,w0x];rfl
   rw[ϣ h];rw?;rw[Vy];rw?;let⟨m,hm⟩:=BS g b i
   exact Pt n H w0 b hb NN (i+1) _ _ _ _ (by
    grind) (by omega)
  .rw[YY h];rw?
   grind
def Qa(n)(H:k9 K a n j l aL g B)(b)(hb:B b):∃I:aO,(bf g b I).aj=I /\
  nN K a (n+1) D8 [.aT (b:a7),.fn j l aL]=.ok (.fr (.gs [.dI (((bf g b I).a6 λx=>bG (bf g b I) (g x)).a6 au),.dI ((bf g b I).a6 aI)])):=by
 rw[zaw];unfold JA;rw?;let⟨I,y5,y6,y7,y8,h1,h2⟩:=Pt (K:=K) (a:=a) n H (.aT (b:a7)) b hb 999999 0 .no .no .no .no (by simp) (by omega);rw[show(1000000:aO)=999999+1 from rfl];have e:([S.fr (W.aT (b:a7)),.fr (.fn j l aL),.ku none [W.aT (b:a7)],.aV (.k [(.jd (b:a7),.jd 0)]),.ku none [],.no,.no,.no,.no]:ai S)=kn (.aT (b:a7)) (.fn j l aL) g b 0 .no .no .no .no:=rfl;rw[e,h2];unfold kn;rw?
 grind
theorem Ut(t)(hi:i<c.aa.aj):eu ((bU c t).a6 aI) (i:a7)=ab (.aT ((kd c t i:aO):a7)):=pX (by rw[pV];exact hi)
def zbo(n:aO)(c:Mc)(hc:c.Og):∀(NN t M:aO),ji [aC (bU c t)]=ab (.aT (M:a7))->M∈bU c t->(∀k∈bU c t,k<=M)->t<=M->M<c.aa.aj->c.aa.aj<=t+NN ->
  ∃(L:aO)(z:S),er c L/\L<c.aa.aj/\bw (Dh K a (nN K a (n+1))) (G7 K a (nN K a (n+1))) (NN+1) [.fr (.dI (c.aa.a6 au)),.ku none (jh c t),.fr (aC (bU c (t+1)))]=.nx [.fr (.dI (c.aa.a6 au)),.ku none (jh c L),z]:=by
 intro NN
 induction NN with
 |Yf=>grind
 |Ye NN ih=>
  intro t M h1 Vp Mg h2 h3 h4;have oy:=hc.mo;let⟨M',m1,m2,m3⟩:=R6 (R5 hc (t+1));have CT:=EM hc.gw (t+1) M' m2
  have hw:Dh K a (nN K a (n+1)) [.fr (.dI (c.aa.a6 au)),.ku none (jh c t),.fr (aC (bU c (t+1)))]=.ok (decide ((M:a7)<(M':a7))) [.fr (.dI (c.aa.a6 au)),.ku none (jh c t),.fr (aC (bU c (t+1)))]:=by
   unfold Dh;rw?;rw[m1];rw?;rw[Po];rw?;rw[h1];rw?
  rw[vF,hw];rw?
  by_cases bZ:(M:a7)<(M':a7)
  .rw[nZ bZ];unfold G7;rw?;rw[nZ (by rw[z2u];omega)];rw?;rw[Pl n c hc (bU c (t+1)) (pV c (t+1))];rw?;have q:=ih (t+1) M' m1 m2 m3 (by omega) CT (by omega);rw[Pn]at q;exact q
  .rw[r5 bZ];exact⟨t,_,z83 hc Vp Mg m3 (by omega),by omega,rfl⟩
def z2x(n)(c)(hc:c.Og):∃L:aO,er c L/\L<c.aa.aj/\nN K a (n+2) G8 [.dI (c.aa.a6 au)]=.ok (.ku none (jh c L)):=by
 have oy:=hc.mo;have pf:=hc.gw;rw[Wz];unfold Hb;rw?;rw[w0a,U3 _ (by omega)];rw?;rw[show eu [aC (ai.w8 c.aa.aj 0)] (-1)=ab (aC (bU c 0)) by exact K0 (l:=[])];rw?;rw[Pl n c hc (bU c 0) (pV c 0)];rw?;let⟨M,m1,m2,m3⟩:=R6 (R5 hc 0);have hM:=EM hc.gw 0 M m2;let⟨L,z,q0,q1,q2⟩:=zbo (K:=K) (a:=a) n c hc 999999 0 M m1 m2 m3 (by omega) hM (by omega);have e:([aC (ai.w8 c.aa.aj 0)]:ai W)=jh c 0:=rfl;rw[e];rw[show(W.dI (ai.a6 aI (xT c (bU c 0))))=aC (bU c 1)from rfl];rw[show(1000000:aO)=999999+1 from rfl];rw[q2];rw?
 grind
theorem Rw:∀ks:ai aO,dn (ks.a6 aI)=ab (ks.a6 λk:aO=>(k:a7))
 |[]=>rfl
 |k::ks=>by
  show(dn (ks.a6 aI)).a6 _=_;rw[Rw ks];rfl
def JF{ks:ai aO}(h:k∈ks):fT (.dI (ks.a6 aI)) [.aT (k:a7)]=ab (.aT ((ks.S6 k:aO):a7)):=by
 show(match dn (ks.a6 aI)with
  |ab ys=>match mr (k:a7) ys with
   |ab j=>ab (W.aT (j:a7))
   |none=>none
  |none=>none)=_
 grind [Rw,P9]
theorem S0:∀bs:ai ie,bE (bs.a6 .bl)=true
 |[]=>rfl
 |b::bs=>by show(true&&bE (bs.a6 .bl))=true;rw[S0 bs];rfl
def U4(p):ZU (bo p)=true:=by
 show(bE (p.1.a6 .bl)&&(true&&true))=true;rw[S0];rfl
theorem EN{f:α->W}(h:∀x,ZU (f x)=true):∀l:ai α,bE (l.a6 f)=true
 |[]=>rfl
 |x::l=>by show(ZU (f x)&&bE (l.a6 f))=true;rw[h x,EN h l];rfl
theorem U5(s):ZU (au s)=true:=EN U4 s
theorem EO(l:ai (ai Pr)):ZU (.dI (l.a6 au))=true:=EN U5 l
theorem xi(ks:ai aO):ZU (.dI (ks.a6 aI))=true:=EN (λ_=>rfl) ks
def Uu(n)(c)(hc:c.Og)(L k)(hk:k∈bU c L):nN K a (n+1) Hu [.dI (c.aa.a6 au),aC (bU c L),.aT (k:a7)]=.ok (.ku none ((cx c L k).a6 bo)):=by
 have hr:=ki hk;have hs:=i4 hr;have Gn:=hc.pr _ hs;have hl:=hc.st _ hs;have p8:2^c.m<=8:=w1a (w0r (by decide) hc.gA) (by decide);rw[W7];unfold Hy aC;rw?;rw[JF hk];rw?;rw[show(((bU c L).S6 k:aO):a7)=((yW c L k:aO):a7)from rfl,Cz hr];unfold cx;generalize c.aa.hX (yW c L k) []=s at *;unfold au;rw?;rw[DZ];rw?;rw[nZ (by grind)];simp only[cw,gF,w0d,w0g];rw[Js (q:=λ_=>true) (g:=λp=>.gs [p.1,(aP (aC (bU c L)) p.2).hX .aB])]
 .rw?;rw[w4c.wa (λ_ _=>rfl),w0v,w0v]
  congr 2;refine w1o λp hp=>?_
  show W.gs [eZ p.1,(eu ((bU c L).a6 aI) (p.2:a7)).hX .aB]=_;rw[pX (by rw[pV];exact(Gn p hp).2)];rfl
 .intro q hq;let⟨p,hp,rfl⟩:=w0u.mp hq;refine⟨_,rfl,λ_=>?_⟩
  unfold M6 aC;rw?;rw[pX (by rw[pV];exact(Gn p hp).2)];rw?;exact⟨_,rfl⟩
theorem Uv(n)(c)(hc:c.Og)(L):k9 K a (n+2) HU yE [.dI (c.aa.a6 au),aC (bU c L)] (cx c L) (·∈bU c L) where
 zb:=λx hx e=>by
  refine OH zaH rfl (by show(ZU (.dI (c.aa.a6 au))&&(ZU (aC (bU c L))&&true))=true;grind [EO,aC,xi]) ?_;show nN K a (n+2) HU [.aT (x:a7),.dI (c.aa.a6 au),aC (bU c L)]=_;rw[Xz];unfold Dn;rw?;rw[Uu n c hc L x hx];rw?;rfl
 next:=λx hx=>Ez hc hx
 gA:=λx hx=>by
  have:=EM hc.gw L x hx;have:=hc.mo;omega
 uN:=λx hx=>by
  have p8:2^c.m<=8:=w1a (w0r (by decide) hc.gA) (by decide);unfold cx;rw[w0a,hc.st _ (i4 (ki hx))];exact p8
theorem Uw(n)(c:Mc)(hc:c.Og):k9 K a (n+1) HV yF [.dI (c.aa.a6 au)] (λx=>c.aa.hX x []) (·<c.aa.aj) where
 zb:=λx hx e=>by
  refine OH zaI rfl (by show(ZU (.dI (c.aa.a6 au))&&true)=true;rw[EO];rfl) ?_;show nN K a (n+1) HV [.aT (x:a7),.dI (c.aa.a6 au)]=_;rw[XA];unfold Dp;rw?;rw[Cz hx];rw?;rfl
 next:=λx hx p hp=>(hc.pr _ (i4 hx) p hp).2
 gA:=λx hx=>by
  have:=hc.mo;omega
 uN:=λx hx=>by
  have p8:2^c.m<=8:=w1a (w0r (by decide) hc.gA) (by decide);rw[hc.st _ (i4 hx)];exact p8
theorem LG(hc:c.Og)(h:(bf (cx c L) (kd c L 0) I).aj=I):Cl c L (bf (cx c L) (kd c L 0) I) where
 nd:=xG _ _ _
 Yj:=uA (B:=(·∈bU c L)) (uB hc.gw) (λx hx=>Ez hc hx) I
 gw:=by
  let⟨m,e⟩:=Rr (cx c L) (kd c L 0) I;rw[e];simp
 cl:=λk hk=>LD I (by omega) k (by grind)
theorem z84(hc:c.Og)(hs:er c L)(h:Cl c L T)(h0:kd c L 0∈T)(i):∀x∈bf (λx=>c.aa.hX x []) 0 i,x<c.aa.aj/\kd c L x∈T:=
 uA (B:=λx=>x<c.aa.aj/\kd c L x∈T) ⟨hc.gw,h0⟩ (λx hx p hp=>by
  have hl:=hc.st _ (i4 hx.1);have Gk:=(hc.pr _ (i4 hx.1) p hp).2;refine⟨Gk,?_⟩;let⟨r,hr,e⟩:=w3d hp;have hk:=uB (t:=L) hx.1
  have e1:ee c x r=p.2:=by
   grind [ee]
  have q:=((yK hc (ki hk) hx.1).mp (hs _ _ (ki hk) hx.1 (rF hk)) r (by omega)).2;rw[e1]at q;rw[<- q];have F7:=hc.st _ (i4 (ki hk));refine h.cl _ hx.2 (((c.aa.hX (yW c L (kd c L x)) []).hX r ([],0)).1,kd c L (ee c (yW c L (kd c L x)) r)) ?_
  grind [cx,ee]) i
def z85(m:aO)(h:m<=1000):uD (.dI [.aB]) (.aT (m:a7))=ab (ai.w8 m .aB):=by
 show(if pD (m:a7)=true/\([W.aB]:ai W).aj*(m:a7).uh<=16777216 then ab (ai.w8 (m:a7).uh [W.aB]).Ys else none)=_;rw[nZ ⟨oK (by omega) (by omega),by rw[w2b];simp;omega⟩,w2b,ai.flatten_replicate_singleton]
def y76(n)(c)(L)(T:ai aO)(w0 w1 w3)(x)(hx:x<c.aa.aj)(hk:kd c L x∈T)(ws)(hw:ws.aj=c.aa.aj):
  ∃ws':ai W,ws'.aj=c.aa.aj/\D9 K a (nN K a n) [.fr w0,.fr w1,.fr (aC (bU c L)),.fr (.gs [w3,.dI (T.a6 aI)]),.ku none ws,.fr (.aT (x:a7))]=.nx [.fr w0,.fr w1,.fr (aC (bU c L)),.fr (.gs [w3,.dI (T.a6 aI)]),.ku none ws',.fr (.aT (x:a7))]:=by
 unfold D9 aC;rw?;rw[Ut L hx];rw?;rw[JF hk];rw?;rw[show oC ws.aj (x:a7)=ab x by simp_all [oC]];rw?
 grind
def Pu(n)(c)(hc:c.Og):∃(L I:aO)(ws:ai W),er c L/\L<c.aa.aj/\(bf (cx c L) (kd c L 0) I).aj=I/\nN K a (n+4) Em [aE c]=.ok (.fr (.gs [aE (fH c L (bf (cx c L) (kd c L 0) I)),.dI ws])):=by
 have oy:=hc.mo;have pf:=hc.gw;let⟨L,hS,hL,k1⟩:=z2x (K:=K) (a:=a) (n+1) c hc;let⟨I,hI,c1⟩:=Qa (K:=K) (a:=a) (n+2) (Uv n c hc L) (kd c L 0) (uB hc.gw);let⟨J,hJ,c2⟩:=Qa (K:=K) (a:=a) (n+2) (Uw (n+1) c hc) 0 hc.gw;have fh:=LG hc hI
 have h0:kd c L 0∈bf (cx c L) (kd c L 0) I:=by
  let⟨m,e⟩:=Rr (cx c L) (kd c L 0) I;rw[e];simp
 have Vz:=z84 hc hS fh h0 J;rw[y7e];unfold KQ;rw?;rw[y7w (n+1) c hc];rw?;rw[pG];rw?;rw[k1];rw?;rw[Po];rw?;rw[show aP (aC (bU c L)) (.aT 0)=ab (.aT ((kd c L 0:aO):a7))from pX (i:=0) (by rw[pV];exact pf)];rw?;generalize hT:bf (cx c L) (kd c L 0) I=T at *;rw[show dz [1,2] [S.fr (aE c),S.fr (W.dI (ai.a6 au c.aa)),S.fr (aC (bU c L)),S.no,S.no,S.no]=ab [.dI (c.aa.a6 au),aC (bU c L)]from rfl,M1,c1,OI (by show(ZU (.dI ((T.a6 λx=>bG T (cx c L x)).a6 au))&&(ZU (.dI (T.a6 aI))&&true))=true;rw[EO,xi];rfl)]
 rw?;rw[w0a,z85 _ (by omega)];rw?;rw[show ∀s3 s4:S,dz [1] [S.fr (aE c),S.fr (W.dI (ai.a6 au c.aa)),S.fr (aC (bU c L)),s3,s4,S.no]=ab [.dI (c.aa.a6 au)]from λ_ _=>rfl,M1]
 rw[show(W.aT 0)=W.aT ((0:aO):a7)from rfl,c2,OI (by show(ZU (.dI _)&&(ZU (.dI _)&&true))=true;rw[EO,xi];rfl)];rw?
 let⟨e',f1,ws,z5,f2,rfl⟩:=KY (b:=D9 K a (nN K a (n+3))) (i:=5) (λ_ e=>∃(ws:ai W)(z5:S),ws.aj=c.aa.aj/\e=[S.fr (aE c),S.fr (W.dI (ai.a6 au c.aa)),S.fr (aC (bU c L)),S.fr (W.gs [W.dI (ai.a6 au (ai.a6 (λx=>bG T (cx c L x)) T)),W.dI (ai.a6 aI T)]),S.ku none ws,z5])
  (ai.a6 aI (bf (λx=>c.aa.hX x []) 0 J)) 0 [S.fr (aE c),S.fr (W.dI (ai.a6 au c.aa)),S.fr (aC (bU c L)),S.fr (W.gs [W.dI (ai.a6 au (ai.a6 (λx=>bG T (cx c L x)) T)),W.dI (ai.a6 aI T)]),S.ku none (ai.w8 c.aa.aj W.aB),S.no] ⟨_,_,w2f,rfl⟩ (by
  rintro j w e hw ⟨ws,z5,h1,rfl⟩;let⟨x,hx,rfl⟩:=w0u.mp hw;let⟨x1,x2⟩:=Vz x hx;let⟨ws',w1,w2⟩:=y76 (K:=K) (a:=a) (n+3) c L T (aE c) (W.dI (ai.a6 au c.aa)) (W.dI (ai.a6 au (ai.a6 (λx=>bG T (cx c L x)) T))) x x1 x2 ws h1
  exact⟨_,w2,ws',_,w1,rfl⟩)
 rw[f1];rw?;rw[uv];rw?;rw[xF];rw?;refine⟨L,I,ws,hS,hL,by rw[hT];exact hI,?_⟩;rw[hT];rfl
def cG(s:aO):aO->aO->aO
 |k,0=>k
 |k,f+1=>if s<=2^k then k else cG s (k+1) f
def cN(s:aO):aO:=cG s 0 12
theorem QV(s):∀(f k:aO),s<=2^(k+f)->s<=2^cG s k f/\cG s k f<=k+f/\∀j,k<=j->j<cG s k f->2^j<s
 |0,k,h=>⟨h,w0f _,λj h1 h2=>uz h2 (by simp only[cG];omega)⟩
 |f+1,k,h=>by
  unfold cG;split
  .rename_i q;exact⟨q,by omega,λj h1 h2=>by omega⟩
  .rename_i q;let⟨a1,a2,a3⟩:=QV s f (k+1) (by rw[show k+1+f=k+(f+1) by omega];exact h)
   grind
theorem rQ  (h:s<=700):s<=2^(0+12):=w1a h (by decide)
def K1  (h:s<=700):s<=2^cN s/\cN s<=12/\∀j,j<cN s->2^j<s:=by
 let⟨a1,a2,a3⟩:=QV s 12 0 (rQ h);exact⟨a1,by unfold cN;omega,λj hj=>a3 j (w1g _) hj⟩
theorem OA(n:aO)(c:Mc):∀(f k NN:aO),c.aa.aj<=2^(k+f)->f<NN->k+f<=50 ->
  bw (Dr K a (nN K a (n+1))) (HH K a (nN K a (n+1))) NN [.fr (aE c),.fr (.aT (k:a7))]=.nx [.fr (aE c),.fr (.aT ((cG c.aa.aj k f:aO):a7))]
 |f,k,0,_,h,_=>by omega
 |f,k,NN+1,h1,h2,h3=>by
  have e:Dr K a (nN K a (n+1)) [.fr (aE c),.fr (.aT (k:a7))]=.ok (decide (2^k<c.aa.aj)) [.fr (aE c),.fr (.aT (k:a7))]:=by
   unfold Dr;rw?;rw[yI n k (by omega)];rw?;rw[pG];rw?;simp only[w0a,w5w]
  rw[vF,e]
  by_cases q:c.aa.aj<=2^k
  .rw[YY (by omega)];rw?;cases f with
   |Yf=>rfl
   |Ye f=>unfold cG;rw[nZ q]
  .cases f with
   |Yf=>exact uz (by simpa using h1) q
   |Ye f=>
    rw[ϣ (by omega)];rw?;unfold HH;rw?;unfold cG;rw[r5 q];exact OA n c f (k+1) NN (by rw[show k+1+f=k+(f+1) by omega];exact h1) (by omega) (by omega)
def Jn(n)(c)(h:c.aa.aj<=700):nN K a (n+2) Bq [aE c]=.ok (.fr (.aT ((cN c.aa.aj:aO):a7))):=by
 rw[X3];unfold IU;rw?;rw[show S.fr (W.aT 0)=S.fr (W.aT ((0:aO):a7))from rfl,OA n c 12 0 1000000 (rQ h) (by omega) (by omega)];rw?;rfl
def tr(c:Mc)(k q:aO):ai (d3 ie):=if q%2^k<c.aa.aj then(b_ k (ee c (q%2^k) (q / 2^k))++Mf c (q%2^k) (q / 2^k)).a6 ab else ai.w8 (k+c.sG) none
def Eg  (hc:c.Og)(hi:i<c.aa.aj)(hr:r<2^c.m):(Mf c i r).aj=c.sG:=by
 have hs:=i4 hi;have hl:=hc.st _ hs;unfold Mf;have Az:r<(c.aa.hX i []).aj:=by omega
 rw[show(c.aa.hX i []).hX r ([],0)=(c.aa.hX i [])[r] by grind];exact(hc.pr _ hs _ (w1j Az)).1
def BU  (h:q<2^(m+k)):q / 2^k<2^m:=by
 rw[w5n]at h;exact aO.div_lt_of_lt_mul (by rwa [w3e]at h)
def Ux  (hc:c.Og)  (hq:q<2^(c.m+k)):(tr c k q).aj=k+c.sG:=by
 grind [tr,nR,Eg,BU]
def zee(m:aO)(h:m<=1000):rM (.gs [.aB]) (.aT (m:a7))=ab (.gs ((ai.w8 m none).a6 eo)):=by
 show(if pD (m:a7)=true/\[W.aB]≠[]/\[W.aB].aj*(m:a7).uh<=16777216 then ab (W.gs (ai.w8 (m:a7).uh [W.aB]).Ys)else none)=_;rw[nZ ⟨oK (by omega) (by omega),by simp,by simp;omega⟩];simp[eo]
def z86(l:ai ie):(l.a6 ab).a6 eo=l.a6 .bl:=by
 rw[w0v];rfl
def U6{c:Mc}{r:aO}(hc:c.Og)(hi:i<c.aa.aj)(hr:r<2^c.m):eu ((c.aa.hX i []).a6 bo) (r:a7)=ab (.gs [.gs ((Mf c i r).a6 .bl),.aT (ee c i r:a7)]):=by
 have hs:=i4 hi;have hl:=hc.st _ hs;have Az:r<(c.aa.hX i []).aj:=by omega
 refine pU ?_;rw[w0s,w0c Az];unfold Mf ee;rw[show(c.aa.hX i []).hX r ([],0)=(c.aa.hX i [])[r] by grind];rfl
def Uy(h:x<=2^5):(x:a7)<1073741824:=by
 have:(2:aO)^5=32:=by decide
 omega
theorem sY(h:x<=1000000000):pD (x:a7)=true:=oK (by omega) (by omega)
def zbp(n)(c:Mc)(hc:c.Og){q:aO}(hk:k<=5)(hs:c.aa.aj<=2^k)(hq:q<2^(c.m+k)):nN K a (n+2) IA [aE c,.aT (k:a7),.aT (q:a7)]=.ok (.fr (.gs ((tr c k q).a6 eo))):=by
 have hw:=hc.wg;have hm:=hc.gA;have hp:0<2^k:=w3j k;have h1:2^(c.m+k)<=2^8:=w0r (by decide) (by omega);have h2:2^k<=2^5:=w0r (by decide) hk;rw[X5];unfold IW;rw?;rw[yI n k (by omega)];rw?;rw[pG];rw?;rw[nZ (a7.natCast_pos.wa hp),w0a];have hb:q%2^k<2^k:=aO.mod_lt _ hp
 by_cases h:q%2^k<c.aa.aj
 .have hd:=BU hq;have tl:=Eg hc h hd;have nl:=nQ hc h hd;rw[r5 (by rw[<- w3y];omega),pG];rw?;rw[<- w3y,Cz h];rw?;rw[yI n k (by omega)];unfold au;rw?;rw[nZ ⟨a7.natCast_pos.wa hp,Uy h2⟩];rw?;rw[<- a7.natCast_ediv,U6 hc h hd];rw?;rw[Q4 n (by omega) (by omega)];rw?;rw[nZ (by rw[w0a,w0a,nR,tl];omega),<- w0x];unfold tr;rw[nZ h,z86]
 .rw[nZ (by rw[<- w3y];omega),xF];rw?;rw[show((k:a7)+(c.sG:a7))=((k+c.sG:aO):a7)from rfl,zee _ (by omega)];rw?;unfold tr;rw[r5 h]
def pL(c:Mc)(k p:aO):ai (d3 ie):=(ai.CC (2^(c.m+k))).a6 λq=>(tr c k q).hX p none
def z87(c)(k p):(pL c k p).aj=2^(c.m+k):=by unfold pL;rw[w0a,w1t]
def Jo(m:aO):bu 0 (m:a7)=(ai.CC m).a6 fun(q:aO)=>W.aT (q:a7):=by
 unfold bu;simp
def z88{l:ai (d3 ie)}  (h:p<l.aj):eu (l.a6 eo) (p:a7)=ab (eo (l.hX p none)):=by
 refine pU ?_;rw[w0s,w0c h]
 grind
def zbq(n)(c)(hc:c.Og)(hk:cN c.aa.aj<=4)(hs:c.aa.aj<=700):
  nN K a (n+3) Iy [aE c]=.ok (.ku none ((ai.CC (cN c.aa.aj+c.sG)).a6 λp=>W.dI ((pL c (cN c.aa.aj) p).a6 eo))):=by
 have hw:=hc.wg;have hm:=hc.gA;have jf:=(K1 hs).1;have ck:=Jn (K:=K) (a:=a) n c hs;generalize cN c.aa.aj=k at hk jf ck |-
 have h8:2^(c.m+k)<=2^7:=w0r (by decide) (by omega);rw[X4];unfold IV;rw?;rw[ck];rw?;rw[uv];rw?;rw[show((c.m:a7)+(k:a7))=((c.m+k:aO):a7)from rfl,yI (n+1) (c.m+k) (by omega)];rw?;have h7:(2:aO)^7=128:=by decide
 rw[nZ (sY (by omega)),Jo];rw?
 rw[nZ (by rw[w0a,w1t];omega),kT (g:=λq=>W.gs ((tr c k q).a6 eo)) (ai.CC (2^(c.m+k))) (λq hq=>⟨_,by
  unfold Nw;rw?;simp only[cw,gF,w0d,w0g,w0o,w0n];rw?;rw[zbp n c hc (by omega) jf (w0y.mp hq)];rw?;rfl⟩)]
 rw?;simp only[cw,gF,w0d,w0g,w0o,w0n];rw?;rw[xF];rw?;rw[show((k:a7)+(c.sG:a7))=((k+c.sG:aO):a7)from rfl,nZ (oK (by omega) (by omega)),Jo];rw?
 rw[nZ (by rw[w0a,w1t];omega),kT (g:=λp=>W.dI ((pL c k p).a6 eo)) (ai.CC (k+c.sG)) (λp hp=>⟨_,by
  unfold Nv;rw?;simp only[cw,gF,w0d,w0g,w0o,w0n];rw?
  rw[nZ (by rw[w0a,w1t];omega),kT (g:=λq=>eo ((tr c k q).hX p none)) (ai.CC (2^(c.m+k))) (λq hq=>⟨_,by
   unfold Nu;rw?;simp only[cw,gF,w0d,w0g,w0o,w0n];rw?;rw[z88 (by rw[Ux hc (w0y.mp hq)];exact w0y.mp hp)];rfl⟩)]
  rw?;unfold pL;rw[w0v];rfl⟩)]
 rw?
def mx(c k:a7):a7:=((c*48271+(k+1)*1299721)%2147483647)^5%2147483647
theorem Ve(x):-18446744073709551616<x%2147483647/\x%2147483647<18446744073709551616:=⟨by omega,by omega⟩
def Pw(n)(c k):nN K a (n+1) DL [.aT c,.aT k]=.ok (.fr (.aT (mx c k))):=by
 rw[XB];unfold Ic;rw?;rw[nZ (Ve _)];rfl
def Dc:=
 (ak (df 5 (cR ag))
  (ak (cJ 6 dG (ae (af 4) ag)
  (Bi K a r))
  (aG (a_ (ae (af 2) (ae (af 3) (ae (af 5) ag)))))))
def GP:=
 (ak (aR (lu (iI (ax (aq zf (af 2) (dC (.aT 2)))) (iI (ax (aq kx (af 4) (dC (.aT 4)))) (ax (aq kx (aq b9 (aq cn (af 1) (dC (.aT 768))) (dC (.aT 4))) (dC (.aT 0)))))) (ax (aq kx (af 4) (dC (.aT 8)))))
  (aA 2 (aq b9 (af 2) (dC (.aT 2))))
  cM)
  (Dc K a r))
def GO:=
 (ak (aR (ax (aq zf (aq b9 (aq cn (af 1) (dC (.aT 96))) (dC (.aT 8))) (dC (.aT 6))))
  (ak (aA 2 (dC (.aT 3)))
  (ak (aA 4 (aq bg (dC (.aT 1)) (aq b9 (af 4) (dC (.aT 4)))))
  (aA 3 (aq b9 (af 3) (aq bg (aq bg (dC (.aT 1)) (aq iq (bP jV (ae (aq oF (af 4) (dC (.aT 3))) ag)) (dC (.aT 6)))) (bP jV (ae (aq kx (af 4) (dC (.aT 2))) ag)))))))
  cM)
  (GP K a r))
def C':=
 (ak (aR (ax (aq zf (aq b9 (aq cn (af 1) (dC (.aT 96))) (dC (.aT 8))) (dC (.aT 5))))
  (aA 4 (aq bg (af 4) (dC (.aT 8))))
  cM)
  (GO K a r))
theorem Wx(K:Fg)(a:aH)(r:aO->ai W->FR):Hd K a r =
 (ak (aA 1 (av (r Bl) (ae (af 0) (ae (dC (.aT 0)) ag))))
  (ak (aA 2 (aq b9 (af 1) (dC (.aT 3))))
  (ak (aA 3 (aq bg (aq b9 (aq cn (af 1) (dC (.aT 3))) (dC (.aT 4))) (aq iq (dC (.aT 3)) (bP jV (ae (aq zf (aq b9 (aq cn (af 1) (dC (.aT 768))) (dC (.aT 5))) (dC (.aT 1))) ag)))))
  (ak (aA 4 (aq bg (dC (.aT 1)) (aq b9 (aq cn (af 1) (dC (.aT 12))) (dC (.aT 8)))))
  (C' K a r))))):=rfl
def mF(cD:a7)(sG r:aO):ai ie:=(ai.CC sG).a6 fun(q:aO)=>decide (mx cD (9*(r:a7)+(q:a7))%5<2)
def qS(cD:a7)(sG xa r:aO):Pr:=(mF cD sG r,(mx cD (70+(r:a7))%(xa:a7)).uh)
def z2y(n)(cD:a7){sG xa r:aO}(hw:sG<=12)(h0:0<xa)(z0 z1 z2 z5 z6 lY)(st:ai Pr)(hl:st.aj<=100):
  Bh K a (nN K a (n+1)) [z0,z1,z2,.fr (.aT (sG:a7)),.fr (.aT (xa:a7)),z5,z6,.fr (.aT cD),.ku none (st.a6 bo),.fr (.aT (r:a7)),lY]=.nx [z0,z1,z2,.fr (.aT (sG:a7)),.fr (.aT (xa:a7)),z5,z6,.fr (.aT cD),.ku none ((st++[qS cD sG xa r]).a6 bo),.fr (.aT (r:a7)),.fr (eZ (mF cD sG r))]:=by
 unfold Bh;rw?;rw[nZ (sY (by omega)),Jo];rw?
 rw[nZ (by rw[w0a,w1t];omega),kT (g:=fun(q:aO)=>W.bl (decide (mx cD (9*(r:a7)+(q:a7))%5<2))) (ai.CC sG) (λq _=>⟨_,by
  unfold MZ;simp only[fB,aX,cw,gF,w0d,w0g,w0o,w0n,w0m,w1x];rw?;rw[Pw n];rw?;rfl⟩)]
 rw?;simp only[cw,gF,w0d,w0g,w0o,w0n];rw?;rw[Pw n];rw?;rw[nZ (show(0:a7)<(xa:a7) by omega)];rw?;rw[nZ (by rw[w0a];omega),w0x];have h1:=w5f (mx cD (70+(r:a7))) (show(xa:a7)≠0 by omega);unfold eZ mF qS bo eZ mF;simp only[w2p h1,w0v,ai.map_singleton];rfl
structure CH(m sG xa:aO)(s:ai Pr):Prop where
 l:s.aj=2^m
 p:∀q∈s,q.1.aj=sG/\q.2<xa
def z89(cD){sG xa:aO}(h0:0<xa)(r):(qS cD sG xa r).1.aj=sG/\(qS cD sG xa r).2<xa:=by
 have h1:=w5f (mx cD (70+(r:a7))) (show(xa:a7)≠0 by omega);have h2:=w5s (mx cD (70+(r:a7))) (show(0:a7)<(xa:a7) by omega)
 grind [qS,mF]
def LH{m:aO}(hm:m<=3):eu [W.aT 1,W.aT 2,W.aT 4,W.aT 8] (m:a7)=ab (.aT ((2^m:aO):a7)):=by
 rcases(show m=0\/m=1\/m=2\/m=3 by omega)with rfl|rfl|rfl|rfl<;>rfl
theorem p8{m:aO}(hm:m<=3):2^m<=8:=w0r (by decide) hm
def y77(n)(cD:a7){m sG xa:aO}(hm:m<=3)(hw:sG<=12)(h0:0<xa)(z0 z1 z5 z6 z9 lY):
  ∃st sm kg,CH m sG xa st/\cV 9 (Bh K a (nN K a (n+1))) (bu 0 ((2^m:aO):a7)) [z0,z1,.fr (.aT (m:a7)),.fr (.aT (sG:a7)),.fr (.aT (xa:a7)),z5,z6,.fr (.aT cD),.ku none [],z9,lY]=.nx [z0,z1,.fr (.aT (m:a7)),.fr (.aT (sG:a7)),.fr (.aT (xa:a7)),z5,z6,.fr (.aT cD),.ku none (st.a6 bo),sm,kg]:=by
 have h8:=p8 hm;obtain⟨N,hN⟩:∃N,N=2^m:=⟨_,rfl⟩;rw[<- hN]at h8 |-
 let⟨e',h2,st,y9,oX,g1,g2,rfl⟩:=pW (b:=Bh K a (nN K a (n+1))) (i:=9) (lo:=0) (hi:=(N:a7)) N (by omega) (λj e=>∃(st:ai Pr)(y9 oX:S),st.aj=j/\(∀q∈st,q.1.aj=sG/\q.2<xa)/\e=[z0,z1,.fr (.aT (m:a7)),.fr (.aT (sG:a7)),.fr (.aT (xa:a7)),z5,z6,.fr (.aT cD),.ku none (st.a6 bo),y9,oX]) [z0,z1,.fr (.aT (m:a7)),.fr (.aT (sG:a7)),.fr (.aT (xa:a7)),z5,z6,.fr (.aT cD),.ku none [],z9,lY] ⟨[],z9,lY,rfl,by simp,rfl⟩ (by
  rintro j e hj ⟨st,y9,oX,g1,g2,rfl⟩;simp only[w0o,w0n,w3f];rw[z2y n cD hw h0 _ _ _ _ _ _ _ (by omega)]
  grind [z89])
 exact⟨st,y9,oX,⟨g1.kZ hN,g2⟩,h2⟩
def y78(n)(ns:ai a7){m sG xa:aO}(hm:m<=3)(hw:sG<=12)(h0:0<xa)(gf:ai (ai Pr))(hs:gf.aj=j)(hj:j<=100)(ho:∀s∈gf,CH m sG xa s)(z1 mX sj sm kg):
  ∃s z7 z8 z9 lY,CH m sG xa s/\Bi K a (nN K a (n+1)) [.fr (.dI (ns.a6 .aT)),z1,.fr (.aT (m:a7)),.fr (.aT (sG:a7)),.fr (.aT (xa:a7)),.ku none (gf.a6 au),.fr (.aT (j:a7)),mX,sj,sm,kg]=.nx [.fr (.dI (ns.a6 .aT)),z1,.fr (.aT (m:a7)),.fr (.aT (sG:a7)),.fr (.aT (xa:a7)),.ku none ((gf++[s]).a6 au),.fr (.aT (j:a7)),z7,z8,z9,lY]:=by
 unfold Bi;rw?;rw[Qe n ns (show(0:a7)<=2+(j:a7) by omega)];rw?;generalize ns.hX (2+(j:a7)).uh 0+13*(j:a7)=cD
 by_cases h:cD%4=3/\0<(j:a7)
 .rw[nZ h.1];rw?;rw[nZ h.2];rw?;have Mv:(0:a7)<(j:a7):=h.2;have h1:=w5f (cD / 4) (show(j:a7)≠0 by omega);have h2:=w5s (cD / 4) Mv;obtain⟨k,hk⟩:∃k:aO,cD / 4%(j:a7)=(k:a7):=⟨_,(w2p h1).symm⟩;rw[nZ Mv,hk];have lC:k<gf.aj:=by omega
  have e:eu (gf.a6 au) (k:a7)=ab (au gf[k]):=pU (by rw[w0s,w0c lC];rfl);rw[e];unfold au;rw?;rw[nZ (by rw[w0a];omega)];refine⟨gf[k],.fr (.aT cD),sj,sm,kg,ho _ (w1j lC),?_⟩;rw[w0x];rfl
 .have h8:=p8 hm;let⟨st,y9,oX,g,hf⟩:=y77 (K:=K) (a:=a) n cD hm hw h0 (.fr (.dI (ns.a6 .aT))) z1 (.ku none (gf.a6 au)) (.fr (.aT (j:a7))) sm kg
  by_cases h3:cD%4=3
  all_goals
   first|rw[r5 h3]|(rw[nZ h3];rw?;rw[r5 λz=>h ⟨h3,z⟩])
   rw?;rw[LH hm];rw?;rw[nZ (sY (by omega))];rw?;rw[hf];rw?;rw[nZ (by rw[w0a];omega)];refine⟨st,.fr (.aT cD),.fr (.dI (st.a6 bo)),y9,oX,g,?_⟩;rw[w0x];rfl
def Y7(n)(ns:ai a7){m sG xa:aO}(hm:m<=3)(hw:sG<=12)(h0:0<xa)(hc:xa<=100)(z1):
  ∃c:Mc,c.Og/\c.m=m/\c.sG=sG/\c.aa.aj=xa/\(Dc K a (nN K a (n+1)) [.fr (.dI (ns.a6 .aT)),z1,.fr (.aT (m:a7)),.fr (.aT (sG:a7)),.fr (.aT (xa:a7)),.no,.no,.no,.no,.no,.no]).fn=.ok (.fr (aE c)):=by
 unfold Dc;rw?;rw[nZ (sY (by omega))];rw?
 let⟨e',h2,gf,y6,y7,y8,y9,oX,g1,g2,rfl⟩:=pW (b:=Bi K a (nN K a (n+1))) (i:=6) (lo:=0) (hi:=(xa:a7)) xa (by omega) (λj e=>∃(gf:ai (ai Pr))(y6 y7 y8 y9 oX:S),gf.aj=j/\(∀s∈gf,CH m sG xa s)/\e=[.fr (.dI (ns.a6 .aT)),z1,.fr (.aT (m:a7)),.fr (.aT (sG:a7)),.fr (.aT (xa:a7)),.ku none (gf.a6 au),y6,y7,y8,y9,oX]) [.fr (.dI (ns.a6 .aT)),z1,.fr (.aT (m:a7)),.fr (.aT (sG:a7)),.fr (.aT (xa:a7)),.ku none [],.no,.no,.no,.no,.no] ⟨[],_,_,_,_,_,rfl,by simp,rfl⟩ (by
  rintro j e hj ⟨gf,y6,y7,y8,y9,oX,g1,g2,rfl⟩;simp only[w0o,w0n,w3f];let⟨s,q7,q8,q9,q10,g3,h⟩:=y78 (K:=K) (a:=a) n ns hm hw h0 gf g1 (by omega) g2 z1 y7 y8 y9 oX
  grind)
 rw[h2];rw?;exact⟨⟨m,sG,gf⟩,⟨hm,by show sG<=40;omega,by show 0<gf.aj;omega,by show gf.aj<=700;omega,λs hs=>(g2 s hs).l,λs hs p hp=>by show _/\_<gf.aj;rw[g1];exact(g2 s hs).p p hp⟩,rfl,rfl,g1,rfl⟩
structure n_(c:Mc):Prop where
 og:c.Og
 wd:c.sG<=6
 gA:c.aa.aj<=16
def MB(K:Fg)(a:aH)(R:FR):Prop:=∃c,n_ c/\R=.ok (.fr (aE c))
def QW(n)(ns:ai a7){m sG xa:aO}(hm:m<=3)(hw:sG<=6)(h0:0<xa)(hc:xa<=16)(z1):
  MB K a (Dc K a (nN K a (n+1)) [.fr (.dI (ns.a6 .aT)),z1,.fr (.aT (m:a7)),.fr (.aT (sG:a7)),.fr (.aT (xa:a7)),.no,.no,.no,.no,.no,.no]).fn:=by
 let⟨c,h1,h2,h3,h4,h5⟩:=Y7 (K:=K) (a:=a) n ns hm (w1a hw (by decide)) h0 (by omega) z1;exact⟨c,⟨h1,by rw[h3];exact hw,by rw[h4];exact hc⟩,h5⟩
def K2(n)(ns:ai a7){m sG xa:aO}(hm:m<=3)(hw:sG<=6)(h0:0<xa)(hc:xa<=16)(c:a7):
  MB K a (GP K a (nN K a (n+1)) [.fr (.dI (ns.a6 .aT)),.fr (.aT c),.fr (.aT (m:a7)),.fr (.aT (sG:a7)),.fr (.aT (xa:a7)),.no,.no,.no,.no,.no,.no]).fn:=by
 have A:=QW (K:=K) (a:=a) n ns hm hw h0 hc (.fr (.aT c));have B:=QW (K:=K) (a:=a) n ns (show m%2<=3 by omega) hw h0 hc (.fr (.aT c));rw[w3y]at B;unfold GP;rw?
 repeat' split
 all_goals first|exact A|exact B
def QX(n)(ns:ai a7){m sG xa:aO}(hm:m<=3)(hw:sG<=6)(h0:0<xa)(hc:xa<=16)(c:a7):
  MB K a (GO K a (nN K a (n+1)) [.fr (.dI (ns.a6 .aT)),.fr (.aT c),.fr (.aT (m:a7)),.fr (.aT (sG:a7)),.fr (.aT (xa:a7)),.no,.no,.no,.no,.no,.no]).fn:=by
 have A:=K2 (K:=K) (a:=a) n ns hm hw h0 hc c;unfold GO;rw?;split
 .by_cases q:xa%4<2
  .have B:=K2 (K:=K) (a:=a) n ns (show 3<=3 by decide) (show sG%7<=6 by omega) (show 0<1+xa%4 by omega) (by omega) c
   grind
  .have B:=K2 (K:=K) (a:=a) n ns (show 3<=3 by decide) (show sG%2<=6 by omega) (show 0<1+xa%4 by omega) (by omega) c
   grind
 .exact A
def z9a(n)(ns:ai a7){m sG xa:aO}(hm:m<=3)(hw:sG<=6)(h0:0<xa)(hc:xa<=8)(c:a7):
  MB K a (C' K a (nN K a (n+1)) [.fr (.dI (ns.a6 .aT)),.fr (.aT c),.fr (.aT (m:a7)),.fr (.aT (sG:a7)),.fr (.aT (xa:a7)),.no,.no,.no,.no,.no,.no]).fn:=by
 have A:=QX (K:=K) (a:=a) n ns hm hw h0 (by omega) c;have B:=QX (K:=K) (a:=a) n ns hm hw (show 0<xa+8 by omega) (by omega) c;unfold C';rw?
 grind
def zaF(n)(ns:ai a7):MB K a (nN K a (n+2) G9 [.dI (ns.a6 .aT)]):=by
 rw[WA,Wx];rw?;rw[Qe n ns (by decide)];rw?;show MB K a (C' K a (nN K a (n+1)) [.fr (.dI (ns.a6 .aT)),.fr (.aT (ns.hX 0 0)),.fr (.aT (ns.hX 0 0%3)),.fr (.aT (ns.hX 0 0 / 3%4+3*if ns.hX 0 0 / 768%5=1 then 1 else 0)),.fr (.aT (1+ns.hX 0 0 / 12%8)),.no,.no,.no,.no,.no,.no]).fn;generalize ns.hX 0 0=c;obtain⟨m,hm⟩:∃m:aO,c%3=(m:a7):=⟨_,(w2p (by omega)).symm⟩;obtain⟨sG,hw⟩:∃m:aO,(c / 3%4+3*if c / 768%5=1 then 1 else 0)=(m:a7):=⟨_,(w2p (by split<;>omega)).symm⟩;obtain⟨xa,hc⟩:∃m:aO,1+c / 12%8=(m:a7):=⟨_,(w2p (by omega)).symm⟩
 grind [z9a]
def Y8(n s:aO):∀(f k NN:aO)(P:a7),P=((2^k:aO):a7)->s<=2^(k+f)->f<NN->k+f<=50 ->
  ∃z,bw (yA K a (nN K a n)) (Hq K a (nN K a n)) NN [.fr (.aT (s:a7)),.fr (.aT (k:a7)),.fr (.aT P)]=.nx [.fr (.aT (s:a7)),.fr (.aT ((cG s k f:aO):a7)),z]:=by
 intro f
 induction f with
 |Yf=>
  intro k NN P hP h1 h2 h3;cases NN with
  |Yf=>omega
  |Ye NN=>
   have e:yA K a (nN K a n) [.fr (.aT (s:a7)),.fr (.aT (k:a7)),.fr (.aT P)]=.ok (decide (P<(s:a7))) [.fr (.aT (s:a7)),.fr (.aT (k:a7)),.fr (.aT P)]:=by
    unfold yA;rw?
   rw[vF,e,YY (by rw[hP];exact a7.Ē.wa (a7.ofNat_le.wa h1))];rw?;exact⟨_,rfl⟩
 |Ye f ih=>
  intro k NN P hP h1 h2 h3;cases NN with
  |Yf=>omega
  |Ye NN=>
   have e:yA K a (nN K a n) [.fr (.aT (s:a7)),.fr (.aT (k:a7)),.fr (.aT P)]=.ok (decide (P<(s:a7))) [.fr (.aT (s:a7)),.fr (.aT (k:a7)),.fr (.aT P)]:=by
    unfold yA;rw?
   rw[vF,e];unfold cG
   by_cases q:s<=2^k
   .rw[YY (by rw[hP];exact a7.Ē.wa (a7.ofNat_le.wa q)),nZ q];rw?;exact⟨_,rfl⟩
   .rw[ϣ (by rw[hP];exact w5w.wa (by omega)),r5 q];have hk:(2:aO)^k<=2^50:=w0r (by decide) (by omega);rw?;unfold Hq;rw?;exact ih (k+1) NN (P*2) (by rw[hP,w1p];rfl) (by rw[show k+1+f=k+(f+1) by omega];exact h1) (by omega) (by omega)
def zbr(n:aO){s:aO}(h:s<=700):nN K a (n+1) HZ [.aT (s:a7)]=.ok (.fr (.aT ((cN s:aO):a7))):=by
 rw[XD];unfold IC;rw?;let⟨z,hz⟩:=Y8 (K:=K) (a:=a) n s 12 0 1000000 1 rfl (rQ h) (by omega) (by omega);rw[show S.fr (W.aT 0)=S.fr (W.aT ((0:aO):a7))from rfl,hz];rw?;rfl
def zbN(n)(c:Mc)(hc:c.Og):nN K a (n+1) HS [aE c]=.ok (.dW [.aT (c.m:a7),.aT (c.sG:a7)] (c.aa.a6 au) []):=by
 have hm:=hc.mo;rw[Xx];unfold HK;rw?;rw[uv];rw?;rw[xF];rw?;rw[pG];rw?
 rw[nZ (by rw[w0a];omega),kT (g:=au) c.aa λs hs=>⟨_,by
  have hl:=hc.st s hs;have h8:=p8 hc.gA;unfold Ni au;rw?;rfl⟩]
 rw?
def Yk(tl:ai aO)(s:ai Pr):ai Pr:=s.a6 λp=>(p.1,tl.hX p.2 0)
def pP(c:Mc)(tl:ai aO):ai aO:=(c.aa.a6 (Yk tl)).a6 λk=>(c.aa.a6 (Yk tl)).S6 k
def gv(c:Mc):aO->ai aO
 |0=>ai.w8 c.aa.aj 0
 |t+1=>pP c (gv c t)
def z9b(c)(tl):(pP c tl).aj=c.aa.aj:=by unfold pP;rw[w0a,w0a]
theorem K3(c):∀t,(gv c t).aj=c.aa.aj
 |0=>w2f
 |t+1=>z9b c _
def Y9(n)(c:Mc)(hc:c.Og)(tl:ai aO)(hl:tl.aj=c.aa.aj)(z0 z3 z4):
  ∃qb,Dm K a (nN K a n) [z0,.fr (.dI (c.aa.a6 au)),.fr (aC tl),z3,z4]=.nx [z0,.fr (.dI (c.aa.a6 au)),.fr (aC (pP c tl)),z3,qb]:=by
 have hm:=hc.mo;unfold Dm;rw?
 rw[nZ (by rw[w0a];omega),kT (g:=λs=>au (Yk tl s)) c.aa λs hs=>⟨_,by
  have Mx:=hc.st s hs;have h8:=p8 hc.gA;unfold M8 au;simp only[fB,aX,cw,gF,w0d,w0g,w0o,w0n,w0m,w1x];rw?
  rw[nZ (by rw[w0a];omega),kT (g:=λp:Pr=>bo (p.1,tl.hX p.2 0)) s λp hp=>⟨_,by
   have hq:=(hc.pr s hs p hp).2;unfold M7 bo;simp only[fB,aX,cw,gF,w0d,w0g,w0o,w0n,w0m,w1x];rw?;unfold aC;rw?;rw[pX (by omega)];rfl⟩]
  rw?;unfold Yk;rw[w0v];rfl⟩]
 rw?;simp only[cw,gF,w0d,w0g,w0o,w0n];rw?
 rw[nZ (by rw[w0a];omega),show(c.aa.a6 λs=>au (Yk tl s))=(c.aa.a6 (Yk tl)).a6 au by rw[w0v];rfl,kT (g:=λk=>aI ((c.aa.a6 (Yk tl)).S6 k)) (c.aa.a6 (Yk tl)) λk hk=>⟨_,by
  unfold M5;simp only[fB,aX,cw,gF,w0d,w0g,w0o,w0n,w0m,w1x];rw?;rw[show iP (.dI ((c.aa.a6 (Yk tl)).a6 au)) [au k]=ab (.aT ((c.aa.a6 (Yk tl)).S6 k:aO))from y60 hk];rw?;rfl⟩]
 rw?;refine⟨.fr (.dI ((c.aa.a6 (Yk tl)).a6 au)),?_⟩;simp only[pP,aC,w0v];rfl
def zax(n)(c:Mc)(hc:c.Og):nN K a (n+1) Hh [aE c]=.ok (.fr (aC (gv c c.aa.aj))):=by
 have hm:=hc.mo;rw[Xh];unfold Ho;rw?;rw[pG];rw?
 rw[nZ (by rw[w0a];omega),kT (g:=λ_=>W.aT 0) c.aa λs hs=>⟨_,by
  unfold M9;rw?;rfl⟩]
 rw?;rw?;rw[w0a,nZ (sY (by omega))];rw?
 let⟨e',h2,z3,z4,rfl⟩:=pW (b:=Dm K a (nN K a n)) (i:=3) (lo:=0) (hi:=(c.aa.aj:a7)) c.aa.aj (by omega) (λj e=>∃z3 z4,e=[.fr (aE c),.fr (.dI (c.aa.a6 au)),.fr (aC (gv c j)),z3,z4]) [.fr (aE c),.fr (.dI (c.aa.a6 au)),.fr (.dI (c.aa.a6 λ_=>W.aT 0)),.no,.no] ⟨_,_,by
   unfold gv aC;rw[ai.map_replicate,ai.map_const'];rfl⟩ (by
  rintro j e hj ⟨z3,z4,rfl⟩;simp only[w0o,w0n,w3f];let⟨qb,h⟩:=Y9 (K:=K) (a:=a) n c hc (gv c j) (K3 c j) (.fr (aE c)) (.fr (.aT (j:a7))) z4;exact⟨_,h,_,_,rfl⟩)
 rw[h2];rw?
def QY [BEq α] [Ľ α]{l:ai α}{x:α}(h:l[j]?=ab x):l.S6 x<=j:=by
 refine w4v λbZ=>?_
 have hj:=(w0b.mp h);have:=w4y (p:=(·==x)) bZ
 grind
def Qb{β:Type} [BEq α] [Ľ α] [BEq β] [Ľ β]{A:ai α}{B:ai β}(hl:A.aj=B.aj)(h:∀i j,i<A.aj->j<A.aj->(A[i]?=A[j]?↔B[i]?=B[j]?)){x:α}{y:β}(hx:A[i]?=ab x)(hy:B[i]?=ab y):A.S6 x=B.S6 y:=by
 have hi:=(w0b.mp hx).1;have hp:A.S6 x<A.aj:=w2m.wa (w0w hx);have hq:B.S6 y<B.aj:=w2m.wa (w0w hy);have e1:A[A.S6 x]?=ab x:=by rw[w0c hp,w5t]
 have e2:B[B.S6 y]?=ab y:=by rw[w0c hq,w5t]
 refine aO.le_antisymm (QY ?_) (QY ?_)
 all_goals grind
def Lg{c:Mc}(hi:i<c.aa.aj):(pP c tl).hX i 0=(c.aa.a6 (Yk tl)).S6 (Yk tl (c.aa.hX i [])):=by
 grind [pP]
def R8{c:Mc}(hi:i<c.aa.aj)(hj:j<c.aa.aj):(pP c tl).hX i 0=(pP c tl).hX j 0↔Yk tl (c.aa.hX i [])=Yk tl (c.aa.hX j []):=by
 rw[Lg hi,Lg hj];refine⟨λh=>?_,λh=>by rw[h]⟩
 have e:∀k,k<c.aa.aj->(c.aa.a6 (Yk tl))[(c.aa.a6 (Yk tl)).S6 (Yk tl (c.aa.hX k []))]?=ab (Yk tl (c.aa.hX k [])):=λk hk=>by
  grind
 grind
def Uz{c:Mc}(hc:c.Og)(hi:i<c.aa.aj)(hj:j<c.aa.aj):Yk tl (c.aa.hX i [])=Yk tl (c.aa.hX j [])↔∀r,r<2^c.m->Mf c i r=Mf c j r/\tl.hX (ee c i r) 0=tl.hX (ee c j r) 0:=by
 have l1:=hc.st _ (i4 hi);have l2:=hc.st _ (i4 hj);unfold Yk Mf ee;generalize c.aa.hX i []=s at l1;generalize c.aa.hX j []=s' at l2;constructor
 .intro h r hr;have z:=ZQ (λl=>l[r]?) h
  grind
 .intro h;apply w2h;intro r
  by_cases hr:r<2^c.m
  .have:=h r hr
   grind
  .grind
theorem Sl{c:Mc}(hc:c.Og):∀(t:aO){i j:aO},i<c.aa.aj->j<c.aa.aj->((gv c t).hX i 0=(gv c t).hX j 0↔kd c t i=kd c t j)
 |0,i,j,hi,hj=>by
  rw[ur,ur];unfold gv;simp[ai.hX,hi,hj]
 |t+1,i,j,hi,hj=>by
  rw[yK hc hi hj];show(pP c (gv c t)).hX i 0=(pP c (gv c t)).hX j 0↔_;rw[R8 hi hj,Uz hc hi hj];exact zct λr=>imp_congr_right λhr=>and_congr_right λ_=>Sl hc t (nQ hc hi hr) (nQ hc hj hr)
theorem S1{c:Mc}(hc:c.Og)(hi:i<c.aa.aj)(hj:j<c.aa.aj):∀d,kd c (L+d) i=kd c (L+d) j->kd c L i=kd c L j
 |0,h=>h
 |d+1,h=>S1 hc hi hj d (D2 hc (L+d) hi hj h)
def UA{c:Mc}(hc:c.Og)(hL:L<=c.aa.aj)(hs:er c L)(hi:i<c.aa.aj)(hj:j<c.aa.aj):(gv c c.aa.aj).hX i 0=(gv c c.aa.aj).hX j 0↔kd c L i=kd c L j:=by
 grind [Sl,S1,aO.add_sub_cancel',Kv]
def Lh{c:Mc}(hc:c.Og)(hL:L<=c.aa.aj)(hs:er c L)(hi:i<c.aa.aj):(gv c c.aa.aj).hX i 0=yW c L (kd c L i):=by
 have pf:=hc.gw;obtain⟨t,ht⟩:∃t,c.aa.aj=t+1:=⟨c.aa.aj-1,by omega⟩;have fh:=λ{i j:aO}=>UA hc hL hs (i:=i) (j:=j)
 rw[ht]at fh |-
 show(pP c (gv c t)).hX i 0=_;rw[Lg hi];unfold yW
 have CL:∀k,k<c.aa.aj->(c.aa.a6 (Yk (gv c t)))[k]?=ab (Yk (gv c t) (c.aa.hX k [])):=λk hk=>by
  rw[w0s,w0c hk]
  grind
 have at2:∀k,k<c.aa.aj->(bU c L)[k]?=ab (kd c L k):=λk hk=>by
  grind [kd,pV]
 refine Qb (by rw[w0a,pV]) (λp q hp hq=>?_) (CL i hi) (at2 i hi)
 rw[w0a]at hp hq;rw[CL p hp,CL q hq,at2 p hp,at2 q hq,d3.ab.injEq,d3.ab.injEq,<- R8 hp hq];exact fh (by omega) (by omega)
def z9c(f:aO)(F:ai aO):lL (.aT (f:a7)) (.dI (F.a6 aI))=ab (.bl (!decide (f∈F))):=by
 have h1:∀F:ai aO,(F.a6 aI).t9 aM=true:=λF=>by
  grind [aI,aM]
 have h2:∀F:ai aO,((F.a6 aI).uJ λy=>jI y (.aT (f:a7)))=decide (f∈F):=λF=>by
  induction F with
  |so=>rfl
  |qT x F ih=>
   show(jI (.aT (x:a7)) (.aT (f:a7))||(F.a6 aI).uJ _)=_;rw[ih];show(decide ((x:a7)=(f:a7))||decide (f∈F))=_
   grind
 show(if aM (.aT (f:a7))=true/\(F.a6 aI).t9 aM=true then ab (W.bl (!(F.a6 aI).uJ λy=>jI y (.aT (f:a7))))else none)=_
 rw[nZ ⟨rfl,h1 F⟩,h2]
def y8b(r:aO->ai W->FR)(z0 z3)(tl T:ai aO)(hT:T.aj<=100)(p:Pr)(hp:p.2<tl.aj):
  Dy K a r [z0,.fr (aC tl),.ku none (T.a6 aI),z3,.fr (bo p)]=.nx [z0,.fr (aC tl),.ku none ((aW T (tl.hX p.2 0)).a6 aI),z3,.fr (bo p)]:=by
 have e:eu (tl.a6 aI) (p.2:a7)=ab (aI (tl.hX p.2 0)):=pX hp;have hn:=z9c (tl.hX p.2 0) T;unfold aI at hn e;unfold Dy bo aC aI;rw?;rw[e];rw?;rw[hn];rw?
 by_cases h:tl.hX p.2 0∈T
 .simp_all [aW]
 .rw[YY h,show aW T (tl.hX p.2 0)=T++[tl.hX p.2 0]from r5 h];rw?;rw[e];rw?
  grind
theorem Qc(r:aO->ai W->FR)(z0 z3)(tl:ai aO):∀(s:ai Pr)(T:ai aO)(z4:S),T.aj+s.aj<=100->(∀p∈s,p.2<tl.aj) ->
  ∃qb,cV 4 (Dy K a r) (s.a6 bo) [z0,.fr (aC tl),.ku none (T.a6 aI),z3,z4]=.nx [z0,.fr (aC tl),.ku none (((s.a6 λp=>tl.hX p.2 0).zx aW T).a6 aI),z3,qb]
 |[],T,z4,_,_=>⟨z4,rfl⟩
 |p::s,T,z4,h,hp=>by
  have hl:(aW T (tl.hX p.2 0)).aj<=T.aj+1:=by unfold aW;split<;>simp
  have q:=y8b (K:=K) (a:=a) r z0 z3 tl T (by simp at h;omega) p (hp p (by simp));let⟨qb,g⟩:=Qc r z0 z3 tl s (aW T (tl.hX p.2 0)) (.fr (bo p)) (by simp at h;omega) λx hx=>hp x (by simp[hx])
  refine⟨qb,?_⟩;rw[w0m,uo];simp only[w0o,w0n];rw[q];exact g
def gC(c:Mc)(tl:ai aO)(x:aO):ai Pr:=Yk tl (c.aa.hX x [])
def QZ(tl s):(Yk tl s).a6 (·.2)=s.a6 λp=>tl.hX p.2 0:=by
 unfold Yk;rw[w0v];rfl
def y8c(n)(c:Mc)(hc:c.Og)(bY:c.aa.aj<=16)(tl:ai aO)(hl:tl.aj=c.aa.aj)(b i:aO)(hn:∀x∈bf (gC c tl) b i,x<c.aa.aj)(hi:i<(bf (gC c tl) b i).aj)(z4):
  ∃qb,DB K a (nN K a n) [.fr (aE c),.fr (aC tl),.ku none ((bf (gC c tl) b i).a6 aI),.fr (.aT (i:a7)),z4]=.nx [.fr (aE c),.fr (aC tl),.ku none ((bf (gC c tl) b (i+1)).a6 aI),.fr (.aT ((i+1:aO):a7)),qb]:=by
 have hT:=vI c.aa.aj (xG (gC c tl) b i) hn;obtain⟨x,hx⟩:∃x,(bf (gC c tl) b i).hX i 0=x:=⟨_,rfl⟩;have qK:x<c.aa.aj:=hn x (by grind);have hs:=i4 qK;have h8:=p8 hc.gA;have VZ:=hc.st _ hs;have e:eu ((bf (gC c tl) b i).a6 aI) (i:a7)=ab (aI x):=by rw[pX hi,hx]
 let⟨qb,h⟩:=Qc (K:=K) (a:=a) (nN K a n) (.fr (aE c)) (.fr (.aT (i:a7))) tl (c.aa.hX x []) (bf (gC c tl) b i) z4 (by omega) (λp hp=>by rw[hl];exact(hc.pr _ hs p hp).2)
 refine⟨qb,?_⟩;rw[<- QZ]at h
 have hb:bf (gC c tl) b (i+1)=((gC c tl x).a6 (·.2)).zx aW (bf (gC c tl) b i):=by
  simp_all [bf]
 rw[hb];unfold DB;rw?;rw[pG];rw?;rw[e];unfold aI at h |-
 rw?;rw[Cz qK];unfold au;rw?;rw[show gC c tl x=Yk tl (c.aa.hX x [])from rfl,h];rw?;rfl
theorem yL{g:aO->ai Pr}{b J:aO}(h:(bf g b J).aj=J):∀d,bf g b (J+d)=bf g b J
 |0=>rfl
 |d+1=>by
  show(if J+d<(bf g b (J+d)).aj then _ else bf g b (J+d))=_;rw[r5 (by rw[yL h d];omega),yL h d]
theorem Px(n)(c:Mc)(hc:c.Og)(bY:c.aa.aj<=16)(tl:ai aO)(hl:tl.aj=c.aa.aj)(b:aO)(hn:∀i,∀x∈bf (gC c tl) b i,x<c.aa.aj):
  ∀(NN i:aO)(z4),i<=(bf (gC c tl) b i).aj->18<=i+NN ->
  ∃I z,(bf (gC c tl) b I).aj=I/\bw (Dz K a (nN K a n)) (DB K a (nN K a n)) NN [.fr (aE c),.fr (aC tl),.ku none ((bf (gC c tl) b i).a6 aI),.fr (.aT (i:a7)),z4]=.nx [.fr (aE c),.fr (aC tl),.ku none ((bf (gC c tl) b I).a6 aI),.fr (.aT (I:a7)),z]
 |0,i,z4,h1,h2=>by
  have hT:=vI c.aa.aj (xG (gC c tl) b i) (hn i);omega
 |NN+1,i,z4,h1,h2=>by
  have e:Dz K a (nN K a n) [.fr (aE c),.fr (aC tl),.ku none ((bf (gC c tl) b i).a6 aI),.fr (.aT (i:a7)),z4]=.ok (decide (i<(bf (gC c tl) b i).aj)) [.fr (aE c),.fr (aC tl),.ku none ((bf (gC c tl) b i).a6 aI),.fr (.aT (i:a7)),z4]:=by
   unfold Dz;rw?;simp only[w0a,w5w]
  rw[vF,e]
  by_cases q:i<(bf (gC c tl) b i).aj
  .rw[ϣ q];rw?;let⟨qb,h⟩:=y8c (K:=K) (a:=a) n c hc bY tl hl b i (hn i) q z4;rw[h];rw?;let⟨m,hm⟩:=BS (gC c tl) b i;exact Px n c hc bY tl hl b hn NN (i+1) qb (by rw[hm,w1e];omega) (by omega)
  .rw[YY q];rw?;exact⟨i,z4,by omega,rfl⟩
def z2z{f:aO->aO}(hf:∀x y,B x->B y->f x=f y->x=y){T:ai aO}(hT:∀t∈T,B t)(hx:B x):(aW T x).a6 f=aW (T.a6 f) (f x):=by
 unfold aW
 grind
theorem Qd{f:aO->aO}{B:aO->Prop}(hf:∀x y,B x->B y->f x=f y->x=y):∀(xs T:ai aO),(∀t∈T,B t)->(∀x∈xs,B x)->(xs.zx aW T).a6 f=(xs.a6 f).zx aW (T.a6 f)
 |[],_,_,_=>rfl
 |x::xs,T,h1,h2=>by
  rw[w2g,w0m,w2g,<- z2z hf h1 (h2 x (by simp))];refine Qd hf xs _ (λt ht=>?_) λy hy=>h2 y (by simp[hy])
  grind [aW]
theorem K4{c:Mc}(hc:c.Og)(L i:aO):∀x∈bf (cx c L) (kd c L 0) i,x∈bU c L:=uA (B:=(·∈bU c L)) (uB hc.gw) (λx hx p hp=>Ez hc hx p hp) i
theorem Ll{c:Mc}(hc:c.Og)(hL:L<=c.aa.aj)(hs:er c L):∀i,bf (gC c (gv c c.aa.aj)) ((gv c c.aa.aj).hX 0 0) i=(bf (cx c L) (kd c L 0) i).a6 (yW c L)
 |0=>by
  show[_]=[_];rw[Lh hc hL hs hc.gw]
 |i+1=>by
  have ih:=Ll hc hL hs i;show(if i<(bf (gC c (gv c c.aa.aj)) _ i).aj then _ else bf _ _ i)=ai.a6 _ (if i<(bf (cx c L) (kd c L 0) i).aj then _ else bf _ _ i);rw[ih,w0a]
  by_cases h:i<(bf (cx c L) (kd c L 0) i).aj
  .rw[nZ h,nZ h];have hk:(bf (cx c L) (kd c L 0) i).hX i 0∈bU c L:=K4 hc L i _ (by rw[w1m,w0c h];exact w1j h)
   rw[show((bf (cx c L) (kd c L 0) i).a6 (yW c L)).hX i 0=yW c L ((bf (cx c L) (kd c L 0) i).hX i 0) by
    rw[w1m,w1m,w0s,w0c h];rfl]
   generalize (bf (cx c L) (kd c L 0) i).hX i 0=k at hk;have hr:=ki hk
   rw[Qd (B:=(·∈bU c L)) (λx y hx hy e=>by rw[<- rF hx,<- rF hy,e]) _ _ (K4 hc L i) (λx hx=>by
    let⟨p,h1,rfl⟩:=w0u.mp hx;exact Ez hc hk p h1)]
   congr 1;unfold gC;rw[QZ];unfold cx;rw[w0v,w0v];exact w1o λp hp=>Lh hc hL hs (hc.pr _ (i4 hr) p hp).2
  .rw[r5 h,r5 h]
def y8d(n)(c:Mc)(hc:c.Og)(bY:c.aa.aj<=16){I:aO}(hL:L<=c.aa.aj)(hs:er c L)(hI:(bf (cx c L) (kd c L 0) I).aj=I):
  nN K a (n+1) HY [aE c,aC (gv c c.aa.aj)]=.ok (.ku none (((bf (cx c L) (kd c L 0) I).a6 (yW c L)).a6 aI)):=by
 have fh:=K3 c c.aa.aj
 have hn:∀i,∀x∈bf (gC c (gv c c.aa.aj)) ((gv c c.aa.aj).hX 0 0) i,x<c.aa.aj:=λi x hx=>by
  rw[Ll hc hL hs]at hx;let⟨k,h1,rfl⟩:=w0u.mp hx;exact ki (K4 hc L i k h1)
 have h0:((gv c c.aa.aj).a6 aI)[0]?=ab (aI ((gv c c.aa.aj).hX 0 0)):=by
  rw[w0s,w1m,w0c (by rw[fh];exact hc.gw)];rfl
 let⟨J,z,hJ,h⟩:=Px (K:=K) (a:=a) n c hc bY _ fh ((gv c c.aa.aj).hX 0 0) hn 1000000 0 .no (w1g _) (by omega);rw[XC];unfold IB aC;rw?;rw[h0];rw?;rw[show S.ku none [aI ((gv c c.aa.aj).hX 0 0)]=.ku none ((bf (gC c (gv c c.aa.aj)) ((gv c c.aa.aj).hX 0 0) 0).a6 aI)from rfl,show S.fr (W.aT 0)=S.fr (W.aT ((0:aO):a7))from rfl,show S.fr (W.dI ((gv c c.aa.aj).a6 aI))=S.fr (aC (gv c c.aa.aj))from rfl,h];rw?;rw[Ll hc hL hs]at hJ |-
 rw[w0a]at hJ
 have e:bf (cx c L) (kd c L 0) J=bf (cx c L) (kd c L 0) I:=by
  rcases aO.le_total I J with sH|sH
  .rw[<- w4d sH,yL hI]
  .rw[<- w4d sH,yL hJ]
 rw[e]
def Fm.jU(m:aO):Fm->Prop
 |.is _=>j'
 |.at p=>p<m
 |.not f=>f.jU m
 |.and f g=>f.jU m/\g.jU m
 |.or f g=>f.jU m/\g.jU m
 |.Y_ f g=>f.jU m/\g.jU m
def Fm.vV(ot:ai ie):Fm->ie
 |.is b=>b
 |.at p=>ot.hX p false
 |.not f=>!f.vV ot
 |.and f g=>f.vV ot&&g.vV ot
 |.or f g=>f.vV ot||g.vV ot
 |.Y_ f g=>f.vV ot != g.vV ot
theorem Fm.size_pos:∀f:Fm,1<=f.dS
 |.is _=>w0f _
 |.at _=>w0f _
 |.not f=>by simp only[Fm.dS];omega
 |.and f g=>by simp only[Fm.dS];omega
 |.or f g=>by simp only[Fm.dS];omega
 |.Y_ f g=>by simp only[Fm.dS];omega
def GU(f:Fm):Prop:=¬∃b,f=.is b
structure qi(m:aO)(g:Fm):Prop where
 n:GU g
 o:∀l,l<=3->g.iF l=0
 d:g.ql<=2
 z:g.dS<=2
 i:g.jU m
theorem UB{m:aO}(h:p<m):qi m (.at p):=⟨fun⟨b,e⟩=>(nomatch e),λ_ _=>rfl,by simp[Fm.ql],by simp[Fm.dS],h⟩
theorem z9d{m:aO}(h:p<m):qi m (.not (.at p)):=⟨fun⟨b,e⟩=>(nomatch e),λl hl=>by simp only[Fm.iF];rw[r5 (by omega)],by simp[Fm.ql],by simp[Fm.dS],h⟩
inductive jq(m p:aO)(f:Fm):Prop where
 |Zq (h:f=.is true):jq m p f
 |mk (n:GU f) (o:∀l,l<=2->f.iF l=0) (d:f.ql<=p+1) (z:f.dS<=3*p) (i:f.jU m):jq m p f
def jq.up{m:aO}{f:Fm}(h:jq m p f):jq m (p+1) f:=by
 cases h with
 |Zq h=>exact .Zq h
 |mk n o d z i=>exact .mk n o (by omega) (by omega) i
def jq.lit{m:aO}{f g:Fm}(h:jq m p f)(k:qi m g):jq m (p+1) (Fm.fG .a f g):=by
 cases h with
 |Zq h=>
  subst h;exact .mk k.n (λl hl=>k.o l (by omega)) (by have:=k.d;show g.ql<=_;omega) (by have:=k.z;show g.dS<=_;omega) k.i
 |mk n o d z i=>
  rw[sS n k.n];refine .mk (fun⟨b,e⟩=>(nomatch e)) (λl hl=>?_) ?_ ?_ ⟨i,k.i⟩
  .show max (f.iF 2) (g.iF 3)+(if 2<l then 1 else 0)=0;rw[o 2 (by omega),k.o 3 (by omega),r5 (by omega)];rfl
  .have:=k.d;have:=f.size_pos;show max f.ql g.ql+1<=_;omega
  .have:=k.z;show f.dS+g.dS+1<=_;omega
theorem ER{m:aO}:∀(c:ai (d3 ie))(p:aO)(f:Fm),p+c.aj=m->jq m p f->jq m m (mV p f c)
 |[],p,f,h,k=>by
  have:p=m:=by simpa using h
  subst this;exact k
 |none::c,p,f,h,k=>ER c (p+1) f (by simp only[w0z]at h;omega) k.up
 |ab true::c,p,f,h,k=>ER c (p+1) _ (by simp only[w0z]at h;omega) (k.lit (UB (by simp only[w0z]at h;omega)))
 |ab false::c,p,f,h,k=>ER c (p+1) _ (by simp only[w0z]at h;omega) (k.lit (z9d (by simp only[w0z]at h;omega)))
inductive m4(m j:aO)(f:Fm):Prop where
 |Zq (b:ie) (h:f=.is b):m4 m j f
 |mk (n:GU f) (o:f.iF 0=0) (d:f.ql<=m+1+j) (z:f.dS<=j*(3*m+1)) (i:f.jU m):m4 m j f
def m4.cu{m:aO}{f g:Fm}(h:m4 m j f)(k:jq m m g):m4 m (j+1) (Fm.fG .o f g):=by
 cases k with
 |Zq hg=>
  subst hg
  by_cases hf:∃b,f=.is b
  .let⟨b,rfl⟩:=hf;cases b
   .exact .Zq true rfl
   .exact .Zq true rfl
  .rw[BH hf];exact .Zq true rfl
 |mk gn go gd gz gi=>
  cases h with
  |Zq b h=>
   subst h;cases b
   .exact .mk gn (go 0 (by omega)) (by show g.ql<=_;omega) (by show g.dS<=_;rw[w5x];omega) gi
   .exact .Zq true rfl
  |mk n o d z i=>
   rw[sS n gn];refine .mk (fun⟨b,e⟩=>(nomatch e)) ?_ ?_ ?_ ⟨i,gi⟩
   .show max (f.iF 0) (g.iF 1)+0=0;rw[o,go 1 (by omega)];rfl
   .show max f.ql g.ql+1<=_;omega
   .show f.dS+g.dS+1<=_;rw[w5x];omega
theorem Sn{m:aO}:∀(cs:ai (ai (d3 ie)))(j:aO)(f:Fm),(∀c∈cs,c.aj=m)->m4 m j f->m4 m (j+cs.aj) (tQ f cs)
 |[],j,f,_,k=>k
 |c::cs,j,f,h,k=>by
  have:=Sn cs (j+1) _ (λx hx=>h x (by simp[hx])) (k.cu (ER c 0 (.is true) (by simpa using h c (by simp)) (.Zq rfl)))
  rw[w0z,show j+(cs.aj+1)=j+1+cs.aj by omega];exact this
def Df:O3->ie->ie->ie
 |.a,x,y=>x&&y
 |.o,x,y=>x||y
 |.d,x,y=>x != y
def z20(f:Fm)(ot:ai ie):f.qt.vV ot=!f.vV ot:=by cases f<;>rfl
def OZ(o:O3)(b:ie)(f:Fm)(ot:ai ie):(kf o b f).vV ot=Df o b (f.vV ot):=by
 cases o<;>cases b
 .rfl
 .show f.vV ot=(true&&f.vV ot);simp
 .show f.vV ot=(false||f.vV ot);simp
 .rfl
 .show f.vV ot=(false != f.vV ot);simp
 .show f.qt.vV ot=(true != f.vV ot);rw[z20];simp
def z21(o:O3)(x y:ie):Df o x y=Df o y x:=by cases o<;>cases x<;>cases y<;>rfl
def Kw(o:O3)(f g:Fm)(ot:ai ie):(Fm.fG o f g).vV ot=Df o (f.vV ot) (g.vV ot):=by
 by_cases hf:∃b,f=.is b
 .let⟨b,rfl⟩:=hf;exact OZ o b g ot
 .by_cases hg:∃b,g=.is b
  .let⟨b,rfl⟩:=hg;rw[BH hf,OZ,z21];rfl
  .rw[sS hf hg];cases o<;>rfl
def vo:aO->ai (d3 ie)->ai ie->ie
 |_,[],_=>true
 |p,o::c,ot=>(o==none||o==ab (ot.hX p false))&&vo (p+1) c ot
theorem EA(ot:ai ie):∀(c:ai (d3 ie))(p:aO)(f:Fm),(mV p f c).vV ot=(f.vV ot&&vo p c ot)
 |[],p,f=>by show f.vV ot=(f.vV ot&&true);simp
 |none::c,p,f=>by
  show(mV (p+1) f c).vV ot=_;rw[EA ot c];rfl
 |ab true::c,p,f=>by
  show(mV (p+1) _ c).vV ot=_;rw[EA ot c,Kw];show((f.vV ot&&ot.hX p false)&&vo (p+1) c ot)=(f.vV ot&&((ab true==none||ab true==ab (ot.hX p false))&&vo (p+1) c ot));cases ot.hX p false<;>simp
 |ab false::c,p,f=>by
  show(mV (p+1) _ c).vV ot=_;rw[EA ot c,Kw];show((f.vV ot&&!ot.hX p false)&&vo (p+1) c ot)=(f.vV ot&&((ab false==none||ab false==ab (ot.hX p false))&&vo (p+1) c ot));cases ot.hX p false<;>simp
theorem So:∀(c:ai (d3 ie))(p:aO)(ot:ai ie),p+c.aj=ot.aj->vo p c ot=mt c (ot.xO p)
 |[],p,ot,h=>by
  have:p=ot.aj:=by simpa using h
  subst this;rw[w3c];rfl
 |o::c,p,ot,h=>by
  simp only[w0z]at h;rw[w2z (by omega)];show(_&&vo (p+1) c ot)=_;rw[So c (p+1) ot (by omega),show ot.hX p false=ot[p]from by grind];rfl
theorem Q0(ot:ai ie):∀(cs:ai (ai (d3 ie)))(f:Fm),(∀c∈cs,c.aj=ot.aj)->(tQ f cs).vV ot=(f.vV ot||cs.uJ λc=>mt c ot)
 |[],f,_=>by show f.vV ot=(f.vV ot||false);simp
 |c::cs,f,h=>by
  show(tQ (Fm.fG .o f (mV 0 (.is true) c)) cs).vV ot=_;rw[Q0 ot cs _ λx hx=>h x (by simp[hx]),Kw,EA,So c 0 ot (by simpa using h c (by simp)),ai.drop_zero,w2w]
  show((f.vV ot||(true&&mt c ot))||_)=_;rw[ie.true_and,ie.or_assoc]
def nm(ot:ai ie):aO->aO->aO
 |0,_=>0
 |m+1,p=>(if ot.hX p false=true then 2^m else 0)+nm ot m (p+1)
theorem K5(ot:ai ie)(m p:aO):nm ot (m+1) p=(if ot.hX p false=true then 2^m else 0)+nm ot m (p+1):=rfl
theorem EU(ot:ai ie):∀m p,nm ot m p<2^m
 |0,p=>by simp[nm]
 |m+1,p=>by
  have:=EU ot m (p+1);rw[K5];rw[w1p];split<;>omega
def UC{l h:ai ie}{k:aO}(hk:k<l.aj):(l++h).hX k false=l.hX k false:=by
 simp[ai.hX,w2d hk]
def UD{l h:ai ie}{k:aO}:(l++h).hX (l.aj+k) false=h.hX k false:=by
 simp[ai.hX,w1l]
def Ln{l h:ai ie}{m:aO}(ot:ai ie)(hl:l.aj=2^m):(l++h).hX (nm ot (m+1) p) false=if ot.hX p false=true then h.hX (nm ot m (p+1)) false else l.hX (nm ot m (p+1)) false:=by
 have hn:=EU ot m (p+1);rw[K5];split
 .rw[<- hl,UD]
 .rw[w1y,UC (by omega)]
def UE(ot:ai ie)(m p:aO)(bs:ai ie)(hl:bs.aj=2^m):(ff m p bs).vV ot=bs.hX (nm ot m p) false:=by
 refine EK (C:=λm p bs F=>F.vV ot=bs.hX (nm ot m p) false) ?_ ?_ ?_ ?_ m p bs hl
 .intro m p bs h0 hc;have hn:=EU ot m p
  have:bs.hX (nm ot m p) false∈bs:=by
   grind
  exact(hc _ this).symm
 .intro m p bs l e h1 ih;rw[ih,e,Ln ot h1,ite_self]
 .intro m p bs l e h1 _ ih;show((ff m (p+1) l).vV ot != ot.hX p false)=_
  grind [EU,Ln]
 .intro m p bs l h e h1 h2 gm il ih nn;rw[e,Ln ot h1,<- il,<- ih]
  grind [JD,Fm.vV]
theorem Qq:∀(m:aO)(n:a7)(j:aO),j<m->(Zh m n)[j]?=ab (decide (n / 2^j%2=1))
 |0,n,j,h=>by omega
 |m+1,n,0,h=>by simp[Zh]
 |m+1,n,j+1,h=>by
  rw[Zh,w0d,Qq m (n / 2) j (by omega)];rw[a7.ediv_ediv_of_nonneg (by decide),w4h,w5v (2^j) 2]
def Qr{m k:aO}(h:p<m):(b_ m k).hX p false=decide (k / 2^(m-1-p)%2=1):=by
 grind [b_,BE,Qq]
theorem Sq(M k:aO):∀(m p:aO),p+m=M->nm (b_ M k) m p=k%2^m
 |0,p,_=>by simp[nm,aO.mod_one]
 |m+1,p,h=>by
  rw[K5,Sq M k m (p+1) (by omega),Qr (by omega),show M-1-p=m by omega];have e:k%2^(m+1)=k%2^m+2^m*(k / 2^m%2):=by rw[w1p,aO.mod_mul]
  grind
theorem vH:∀(f:Fm)(m:aO),f.jU m↔∀p,f.A' p=true->p<m
 |.is b,m=>⟨λ_ p h=>(by cases h),λ_=>trivial⟩
 |.at q,m=>⟨λh p e=>(_j e) ▸ h,λh=>h q (by simp[Fm.A'])⟩
 |.not f,m=>vH f m
 |.and f g,m=>by
  show f.jU m/\g.jU m↔∀p,(f.A' p||g.A' p)=true->p<m;rw[vH f m,vH g m]
  grind
 |.or f g,m=>by
  show f.jU m/\g.jU m↔∀p,(f.A' p||g.A' p)=true->p<m;rw[vH f m,vH g m]
  grind
 |.Y_ f g,m=>by
  show f.jU m/\g.jU m↔∀p,(f.A' p||g.A' p)=true->p<m;rw[vH f m,vH g m]
  grind
structure dX(w:Cb)(m:aO)(f:Fm):Prop where
 d:f.ql<=60
 z:f.dS<=1000
 i:f.jU m
 v:∀q,q<2^m->∀b,w.hX q none=ab b->f.vV (b_ m q)=b
 o:4<m->∀q,q<2^m->w.hX q none=none->f.vV (b_ m q)=false
def z22{w:Cb}{m N:aO}{cs:ai Cb}{T:W}(hw:w.aj=2^m)(hm:m<=4)(hN:N<=16)(h:LC (Pm w m) (wr w) N cs T):dX w m (tQ (.is false) (gR (Pm w m) cs)):=by
 let⟨c1,c2,c3,c4⟩:=Ee _ _ _ _ h.U_;have hp:=Pg (λc hc=>(c1 c hc).1) c4
 have wZ:∀c∈gR (Pm w m) cs,c.aj=m:=λc hc=>(LB w hm).2 c (iA.mp hc).1
 have hl:(gR (Pm w m) cs).aj<=16:=by rw[hp.length_eq];omega
 have hv:∀q,(tQ (.is false) (gR (Pm w m) cs)).vV (b_ m q)=(gR (Pm w m) cs).uJ λc=>mt c (b_ m q):=λq=>by
  rw[Q0 _ _ _ λc hc=>by rw[wZ c hc,nR]]
  rfl
 have k:=Sn (m:=m) (gR (Pm w m) cs) 0 (.is false) wZ (.Zq false rfl)
 have AE:∀q,q<2^m->∀b,w.hX q none=ab b->(tQ (.is false) (gR (Pm w m) cs)).vV (b_ m q)=b:=λq hq b hb=>by
  rw[hv];cases b with
  |true=>
   have Gp:q∈wr w:=w1k.wa ⟨w0y.wa (by omega),by rw[hb];rfl⟩;let⟨c,hc,hr⟩:=c3 q Gp;have hs:=iA.wa ⟨(c1 c hc).1,hc⟩;have:=(gc.mp hr).2;rw[wZ c hs]at this;exact w2r.wa ⟨c,hs,this⟩
  |false=>
   refine w2l.wa λhn=>?_
   let⟨c,hs,hr⟩:=w2r.mp hn;have hpm:=(w1k.mp (iA.mp hs).1).2
   simp_all [nO,jb,gc]
 cases k with
 |Zq b e=>exact⟨by rw[e];simp[Fm.ql],by rw[e];simp[Fm.dS],by rw[e];trivial,AE,λh4=>by omega⟩
 |mk n o d z i=>
  refine⟨by omega,?_,i,AE,λh4=>by omega⟩
  have:(0+(gR (Pm w m) cs).aj)*(3*m+1)<=16*13:=aO.mul_le_mul (by omega) (by omega);omega
def z9e{w:Cb}{m:aO}(hw:w.aj=2^m)(hm:m<=7):dX w m (ff m 0 (w.a6 λo=>o==ab true)):=by
 have hl:(w.a6 λo=>o==ab true).aj=2^m:=by rw[w0a,hw]
 have k:=KU m 0 _ hl;have hp:2^m<=2^7:=w0r (by decide) hm
 have hv:∀q,q<2^m->(ff m 0 (w.a6 λo=>o==ab true)).vV (b_ m q)=(w.hX q none==ab true):=λq hq=>by
  grind [UE,Sq,aO.zcX]
 refine⟨by have:=k.d;omega,?_,(vH _ _).wa λp hp=>by have:=(k.i p hp).2;omega,λq hq b hb=>by rw[hv q hq,hb];cases b<;>rfl,λ_ q hq hb=>by rw[hv q hq,hb];rfl⟩
 rcases k.z with⟨b,e⟩|hz
 .rw[e];simp[Fm.dS]
 .omega
def y8h(n : aO){w : Cb}{m : aO}(hw : w.aj = 2 ^ m)(hm : m <= 7) : ∃ f : Fm, dX w m f /\ nN K a (n + 121) Hg [.dI (w.a6 eo)] = .ok (.fr (r8 f)) := by
  have tS : (2 : aO) ^ 10 = 1024 := by decide
  have hp : 2 ^ m <= 2 ^ 10 := w0r (by decide) (by omega);rw [Xf];unfold Hl;rw?;rw [show W.aT 4 = W.aT ((4 : aO) : a7) from rfl, yI (n + 119) 4 (by decide)];rw?;rw [w0a, hw]
  by_cases h : m <= 4
  . have h4 : 2 ^ m <= 2 ^ 4 := w0r (by decide) h
    rw [nZ (by omega)];let⟨N, cs, T, hN, L, k1⟩:= y7r (K := K) (a := a) n hw h;rw [k1];rw?;rw [zbn (n + 115)];rw?;exact ⟨_, z22 hw h hN L, rfl⟩
  . have h5 : 2 ^ 5 <= 2 ^ m := w0r (by decide) (by omega)
    rw [r5 (by have : (2 : aO) ^ 5 = 32 := by decide
               omega)]
    rw?
    rw [nZ (by omega), kT (g := λo => W.bl (o == ab true)) w (λo _ => ⟨_, by
      unfold M4;rw?;rw [Sg];rfl⟩)]
    rw?;rw [show (w.a6 λo => W.bl (o == ab true)) = (w.a6 λo => (o == ab true)).a6 W.bl by rw [w0v]; rfl, z2p (n + 103) (by rw [w0a, hw]) (by omega)]
    rw?;exact ⟨_, z9e hw hm, rfl⟩
def zbO(n:aO){l:Mc}{m x:W}(hs:nN K a (n+2) Em [m]=.ok (.fr (.gs [aE l,x])))(hl:l.aa.aj<=700)(h4:cN l.aa.aj<=4)(h6:l.sG<=6):
  nN K a (n+3) Dv [m]=.ok (.fr (aE l)):=by
 rw[Xe];unfold Hk;rw?;rw[hs];rw?;rw[Jn n l hl];rw?;rw[r5 (by omega),xF];rw?;rw[r5 (by omega)]
theorem uq:∀f:Fm,cq (r8 f)=true
 |.is b=>rfl
 |.at p=>rfl
 |.not f=>by show(true&&(cq (r8 f)&&true))=true;rw[uq f];rfl
 |.and f g=>by show(true&&(cq (r8 f)&&(cq (r8 g)&&true)))=true;rw[uq f,uq g];rfl
 |.or f g=>by show(true&&(cq (r8 f)&&(cq (r8 g)&&true)))=true;rw[uq f,uq g];rfl
 |.Y_ f g=>by show(true&&(cq (r8 f)&&(cq (r8 g)&&true)))=true;rw[uq f,uq g];rfl
theorem BI:∀{ws:ai W},(∀w∈ws,cq w=true)->cU ws=true
 |[],_=>rfl
 |w::ws,h=>by show(cq w&&cU ws)=true;rw[h w (by simp),BI λx hx=>h x (by simp[hx])];rfl
def U8(m k:aO)(fs:ai Fm):W:=.gs [.aT (m:a7),.gs ((fs.wj k).a6 λf=>.gs [.bl false,r8 f]),.gs ((fs.xO k).a6 r8)]
structure gX(l:Mc)(k:aO)(fs:ai Fm):Prop where
 uN:fs.aj=k+l.sG
 ok:∀p,p<k+l.sG->dX (pL l k p) (l.m+k) (fs.hX p (.is false))
theorem O0(n:aO){l:Mc}{k:aO}(hk:l.m+k<=7):∀ps:ai aO,∃fs:ai Fm,b7 bx (Dx K a (nN K a (n+121))) [] (ps.a6 λp=>W.dI ((pL l k p).a6 eo))=ab (fs.a6 r8)/\fs.aj=ps.aj/\∀j p,ps[j]?=ab p->dX (pL l k p) (l.m+k) (fs.hX j (.is false))
 |[]=>⟨[],rfl,rfl,λj p h=>nomatch h⟩
 |p::ps=>by
  let⟨f,hf,hr⟩:=y8h (K:=K) (a:=a) n (z87 l k p) hk;let⟨fs,h1,h2,h3⟩:=O0 n hk ps;refine⟨f::fs,?_,by simp[h2],λj q hq=>?_⟩
  .rw[w0m,D5]
   have e:Dx K a (nN K a (n+121)) [.fr (.dI ((pL l k p).a6 eo))]=.ok (r8 f) [.fr (.dI ((pL l k p).a6 eo))]:=by
    unfold Dx;rw?;rw[hr];rfl
   grind [bx]
  grind
def Y'(n:aO){l:Mc}{m:W}(hl:l.Og)(h4:cN l.aa.aj<=4)(h:nN K a (n+121) Dv [m]=.ok (.fr (aE l))):
  ∃fs,gX l (cN l.aa.aj) fs/\nN K a (n+122) xr [m]=.ok (.x (.vd (U8 l.m (cN l.aa.aj) fs))):=by
 have hw:=hl.wg;have hm:=hl.gA;rw[XR];unfold Ib;rw?;rw[h];rw?;rw[Jn (n+119) l hl.mo];rw?;rw[zbq (n+118) l hl h4 hl.mo];generalize cN l.aa.aj=k at h4 |-
 rw?;let⟨fs,f1,f2,f3⟩:=O0 (K:=K) (a:=a) n (l:=l) (k:=k) (by omega) (ai.CC (k+l.sG));rw[w1t]at f2;refine⟨fs,⟨f2,λp hp=>f3 p p (by rw[w5m hp])⟩,?_⟩
 rw[nZ (by rw[w0a,w1t];omega),f1];rw?;rw[Li (by rw[w0a];omega)]
 rw[nZ (by rw[w3b,w0a];omega),EL (λw=>.gs [.bl false,w]) ((fs.a6 r8).wj k) (λw _=>⟨_,by
  unfold Nn;rw?;rfl⟩)]
 rw?;rw[uv];rw?
 rw[nZ (show cq (.gs (((fs.a6 r8).wj k).a6 λw=>W.gs [.bl false,w]))=true from BI λw hw=>by
  let⟨x,hx,rfl⟩:=w0u.mp hw;let⟨f,hf,rfl⟩:=w0u.mp (w5i hx);show(true&&(cq (r8 f)&&true))=true;rw[uq f];rfl)]
 rw[Qh (by rw[w0a];omega),nZ (show cq (.gs ((fs.a6 r8).xO k))=true from BI λw hw=>by
  grind [uq])]
 unfold U8;rw[<- w4s,w0v,<- w4t];rfl
def fo(ot:ai ie):W:=.gs (ot.a6 .bl)
def ES{ot:ai ie}(h:p<ot.aj):eu (ot.a6 W.bl) (p:a7)=ab (.bl (ot.hX p false)):=by
 refine pU ?_;simp[ai.hX,h]
theorem Lo{cc:iw ie}{d:iw W}{pe:ai S}{q:W->ie}{g:W->W}:∀(ws:ai W),(∀w∈ws,∃e1,cc (.fr w::pe)=.ok (q w) e1/\(q w=true->∃e2,d e1=.ok (g w) e2))->b7 cc d pe ws=ab ((ws.Mk q).a6 g)
 |[],_=>rfl
 |w::ws,h=>by
  let⟨e1,h1,h2⟩:=h w (by simp);have ih:=Lo ws λu hu=>h u (by simp[hu])
  rw[D5,h1]
  grind
def rB:aO->aO->ai ie
 |0,_=>[]
 |j+1,n=>decide (n / 2^j%2=1)::rB j n
theorem sX:∀j n,(rB j n).aj=j
 |0,_=>rfl
 |j+1,n=>by show(rB j n).aj+1=j+1;rw[sX j n]
def Bw(n:aO)(k m:aO)(hm:m<=100):nN K a (n+1) xw [.aT (k:a7),.aT (m:a7)]=.ok (.fr (fo (rB m k))):=by
 rw[Xv];unfold HI;rw?;rw[nZ (oK (by omega) (by omega))];rw?
 let⟨e',h2,z,rfl⟩:=pW (b:=Hz K a (nN K a n)) (i:=3) (lo:=0) (hi:=(m:a7)) m (by omega) (λj e=>∃z,e=[.fr (.aT ((k / 2^j:aO):a7)),.fr (.aT (m:a7)),.fr (.dI ((rB j k).a6 .bl)),z]) [.fr (.aT (k:a7)),.fr (.aT (m:a7)),.fr (.dI []),.no] ⟨.no,by simp[rB]⟩ (by
  rintro j e hj ⟨z,rfl⟩;unfold Hz;rw?;rw[nZ (by simp[sX];omega)];rw?;refine⟨_,rfl,.fr (.aT (0+(j:a7))),?_⟩
  have e1:((k / 2^j:aO):a7) / 2=((k / 2^(j+1):aO):a7):=by
   rw[w1p,<- w4z];omega
  have e2:decide (((k / 2^j:aO):a7)%2=1)=decide (k / 2^j%2=1):=by
   congr 1;exact propext ⟨λz=>by omega,λz=>by omega⟩
  rw[e1,e2];rfl)
 rw[h2];rw?;rfl
theorem sR:∀(f:Fm)(n:aO){ot:ai ie},f.ql<=n->f.jU ot.aj->nN K a n xt [r8 f,.gs (ot.a6 .bl)]=.ok (.fr (.bl (f.vV ot)))
 |.is b,n,ot,hd,hb=>by
  obtain⟨n,rfl⟩:∃k,n=k+1:=⟨n-1,by simp only[Fm.ql]at hd;omega⟩;rw[yB];unfold vx;simp only[r8];rw?;rfl
 |.at p,n,ot,hd,hb=>by
  obtain⟨n,rfl⟩:∃k,n=k+1:=⟨n-1,by simp only[Fm.ql]at hd;omega⟩;rw[yB];unfold vx;simp only[r8];rw?;rw[ES hb];rw?;rfl
 |.not f,n,ot,hd,hb=>by
  obtain⟨n,rfl⟩:∃k,n=k+1:=⟨n-1,by simp only[Fm.ql]at hd;omega⟩;rw[yB];unfold vx;simp only[r8];rw?;rw[sR f n (by simp only[Fm.ql]at hd;omega) hb];rw?;rfl
 |.and f g,n,ot,hd,hb=>by
  obtain⟨n,rfl⟩:∃k,n=k+1:=⟨n-1,by simp only[Fm.ql]at hd;omega⟩;rw[yB];unfold vx;simp only[r8];rw?;rw[sR f n (by simp only[Fm.ql]at hd;omega) hb.1];rw?;rw[sR g n (by simp only[Fm.ql]at hd;omega) hb.2];rw?;simp only[Fm.vV];cases f.vV ot<;>simp
 |.or f g,n,ot,hd,hb=>by
  obtain⟨n,rfl⟩:∃k,n=k+1:=⟨n-1,by simp only[Fm.ql]at hd;omega⟩;rw[yB];unfold vx;simp only[r8];rw?;rw[sR f n (by simp only[Fm.ql]at hd;omega) hb.1];rw?;rw[sR g n (by simp only[Fm.ql]at hd;omega) hb.2];rw?;simp only[Fm.vV];cases f.vV ot<;>simp
 |.Y_ f g,n,ot,hd,hb=>by
  obtain⟨n,rfl⟩:∃k,n=k+1:=⟨n-1,by simp only[Fm.ql]at hd;omega⟩;rw[yB];unfold vx;simp only[r8];rw?;rw[sR f n (by simp only[Fm.ql]at hd;omega) hb.1];rw?;rw[sR g n (by simp only[Fm.ql]at hd;omega) hb.2];rw?;simp only[Fm.vV];cases f.vV ot<;>cases g.vV ot<;>rfl
def O1(M:m8 K mg a)(n:aO)(r:ai ie)(hl:r.aj<=100):nN K a (n+1) DH [fo r,fo r]=.ok (.fr (.bl true)):=by
 rw[Xw];unfold HJ fo;rw?;rw[BL M.cz];rw?;rw[nZ (oK (by omega) (by rw[w0a];omega))];rw?;rw[nZ (by rw[D6,w0a];omega)];simp only[cw,gF,w0d,w0g];rw[Lo (q:=λ_=>false) (g:=λw=>w)]
 .have ef:∀l:ai W,l.Mk (λ_=>false)=[]:=λl=>by induction l with|so=>rfl|qT x l ih=>exact ih
  rw[ef];rw?;try rfl
 .intro w hw;let⟨k,rfl,hk⟩:=mem_range hw;rw[w0a]at hk;unfold Nh;rw?;rw[w3f,ES (ot:=r) (p:=k) (by omega)];rw?;rw[y9z M.zcV];rw?;rw[ES (ot:=r) (p:=k) (by omega)];rw?;rw[ES (ot:=r) (p:=k) (by omega)];rw?
  grind
theorem Sr(w x:W):s_ (.gs [w,x]) (ab (1:a7)) none=ab (.gs [x]):=rfl
theorem Qs(w x y:W):s_ (.gs [w,x,y]) (ab (1:a7)) none=ab (.gs [x,y]):=rfl
def BP(w:et):pk (.str w) (.gs [.str "is", .str "at"])=ab (.bl (w=="is"||w=="at")):=by
 show(if aM (.str w)=true/\[W.str "is", .str "at"].t9 aM=true then ab (W.bl ([W.str "is", .str "at"].uJ λy=>jI y (.str w)))else none)=_
 rw[nZ ⟨rfl,rfl⟩];show ab (W.bl (jI (.str "is") (.str w)||(jI (.str "at") (.str w)||false)))=_
 have e:∀x y:et,jI (.str x) (.str y)=(y==x):=λx y=>by
  show(x==y)=(y==x);exact ie.beq_comm
 rw[e,e,ie.Zj]
def Ss{w:et}(h1:w≠"is")(h2:w≠"at"):pk (.str w) (.gs [.str "is", .str "at"])=ab (.bl false):=by
 rw[BP,϶.wa h1,϶.wa h2];rfl
def O2{q:Fm->aO}{d:iw W}(n:aO)(hd:∀(h:Fm),nN K a n i [r8 h]=.ok (.fr (.aT (q h:a7)))->d [.fr (r8 h)]=.ok (.aT (q h:a7)) [.fr (r8 h)]){f g:Fm}(i1:nN K a n i [r8 f]=.ok (.fr (.aT (q f:a7))))(i2:nN K a n i [r8 g]=.ok (.fr (.aT (q g:a7)))):
  b7 bx d [] [r8 f]=ab [W.aT (q f:a7)]/\b7 bx d [] [r8 f,r8 g]=ab [W.aT (q f:a7),W.aT (q g:a7)]:=by
 refine⟨kT (g:=λh:Fm=>W.aT (q h:a7)) [f] λh hh=>?_,kT (g:=λh:Fm=>W.aT (q h:a7)) [f,g] λh hh=>?_⟩
 all_goals grind
def Eh(n:aO){w:et}{f g:Fm}(h1:w≠"is")(h2:w≠"at")(hz:f.ql+g.ql+1<=100000)(i1:nN K a n vy [r8 f]=.ok (.fr (.aT (f.ql:a7))))(i2:nN K a n vy [r8 g]=.ok (.fr (.aT (g.ql:a7)))):
  nN K a (n+1) vy [.gs [.str w,r8 f,r8 g]]=.ok (.fr (.aT ((max f.ql g.ql+1:aO):a7)))/\nN K a (n+1) vy [.gs [.str w,r8 f]]=.ok (.fr (.aT ((f.ql+1:aO):a7))):=by
 let⟨k1,k2⟩:=O2 (d:=Ie K a (nN K a n)) (q:=Fm.ql) n (λh ih=>by
  unfold Ie;rw?;rw[ih];rw?) i1 i2
 constructor
 all_goals
  rw[Ih];unfold Br;rw?;rw[Ss h1 h2];rw?
 .rw[Qs];rw?;rw[k2];rw?;rw[show ji [.dI [W.aT (f.ql:a7),W.aT (g.ql:a7)]]=_ from Ld (n:=(f.ql:a7)) (ns:=[(g.ql:a7)]),show eQ (f.ql:a7) [(g.ql:a7)]=((max f.ql g.ql:aO):a7)from show(if(f.ql:a7)<(g.ql:a7)then(g.ql:a7)else(f.ql:a7))=_ by split<;>omega];rw?;congr 3;simp;omega
 .rw[Sr];rw?;rw[k1];rw?;rw[show ji [.dI [W.aT (f.ql:a7)]]=_ from Ld (n:=(f.ql:a7)) (ns:=[]),show eQ (f.ql:a7) []=(f.ql:a7)from rfl];rw?;congr 3;simp;omega
def EB(n:aO){w:et}{f g:Fm}(h1:w≠"is")(h2:w≠"at")(hz:f.dS+g.dS+1<=100000)(i1:nN K a n vw [r8 f]=.ok (.fr (.aT (f.dS:a7))))(i2:nN K a n vw [r8 g]=.ok (.fr (.aT (g.dS:a7)))):
  nN K a (n+1) vw [.gs [.str w,r8 f,r8 g]]=.ok (.fr (.aT ((f.dS+g.dS+1:aO):a7)))/\nN K a (n+1) vw [.gs [.str w,r8 f]]=.ok (.fr (.aT ((f.dS+1:aO):a7))):=by
 let⟨k1,k2⟩:=O2 (d:=HA K a (nN K a n)) (q:=Fm.dS) n (λh ih=>by
  unfold HA;rw?;rw[ih];rw?) i1 i2
 constructor
 all_goals
  rw[HB];unfold Bo;rw?;rw[Ss h1 h2];rw?
 .rw[Qs];rw?;rw[k2];rw?;rw[show nY [.dI [W.aT (f.dS:a7),W.aT (g.dS:a7)]]=_ from RY (ns:=[(f.dS:a7),(g.dS:a7)]) (by simp) (λn hn=>by simp at hn;omega)]
  rw?;congr 3;simp;omega
 .rw[Sr];rw?;rw[k1];rw?;rw[show nY [.dI [W.aT (f.dS:a7)]]=_ from RY (ns:=[(f.dS:a7)]) (by simp) (λn hn=>by simp at hn;omega)]
  rw?;congr 3;simp;omega
theorem vG:∀(f:Fm)(n:aO),f.ql<=n->f.ql<=10000->nN K a n vy [r8 f]=.ok (.fr (.aT (f.ql:a7)))
 |.is b,n,hd,hz=>by
  obtain⟨n,rfl⟩:∃k,n=k+1:=⟨n-1,by simp only[Fm.ql]at hd;omega⟩;rw[Ih];unfold Br;simp only[r8];rw?;rw[BP];rfl
 |.at p,n,hd,hz=>by
  obtain⟨n,rfl⟩:∃k,n=k+1:=⟨n-1,by simp only[Fm.ql]at hd;omega⟩;rw[Ih];unfold Br;simp only[r8];rw?;rw[BP];rfl
 |.not f,n,hd,hz=>by
  obtain⟨n,rfl⟩:∃k,n=k+1:=⟨n-1,by simp only[Fm.ql]at hd;omega⟩;simp only[Fm.ql,Fm.dS]at hd hz;have i1:=vG f n (by omega) (by omega);exact(Eh n (by decide) (by decide) (by omega) i1 i1).2
 |.and f g,n,hd,hz=>by
  obtain⟨n,rfl⟩:∃k,n=k+1:=⟨n-1,by simp only[Fm.ql]at hd;omega⟩;simp only[Fm.ql,Fm.dS]at hd hz;exact(Eh n (by decide) (by decide) (by omega) (vG f n (by omega) (by omega)) (vG g n (by omega) (by omega))).1
 |.or f g,n,hd,hz=>by
  obtain⟨n,rfl⟩:∃k,n=k+1:=⟨n-1,by simp only[Fm.ql]at hd;omega⟩;simp only[Fm.ql,Fm.dS]at hd hz;exact(Eh n (by decide) (by decide) (by omega) (vG f n (by omega) (by omega)) (vG g n (by omega) (by omega))).1
 |.Y_ f g,n,hd,hz=>by
  obtain⟨n,rfl⟩:∃k,n=k+1:=⟨n-1,by simp only[Fm.ql]at hd;omega⟩;simp only[Fm.ql,Fm.dS]at hd hz;exact(Eh n (by decide) (by decide) (by omega) (vG f n (by omega) (by omega)) (vG g n (by omega) (by omega))).1
theorem vC:∀(f:Fm)(n:aO),f.ql<=n->f.dS<=10000->nN K a n vw [r8 f]=.ok (.fr (.aT (f.dS:a7)))
 |.is b,n,hd,hz=>by
  obtain⟨n,rfl⟩:∃k,n=k+1:=⟨n-1,by simp only[Fm.ql]at hd;omega⟩;rw[HB];unfold Bo;simp only[r8];rw?;rw[BP];rfl
 |.at p,n,hd,hz=>by
  obtain⟨n,rfl⟩:∃k,n=k+1:=⟨n-1,by simp only[Fm.ql]at hd;omega⟩;rw[HB];unfold Bo;simp only[r8];rw?;rw[BP];rfl
 |.not f,n,hd,hz=>by
  obtain⟨n,rfl⟩:∃k,n=k+1:=⟨n-1,by simp only[Fm.ql]at hd;omega⟩;simp only[Fm.ql,Fm.dS]at hd hz;have i1:=vC f n (by omega) (by omega);exact(EB n (by decide) (by decide) (by omega) i1 i1).2
 |.and f g,n,hd,hz=>by
  obtain⟨n,rfl⟩:∃k,n=k+1:=⟨n-1,by simp only[Fm.ql]at hd;omega⟩;simp only[Fm.ql,Fm.dS]at hd hz;exact(EB n (by decide) (by decide) (by omega) (vC f n (by omega) (by omega)) (vC g n (by omega) (by omega))).1
 |.or f g,n,hd,hz=>by
  obtain⟨n,rfl⟩:∃k,n=k+1:=⟨n-1,by simp only[Fm.ql]at hd;omega⟩;simp only[Fm.ql,Fm.dS]at hd hz;exact(EB n (by decide) (by decide) (by omega) (vC f n (by omega) (by omega)) (vC g n (by omega) (by omega))).1
 |.Y_ f g,n,hd,hz=>by
  obtain⟨n,rfl⟩:∃k,n=k+1:=⟨n-1,by simp only[Fm.ql]at hd;omega⟩;simp only[Fm.ql,Fm.dS]at hd hz;exact(EB n (by decide) (by decide) (by omega) (vC f n (by omega) (by omega)) (vC g n (by omega) (by omega))).1
def zaG(M:m8 K mg a)(n m k sG:aO){fs:ai Fm}(hl:fs.aj=k+sG)(hw:sG<=1000)(hk:k<=1000):nN K a (n+1) Dl [U8 m k fs,.aT (m:a7),.aT (k:a7),.aT (sG:a7)]=.ok (.fr (.bl true)):=by
 rw[WB];unfold He U8;rw?;rw[BL M.cz];rw?;rw[r5 (by decide),z5y M.zc0];rw?;rw[BL M.cz];rw?;rw[BL M.cz];rw?;rw[r5 (by simp;omega)];rw?;rw[r5 (by simp;omega)];rw?;rw[nZ (by simp;omega),Lo (q:=λ_=>false) (g:=λw=>w)]
 .rw[show ∀l:ai W,l.Mk (λ_=>false)=[]from λl=>by induction l with|so=>rfl|qT x l ih=>exact ih]
  rw?;rfl
 .intro w hw;let⟨f,hf,rfl⟩:=w0u.mp hw;unfold M0;rw?;rw[BL M.cz];rw?;rw[r5 (by decide)];exact⟨_,rfl,λz=>z.oa⟩
def zak(n m k:aO){fs:ai Fm}(hl:fs.aj<=1000)(hf:∀f∈fs,f.ql<=60/\f.dS<=1000):nN K a (n+62) DJ [U8 m k fs]=.ok (.fr (.bl true)):=by
 rw[Xy];unfold Ig U8;rw?
 rw[nZ (by simp;omega),kT (g:=r8) (en:=λf=>W.gs [.bl false,r8 f]) (fs.wj k) λf _=>⟨_,by
  unfold Nk;rw?;rfl⟩]
 rw?
 rw[nZ (by simp;omega),nZ (by simp;omega),<- w0x,w1u,xB (q:=λ_=>false) (g:=r8) (en:=r8) fs λf hm=>by
  let⟨h1,h2⟩:=hf f hm;unfold Nj;rw?;rw[vG f (n+61) (by omega) (by omega)];rw?;rw[r5 (by omega),vC f (n+61) (by omega) (by omega)];rw?;exact⟨_,by rw[YY (by omega)],λz=>by cases z⟩]
 rw[show ∀l:ai Fm,l.Mk (λ_=>false)=[]from λl=>by induction l with|so=>rfl|qT x l ih=>exact ih]
 rw?;rfl
theorem Su:∀(j d c x:aO),rB j (c*2^(j+d)+x)=rB j x
 |0,_,_,_=>rfl
 |j+1,d,c,x=>by
  have e:(c*2^(j+1+d)+x) / 2^j=c*2^(1+d)+x / 2^j:=by
   rw[show j+1+d=j+(1+d) by omega,w5n,<- aO.mul_assoc,w3e c,aO.mul_assoc,w5g (w3j j)]
  show decide ((c*2^(j+1+d)+x) / 2^j%2=1)::rB j (c*2^(j+1+d)+x)=decide (x / 2^j%2=1)::rB j x;rw[e,show j+1+d=j+(1+d) by omega,Su j (1+d) c x,show c*2^(1+d)=2*(c*2^d) by grind,aO.mul_add_mod]
theorem Lp:∀(m j k x:aO),x<2^j->rB (m+j) (k*2^j+x)=rB m k++rB j x
 |0,j,k,x,h=>by rw[w1y];exact Su j 0 k x
 |m+1,j,k,x,h=>by
  have e:(k*2^j+x) / 2^(m+j)=k / 2^m:=by
   rw[aO.add_comm m j,w5n,<- w4z,w3e k,w5g (w3j j),aO.zcg h,w3s]
  rw[show m+1+j=m+j+1 by omega];show decide ((k*2^j+x) / 2^(m+j)%2=1)::rB (m+j) (k*2^j+x)=decide (k / 2^m%2=1)::(rB m k++rB j x);rw[e,Lp m j k x h]
theorem Sw:∀(m k p:aO),p<m->(rB m k).hX p false=decide (k / 2^(m-1-p)%2=1)
 |m+1,k,0,_=>rfl
 |m+1,k,p+1,h=>by
  show(rB m k).hX p false=_;rw[Sw m k p (by omega),show m+1-1-(p+1)=m-1-p by omega]
def K6(m k:aO):rB m k=b_ m k:=by
 apply w2h;intro p
 by_cases h:p<m
 .have e1:=Sw m k p h;have e2:=Qr (k:=k) h;rw[<- e2,w1m,w1m]at e1;have l1:p<(rB m k).aj:=by rw[sX];exact h
  have l2:p<(b_ m k).aj:=by rw[nR];exact h
  grind
 grind [sX,nR]
def Sx{l:Mc}{k q:aO}(hq:q<2^(l.m+k)):(pL l k p).hX q none=(tr l k q).hX p none:=by
 grind [pL]
def BV{m k j:aO}(hk:k<2^m)(hx:x<2^j):k*2^j+x<2^(m+j)/\(k*2^j+x)%2^j=x/\(k*2^j+x) / 2^j=k:=by
 refine⟨?_,?_,?_⟩
 .rw[w5n];have:=aO.mul_le_mul_right (2^j) (show k+1<=2^m from hk);rw[w5x]at this;omega
 .rw[w3e,aO.mul_add_mod,aO.zcX hx]
 .rw[w3e,w5g (w3j j),aO.zcg hx,w3s]
def z9f{l:Mc}(hl:l.Og){fs:ai Fm}(hF:gX l j fs)(hs:l.aa.aj<=2^j){k:aO}(hx:x<l.aa.aj)(hk:k<2^l.m):
  fs.a6 (λf=>f.vV (rB l.m k++rB j x))=b_ j (ee l x k)++Mf l x k:=by
 let⟨h1,h2,h3⟩:=BV (j:=j) hk (show x<2^j by omega);have ht:=Eg hl hx hk;have hr:rB l.m k++rB j x=b_ (l.m+j) (k*2^j+x):=by rw[<- Lp _ _ _ _ (by omega),K6]
 apply w2h;intro p
 by_cases hp:p<j+l.sG
 .have hf:=hF.ok p hp;have wZ:(b_ j (ee l x k)++Mf l x k).aj=j+l.sG:=by rw[w1e,nR,ht]
  have e:(pL l j p).hX (k*2^j+x) none=ab ((b_ j (ee l x k)++Mf l x k)[p]'(by omega)):=by
   rw[Sx h1];unfold tr
   grind
  have:=hf.v _ h1 _ e
  grind [gX.uN]
 grind [gX.uN,nR]
def z9g{l:Mc}{fs:ai Fm}(hF:gX l j fs)(h4:4<l.m+j){k:aO}(hx:l.aa.aj<=x)(qK:x<2^j)(hk:k<2^l.m):∀f∈fs,f.vV (rB l.m k++rB j x)=false:=by
 let⟨h1,h2,h3⟩:=BV (j:=j) hk qK;have hr:rB l.m k++rB j x=b_ (l.m+j) (k*2^j+x):=by rw[<- Lp _ _ _ _ qK,K6]
 intro f hf;let⟨p,hp,rfl⟩:=w1n.mp hf;have C3:p<j+l.sG:=by rw[<- hF.uN];exact hp
 have:=(hF.ok p C3).o h4 _ h1 (by
  rw[Sx h1]
  simp_all [tr,r5])
 grind
theorem Ky{ot:ai ie}{d:iw W}{en:Fm->W}(hd:∀f:Fm,f.ql<=60->f.jU ot.aj->d [.fr (en f),.fr (fo ot)]=.ok (.bl (f.vV ot)) [.fr (en f),.fr (fo ot)]):∀fs:ai Fm,(∀f∈fs,f.ql<=60/\f.jU ot.aj)->b7 bx d [.fr (fo ot)] (fs.a6 en)=ab ((fs.a6 λf=>f.vV ot).a6 .bl):=λfs hf=>by
 rw[w0v];exact kT (g:=λf=>W.bl (f.vV ot)) fs λf hm=>⟨_,hd f (hf f hm).1 (hf f hm).2⟩
def y8n(M:m8 K mg a)(n:aO){l:Mc}(hl:l.Og){fs:ai Fm}(hF:gX l j fs)(hj:j<=10)(hs:l.aa.aj<=2^j){k:aO}(hx:x<l.aa.aj)(hk:k<2^l.m)
  {c:Mc}(hm:c.m=l.m)(tl x_:ai aO)(s:ai Pr)(p:Pr)(hp:s[k]?=ab p)(h1:p.1=Mf l x k)(h2:p.2<tl.aj)(h3:tl.hX p.2 0∈x_)(h4:x_.S6 (tl.hX p.2 0)=ee l x k)(z5 z9 lY):
  ∃sm kg,DC K a (nN K a (n+62)) [.fr (U8 l.m j fs),.fr (aE c),.fr (aC tl),.fr (aC x_),.fr (.aT (j:a7)),z5,.fr (fo (rB j x)),.fr (au s),.fr (.aT (k:a7)),z9,lY]=.nx [.fr (U8 l.m j fs),.fr (aE c),.fr (aC tl),.fr (aC x_),.fr (.aT (j:a7)),z5,.fr (fo (rB j x)),.fr (au s),.fr (.aT (k:a7)),sm,kg]:=by
 have hv:=z9f hl hF hs hx hk;have hw:=hl.wg;have bY:=hl.gA;have Gr:(rB l.m k++rB j x).aj=l.m+j:=by rw[w1e,sX,sX]
 have yp:∀f∈fs,f.ql<=60/\f.jU (rB l.m k++rB j x).aj:=λf hf=>by
  let⟨q,hq,rfl⟩:=w1n.mp hf;have h:=hF.ok q (by rw[<- hF.uN];exact hq)
  grind [dX.d,dX.i]
 have tU:eu (s.a6 bo) (k:a7)=ab (bo p):=pU (by rw[w0s,hp];rfl);have nF:∀{f:Fm}{i:aO},f∈fs.xO i\/f∈fs.wj i->f∈fs:=λh=>h.oa ai.mem_of_mem_drop w5i
 have VC:(fs.xO j).a6 (λf=>f.vV (rB l.m k++rB j x))=Mf l x k:=by
  rw[w4t,hv,ai.drop_left' (nR _ _)]
 have YQ:(fs.wj j).a6 (λf=>f.vV (rB l.m k++rB j x))=b_ j (ee l x k):=by
  rw[w4s,hv,ai.take_left' (nR _ _)]
 have e1:=Ky (d:=HN K a (nN K a (n+62))) (en:=r8) (ot:=rB l.m k++rB j x) (λf f1 f2=>by
  unfold HN fo;rw?;rw[sR f (n+62) (by omega) f2];rfl) (fs.xO j) λf hf=>yp f (nF (.jd hf))
 have e2:=Ky (d:=HM K a (nN K a (n+62))) (en:=λf=>W.gs [.bl false,r8 f]) (ot:=rB l.m k++rB j x) (λf f1 f2=>by
  unfold HM fo;rw?;rw[sR f (n+62) (by omega) f2];rfl) (fs.wj j) λf hf=>yp f (nF (.lb hf))
 rw[VC]at e1;rw[YQ]at e2;unfold fo at e1 e2;unfold DC;rw?;rw[uv,hm];rw?;rw[Bw (n+61) k l.m (by omega)];unfold fo au;rw?;rw[nZ (by simp[sX];omega),<- w0x];rw?;unfold U8;rw?;rw[nZ (by simp[hF.uN];omega)];simp only[fB,aX,cw,gF,w0d,w0g,w0o,w0n,w0m,w1x];rw[e1];rw?;try simp only[fB,aX,cw,gF,w0d,w0g,w0o,w0n,w0m,w1x]
 rw?;have ri:=O1 (K:=K) (a:=a) M (n+61) (Mf l x k) (by rw[Eg hl hx hk];omega);have rj:=O1 (K:=K) (a:=a) M (n+61) (b_ j (ee l x k)) (by rw[nR];omega);have rb:=Bw (K:=K) (a:=a) (n+61) (ee l x k) j (by omega);rw[K6]at rb;have An:fT (.dI (x_.a6 aI)) [.aT ((tl.hX p.2 0:aO):a7)]=ab (.aT ((ee l x k:aO):a7)):=by rw[JF h3,h4]
 have AD:=pX h2;unfold aI at An AD;unfold fo at ri rj rb;unfold bo eZ at tU |-
 rw[tU];rw?;rw[h1,ri];rw?;rw[tU];unfold aC aI;rw?;rw[AD];rw?;rw[An];rw?;rw[rb];rw?;rw[nZ (by simp[hF.uN];omega)];rw?;simp only[fB,aX,cw,gF,w0d,w0g,w0o,w0n,w0m,w1x];rw[e2];rw?;try simp only[fB,aX,cw,gF,w0d,w0g,w0o,w0n,w0m,w1x]
 rw?;rw[rj];rw?;exact⟨_,_,rfl⟩
structure qh(c l:Mc)(tl x_:ai aO):Prop where
 m:c.m=l.m
 uN:x_.aj=l.aa.aj
 tn:tl.aj=c.aa.aj
 lt:∀x,x<x_.aj->x_.hX x 0<c.aa.aj
 td:∀x k,x<x_.aj->k<2^l.m->Mf c (x_.hX x 0) k=Mf l x k
 nx:∀x k,x<x_.aj->k<2^l.m->tl.hX (ee c (x_.hX x 0) k) 0∈x_/\x_.S6 (tl.hX (ee c (x_.hX x 0) k) 0)=ee l x k
def Sy{c:Mc}(hc:c.Og){k:aO}(hi:i<c.aa.aj)(hk:k<2^c.m):(c.aa.hX i [])[k]?=ab (Mf c i k,ee c i k):=by
 have hl:=hc.st _ (i4 hi)
 grind [Mf,ee]
def z23(M:m8 K mg a)(n:aO){c l:Mc}(hc:c.Og)(hl:l.Og)(hk:qh c l tl x_){fs:ai Fm}(hF:gX l j fs)(hj:j<=10)(hs:l.aa.aj<=2^j)(hx:x<x_.aj)(z6 z7 z8 z9 lY):
  ∃yd mX sj sm kg,DD K a (nN K a (n+62)) [.fr (U8 l.m j fs),.fr (aE c),.fr (aC tl),.fr (aC x_),.fr (.aT (j:a7)),.fr (.aT (x:a7)),z6,z7,z8,z9,lY]=.nx [.fr (U8 l.m j fs),.fr (aE c),.fr (aC tl),.fr (aC x_),.fr (.aT (j:a7)),.fr (.aT (x:a7)),yd,mX,sj,sm,kg]:=by
 have h8:=p8 hc.gA;have hi:=hk.lt x hx;have VZ:=hc.st _ (i4 hi);have ho:eu (x_.a6 aI) (x:a7)=ab (aI (x_.hX x 0)):=pX hx;have rb:=Bw (K:=K) (a:=a) (n+61) x j (by omega)
 let⟨e',h2,sj,sm,kg,rfl⟩:=pW (b:=DC K a (nN K a (n+62))) (i:=8) (lo:=0) (hi:=((c.aa.hX (x_.hX x 0) []).aj:a7)) (c.aa.hX (x_.hX x 0) []).aj (by omega) (λ_ e=>∃z8 z9 lY,e=[.fr (U8 l.m j fs),.fr (aE c),.fr (aC tl),.fr (aC x_),.fr (.aT (j:a7)),.fr (.aT (x:a7)),.fr (fo (rB j x)),.fr (au (c.aa.hX (x_.hX x 0) [])),z8,z9,lY]) [.fr (U8 l.m j fs),.fr (aE c),.fr (aC tl),.fr (aC x_),.fr (.aT (j:a7)),.fr (.aT (x:a7)),.fr (fo (rB j x)),.fr (au (c.aa.hX (x_.hX x 0) [])),z8,z9,lY] ⟨_,_,_,rfl⟩ (by
  rintro k e Mw ⟨y8,y9,oX,rfl⟩;simp only[w0o,w0n,w3f];have yu:k<2^l.m:=by rw[<- hk.m];omega
  let⟨y9',zfg,h⟩:=y8n (K:=K) (a:=a) M n hl hF hj hs (k:=k) (x:=x) (by rw[<- hk.uN];exact hx) yu hk.m tl x_ (c.aa.hX (x_.hX x 0) []) (Mf c (x_.hX x 0) k,ee c (x_.hX x 0) k) (Sy hc hi (by rw[hk.m];exact yu)) (hk.td x k hx yu) (by rw[hk.tn];exact nQ hc hi (by rw[hk.m];exact yu)) (hk.nx x k hx yu).1 (hk.nx x k hx yu).2 (.fr (.aT (x:a7))) y9 oX;exact⟨_,h,_,_,_,rfl⟩)
 refine⟨.fr (fo (rB j x)),.fr (au (c.aa.hX (x_.hX x 0) [])),sj,sm,kg,?_⟩;unfold DD;rw?;rw[rb];rw?;rw[pG];rw?;unfold aC at h2 |-
 rw?;rw[ho];unfold aI at h2 |-
 rw?;rw[Cz hi];unfold au at h2 |-
 rw?;rw[w0a,nZ (sY (by omega))];rw?;exact h2
def y8p(M:m8 K mg a)(n:aO){c l:Mc}(hc:c.Og)(hl:l.Og)(hk:qh c l tl x_){fs:ai Fm}(hF:gX l j fs)(hj:j<=10)(hs:l.aa.aj<=2^j):
  nN K a (n+63) DM [U8 l.m j fs,aE c,aC tl,aC x_,.aT (j:a7)]=.ok (.fr (.bl true)):=by
 have wZ:=hl.mo;rw[XE];unfold ID;rw?;rw[show aC x_=.dI (x_.a6 aI)from rfl];rw?;rw[w0a,nZ (sY (by rw[hk.uN];omega))];rw?
 let⟨e',h2,_⟩:=pW (b:=DD K a (nN K a (n+62))) (i:=5) (lo:=0) (hi:=(x_.aj:a7)) x_.aj (by omega) (λ_ e=>∃z5 z6 z7 z8 z9 lY,e=[.fr (U8 l.m j fs),.fr (aE c),.fr (aC tl),.fr (aC x_),.fr (.aT (j:a7)),z5,z6,z7,z8,z9,lY]) [.fr (U8 l.m j fs),.fr (aE c),.fr (aC tl),.fr (aC x_),.fr (.aT (j:a7)),.no,.no,.no,.no,.no,.no] ⟨_,_,_,_,_,_,rfl⟩ (by
  rintro x e hx ⟨z5,z6,z7,z8,z9,lY,rfl⟩;simp only[w0o,w0n,w3f];let⟨y6,y7,y8,y9,oX,h⟩:=z23 (K:=K) (a:=a) M n hc hl hk hF hj hs hx z6 z7 z8 z9 lY;exact⟨_,h,_,_,_,_,_,_,rfl⟩)
 rw[show S.fr (W.dI (x_.a6 aI))=S.fr (aC x_)from rfl,h2];rw?
def UG{m:aO}(hm:m<=4):eu [W.aT 1,W.aT 2,W.aT 4,W.aT 8,W.aT 16] (m:a7)=ab (.aT ((2^m:aO):a7)):=by
 rcases(show m=0\/m=1\/m=2\/m=3\/m=4 by omega)with rfl|rfl|rfl|rfl|rfl<;>rfl
def z24{t:ai ie}(h:∀b∈t,b=false):pk (.bl true) (.dI (t.a6 .bl))=ab (.bl false):=by
 have h1:∀t:ai ie,(t.a6 W.bl).t9 aM=true:=λt=>by
  grind [aM]
 have h2:∀t:ai ie,(∀b∈t,b=false)->((t.a6 W.bl).uJ λy=>jI y (.bl true))=false:=λt=>by
  induction t with
  |so=>intro _;rfl
  |qT x t ih=>
   intro h;show(jI (.bl x) (.bl true)||(t.a6 W.bl).uJ _)=_;rw[ih λb hb=>h b (by simp[hb]),h x (by simp)]
   rfl
 show(if aM (.bl true)=true/\(t.a6 W.bl).t9 aM=true then ab (W.bl ((t.a6 W.bl).uJ λy=>jI y (.bl true)))else none)=_
 rw[nZ ⟨rfl,h1 t⟩,h2 t h]
def y8q(n:aO){l:Mc}(hl:l.Og){fs:ai Fm}(hF:gX l j fs)(hj:j<=10)(h4:4<l.m+j){k:aO}(hx:l.aa.aj<=x)(qK:x<2^j)(hk:k<2^l.m)(z0 z3 z7):
  ∃mX,Ds K a (nN K a (n+62)) [z0,.fr (.aT (l.m:a7)),.fr (.aT (j:a7)),z3,.fr (.dI (fs.a6 r8)),.fr (.aT (x:a7)),.fr (.aT (k:a7)),z7]=.nx [z0,.fr (.aT (l.m:a7)),.fr (.aT (j:a7)),z3,.fr (.dI (fs.a6 r8)),.fr (.aT (x:a7)),.fr (.aT (k:a7)),mX]:=by
 have hd:=z9g hF h4 hx qK hk;have hw:=hl.wg;have bY:=hl.gA;have Gr:(rB l.m k++rB j x).aj=l.m+j:=by rw[w1e,sX,sX]
 have yp:∀f∈fs,f.ql<=60/\f.jU (rB l.m k++rB j x).aj:=λf hf=>by
  let⟨q,hq,rfl⟩:=w1n.mp hf;have h:=hF.ok q (by rw[<- hF.uN];exact hq)
  grind [dX.d,dX.i]
 have e1:=Ky (d:=HL K a (nN K a (n+62))) (en:=r8) (ot:=rB l.m k++rB j x) (λf f1 f2=>by
  unfold HL fo;rw?;rw[sR f (n+62) (by omega) f2];rfl) fs yp
 have hi:=z24 (t:=fs.a6 λf=>f.vV (rB l.m k++rB j x)) λb hb=>by
  let⟨f,hf,rfl⟩:=w0u.mp hb;exact hd f hf
 have r1:=Bw (K:=K) (a:=a) (n+61) k l.m (by omega);have r2:=Bw (K:=K) (a:=a) (n+61) x j (by omega);unfold fo at e1 r1 r2;unfold Ds;rw?;rw[r1];rw?;rw[r2];rw?;rw[nZ (by simp[sX];omega),<- w0x];rw?;rw[nZ (by simp[hF.uN];omega)];simp only[fB,aX,cw,gF,w0d,w0g,w0o,w0n,w0m,w1x];rw[e1];rw?;rw[hi];rw?;exact⟨_,rfl⟩
def z25(n:aO){l:Mc}(hl:l.Og){fs:ai Fm}(hF:gX l j fs)(hj:j<=10)(h4:4<l.m+j)(hx:l.aa.aj<=x)(qK:x<2^j)(z0 z3 z6 z7):
  ∃yd mX,Dt K a (nN K a (n+62)) [z0,.fr (.aT (l.m:a7)),.fr (.aT (j:a7)),z3,.fr (.dI (fs.a6 r8)),.fr (.aT (x:a7)),z6,z7]=.nx [z0,.fr (.aT (l.m:a7)),.fr (.aT (j:a7)),z3,.fr (.dI (fs.a6 r8)),.fr (.aT (x:a7)),yd,mX]:=by
 have h8:=p8 hl.gA;have b2:=LH hl.gA;obtain⟨N,hN⟩:∃N,N=2^l.m:=⟨_,rfl⟩;rw[<- hN]at b2 h8
 let⟨e',h2,yd,mX,rfl⟩:=pW (b:=Ds K a (nN K a (n+62))) (i:=6) (lo:=0) (hi:=(N:a7)) N (by omega) (λ_ e=>∃z6 z7,e=[z0,.fr (.aT (l.m:a7)),.fr (.aT (j:a7)),z3,.fr (.dI (fs.a6 r8)),.fr (.aT (x:a7)),z6,z7]) [z0,.fr (.aT (l.m:a7)),.fr (.aT (j:a7)),z3,.fr (.dI (fs.a6 r8)),.fr (.aT (x:a7)),z6,z7] ⟨_,_,rfl⟩ (by
  rintro k e hk ⟨y6,y7,rfl⟩;simp only[w0o,w0n,w3f];let⟨y7',h⟩:=y8q (K:=K) (a:=a) n hl hF hj h4 (k:=k) hx qK (by rw[<- hN];exact hk) z0 z3 y7;exact⟨_,h,_,_,rfl⟩)
 refine⟨yd,mX,?_⟩;unfold Dt;rw?;rw[b2];rw?;rw[nZ (sY (by omega))];rw?;exact h2
def z26(n:aO){l:Mc}(hl:l.Og){fs:ai Fm}(hF:gX l j fs)(hj:j<=4)(h4:4<l.m+j)(hs:l.aa.aj<=2^j):
  nN K a (n+63) DR [U8 l.m j fs,.aT (l.m:a7),.aT (j:a7),.aT (l.aa.aj:a7)]=.ok (.fr (.bl true)):=by
 have hw:=hl.wg;have h8:=p8 hl.gA;have F4:2^j<=2^4:=w0r (by decide) hj;obtain⟨N,hN⟩:∃N,N=2^l.m:=⟨_,rfl⟩;obtain⟨J,hJ⟩:∃J,J=2^j:=⟨_,rfl⟩;have b2:=LH hl.gA;have LQ:=UG hj;rw[<- hN]at b2 h8;rw[<- hJ]at LQ F4 hs;rw[X6];unfold IX U8;rw?
 rw[nZ (by simp[hF.uN];omega),kT (g:=r8) (en:=λf=>W.gs [.bl false,r8 f]) (fs.wj j) λf _=>⟨_,by
  unfold Nx;rw?;rfl⟩]
 rw?;rw[nZ (by simp[hF.uN];omega),<- w0x,w1u];rw?;rw[LQ];rw?;rw[nZ ⟨sY (by omega),sY (by omega)⟩];rw?
 let⟨e',h2,_⟩:=pW (b:=Dt K a (nN K a (n+62))) (i:=5) (lo:=(l.aa.aj:a7)) (hi:=(J:a7)) (J-l.aa.aj) (by omega) (λ_ e=>∃z5 z6 z7,e=[S.fr (U8 l.m j fs),.fr (.aT (l.m:a7)),.fr (.aT (j:a7)),.fr (.aT (l.aa.aj:a7)),.fr (.dI (fs.a6 r8)),z5,z6,z7]) [S.fr (U8 l.m j fs),.fr (.aT (l.m:a7)),.fr (.aT (j:a7)),.fr (.aT (l.aa.aj:a7)),.fr (.dI (fs.a6 r8)),.no,.no,.no] ⟨_,_,_,rfl⟩ (by
  rintro x e hx ⟨z5,z6,z7,rfl⟩;simp only[w0o,w0n];rw[show(l.aa.aj:a7)+(x:a7)=((l.aa.aj+x:aO):a7)from rfl];let⟨y6,y7,h⟩:=z25 (K:=K) (a:=a) n hl hF (by omega) h4 (x:=l.aa.aj+x) (by omega) (by omega) (.fr (U8 l.m j fs)) (.fr (.aT (l.aa.aj:a7))) z6 z7;exact⟨_,h,_,_,_,rfl⟩)
 unfold U8 at h2;rw[h2];rw?
def T5(hx:x<T.aj):(fH c L T).aa.hX x []=bG T (cx c L (T.hX x 0)):=by
 show(T.a6 _).hX x []=_;simp[ai.hX,hx]
def Sz(hc:c.Og)(h:Cl c L T)(hx:x<T.aj)(hr:r<2^c.m):Mf (fH c L T) x r=Mf c (yW c L (T.hX x 0)) r/\ee (fH c L T) x r=T.S6 (kd c L (ee c (yW c L (T.hX x 0)) r)):=by
 have hk:T.hX x 0∈bU c L:=h.Yj _ (by grind);have hl:=hc.st _ (i4 (ki hk))
 grind [Mf,ee,T5,bG,cx]
def Sm(c d:Mc):aO->aO->aO->Prop
 |0,_,_=>j'
 |t+1,i,j=>∀r,r<2^c.m->Mf c i r=Mf d j r/\Sm c d t (ee c i r) (ee d j r)
def Al(c d:Mc)(i j:aO):Prop:=∀t,Sm c d t i j
theorem Qt{c d e:Mc}(h:c.m=d.m):∀{t i j k:aO},Sm c d t i j->Sm d e t j k->Sm c e t i k
 |0,_,_,_,_,_=>trivial
 |t+1,_,_,_,h1,h2=>λr hr=>⟨(h1 r hr).1.kZ (h2 r (by rw[<- h];exact hr)).1,Qt h (h1 r hr).2 (h2 r (by rw[<- h];exact hr)).2⟩
theorem Q2{c d:Mc}(h:c.m=d.m):∀{t i j:aO},Sm c d t i j->Sm d c t j i
 |0,_,_,_=>trivial
 |t+1,_,_,h1=>λr hr=>⟨(h1 r (by rw[h];exact hr)).1.symm,Q2 h (h1 r (by rw[h];exact hr)).2⟩
theorem Al.kZ{c d e:Mc}(h:c.m=d.m){k:aO}(h1:Al c d i j)(h2:Al d e j k):Al c e i k:=λt=>Qt h (h1 t) (h2 t)
theorem Al.symm{c d:Mc}(h:c.m=d.m)(h1:Al c d i j):Al d c j i:=λt=>Q2 h (h1 t)
theorem Al.Zb{c d:Mc}{r:aO}(h:Al c d i j)(hr:r<2^c.m):Mf c i r=Mf d j r/\Al c d (ee c i r) (ee d j r):=⟨(h 1 r hr).1,λt=>(h (t+1) r hr).2⟩
theorem EV{c:Mc}(hc:c.Og):∀{t i j:aO},i<c.aa.aj->j<c.aa.aj->(Sm c c t i j↔kd c t i=kd c t j)
 |0,i,j,_,_=>⟨λ_=>by rw[ur,ur],λ_=>trivial⟩
 |t+1,i,j,hi,hj=>by
  rw[yK hc hi hj];exact zct λr=>⟨λh hr=>⟨(h hr).1,(EV hc (nQ hc hi hr) (nQ hc hj hr)).mp (h hr).2⟩,λh hr=>⟨(h hr).1,(EV hc (nQ hc hi hr) (nQ hc hj hr)).wa (h hr).2⟩⟩
theorem EW{c:Mc}(hc:c.Og)(hs:er c L)(hi:i<c.aa.aj)(hj:j<c.aa.aj):Al c c i j↔kd c L i=kd c L j:=
 ⟨λh=>(EV hc hi hj).mp (h L),λh t=>(EV hc hi hj).wa (Kv hc hs t i j hi hj h)⟩
inductive F2(P:aO->aO->Prop):ai aO->ai aO->Prop
 |so:F2 P [] []
 |qT {x y l m}:P x y->F2 P l m->F2 P (x::l) (y::m)
theorem F2.uN{P:aO->aO->Prop}:∀{l m:ai aO},F2 P l m->l.aj=m.aj
 |_,_,.so=>rfl
 |_,_,.qT _ h=>by rw[w0z,w0z,h.uN]
theorem F2.Ff{P:aO->aO->Prop}:∀{l m:ai aO}{i:aO},F2 P l m->i<l.aj->P (l.hX i 0) (m.hX i 0)
 |_,_,_,.so,h=>by cases h
 |_,_,0,.qT p _,_=>p
 |_,_,i+1,.qT _ h,hi=>by
  have:=h.Ff (i:=i) (by simpa using hi)
  simpa using this
theorem F2.ϐ{P:aO->aO->Prop}{y:aO}(p:P x y):∀{l m:ai aO},F2 P l m->F2 P (l++[x]) (m++[y])
 |_,_,.so=>.qT p .so
 |_,_,.qT q h=>.qT q (F2.ϐ p h)
theorem F2.Yj{P:aO->aO->Prop}(u:∀x y x' y',P x y->P x' y'->(x=x'↔y=y')){y:aO}(p:P x y):∀{l m:ai aO},F2 P l m->(x∈l↔y∈m)
 |_,_,.so=>by simp
 |_,_,.qT q h=>by rw[w0i,w0i,F2.Yj u p h,u _ _ _ _ p q]
theorem F2.ix{P:aO->aO->Prop}(u:∀x y x' y',P x y->P x' y'->(x=x'↔y=y')){y:aO}(p:P x y):∀{l m:ai aO},F2 P l m->l.S6 x=m.S6 y
 |_,_,.so=>rfl
 |x'::l,y'::m,.qT q h=>by
  rw[w5e,w5e,F2.ix u p h]
  grind
def F2.add{P:aO->aO->Prop}(u:∀x y x' y',P x y->P x' y'->(x=x'↔y=y')){y:aO}(p:P x y){l m:ai aO}(h:F2 P l m):F2 P (aW l x) (aW m y):=by
 unfold aW
 by_cases e:x∈l
 .rw[nZ e,nZ ((h.Yj u p).mp e)];exact h
 .rw[r5 e,r5 λz=>e ((h.Yj u p).wa z)];exact h.ϐ p
theorem F2.fold{P:aO->aO->Prop}(u:∀x y x' y',P x y->P x' y'->(x=x'↔y=y')):∀{xs ys l m:ai aO},F2 P xs ys->F2 P l m->F2 P (xs.zx aW l) (ys.zx aW m)
 |[],[],_,_,_,h=>h
 |[],_::_,_,_,q,_=>nomatch q
 |_::_,[],_,_,q,_=>nomatch q
 |x::xs,y::ys,l,m,q,h=>by
  cases q with
  |qT p q=>exact F2.fold (xs:=xs) (ys:=ys) (l:=aW l x) (m:=aW m y) u q (h.add u p)
theorem F2.A0{P:aO->aO->Prop}{f g:α->aO}:∀{l:ai α},(∀x∈l,P (f x) (g x))->F2 P (l.a6 f) (l.a6 g)
 |[],_=>.so
 |x::l,h=>.qT (h x (by simp)) (F2.A0 λy hy=>h y (by simp[hy]))
theorem F2.vm{P:aO->aO->Prop}{f g:aO->α}(e:∀x y,P x y->f x=g y):∀{l m:ai aO},F2 P l m->l.a6 f=m.a6 g
 |_,_,.so=>rfl
 |_,_,.qT p h=>by rw[w0m,w0m,e _ _ p,F2.vm e h]
theorem F2.bf{P:aO->aO->Prop}(u:∀x y x' y',P x y->P x' y'->(x=x'↔y=y')){g g':aO->ai Pr}{b b':aO}(p:P b b')(hg:∀x y,P x y->F2 P ((g x).a6 (·.2)) ((g' y).a6 (·.2))):∀i,F2 P (Q.bf g b i) (Q.bf g' b' i)
 |0=>.qT p .so
 |i+1=>by
  have h:=F2.bf u p hg i;show F2 P (if i<(Q.bf g b i).aj then _ else _) (if i<(Q.bf g' b' i).aj then _ else _)
  by_cases e:i<(Q.bf g b i).aj
  .rw[nZ e,nZ (by rw[<- h.uN];exact e)];exact F2.fold u (hg _ _ (h.Ff e)) h
  .rw[r5 e,r5 (by rw[<- h.uN];exact e)];exact h
def F2.stop{P:aO->aO->Prop}(u:∀x y x' y',P x y->P x' y'->(x=x'↔y=y')){g g':aO->ai Pr}{b b':aO}(p:P b b')(hg:∀x y,P x y->F2 P ((g x).a6 (·.2)) ((g' y).a6 (·.2))){I I':aO}(hI:(Q.bf g b I).aj=I)(wF:(Q.bf g' b' I').aj=I'):F2 P (Q.bf g b I) (Q.bf g' b' I'):=by
 have h:=F2.bf u p hg;rcases aO.le_total I I' with le|le
 .have l1:(Q.bf g' b' I).aj=I:=by rw[<- (h I).uN];exact hI
  have:=yL l1 (I'-I)
  grind
 .have l1:(Q.bf g b I').aj=I':=by rw[(h I').uN];exact wF
  have:=yL l1 (I-I')
  grind
def z27{c:Mc}(hc:c.Og)(hi:i<c.aa.aj):c.aa.hX i []=(ai.CC (2^c.m)).a6 λr=>(Mf c i r,ee c i r):=by
 have hl:=hc.st _ (i4 hi);unfold Mf ee;generalize c.aa.hX i []=s at hl |-
 refine ai.ext_getElem (by simp[hl]) λr h1 h2=>?_
 simp[ai.hX,h1]
def D4{c:Mc}(hc:c.Og){k:aO}(hk:k∈bU c L):cx c L k=(ai.CC (2^c.m)).a6 λr=>(Mf c (yW c L k) r,kd c L (ee c (yW c L k) r)):=by
 unfold cx;rw[z27 hc (ki hk),w0v];rfl
structure Rk(c d:Mc)(L L' x y:aO):Prop where
 cm:x∈bU c L
 dm:y∈bU d L'
 a:Al c d (yW c L x) (yW d L' y)
def S2{c d:Mc}(hc:c.Og)(hd:d.Og)(hm:c.m=d.m)(hs:er c L)(jf:er d L')(hi:i<c.aa.aj)(hj:j<d.aa.aj)(h:Al c d i j):Rk c d L L' (kd c L i) (kd d L' j):=by
 have k1:=uB (t:=L) hi;have k2:=uB (t:=L') hj;refine⟨k1,k2,?_⟩;have a1:=(EW hc hs (ki k1) hi).wa (rF k1);have a2:=(EW hd jf hj (ki k2)).wa (rF k2).symm;exact a1.kZ rfl (h.kZ hm a2)
theorem T6{c d:Mc}(hc:c.Og)(hd:d.Og)(hm:c.m=d.m)(hs:er c L)(jf:er d L'):∀x y x' y',Rk c d L L' x y->Rk c d L L' x' y'->(x=x'↔y=y'):=λx y x' y' p q=>by
 constructor
 .rintro rfl;have:=(EW hd jf (ki p.dm) (ki q.dm)).mp ((p.a.symm hm).kZ hm.symm q.a)
  rwa [rF p.dm,rF q.dm]at this
 .rintro rfl;have:=(EW hc hs (ki p.cm) (ki q.cm)).mp (p.a.kZ hm (q.a.symm hm))
  rwa [rF p.cm,rF q.cm]at this
def Q3{c d:Mc}(hc:c.Og)(hd:d.Og)(hm:c.m=d.m)(hs:er c L)(jf:er d L'){y r:aO}(p:Rk c d L L' x y)(hr:r<2^c.m):Mf c (yW c L x) r=Mf d (yW d L' y) r/\Rk c d L L' (kd c L (ee c (yW c L x) r)) (kd d L' (ee d (yW d L' y) r)):=by
 let⟨h1,h2⟩:=p.a.Zb hr
 grind [S2,nQ,ki,Rk.cm,Rk.dm]
def canon{c d:Mc}(hc:c.Og)(hd:d.Og)(hm:c.m=d.m)(hw:c.sG=d.sG)(hs:er c L)(jf:er d L')(h:Al c d 0 0){I I':aO}(hI:(bf (cx c L) (kd c L 0) I).aj=I)(wF:(bf (cx d L') (kd d L' 0) I').aj=I'):
  F2 (Rk c d L L') (bf (cx c L) (kd c L 0) I) (bf (cx d L') (kd d L' 0) I')/\fH c L (bf (cx c L) (kd c L 0) I)=fH d L' (bf (cx d L') (kd d L' 0) I'):=by
 have u:=T6 hc hd hm hs jf
 have f:=F2.stop u (S2 hc hd hm hs jf hc.gw hd.gw h) (λx y p=>by
  rw[D4 hc p.cm,D4 hd p.dm,w0v,w0v,<- hm];exact F2.A0 λr hr=>(Q3 hc hd hm hs jf p (w0y.mp hr)).2) hI wF
 refine⟨f,?_⟩;unfold fH;rw[hm,hw];congr 1;refine F2.vm (λx y p=>?_) f
 unfold bG;rw[D4 hc p.cm,D4 hd p.dm,w0v,w0v,<- hm]
 grind [ai.zcW,Q3,F2.ix]
def cT(c:Mc)(t:aO):Mc:=⟨c.m,c.sG,c.aa++ai.w8 t (c.aa.hX 0 [])⟩
def S3{c:Mc}(hc:c.Og)(FA:c.aa.aj<=16){t:aO}(ht:t<=2):(cT c t).Og:=by
 have hr:∀s∈(cT c t).aa,s∈c.aa:=λs hs=>by
  rcases w2s.mp hs with h|h
  .exact h
  .rw[(ai.mem_replicate.mp h).2];exact i4 hc.gw
 have hl:(cT c t).aa.aj=c.aa.aj+t:=by unfold cT;rw[w1e,w2f]
 exact⟨hc.gA,hc.wg,by rw[hl];have:=hc.gw;omega,by rw[hl];omega,λs hs=>hc.st s (hr s hs),λs hs p hp=>by
  have:=hc.pr s (hr s hs) p hp;rw[hl];exact⟨this.1,by omega⟩⟩
def UL(c:Mc)(t:aO)(hi:i<c.aa.aj):(cT c t).aa.hX i []=c.aa.hX i []:=by
 grind [cT]
theorem S4{c:Mc}(hc:c.Og)(u:aO):∀t i,i<c.aa.aj->Sm c (cT c u) t i i
 |0,i,hi=>trivial
 |t+1,i,hi=>λr hr=>by
  have e:=UL c u hi;have e1:Mf (cT c u) i r=Mf c i r:=by unfold Mf;rw[e]
  have e2:ee (cT c u) i r=ee c i r:=by unfold ee;rw[e]
  rw[e1,e2];exact⟨rfl,S4 hc u t _ (nQ hc hi hr)⟩
theorem T7{c:Mc}(hc:c.Og)(FA:c.aa.aj<=16){t I I':aO}(ht:t<=2)(hs:er c L)(jf:er (cT c t) L')(hI:(bf (cx c L) (kd c L 0) I).aj=I)(wF:(bf (cx (cT c t) L') (kd (cT c t) L' 0) I').aj=I'):
  fH (cT c t) L' (bf (cx (cT c t) L') (kd (cT c t) L' 0) I')=fH c L (bf (cx c L) (kd c L 0) I):=
 (canon hc (S3 hc FA ht) rfl rfl hs jf (λu=>S4 hc t u 0 hc.gw) hI wF).2.symm
def UM{c:Mc}(hc:c.Og){I:aO}(hL:L<=c.aa.aj)(hs:er c L)(hI:(bf (cx c L) (kd c L 0) I).aj=I):
  qh c (fH c L (bf (cx c L) (kd c L 0) I)) (gv c c.aa.aj) ((bf (cx c L) (kd c L 0) I).a6 (yW c L)):=by
 have h:=LG hc hI;generalize bf (cx c L) (kd c L 0) I=T at h;have zT:∀x y,x∈T->y∈T->yW c L x=yW c L y->x=y:=λx y hx hy e=>by rw[<- rF (h.Yj x hx),<- rF (h.Yj y hy),e]
 have tU:∀x,x<T.aj->(T.a6 (yW c L)).hX x 0=yW c L (T.hX x 0):=λx hx=>by
  grind
 have nF:∀x,x<T.aj->T.hX x 0∈T:=λx hx=>by
  grind
 have F6:∀x k,x<T.aj->k<2^c.m->kd c L (ee c (yW c L (T.hX x 0)) k)∈T:=λx k hx hk=>by
  have hr:=ki (h.Yj _ (nF x hx))
  exact h.cl _ (nF x hx) (Mf c (yW c L (T.hX x 0)) k,kd c L (ee c (yW c L (T.hX x 0)) k)) (by
   unfold cx;exact w0u.wa ⟨_,w0w (Sy hc hr hk),rfl⟩)
 refine⟨rfl,by rw[w0a];show _=(T.a6 _).aj;rw[w0a],K3 c _,λx hx=>?_,λx k hx hk=>?_,λx k hx hk=>?_⟩
 all_goals rw[w0a]at hx
 .rw[tU x hx];exact ki (h.Yj _ (nF x hx))
 .rw[tU x hx];exact(Sz hc h hx hk).1.symm
 .have hr:=ki (h.Yj _ (nF x hx));have hn:=nQ hc hr hk;have lC:=F6 x k hx hk;rw[tU x hx,Lh hc hL hs hn,(Sz hc h hx hk).2];refine⟨w2o lC,?_⟩;let⟨i,hi,e⟩:=w1n.mp lC;refine Qb (by rw[w0a]) (λp q hp hq=>?_) (i:=i) (by rw[w0s,w0c hi,e];rfl) (by rw[w0c hi,e])
  grind
def wk{s:aO}(h:s<=16):cN s<=4:=by
 grind [K1]
def z28(l:ai (ai Pr)):cX (l.a6 au) (l.a6 au)=ab true:=by
 induction l with
 |so=>rfl
 |qT a x ih=>
  show(match gK (gW a) (gW a),cX (x.a6 au) (x.a6 au)with|ab p,ab q=>ab (p&&q)|_,_=>none)=_;rw[yO,ih];simp
def O4(M:m8 K mg a){c l:Mc}(hc:n_ c)(hl:l.Og)(hm:l.m=c.m)(hw:l.sG=c.sG)(bY:l.aa.aj<=16)(hk:qh c l tl x_){fs:ai Fm}(hF:gX l (cN l.aa.aj) fs){t:aO}(ht:t<=1)
  (jS:nN K a 148 xr [aE (cT c t)]=.ok (.x (.vd (U8 l.m (cN l.aa.aj) fs))))(z0 z6 z7)(zfE:kN z0=false)(y6:kN z6=false):
  En K a (nN K a 148) [z0,.fr (aE c),.fr (aC tl),.fr (aC x_),.fr (.aT (cN l.aa.aj:aO)),.dW [.aT (c.m:a7),.aT (c.sG:a7)] ((cT c t).aa.a6 au) [],z6,z7]=.nx [z0,.fr (aE c),.fr (aC tl),.fr (aC x_),.fr (.aT (cN l.aa.aj:aO)),.dW [.aT (c.m:a7),.aT (c.sG:a7)] ((cT c (t+1)).aa.a6 au) [],z6,.x (.vd (U8 l.m (cN l.aa.aj) fs))]:=by
 have hs:=(K1 (s:=l.aa.aj) (by omega)).1;have h4:=wk bY;generalize cN l.aa.aj=j at *;have qJ:=hl.wg
 have yp:∀f∈fs,f.ql<=60/\f.dS<=1000:=λf hf=>by
  let⟨q,hq,rfl⟩:=w1n.mp hf;have h:=hF.ok q (by rw[<- hF.uN];exact hq)
  grind [dX.d,dX.z]
 have ic:nN K a 148 Dl [U8 l.m j fs,.aT (c.m:a7),.aT (j:a7),.aT (c.sG:a7)]=.ok (.fr (.bl true)):=by
  rw[<- hm,<- hw];exact zaG M 147 l.m j l.sG hF.uN (by omega) (by omega)
 have zcF:nN K a 148 DJ [U8 l.m j fs]=.ok (.fr (.bl true)):=zak 86 l.m j (by rw[hF.uN];omega) yp;have zcD:nN K a 148 DM [U8 l.m j fs,aE c,aC tl,aC x_,.aT (j:a7)]=.ok (.fr (.bl true)):=y8p M 85 hc.og hl hk hF (by omega) hs
 have kM:((cT c t).aa.a6 au).wj c.aa.aj=c.aa.a6 au:=by
  unfold cT;rw[w0x,ai.take_left' (w0a ..)]
 have gm:YK (.dI (c.aa.a6 au)) (.dI (c.aa.a6 au))=ab (.bl false):=by
  have hd:bS (c.aa.a6 au)<=3:=by
   generalize c.aa=X
   induction X with
   |so=>exact w1g _
   |qT a x ih=>exact aO.max_le.wa ⟨R3 a,ih⟩
  show(if bS (c.aa.a6 au)+1<=150 then(cX (c.aa.a6 au) (c.aa.a6 au)).a6 λb=>W.bl (!b)else none)=_
  rw[nZ (by omega),z28];rfl
 have vc:cU ((c.aa.hX 0 []).a6 bo)=true:=BI λw hw=>by
  let⟨p,_,rfl⟩:=w0u.mp hw;show(cU (p.1.a6 .bl)&&(true&&true))=true;rw[BI λw hw=>by let⟨b,_,rfl⟩:=w0u.mp hw;rfl]
  rfl
 have h0:(c.aa.a6 au)[0]?=ab (au (c.aa.hX 0 [])):=by
  rw[w0s,w1m,w0c hc.og.gw];rfl
 have ve:(cT c t).aa.a6 au++[au (c.aa.hX 0 [])]=(cT c (t+1)).aa.a6 au:=by
  unfold cT;rw[ai.replicate_succ',<- w4l];simp only[w0x];rfl
 have wZ:((cT c t).aa.a6 au).aj<=17:=by
  grind [n_.gA,cT]
 unfold En;rw?;rw[show nN K a 148 xr [W.gs [W.aT (c.m:a7),W.aT (c.sG:a7),W.dI ((cT c t).aa.a6 au)]]=_ from jS];rw?;rw[uv];rw?;rw[xF];rw?;rw[ic];rw?;rw[zcF];rw?;rw[zcD];rw?;rw[pG];rw?;rw[w0a,Li (by rw[w0a];unfold cT;rw[w1e];omega),kM,pG];rw?;rw[gm];rw?;rw[uv];rw?
 by_cases hd:(4:a7)<(c.m:a7)+(j:a7)
 .have id:nN K a 148 DR [U8 l.m j fs,.aT (c.m:a7),.aT (j:a7),.aT (l.aa.aj:a7)]=.ok (.fr (.bl true)):=by
   rw[<- hm];exact z26 85 hl hF h4 (by rw[hm];omega) hs
  rw[nZ hd,uv];rw?
  rw[show bB [aC x_]=ab (.aT (l.aa.aj:a7)) by
   show ab (W.aT ((x_.a6 aI).aj:a7))=_;rw[w0a,hk.uN]]
  rw?;rw[id];rw?;rw[pG];rw?;rw[h0];unfold au;rw?;rw[nZ vc];unfold au at ve wZ;refine(nZ ⟨w5u wZ (by decide),?_⟩).kZ ?_
  all_goals simp_all [kN]
 .rw[r5 hd,pG];rw?;rw[h0];unfold au;rw?;rw[nZ vc];unfold au at ve wZ;refine(nZ ⟨w5u wZ (by decide),?_⟩).kZ ?_
  all_goals simp_all [kN]
def y8s(M:m8 K mg a){c l:Mc}(hc:n_ c)(hl:l.Og)(hm:l.m=c.m)(hw:l.sG=c.sG)(bY:l.aa.aj<=16)(hk:qh c l tl x_)(w0:W)
  (jS:∀t,t<=1->∃fs,gX l (cN l.aa.aj) fs/\nN K a 148 xr [aE (cT c t)]=.ok (.x (.vd (U8 l.m (cN l.aa.aj) fs)))):
  ∃z6 z7,cV 6 (En K a (nN K a 148)) (bu 0 2) [.fr w0,.fr (aE c),.fr (aC tl),.fr (aC x_),.fr (.aT (cN l.aa.aj:aO)),.dW [.aT (c.m:a7),.aT (c.sG:a7)] (c.aa.a6 au) [],.no,.no]=.nx [.fr w0,.fr (aE c),.fr (aC tl),.fr (aC x_),.fr (.aT (cN l.aa.aj:aO)),.dW [.aT (c.m:a7),.aT (c.sG:a7)] ((cT c 2).aa.a6 au) [],z6,z7]:=by
 have e0:c.aa.a6 au=(cT c 0).aa.a6 au:=by unfold cT;rw[ai.replicate_zero,w1q]
 let⟨f0,F0,r0⟩:=jS 0 (by decide);let⟨f1,F1,r1⟩:=jS 1 (by decide);have h0:=O4 (K:=K) (a:=a) M hc hl hm hw bY hk F0 (t:=0) (by decide) r0 (.fr w0) (.fr (.aT 0)) .no rfl rfl;have h1:=O4 (K:=K) (a:=a) M hc hl hm hw bY hk F1 (t:=1) (by decide) r1 (.fr w0) (.fr (.aT 1)) (.x (.vd (U8 l.m (cN l.aa.aj) f0))) rfl rfl;refine⟨.fr (.aT 1),.x (.vd (U8 l.m (cN l.aa.aj) f1)),?_⟩;rw[show bu 0 2=[W.aT 0,W.aT 1]from rfl,uo];simp only[w0o,w0n];rw[e0,h0,xA,uo];simp only[w0o,w0n];rw[h1,xA];rfl
def z29(M:m8 K mg a)(ns)(hl:CB ns):nN K a 149 Ls [.dI (ns.a6 .aT)]=.ok (.fr (.bl true)):=by
 let⟨c,hc,h1⟩:=zaF (K:=K) (a:=a) 146 ns;have sM:=hc.og;let⟨L,I,ws,hs,hL,hI,_⟩:=Pu (K:=K) (a:=a) 144 c sM;have fh:=LG sM hI;have Aw:=fh.ok sM;have hk:=UM sM (w3p hL) hs hI;have ho:=y8d (K:=K) (a:=a) 147 c sM hc.gA (w3p hL) hs hI;have h2:=zax (K:=K) (a:=a) 147 c sM;have h4:=zbN (K:=K) (a:=a) 147 c sM
 have bY:(fH c L (bf (cx c L) (kd c L 0) I)).aa.aj<=16:=by
  have:=fh.uN sM;have:=hc.gA;show(ai.a6 _ _).aj<=16;rw[w0a];omega
 have jS:∀t,t<=1->∃fs,gX (fH c L (bf (cx c L) (kd c L 0) I)) (cN (fH c L (bf (cx c L) (kd c L 0) I)).aa.aj) fs/\nN K a 148 xr [aE (cT c t)]=.ok (.x (.vd (U8 c.m (cN (fH c L (bf (cx c L) (kd c L 0) I)).aa.aj) fs))):=λt ht=>by
  let⟨L',I',ws',jf,_,wF,hr⟩:=Pu (K:=K) (a:=a) 142 (cT c t) (S3 sM hc.gA (by omega));rw[T7 sM hc.gA (by omega) hs jf hI wF]at hr;exact Y' 26 Aw (wk bY) (zbO 144 hr (by omega) (wk bY) hc.wd)
 have wZ:(bf (cx c L) (kd c L 0) I).aj=(fH c L (bf (cx c L) (kd c L 0) I)).aa.aj:=by
  show _=(ai.a6 _ _).aj;rw[w0a]
 have h3:=zbr (K:=K) (a:=a) 147 (s:=(fH c L (bf (cx c L) (kd c L 0) I)).aa.aj) (by omega);generalize hT:fH c L (bf (cx c L) (kd c L 0) I)=l at *;rw[z8f];unfold Lu;rw?;rw[h1];rw?;rw[h2];rw?;rw[ho];rw?;rw[w0a,w0a,wZ,h3];rw?;rw[h4];rw?;have C0:l.m=c.m:=by rw[<- hT];rfl
 have VP:l.sG=c.sG:=by rw[<- hT];rfl
 let⟨z6,z7,g1⟩:=y8s (K:=K) (a:=a) M hc Aw C0 VP bY hk (.dI (ns.a6 .aT)) (λt ht=>by rw[C0];exact jS t ht)
 clear jS hk ho h2 h4 h3 hT
 rw[show S.fr (W.dI (((bf (cx c L) (kd c L 0) I).a6 (yW c L)).a6 aI))=S.fr (aC ((bf (cx c L) (kd c L 0) I).a6 (yW c L)))from rfl,nZ (show pD 2=true by decide)];rw?;rw[g1];rw?;rw[show ∀x y z:W,s_ (.gs [x,y,z]) none (ab (2:a7))=ab (.gs [x,y])from λ_ _ _=>rfl]
 rw?;rw[show s_ (aE c) none (ab (2:a7))=ab (.gs [.aT (c.m:a7),.aT (c.sG:a7)])from rfl];rw?
 rw[show zf (.gs [.aT (c.m:a7),.aT (c.sG:a7)]) (.gs [.aT (c.m:a7),.aT (c.sG:a7)])=ab (.bl true) by
  show ab (W.bl (((c.m:a7)==(c.m:a7))&&(((c.sG:a7)==(c.sG:a7))&&true)))=_;simp]
 rw?
theorem walk{l:n9.W.Θ}{q:xc}{_Y:ai et}{XP:(et->d3 d0)->g0->Prop}{YP:vr->g0->Prop}{d:ĺ}{K:Ø->Fg}{xY:ai (fy×et)}(hn:l.É=ab 63)(tW:d.uu.À=[])
  (hY:∀(w:vr)(h:g0),YP w h->(K w.uu).In h)(hT:∀(w:vr)(h:g0),YP w h->∀P∈xY.a6 (·.1),h.ik P=ab (ϫ #[]))
  (hG:∀w:vr,((D.d7 (K w.uu)).g6 Yi).z_=true)(Ab:∀w:vr,gQ (K w.uu)=true)(hd:xY.t9 (λp=>xY.g6 p.1==ab p.2)=true)
  (hK:∀w:vr,xY.t9 (λp=>((D.d7 (K w.uu)).g6 p.1).ř)=true)(hc:∀w:vr,∀p∈xY,∃c,á (K w.uu) c p.1=true)
  (F:∀(w:vr)(mg:et->d3 d0)(fa:fy)(h:g0),(D.dq (D.d7 (K w.uu)) xY).In h->h.Ns Yi mg->mg d.name=ab (.dr fa) ->
   ∃fd:Zv,(∀(s:p5)(u:d0),_Q s fd ⟨[u],[]⟩ [("_law_script", u)])/\∀k_:g0,(D.dq (D.d7 (K w.uu)) xY).In k_->k_.Ns Yi mg->_z k_ mg->eT l.je w (D.dq (D.d7 (K w.uu)) xY) mg k_ (fe l.je w) 151 fa fd ["_law_script"] (lQ (D.dq (D.d7 (K w.uu)) xY))):
  n9.W.Ú q _Y XP YP l.ot.ϑ d [] (λf vs=>n9.zb f vs):=
 L2.y7a (K:=λp=>D.dq (D.d7 (K p)) xY) (xY:=xY) (n:=63) (k:=151) (x:="_law_script") (CX:=λw=>fe l.je w) (sp:=λw=>lQ (D.dq (D.d7 (K w.uu)) xY)) hn (by decide) tW ⟨rfl,by decide,by decide,rfl⟩ (λw h Y=>D.GD (hG w) (D.z07 (hY w h Y))) F (λ_ _ a ns hl hb hS=>⟨a,ns,rfl,hS,⟨hl,hb⟩,λ_=>rfl⟩) (λ_ _ _ _ _ z=>Tq z)
  (λw=>D.zbz (D.zar (Ab w)) hd) (λw h Y=>D.z7q (hY w h Y) (hT w h Y) (hc w)) (λw=>D.kU (hG w) (hK w))
end Q
open PySem PySem.W PyProof.Rows
set_option maxRecDepth 100000 in
set_option maxHeartbeats 0 in
theorem PySem.Challenge.cw_circuits_k66_made_keeps_holds : PySem.Challenge.rw_circuits_k66_made_keeps.Holds := by
 w_on; o_law; k_head; (case hw => w_witness2)
 k_fill
 refine Q.walk (l := PySem.Challenge.rw_circuits_k66_made_keeps) (tabs := [(241, ("rarest" ++ ".<locals>.") ++ "<lambda>"), (286, ("small" ++ ".<locals>.") ++ "<lambda>")]) rfl rfl (fun w h Y => PySem.W.km_in_of Y) (fun w h Y => PySem.W.km_tabs_of Y) (fun w => by kernel_rfl) (fun w => by kernel_rfl) (by decide +kernel) (fun w => by kernel_rfl) (fun w => w2y.mpr ⟨⟨245, by kernel_rfl⟩, w2y.mpr ⟨⟨290, by kernel_rfl⟩, fun _ h => nomatch h⟩⟩) ?F
 case F =>
  intro w mg fa h KX G hmg;refine' Q.mk hmg ?zA ?zB ?zM ?zK 148 ?hL
  (case zA =>
   intro i h
   (iterate 59 (rcases i with _ | i; · exact Q.at_k KX G (D.ns_m (D.q29 (by k_is) (by kernel_rfl))) (D.q5w (D.q1f (by k_is) (by kernel_rfl))) (D.Q3x (D.x9q (by k_is) (by kernel_rfl))) (D.Q3y (by kernel_rfl)) fun _ _ _ _ _ _ => by first | exact Q.us1 fun _ => rfl | exact Q.us2 fun _ _ => rfl | exact Q.us3 fun _ _ _ => rfl | exact Q.us4 fun _ _ _ _ => rfl | exact Q.us5 fun _ _ _ _ _ => rfl))
   exact absurd h (by omega))
  (case zB => constructor <;> first | exact mg_none_of KX G (D.ns_m (D.q29 (by k_is) (by kernel_rfl))) | exact ⟨_, mg_of KX G (D.ns_m (D.q29 (by k_is) (by kernel_rfl))), ⟨⟨_, (D.q5w (D.q1f (by k_is) (by kernel_rfl))), by kernel_rfl⟩⟩⟩)
  (case zM => constructor <;> first | trivial | exact mg_of KX G (D.ns_m (D.q29 (by k_is) (by kernel_rfl))) | exact D.no_m (by kernel_rfl) D.z08 | kernel_rfl)
  (case zK => exact w2y.mpr ⟨Q.mk_k (st := Q.s8 27) KX G (D.ns_m (D.q29 (by k_is) (by kernel_rfl))) (D.q5w (D.q1f (by k_is) (by kernel_rfl))) rfl (show codeHdIn _ _ 241 = true by kernel_rfl) (w0l _ (by simp; rfl)), w2y.mpr ⟨Q.mk_k (st := Q.s8 34) KX G (D.ns_m (D.q29 (by k_is) (by kernel_rfl))) (D.q5w (D.q1f (by k_is) (by kernel_rfl))) rfl (show codeHdIn _ _ 286 = true by kernel_rfl) (w0l _ (by simp; rfl)), fun _ h => nomatch h⟩⟩)
  (case hL => exact fun a M ns hl => Q.z29 M ns hl)
