import PyProof.Rows.All
import Wide.All
import OpenK.AllK
import Wide.FinOn
import PyProof.TupleKey
import PyProof.EqAt
import PyProof.EqKinds
import Wide.Seal
import Lean
import PyProof.TupleCall
import KE.KTryMore
import KE.KRevIter
import PyProof.CollectIter
import PyProof.ConsumeWalk
import PyProof.TupleOfStr
import KE.KIsAll
import PyProof.ExcArgs
import PyProof.ExcAttrAll.ValueError
import PyProof.CompUse
import PyProof.NeKinds
import PyProof.EnumIter
import PyProof.EnumFor
import PyProof.EnumMake
import PyProof.EnumStmt
import PyProof.ListMulRoad
import PyProof.ZipIter
import PyProof.TupleIter
import PyProof.Rows.SortWalk
import PyProof.SetKind
import PyProof.Rows.SetFrom
import PyProof.FactsAll.set_1
import KE.KDictSum
import PyProof.FactsAll.set_2
import PyProof.FactsAll.tuple_2
import PyProof.ReprRoads
import PyProof.Rows.SeqMore
import PyProof.ReprLen
import PyProof.WalkInts
import PyProof.SeqI3
import PyProof.Rows.TupIter
import PyProof.ListRange
import PyProof.SumWalk
import PyProof.DictIter
import PyProof.DictWalks
import PyProof.DictRoadsH
import PyProof.DictTruth
import KE.KDictList
import PyProof.Rows.TupDisplay
import PyProof.Draws
import PyProof.StrBlockI
import PyProof.StrLawsIn
import PyProof.StrOps2
import PyProof.ReprStr
import PyProof.ListNew
import PyProof.Rows.SortRev
import KE.KMinKey
import PyProof.Rows.SortStr
import PyProof.Rows.SortRunsK
import PyProof.Rows.SortKeyStr
import KE.RegMulBits
import KE.KRevSl
import PyProof.CallStr
import PySem.Challenge.RW_circuits_k69_whole_back
set_option Elab.async false
set_option linter.all false
set_option maxRecDepth 100000
set_option maxHeartbeats 1000000
local macro_rules | `(tactic| cases $h:ident) => `(tactic| first | (guard_hyp $h : _ = _; first | subst $h:ident | (injection $h:ident; done) | (injection $h:ident with z1 z2 z3; cases z1; cases z2; cases z3) | (injection $h:ident with z1 z2; cases z1; cases z2) | (injection $h:ident with z1; cases z1)) | cases ($h))
local macro_rules | `(tactic| omega) => `(tactic| first | with_reducible assumption | decide | with_reducible exact Nat.le_refl _ | with_reducible exact Nat.zero_le _ | lia)
set_option genSizeOf false
set_option genInjectivity false
set_option compiler.extract_closed false
local macro_rules | `(tactic| walk_at "1") => `(tactic| (first | exact Or.inl rfl | exact Or.inr (Or.inl rfl) | exact Or.inr (Or.inr rfl)))
local macro_rules | `(tactic| walk_at "2") => `(tactic| (first | exact .inl rfl | exact .inr rfl | assumption))
local macro_rules | `(tactic| walk_at "3") => `(tactic| (first | exact Or.inl rfl | exact Or.inr rfl))
open PySem.W (codeHdIn findIn keepIn kla_fn kla_obj methodObj mroIn pyHash_slot specialIn tabObj)
def w0a:=@List.length_map
def w0b:=@List.getElem?_eq_getElem
def w0c:=@List.getElem?_eq_some_iff
def w0d:=@List.getElem?_cons_succ
def w0e:=@Nat.le_refl
def w0f:=@List.getElem?_cons_zero
def w0g:=@List.mem_cons
def w0h:=@List.mem_append_right
def w0i:=@List.map_map
def w0j:=@List.getElem?_set_ne
def w0k:=@List.map_cons
def w0l:=@Option.map_eq_some_iff
def w0m:=@List.getElem?_set_self
def w0n:=@Nat.pow_le_pow_right
def w0o:=@List.mem_map
def w0p:=@Nat.ne_of_lt
def w0q:=@List.map_append
def w0r:=@Nat.le_trans
def w0s:=@List.mem_of_getElem?
def w0t:=@Bool.and_eq_true
def w0u:=@List.mem_cons_of_mem
def w0v:=@List.length_cons
def w0w:=@List.getElem?_map
def w0x:=@List.mem_range
def w0y:=@Nat.lt_of_lt_of_le
def w0z:=@List.set_cons_succ
def w1a:=@List.set_cons_zero
def w1b:=@Nat.zero_le
def w1c:=@List.all_eq_true
def w1d:=@List.not_mem_nil
def w1e:=@List.mem_singleton
def w1f:=@List.getD_eq_getElem?_getD
def w1g:=@List.getElem?_append_left
def w1h:=@List.mem_cons_self
def w1i:=@List.getElem?_append_right
def w1j:=@List.size_toArray
def w1k:=@List.append_nil
def w1l:=@List.mem_filter
def w1m:=@Bool.false_ne_true
def w1n:=@List.map_congr_left
def w1o:=@List.getElem_mem
def w1p:=@Nat.zero_add
def w1q:=@Bool.or_eq_true
def w1r:=@Nat.pow_succ
def w1s:=@Int.toNat_natCast
def w1t:=@List.length_append
def w1u:=@List.length_range
def w1v:=@List.foldl_cons
def w1w:=@Bool.eq_iff_iff
def w1x:=@Option.bind_eq_some_iff
def w1y:=@Nat.lt_succ_of_lt
def w1z:=@List.mem_iff_getElem
def w2a:=@List.forall_mem_cons
def w2b:=@List.ext_getElem?
def w2c:=@List.find?_cons
def w2d:=@List.take_of_length_le
def w2e:=@Nat.lt_irrefl
def w2f:=@List.take_append_drop
def w2g:=@List.forIn_cons
def w2h:=@List.append_assoc
def w2i:=@List.idxOf_lt_length_iff
def w2j:=@Nat.two_pow_pos
def w2k:=@List.map_nil
def w2l:=@List.replicate_succ
def w2m:=@List.filter_eq_self
def w2n:=@List.mem_map_of_mem
def w2o:=@Int.toNat_of_nonneg
def w2p:=@List.length_take
def w2q:=@List.any_eq_true
def w2r:=@Nat.ne_of_gt
def w2s:=@List.nodup_cons
def w2t:=@List.length_replicate
def w2u:=@List.cons_lt_cons_iff
def w2v:=@Bool.eq_false_iff
def w2w:=@List.all_cons
def w2x:=@List.any_cons
def w2y:=@List.reverse_cons
def w2z:=@Nat.not_lt
def w3a:=@List.mem_append_left
def w3b:=@List.forIn_nil
def w3c:=@List.drop_eq_getElem_cons
def w3d:=@List.pairwise_iff_getElem
def w3e:=@List.lookup_cons
def w3f:=@List.drop_length
def w3g:=@List.getElem_of_mem
def w3h:=@Nat.mul_comm
def w3i:=@List.mem_append
def w3j:=@List.mem_filterMap
def w3k:=@List.of_mem_zip
def w3l:=@List.take_succ_eq_append_getElem
def w3m:=@List.flatten_replicate_singleton
def w3n:=@List.flatten_cons
def w3o:=@Option.isSome_map
def w3p:=@List.pairwise_map
def w3q:=@Nat.le_of_lt
def w3r:=@Nat.le_of_ble_eq_true
def w3s:=@List.length_filter_le
def w3t:=@List.length_drop
def w3u:=@Int.mul_le_mul_of_nonneg_left
def w3v:=@List.filter_cons
def w3w:=@Int.natCast_emod
def w3x:=@List.map_take
def w3y:=@List.map_drop
def w3z:=@Array.length_toList
def w4a:=@Nat.min_eq_left
def w4b:=@List.getElem?_range
def w4c:=@Int.emod_nonneg
def w4d:=@Nat.add_sub_cancel'
def w4e:=@List.nodup_iff_pairwise_ne
def w4f:=@Bool.false_eq_true
def w4g:=@List.map_inj_right
def w4h:=@List.pairwise_cons
def w4i:=@Int.pow_succ
def w4j:=@Nat.add_zero
def w4k:=@Int.emod_lt_of_pos
def w4l:=@Option.isSome_iff_exists
def w4m:=@List.length_erase_of_mem
def w4n:=@List.eq_of_mem_replicate
def w4o:=@List.length_eq_zero_iff
def w4p:=@Nat.le_add_right
def w4q:=@Nat.succ_ne_self
def w4r:=@Nat.lt_succ_self
def w4s:=@List.length_eq_one_iff
def w4t:=@List.not_of_lt_findIdx
def w4u:=@List.drop_eq_nil_of_le
def w4v:=@List.all_map
def w4w:=@List.any_map
def w4x:=@List.length_singleton
def w4y:=@List.contains_iff_mem
def w4z:=@List.pairwise_flatMap
def w5a:=@List.length_nil
def w5b:=@List.nil_append
def w5c:=@List.idxOf_cons
def w5d:=@Nat.mul_add_div
def w5e:=@Array.toArray_toList
def w5f:=@Nat.mul_le_mul_right
def w5g:=@List.getElem?_of_mem
def w5h:=@Nat.le_succ
def w5i:=@Nat.add_le_add_left
def w5j:=@List.length_reverse
def w5k:=@Nat.pow_add
def w5l:=@Array.forIn_toList
def w5m:=@List.zip_cons_cons
def w5n:=@List.map_replicate
def w5o:=@List.getElem_idxOf
def w5p:=@Nat.mul_assoc
def w5q:=@Int.mul_comm
def w5r:=@Int.ofNat_lt
def w5s:=@Int.zero_add
def w5t:=@Nat.succ_mul
theorem jJ0(_:True:=by rfl):True:=trivial
def jJ:=jJ0._auto_1
theorem jK0(_:True:=by decide):True:=trivial
def jK:=jK0._auto_1
theorem jL0(_:True:=by walk_at "2"):True:=trivial
def jL:=jL0._auto_1
theorem jM0(_:True:=by walk_at "3"):True:=trivial
def jM:=jM0._auto_1
theorem jN0(_:True:=by walk_at "1"):True:=trivial
def jN:=jN0._auto_1
theorem jO0(_:True:=by grind):True:=trivial
def jO:=jO0._auto_1
abbrev Fg:=PySem.W.Frag
def jQ:="ab some ai List aj length ar Nat aO int aT map a5 heap a6 Int a7 env bj ref cf pins dt size dI lst dS Value d0 scope d3 Str fv Option fy objs fC Bool f' Addr gr lookup gs tup gw Heap gJ pos g0 get? g6 getD ie own jd prog je Inv j3 base j' inl kc True ke Den ki trans k8 toArray lb wpAny_bind mv inr mH run ny type nN rel n9 row oa PySem og if_pos oh cls oo data ot upd oL Name oP elim oS wpAny oU Shared pg mono pJ seq pM names pN Expr p5 starEach p6 qual p7 Rep p9 items qp outer qY cons q_ model ri sub rj wide ro Rel rA nil rD free rK body r5 params r7 bind si push sx set sy Obj sP toks sS Vals sT acc sU if_neg tB all tW wpAny_pure t8 toNat t9 cell uu RelV uw refl uz enc uO val uP absurd uR mpr u5 Builtin vb any vg depth vk False vn len vo pure vq World vr sizeLine vA take vW imp vY Pos vZ toList v5 replicate v7 get?_push_of_some v8 count v_ hlen wa drop wb rest wc Call we dict wj out wk zip wF bool wN keep wO Program w7 SeqAt xq lt_size xu extBut xw iter xx kind xA cnt xE list xH cLine xR tabs xS fresh xT units xY cells x6 Nodup yc old yd call ye fin ym foldl yt kindOf yx Array yz Scope yB rep yD has yL new yM slot yN eq2 yP isList yR builtin zb ifs zd range zf told A4 backTo A7 fuel A9 get?_push_size Bt isSome C7 Around Df get HF grow Ko in1 KJ ret K' elt La inj Lf laid L1 PyProof Mk Rows QN bare Rb Env Rh EqAt Rl Stmt Rm fields S3 idxOf TR calm TV filter Uh holds UD isEmpty UE reverse UH tuple UI succ UK target UQ zero Vo NameKind Ya kept Yb noFn Yc obj Yd stack Ye mem Yf sizeLine_eq Yg Key Yh mod Yi stC Yj stK Yk update Yl cps Ym flatten Yn tok Yo Tuple Yp keeps Yq line Yr mainGlobals Ys mapSeq Yt seqObj Yu Lambda Yv String Yw Subscript Yx doc Yy frames Yz many YR pos' YS sgn YT Compare YU IsPair YV IsTuple YW apos YX append YY ent YZ look Y_ posK Za gens Zb kla_obj Zc locals Zd slots Ze BoolOp Zf exc Zg one Zh pin Zi turn Zj handled Zk ofString Zl Pairwise Zm arr Zn func Zo hd2 Zp Calls Zq Loc Zr WData Zs assignEach Zu bits Zv codeAny Zw loc Zx ne2 Zy step Zz wpAny_mono ZA write ZC ListComp ZD Perm ZE deeper ZF odd ZG top ZH typeIs ZI Keyword ZJ Paired ZK cst ZL mem_of_lookup ZM or_false ZN putK ZO swapsWith ZP there ZQ value ZR Assign ZS Binds ZT FuncData ZU IsZip ZV SmallTypes ZW Sum ZX binaryOp ZY compareOp ZZ decide_eq_false Z0 function Z1 hit Z2 if_true Z3 init Z4 size_push Z5 best Z6 fits Z7 item Z8 key Z9 outs Z_ start _a tab _b wpAny_field _c callerA _d congrArg _e envOfC _g foldedSetIterable _h liftT _i sep _j slice _k turned _l AllBare _m Arguments _n IsTup _o NotIn _p SameBut _q Txt _r assign _s at' _t behindInMarks _u glob _v rule _w IsCell _x IsTupleIter _y beq_iff_eq _z brk _A cont _B elts _C if_false _D join _E more _F rawInt _G sysModules _H vals1 _I wpAny_holding _J BMain _K BinOp _L BindsTo _M IsList _N Meets _O Slice _P code _Q codeIn _R contains _S error _T get?_update_other _U holding _V keepIn _W most _X of_decide_eq_true _Y of_wp _Z ord Α par Β wpAny_seqItems Γ And Δ Attribute Ε Boot Ζ Constant Η Dict Θ Ends Ι Sem Κ TypeIs Λ above Μ again Ν bindArgs Ξ call_meets Ο fnOf Ρ loose Τ move Υ nextOf Φ putL Χ relabel Ψ wpAny_newObj_type Ω wpAny_truthy_bool γ ForInStep δ OpenLaw ε Tok ζ bootBuiltins η codeAny_mono θ nsIn ι pyNext μ tail ν up1 ξ whole ο wpAny_Call_Name_kw π wpAny_letGo ρ wpAny_pyIter_list ς Apart τ Classical υ IsPart χ Maker ψ Mod ω Mult ϊ RcAt ϋ Turn ό UnaryOp ύ all1 ώ atKey Ϗ attributeBase ϐ backToKw ϑ bindC ϒ bindL ϓ binds ϔ builtins ϕ drawn ϖ endLine ϗ eqIsQuiet_byValue Ϙ field ϙ findIn Ϛ forIn ϛ getItem Ϝ hints ϝ keywordEach Ϟ listUpdate ϟ resolve_left Ϡ snoc ϡ toRowW Ϣ wpAny_pyIter_tuple ϣ DecidableEq Ϥ DictOf ϥ FunFrames Ϧ IntsAre ϧ IsListIter Ϩ OldK ϩ PUnit Ϫ Walks ϫ addW Ϭ after ϭ callWith_type1 Ϯ filterMap ϯ globals ϰ kla_fn ϱ natAbs ϲ sliceBounds ϳ tabObj ϴ wpAny_passesOwn ϵ yield ϶ Char Ϸ CmpOp ϸ NoLimit Ϲ PassesOwn Ϻ RcNeAt ϻ Walk À bne_iff_ne Á bool_bool Â builtinsNs Ã codeAmong Ä core Å dList Æ decide_eq_true Ç defaults È defaultsOf É ellipsis Ê encC Ë find? Ì flatMap Í get?_update_seq Î hash Ï intBits Ð isTrue Ñ listTooLong Ò loop Ó nolimit Ô of_eq Õ plainId_quiet Ö plain_min_loop Ø sameBut Ù spliced Ú standAt Û tupleExact Ü wpAny_callSpecial?_slot Ý wpAny_setField_rec Þ Data ß Decidable à ItemsOf á Moved â Params ã Return ä WShape å WalkO æ back ç bool_none è cellsFrom é choose_spec ê closure ë codeHdIn ì eqBool í frame î int_int ï isCoroutine ð isGenerator ñ none_bool ò pinned ó pow10 ô propDecidable õ retS ö sameAt ø slot_tuple_mul ù spliced_cons ú spliced_nil û typeIs_int ü vals ý valueAt þ wpAny_call ÿ wpAny_call_entry Ā wpAny_ite_split ā wpAny_loadPart' Ă wpAny_rule ă wpAny_standAt Ą Call_ ą Challenge Ć Dflts ć FunctionDef Ĉ IsEnum ĉ IsSliceOf Ċ argsOk ċ arrOf Č builtinLookup_eq_fast č closureFor Ď codeAny_builtin ď compEnvC Đ concat_meets đ int_str Ē isCodeTable ē join_list Ĕ letOwnedTupleGo ĕ listUpdate_at Ė newFunctionEnv ė not_lt Ę ownedTupleIsFree ę plainAttrs_list Ě putAt ě pyHash Ĝ rJoin ĝ seqItems? Ğ setItem ğ slot_int_rmul Ġ slot_list_index ġ slot_tuple_getitem Ģ slot_tuple_iterator_next ģ slot_zip_next Ĥ storedH ĥ strKind Ħ str_int ħ str_str Ĩ subscripted ĩ take_append_drop Ī toString ī touched Ĭ tryCatch ĭ typeLookup Į typeLookup_type į under_plainId İ wpAny_execs_nil ı wpAny_mkInt Ĳ wpAny_onRaise ĳ wpAny_pyIter_enum Ĵ wpAny_specialOf ĵ wpAny_tryCatch Ķ wpAny_updateSeq ķ CodeRec ĸ DefRec Ĺ IsRevIter ĺ LawfulBEq Ļ SortedToK ļ StrsAre Ľ Subscript_ ľ TriplesOk Ŀ and_true ŀ args_tuple_add_2 Ł args_tuple_mul_2 ł beq_eq_false_iff_ne Ń bool_int ń bool_str Ņ boot_len ņ callType_new Ň cellOf ň choose ŉ collect Ŋ compLoop ŋ compPost Ō dif_pos ō entry_tuple_add Ŏ entry_tuple_mul ŏ eq_of_beq Ő failedOf ő findIdx? Œ frames_deeper œ freeze Ŕ get?_none_of_le ŕ imp_of_mem Ŗ int_bool ŗ int_none Ř isSubtype_type ř listItems Ś max_le ś methodObj Ŝ noFill_tuple_add ŝ none_int Ş none_str ş not_or Š operate š pyIter Ţ recursionLimit ţ seqEpoch Ť seqIndex_neg ť seqIndex_of Ŧ seq_tuple_add ŧ slot_tuple_add Ũ some_of ũ specialIn Ū str_bool ū str_none Ŭ subscriptTail ŭ swapAt Ů tail_any ů toList_inj Ű tracked ű truthy Ų tuples ų unaryOp Ŵ weightAll ŵ wpAny_Name Ŷ wpAny_attempt ŷ wpAny_isInstance Ÿ wpAny_newFunctionEnv Ź wpAny_newList ź wpAny_typeOf Ż wpAny_updateSeq_pair ż ExactDict Ž IsRangeIter ž Name_function_global ſ PlainAttrs zbO args_int_rmul_2 zbP args_list_index_2 zbQ args_object_init_2 zbR args_tuple_iterator_next_1 zbS args_zip_next_1 zbT beq_builtin_none zbU beq_self_eq_true zbW boot_enumerate zbX call_list_seq zbY cellsFrom_some zb0 codeAny_compStart_list zb5 data_mapFields zb6 div_eq_of_lt zb8 entry_int_rmul zb9 entry_list_index zb_ entry_min_loop zb' entry_tuple_iterator_next zca entry_zip_next zcb evalPairs_cons zcc evalPairs_nil zcd evalPart_none zcg fills_int_mul zch firstArgMember zci forall_congr' zcn get?_update_self zcr intBits_le_64 zcA kla_callFunE zcB kla_codeExpr zcC le_of_not_lt zcD length_toList zcE listExtendWith zcF listFitsIndex zcG listItems_at zcH list_indexAt zcI lists_lengths zcJ lt_of_succ_lt zcL map_congr_left zcM min_le_right zcN mod_eq_of_lt zcR notImplemented zcX ofString_eq_toList zc0 ownedTupleHandOut zc7 plain_list_iadd zdk setIfInBounds zdm sliceApplied zdn slicePart_none zdo slot_dict_getitem zdp slot_dict_len zdq slot_int_index zdr slot_list_append zds slot_list_extend zdt slot_list_getitem zdu slot_tuple_rmul zdv subscriptTail_builtinR zdw swappedStores zdx swapsWithSole zdD tupleTooMany zdE type_list_index zd5 wpAny_Dict_any zd6 wpAny_binaryOp_repeat_ref zd7 wpAny_comprehension_free zd8 wpAny_execs_cons zd9 wpAny_getItem_of zd_ wpAny_isTrue_Compare1 zd' wpAny_ite_false zea wpAny_ite_true zeb wpAny_layCells zec wpAny_letOwnedTupleGo_enum zed wpAny_newTuple zee wpAny_pyIter_zip zef wpAny_setField zeg wpAny_storeName_cell"
def jS:List String->List (String×String)
 |a::b::l=>(a,b)::jS l
 |_=>[]
def jR{k}(d:Lean.TSyntax k):Lean.Syntax:=
 let t:=Std.HashMap.ofList (jS (jQ.splitOn " "))
 let rec g:Lean.Name->Lean.Name
  |.str p s=>.str (g p) (t.getD s s)
  |.num p n=>.num (g p) n
  |n=>n
 d.raw.rewriteBottomUp fun|.ident i r n p=>.ident i r (g n) p|s=>s
local macro_rules
|`(Lean.Parser.Command.declaration|$m:declModifiers $d)=>do
 let e:=jR d
 if e==d.raw then Lean.Macro.throwUnsupported
 return .node .none ``Lean.Parser.Command.declaration #[m,e]
|`(variable $b*)=>do
 let e:=b.map fun x=>(jR x)
 if e==b.map (·.raw) then Lean.Macro.throwUnsupported
 return .node .none ``Lean.Parser.Command.variable #[.atom .none "variable",.node .none `null e]
local macro_rules|`(Lean.Parser.Command.declaration|$m:declModifiers $d)=>do
 unless m.raw.getArgs.all (·.isNone) do Lean.Macro.throwUnsupported
 let d:=d.raw
 if d[3][1].isOfKind ``Lean.Parser.Term.byTactic&&d.isOfKind ``Lean.Parser.Command.definition then return .node .none ``Lean.Parser.Command.declaration #[m,.node .none ``Lean.Parser.Command.theorem #[.atom .none "theorem",d[1],.node .none ``Lean.Parser.Command.declSig #[d[2][0],d[2][1][0]],d[3]]]
 unless d.isOfKind ``Lean.Parser.Command.definition||d.isOfKind ``Lean.Parser.Command.abbrev do Lean.Macro.throwUnsupported
 return .node .none ``Lean.Parser.Command.declaration #[m.raw.setArg 4 (.node .none `null #[.node .none ``Lean.Parser.Command.noncomputable #[.atom .none "noncomputable"]]),d]
local macro_rules|`(tactic|let ⟨$p,*⟩:=$e)=>do
 let rec go:Nat->Lean.Syntax->Lean.MacroM (Lean.TSyntax `Lean.Parser.Tactic.rcasesPatLo)
  |n+1,t=>do
   let p:Lean.TSyntax `rcasesPat←match t with
    |`(⟨$p,*⟩)=>do
     let q←p.getElems.mapM (go n ·.raw)
     `(rcasesPat|⟨$q,*⟩)
    |`($i:ident)=>`(rcasesPat|$i:ident)
    |_=>`(rcasesPat|_)
   `(Lean.Parser.Tactic.rcasesPatLo|$p:rcasesPat)
  |_,_=>Lean.Macro.throwUnsupported
 let q←p.getElems.mapM (go 9 ·.raw)
 `(tactic|obtain ⟨$q,*⟩:=$e)
namespace PySem.W.Fast
theorem tw12085346563142924054:kc:=trivial
theorem tw12272100411767857719:kc:=trivial
theorem tw10178219994104004111:kc:=trivial
theorem tw1876326754091201369:kc:=trivial
theorem tw17650695965959673763:kc:=trivial
theorem tw8283396352061621200:kc:=trivial
theorem tw11706130638858525426:kc:=trivial
theorem tw2497753204666558325:kc:=trivial
theorem tw13186928479720405720:kc:=trivial
theorem tw5474631122592703072:kc:=trivial
theorem tw2150844717745005575:kc:=trivial
theorem tw5210044460895653531:kc:=trivial
theorem tw12314746032281023252:kc:=trivial
theorem tw177004176647398285:kc:=trivial
theorem tw13673938466777854224:kc:=trivial
theorem tw11320552421110616963:kc:=trivial
theorem tw7995279553325270875:kc:=trivial
theorem tw7915314780710063378:kc:=trivial
theorem tw18409955544458279083:kc:=trivial
theorem tw63067975515207603:kc:=trivial
theorem tw17107003537522764735:kc:=trivial
theorem tw2710560751681981038:kc:=trivial
theorem tw2673135990861202957:kc:=trivial
theorem tw12342940451972263230:kc:=trivial
theorem tw12078292369536369842:kc:=trivial
theorem tw15511354644258141852:kc:=trivial
theorem tw14015995464372050364:kc:=trivial
theorem tw4779256093153425835:kc:=trivial
theorem tw16252704816343030306:kc:=trivial
theorem tw6080266833725697370:kc:=trivial
theorem tw2958885666150495146:kc:=trivial
theorem tw8899512477104755125:kc:=trivial
theorem tw2473820407861471073:kc:=trivial
theorem tw12345753581864615758:kc:=trivial
theorem tw13576009249997592258:kc:=trivial
theorem tw7968928128532662514:kc:=trivial
theorem tw10087733007538646084:kc:=trivial
theorem tw3659290672898261565:kc:=trivial
theorem tw12304138114045761043:kc:=trivial
theorem tw17870647512456206175:kc:=trivial
theorem tw13875049917240839911:kc:=trivial
theorem tw1125867206264420918:kc:=trivial
theorem tw16564228724433615338:kc:=trivial
theorem tw3364143819255394272:kc:=trivial
theorem tw15291326231063183928:kc:=trivial
theorem tw12807350935026741729:kc:=trivial
theorem tw3695134031475716112:kc:=trivial
theorem tw15241055705826967202:kc:=trivial
theorem tw7753542786754538419:kc:=trivial
theorem tw16998088369595067006:kc:=trivial
theorem tw18283360934626503484:kc:=trivial
theorem tw1803705215343980130:kc:=trivial
theorem tw11921296859014135354:kc:=trivial
theorem tw8986571133966916416:kc:=trivial
theorem tw13876356286839808500:kc:=trivial
theorem tw8712926519243023937:kc:=trivial
theorem tw11578624457382436826:kc:=trivial
theorem tw15766568721029014011:kc:=trivial
theorem tw2683904230781712205:kc:=trivial
theorem tw4882307586475914328:kc:=trivial
theorem tw7936051869419742262:kc:=trivial
theorem tw15442695177807246599:kc:=trivial
theorem tw676272309469192:kc:=trivial
theorem tw10296982853344960904:kc:=trivial
theorem tw16779340343911167137:kc:=trivial
theorem tw18001575251539344160:kc:=trivial
theorem tw8956693090060514257:kc:=trivial
theorem tw4985299010353203328:kc:=trivial
theorem tw12407482385803343522:kc:=trivial
theorem tw14046685222237034134:kc:=trivial
theorem tw9369553652668407203:kc:=trivial
theorem tw5559666646178934713:kc:=trivial
theorem tw1722950256981981207:kc:=trivial
theorem tw13970078703451670050:kc:=trivial
theorem tw10115399648281040170:kc:=trivial
theorem tw1747112993135194533:kc:=trivial
theorem tw4704314902268463116:kc:=trivial
theorem tw17531193693014886522:kc:=trivial
theorem tw15284438607486382897:kc:=trivial
theorem tw10686216142886925634:kc:=trivial
theorem tw6531291640916713909:kc:=trivial
theorem tw1684064075412109062:kc:=trivial
theorem tw1274047129753619234:kc:=trivial
theorem tw4181869153907625623:kc:=trivial
theorem tw16647220283776068028:kc:=trivial
theorem tw16320567480590447540:kc:=trivial
theorem tw6927580326067035680:kc:=trivial
theorem tw16031937081756753116:kc:=trivial
theorem tw11218969736554624310:kc:=trivial
theorem tw16398491090400858580:kc:=trivial
theorem tw7931755867145240607:kc:=trivial
theorem tw2253360626362181715:kc:=trivial
theorem tw6479926881825959996:kc:=trivial
theorem tw8507821297181343800:kc:=trivial
theorem tw11073458409072098614:kc:=trivial
theorem tw2259443728040130539:kc:=trivial
theorem tw10886544449715750985:kc:=trivial
theorem tw11877940466889470369:kc:=trivial
theorem tw12095607851924411500:kc:=trivial
theorem tw16893116063646070094:kc:=trivial
theorem tw15983865597347322100:kc:=trivial
theorem tw4978668611402894203:kc:=trivial
theorem tw7490885212205856608:kc:=trivial
theorem tw11977823477178053563:kc:=trivial
theorem tw15425424806414104553:kc:=trivial
theorem tw12540565879386577756:kc:=trivial
theorem tw4515184416230072300:kc:=trivial
theorem tw11417399430365332231:kc:=trivial
theorem tw1521640682813976033:kc:=trivial
theorem tw1404545087129534003:kc:=trivial
theorem tw4921168091601647234:kc:=trivial
theorem tw9749039129255725750:kc:=trivial
theorem tw5406869781141132542:kc:=trivial
theorem tw1612820659595913282:kc:=trivial
theorem tw12621542883869255529:kc:=trivial
theorem tw17367498289569472076:kc:=trivial
theorem tw5195483125736544592:kc:=trivial
theorem tw12074111639721404464:kc:=trivial
theorem tw6806234597984783700:kc:=trivial
theorem tw15466690950375697335:kc:=trivial
theorem tw5372556931306697004:kc:=trivial
theorem tw15807213636563481865:kc:=trivial
theorem tw5721856299984599959:kc:=trivial
theorem tw7169669987653435684:kc:=trivial
theorem tw1342040012016922747:kc:=trivial
theorem tw2432835851121933814:kc:=trivial
theorem tw14984212196149577084:kc:=trivial
theorem tw17235192826393476626:kc:=trivial
theorem tw12594039650650279442:kc:=trivial
theorem tw2959643235659712865:kc:=trivial
theorem tw9135216344541680307:kc:=trivial
theorem tw10539298762093787066:kc:=trivial
theorem tw9066900771847798783:kc:=trivial
theorem tw18438249375930876349:kc:=trivial
theorem tw1069469357697287338:kc:=trivial
theorem tw13191235347054753093:kc:=trivial
theorem tw6870544125612279241:kc:=trivial
theorem tw12721091721047570038:kc:=trivial
theorem tw4477200543336290948:kc:=trivial
theorem tw9914941342906777218:kc:=trivial
theorem tw6038818936364980748:kc:=trivial
theorem tw196053911796641025:kc:=trivial
theorem tw3246875848932722210:kc:=trivial
theorem tw8219775170358271464:kc:=trivial
theorem tw16306962096005842587:kc:=trivial
theorem tw17973097214646681835:kc:=trivial
theorem tw3515826462744926877:kc:=trivial
theorem tw7168410285663043382:kc:=trivial
theorem tw7153629389366517095:kc:=trivial
theorem tw1060536002509195545:kc:=trivial
theorem tw641831130332597333:kc:=trivial
theorem tw6753798281789825471:kc:=trivial
theorem tw5509465810991147171:kc:=trivial
theorem tw16876167319661928102:kc:=trivial
theorem tw13148889530458004866:kc:=trivial
theorem tw12136615847386699074:kc:=trivial
theorem tw749530189399705633:kc:=trivial
theorem tw8717129697156683841:kc:=trivial
theorem tw7331025997372751837:kc:=trivial
theorem tw7049002244416280539:kc:=trivial
theorem tw4834170590931276743:kc:=trivial
theorem tw762031996646308218:kc:=trivial
theorem tw13035036937351831504:kc:=trivial
theorem tw14771216740481934159:kc:=trivial
theorem tw1000782366611792809:kc:=trivial
theorem tw149896017593302795:kc:=trivial
theorem tw2460787691839063603:kc:=trivial
theorem tw16046767035538532028:kc:=trivial
theorem tw15378366635429552516:kc:=trivial
theorem tw11704325988398384424:kc:=trivial
theorem tw7619890211747557202:kc:=trivial
theorem tw740669622431101758:kc:=trivial
theorem tw4710129464059913166:kc:=trivial
theorem tw853298626474625699:kc:=trivial
theorem tw5178220926482157411:kc:=trivial
theorem tw9903462955239990204:kc:=trivial
theorem tw4010217503960063873:kc:=trivial
theorem tw6668540582835115655:kc:=trivial
theorem tw13368316602683508988:kc:=trivial
theorem tw5591558034861501449:kc:=trivial
theorem tw2362753352209844933:kc:=trivial
theorem tw3991734976228024667:kc:=trivial
theorem tw12391267627764196988:kc:=trivial
theorem tw14658332640769363820:kc:=trivial
theorem tw4670153029660503727:kc:=trivial
theorem tw13237204895415869238:kc:=trivial
theorem tw8051183342839400319:kc:=trivial
theorem tw16038067976248452572:kc:=trivial
theorem tw17884218458458579053:kc:=trivial
theorem tw13892199466651164330:kc:=trivial
theorem tw11441423451655427563:kc:=trivial
theorem tw13585425391066808635:kc:=trivial
theorem tw9074861453838609050:kc:=trivial
theorem tw3086133272919062027:kc:=trivial
theorem tw10064528779138556322:kc:=trivial
theorem tw10798121739212912349:kc:=trivial
theorem tw14787278912164430434:kc:=trivial
theorem tw10572305057478447803:kc:=trivial
theorem tw3267640238211299196:kc:=trivial
theorem tw862698139346460436:kc:=trivial
end PySem.W.Fast
namespace L2
open PySem PySem.Spec PyProof.Rows
variable{C a:f'}{A:C7}{op:Ϸ}{c e tg:pN}{fd:ZT}{j3 h h':gw}{cf:ai (f'×sy)}{ch fp:ai f'}{es:ai pN}{N:ai d3}{M:Model}{i t':ar}{p gJ:vY}{jd:wO}{K:Fg}{s:oU}{x:d3}{mg:d3->fv dS}{u:dS}{E:dS->oU->Prop}{f:dS->dS->Ι dS}{w:vq}
set_option genInjectivity true in
inductive Kx where
 |aF|bl (b:fC)|aO (i:a6)|str (x:d3)|gs (ks:ai Kx)
inductive Sh where
 |ob|bl|aO|str|gs (ss:ai Sh)|Yz (s:Sh)
noncomputable instance:ϣ Kx:=λ_ _=>τ.ô _
mutual
noncomputable def Kx.depth:Kx->Nat
 |.tup ks=>Kx.cI ks+1
 |_=>0
noncomputable def Kx.cI:List Kx->Nat
 |[]=>0
 |k::ks=>max k.depth (Kx.cI ks)
end
mutual
noncomputable def eK:Kx->Sh->Prop
 |.aF,.ob=>True
 |.bl _,.ob=>True
 |.bl _,.bl=>True
 |.int _,.int=>True
 |.str _,.str=>True
 |.tup ks,.tup ss=>oI ks ss
 |.tup ks,.many s=>kU ks s
 |_,_=>False
noncomputable def oI:List Kx->List Sh->Prop
 |[],[]=>True
 |k::ks,s::ss=>eK k s/\oI ks ss
 |_,_=>False
noncomputable def kU:List Kx->Sh->Prop
 |[],_=>True
 |k::ks,s=>eK k s/\kU ks s
end
mutual
noncomputable def nM(h:Heap):Kx->Value->Prop
 |.aF,v=>v=.none
 |.bl b,v=>v=.bool b
 |.int i,v=>∃t,v=.int i t
 |.str x,v=>∃t,v=.str x t
 |.tup ks,v=>∃a o items n,v=.ref a/\h.get? a=some o/\o.cls=.type "tuple" /\ o.data=.seq items n/\gA h ks items.toList
noncomputable def gA(h:Heap):List Kx->List Value->Prop
 |[],vs=>vs=[]
 |k::ks,vs=>∃v r,vs=v::r/\nM h k v/\gA h ks r
end
mutual
theorem OD{h:Heap}:∀(k k':Kx){v:Value},nM h k v->nM h k' v->k=k'
 |.aF,k',v,x,y=>by
  cases(show v=.none from x);cases k' with
  |aF=>rfl
  |bl c=>cases(show Value.none=.bool c from y)
  |int i=>let⟨t,e⟩:=y;cases e
  |str i=>let⟨t,e⟩:=y;cases e
  |tup ks=>let⟨_,_,_,_,e,_⟩:=y;cases e
 |.bl b,k',v,x,y=>by
  cases(show v=.bool b from x);cases k' with
  |aF=>cases(show Value.bool b=.none from y)
  |bl c=>cases(show Value.bool b=.bool c from y);rfl
  |int i=>let⟨t,e⟩:=y;cases e
  |str i=>let⟨t,e⟩:=y;cases e
  |tup ks=>let⟨_,_,_,_,e,_⟩:=y;cases e
 |.int b,k',v,x,y=>by
  let⟨t,rfl⟩:=x;cases k' with
  |aF=>cases y
  |bl c=>cases y
  |int i=>let⟨t,e⟩:=y;cases e;rfl
  |str i=>let⟨t,e⟩:=y;cases e
  |tup ks=>let⟨_,_,_,_,e,_⟩:=y;cases e
 |.str b,k',v,x,y=>by
  let⟨t,rfl⟩:=x;cases k' with
  |aF=>cases y
  |bl c=>cases y
  |int i=>let⟨t,e⟩:=y;cases e
  |str i=>let⟨t,e⟩:=y;cases e;rfl
  |tup ks=>let⟨_,_,_,_,e,_⟩:=y;cases e
 |.tup ks,k',v,x,y=>by
  let⟨a,o,it,n,rfl,h1,h2,h3,h4⟩:=x;cases k' with
  |aF=>cases y
  |bl c=>cases y
  |int i=>let⟨t,e⟩:=y;cases e
  |str i=>let⟨t,e⟩:=y;cases e
  |tup ks'=>
   let⟨a',o',EI,n',e,g1,g2,g3,g4⟩:=y;cases e;rw[h1]at g1;cases g1;rw[h3]at g3;injection g3 with e1 _
   subst e1;rw[Ie ks ks' h4 g4]
theorem Ie{h:Heap}:∀(ks ks':List Kx){vs:List Value},gA h ks vs->gA h ks' vs->ks=ks'
 |[],ks',vs,x,y=>by
  cases(show vs=[]from x);cases ks' with
  |nil=>rfl
  |cons k ks'=>let⟨v,r,e,_⟩:=y;cases e
 |k::ks,ks',vs,x,y=>by
  let⟨v,r,rfl,h1,h2⟩:=x;cases ks' with
  |nil=>cases(show v::r=[]from y)
  |cons k' ks'=>
   let⟨v',r',e,g1,g2⟩:=y;cases e;rw[OD k k' h1 g1,Ie ks ks' h2 g2]
end
mutual
theorem MS{h h':Heap}(hk:∀a o,h.get? a=some o->o.cls=.type "tuple"->(∃it n,o.data=.seq it n)->h'.get? a=some o):∀(k:Kx){v:Value},nM h k v->nM h' k v
 |.aF,v,x=>x
 |.bl b,v,x=>x
 |.int b,v,x=>x
 |.str b,v,x=>x
 |.tup ks,v,x=>by
  let⟨a,o,it,n,rfl,h1,h2,h3,h4⟩:=x;exact⟨a,o,it,n,rfl,hk a o h1 h2 ⟨it,n,h3⟩,h2,h3,Mp hk ks h4⟩
theorem Mp{h h':Heap}(hk:∀a o,h.get? a=some o->o.cls=.type "tuple"->(∃it n,o.data=.seq it n)->h'.get? a=some o):∀(ks:List Kx){vs:List Value},gA h ks vs->gA h' ks vs
 |[],vs,x=>x
 |k::ks,vs,x=>by
  let⟨v,r,rfl,h1,h2⟩:=x;exact⟨v,r,rfl,MS hk k h1,Mp hk ks h2⟩
end
theorem gA.aj:∀(ks:ai Kx){vs:ai dS},gA h ks vs->vs.aj=ks.aj
 |[],vs,x=>by cases(show vs=[]from x);rfl
 |k::ks,vs,x=>by
  let⟨v,r,rfl,h1,h2⟩:=x;rw[w0v,w0v,gA.aj ks h2]
mutual
noncomputable def j4(w:World):Kx->Int
 |.aF=>PySem.W.hashW w.params .none
 |.bl b=>reduceHash (if b=true then 1 else 0)
 |.int i=>hashInt i
 |.str x=>hashStr w x
 |.tup ks=>reduceHash (Builtin.Tuple.tupleHashOf (gL w ks))
noncomputable def gL(w:World):List Kx->List Int
 |[]=>[]
 |k::ks=>j4 w k::gL w ks
end
mutual
noncomputable def kz:Kx->Nat
 |.tup ks=>iX ks+1
 |_=>1
noncomputable def iX:List Kx->Nat
 |[]=>0
 |k::ks=>kz k+iX ks
end
mutual
theorem OE:∀(k:Kx)(v:Value)(A:Around)(s:Shared)(Q:Int->Shared->Prop),nM s.heap k v->A.units+k.depth<cLine->Q (j4 w k) {s with toks:=s.toks+kz k}->wpAny (model prog w) A (pyHash v) Q E s
 |.aF,v,A,s,Q,x,hu,h=>by
  cases(show v=.none from x);exact pyHash_slot (T:="NoneType") rfl F.slot_NoneType_hash F.entry_NoneType_hash (F.args_NoneType_hash_1 _) (beq_builtin_none _) (.inr (by omega)) (wpAny_bind (wpAny_pure (wpAny_bind (wpAny_mkInt (wpAny_pure ⟨_,_,rfl,h⟩)))))
 |.bl b,v,A,s,Q,x,hu,h=>by
  cases(show v=.bool b from x);refine pyHash_slot (T:="bool") rfl F.slot_bool_hash entry_int_hash (args_int_hash _) (beq_builtin_none _) (.inr (by omega)) ?_;cases b
  .exact(show wpAny _ _ (do ret (<- mkInt 0)) _ _ s from wpAny_bind (wpAny_mkInt (wpAny_pure ⟨_,_,rfl,h⟩)))
  .exact(show wpAny _ _ (do ret (<- mkInt 1)) _ _ s from wpAny_bind (wpAny_mkInt (wpAny_pure ⟨_,_,rfl,h⟩)))
 |.int i,v,A,s,Q,x,hu,h=>by
  let⟨t,rfl⟩:=x;exact wpAny_pyHash_int h
 |.str i,v,A,s,Q,x,hu,h=>by
  let⟨t,rfl⟩:=x;exact wpAny_pyHash_str h
 |.tup ks,v,A,s,Q,x,hu,h=>by
  let⟨a,o,it,n,rfl,h1,h2,h3,h4⟩:=x;refine pyHash_slot (T:="tuple") ⟨_,h1,h2⟩ F.slot_tuple_hash F.entry_tuple_hash (F.args_tuple_hash_1 _) (beq_builtin_none _) (.inr (by omega)) ?_;show wpAny _ _ (Builtin.Tuple.tupleItemsOf (.ref a) >>= _) _ _ s;refine wpAny_bind (wpAny_tupleItemsOf h1 h3 ?_);refine wpAny_bind ?_;rw[<- w5l];refine MT ks it.toList A.in1 s #[] _ h4 (by simp only[Kx.depth,Around.in1_units]at hu |-;omega) λb hb=>?_
  show wpAny _ _ (retInt (Builtin.Tuple.tupleHashOf b.toList)) _ _ _;rw[hb];exact wpAny_bind (wpAny_mkInt (wpAny_pure ⟨_,_,rfl,by simpa [j4,kz,Nat.add_assoc]using h⟩))
theorem MT:∀(ks:List Kx)(vs:List Value)(A:Around)(s:Shared)(b:Array Int)(Q:Array Int->Shared->Prop),gA s.heap ks vs->A.units+Kx.cI ks<cLine ->
  (∀b',b'.toList=b.toList++gL w ks->Q b' {s with toks:=s.toks+iX ks}) ->
  wpAny (model prog w) A (forIn vs b λx r=>do let h <- pyHash x;pure PUnit.unit;pure (ForInStep.yield (r.push h))) Q E s
 |[],vs,A,s,b,Q,x,hu,h=>by
  cases(show vs=[]from x);exact wpAny_pure (h b (by simp[gL]))
 |k::ks,vs,A,s,b,Q,x,hu,h=>by
  let⟨v,r,rfl,h1,h2⟩:=x;simp only[Kx.cI]at hu;rw[w2g];refine wpAny_bind (wpAny_bind (OE k v A s _ h1 (by omega) ?_));refine wpAny_bind (wpAny_pure (wpAny_pure ?_))
  exact MT ks r A _ _ Q h2 (by omega) λb' hb=>by
   have:=h b' (by simp[hb,gL])
   simpa [iX,Nat.add_assoc]using this
end
def OF(a b):decide (Kx.bl a=Kx.bl b)=(a==b):=by
 grind
def zaV(a b):decide (Kx.aO a=Kx.aO b)=(a==b):=by
 grind
def zaW(a b):decide (Kx.str a=Kx.str b)=(a==b):=by
 grind
def ö(ks ks':ai Kx)(j:ar):fC:=decide (ks[j]?=ks'[j]?)
def zaX:∀ks ks':ai Kx,((ai.zd (min ks.aj ks'.aj)).tB (ö ks ks')&&ks.aj==ks'.aj)=decide (Kx.gs ks=Kx.gs ks'):=by
 intro ks ks'
 by_cases e:ks=ks'
 .grind [ö]
 .rw[ZZ (λz=>e (by injection z))]
  rw[fC.and_eq_false_iff]
  by_cases hl:ks.aj=ks'.aj
  .left
   rw[w2v];intro ha;refine e (w2b λj=>?_)
   by_cases hj:j<ks.aj
   .have:=w1c.mp ha j (w0x.uR (by omega));exact _X this
   grind
  grind
theorem Ci:∀(ks:ai Kx){vs:ai dS},gA h ks vs->∀(j:ar)(v:dS),vs[j]?=ab v->∃k,ks[j]?=ab k/\nM h k v
 |[],vs,x,j,v,e=>by cases(show vs=[]from x);simp at e
 |k::ks,vs,x,j,v,e=>by
  let⟨u,r,rfl,h1,h2⟩:=x;cases j with
  |UQ=>grind
  |UI j=>exact Ci ks h2 j v (by simpa using e)
theorem G7:∀(ks:ai Kx)(j:ar)(k:Kx),ks[j]?=ab k->k.vg<=Kx.cI ks
 |[],j,k,e=>by simp at e
 |x::ks,j,k,e=>by
  simp only[Kx.cI];cases j with
  |UQ=>cases e;omega
  |UI j=>have:=G7 ks j k (by simpa using e);omega
theorem G8:∀(ks:ai Kx)(ss:ai Sh),oI ks ss->∀(j:ar)(k:Kx),ks[j]?=ab k->∃s,ss[j]?=ab s/\eK k s
 |[],ss,_,j,k,e=>by simp at e
 |x::ks,[],c,j,k,e=>c.oP
 |x::ks,s::ss,c,j,k,e=>by
  cases j with
  |UQ=>cases e;exact⟨s,rfl,c.1⟩
  |UI j=>exact G8 ks ss c.2 j k (by simpa using e)
theorem G9:∀(ks:ai Kx)(s:Sh),kU ks s->∀(j:ar)(k:Kx),ks[j]?=ab k->eK k s
 |[],s,_,j,k,e=>by simp at e
 |x::ks,s,c,j,k,e=>by
  cases j with
  |UQ=>cases e;exact c.1
  |UI j=>exact G9 ks s c.2 j k (by simpa using e)
def Sk(s:oU):∀(n:ar)(k k':Kx)(sh:Sh)(v v':dS)(A:C7),k.vg<=n->eK k sh->eK k' sh->nM s.a5 k v->nM s.a5 k' v'->A.xT+n<xH->w7.Rh A s v v' (decide (k=k')):=by
 intro n
 induction n with
 |UQ=>
  intro k k' sh v v' A hd c c' x y hu;cases k with
  |aF=>
   cases sh with
   |ob=>
    cases k' with
    |aF=>cases(show v=.none from x);cases(show v'=.none from y);rw[Æ rfl];exact .same _
    |bl b=>cases(show v=.none from x);cases(show v'=.wF b from y);simp_all [w7.Rh.ñ]
    |_=>exact c'.oP
   |_=>exact c.oP
  |bl a=>
   cases sh with
   |ob=>
    cases k' with
    |aF=>cases(show v=.wF a from x);cases(show v'=.none from y);simp_all [w7.Rh.ç]
    |bl b=>cases(show v=.wF a from x);cases(show v'=.wF b from y);rw[OF];exact .Á a b
    |_=>exact c'.oP
   |bl=>
    cases k' with
    |bl b=>cases(show v=.wF a from x);cases(show v'=.wF b from y);rw[OF];exact .Á a b
    |_=>exact c'.oP
   |_=>exact c.oP
  |aO a=>
   cases sh with
   |aO=>
    cases k' with
    |aO b=>let⟨t,rfl⟩:=x;let⟨u,rfl⟩:=y;rw[zaV];exact .î a t b u
    |_=>exact c'.oP
   |_=>exact c.oP
  |str a=>
   cases sh with
   |str=>
    cases k' with
    |str b=>let⟨t,rfl⟩:=x;let⟨u,rfl⟩:=y;rw[zaW];exact .ħ a t b u
    |_=>exact c'.oP
   |_=>exact c.oP
  |gs ks=>grind [Kx.vg]
 |UI n ih=>
  intro k k' sh v v' A hd c c' x y hu;cases k with
  |aF=>exact ih .aF k' sh v v' A (w1b _) c c' x y (by omega)
  |bl a=>exact ih (.bl a) k' sh v v' A (w1b _) c c' x y (by omega)
  |aO a=>exact ih (.aO a) k' sh v v' A (w1b _) c c' x y (by omega)
  |str a=>exact ih (.str a) k' sh v v' A (w1b _) c c' x y (by omega)
  |gs ks=>
   let⟨a,o,it,m,rfl,h1,h2,h3,h4⟩:=x
   have μ:∀ks',k'=.gs ks'->(∀(j:ar)(u u':Kx),ks[j]?=ab u->ks'[j]?=ab u'->∃s,eK u s/\eK u' s)->w7.Rh A s (.bj a) v' (decide (Kx.gs ks=k')):=by
    rintro ks' rfl hc;let⟨b,o',EI,m',rfl,g1,g2,g3,g4⟩:=y
    by_cases tK:a=b
    .grind [Ie,w7.Rh.same]
    .have l1:=gA.aj ks h4;have l2:=gA.aj ks' g4;rw[<- zaX]
     have:=w7.ϊ.Ų (A:=A) (s:=s) (e:=ö ks ks') (show s.a5.YV a it from⟨o,h1,h2,m,h3⟩) (show s.a5.YV b EI from⟨o',g1,g2,m',g3⟩) (by omega) (λj j1 j2=>by
      let⟨u,u1,u2⟩:=Ci ks h4 j it[j] (by simp[j1]);let⟨u',Vp,Vq⟩:=Ci ks' g4 j EI[j] (by simp[j2]);let⟨Vi,c1,c2⟩:=hc j u u' u1 Vp;have hdj:=G7 ks j u u1;simp only[Kx.vg]at hd;have z:=ih u u' Vi _ _ A.Ko (by omega) c1 c2 u2 Vq (by grind)
      grind [ö,decide])
     grind [w7.Rh.of_refs]
   cases sh with
   |gs ss=>
    cases k' with
    |gs ks'=>
     refine μ ks' rfl λj u u' e1 e2=>?_
     let⟨s1,q1,q2⟩:=G8 ks ss c j u e1;let⟨s2,q3,q4⟩:=G8 ks' ss c' j u' e2
     grind
    |_=>exact c'.oP
   |Yz s1=>
    cases k' with
    |gs ks'=>exact μ ks' rfl λj u u' e1 e2=>⟨s1,G9 ks s1 c j u e1,G9 ks' s1 c' j u' e2⟩
    |_=>exact c'.oP
   |_=>exact c.oP
def zaY:∀(n:ar)(k:Kx)(v:dS)(s:oU)(Q:fC->oU->Prop),k.vg<=n->nM s.a5 k v->Q true s->oS (q_ jd w) A (eqIsQuiet n v) Q E s:=by
 intro n
 induction n with
 |UQ=>
  intro k v s Q hd x h;cases k with
  |aF=>cases(show v=.none from x);rw[ϗ _ rfl];exact tW h
  |bl b=>cases(show v=.wF b from x);rw[ϗ _ rfl];exact tW h
  |aO i=>let⟨t,rfl⟩:=x;rw[ϗ _ rfl];exact tW h
  |str i=>let⟨t,rfl⟩:=x;rw[ϗ _ rfl];exact tW h
  |gs ks=>grind [Kx.vg]
 |UI n ih=>
  intro k v s Q hd x h;cases k with
  |aF=>cases(show v=.none from x);rw[ϗ _ rfl];exact tW h
  |bl b=>cases(show v=.wF b from x);rw[ϗ _ rfl];exact tW h
  |aO i=>let⟨t,rfl⟩:=x;rw[ϗ _ rfl];exact tW h
  |str i=>let⟨t,rfl⟩:=x;rw[ϗ _ rfl];exact tW h
  |gs ks=>
   let⟨a,o,it,m,rfl,h1,h2,h3,h4⟩:=x;have hT:s.Κ (.bj a) "tuple":=⟨o,h1,h2⟩;unfold eqIsQuiet;refine lb (Ĵ hT F.slot_tuple_eq.gr ?_);show oS _ _ (isInstance (.bj a) (.ny "tuple") >>= _) _ _ s;refine lb (ŷ hT isSubtype_tuple_tuple ?_);simp only[fC.not_true,w4f,_C];refine lb (Β h1 h3 ?_);refine lb ?_;show oS _ _ (Ϛ it _ _) _ _ s;rw[<- w5l];refine wpAny_forIn_list _ (λwb r s'=>r.1=none/\s'=s/\∀v∈wb,∃k:Kx,k.vg<=n/\nM s.a5 k v) _ ?_ ?_ _ _ ⟨rfl,rfl,λv hv=>?_⟩
   .rintro v wb r s' ⟨hr,rfl,uZ⟩;let⟨k,k1,k2⟩:=uZ v w1h;refine lb (ih k v _ _ k1 k2 ?_)
    simp_all [tW]
   .grind [tW]
   .let⟨j,hj,e⟩:=w1z.mp hv;let⟨k,k1,k2⟩:=Ci ks h4 j v (by grind);have:=G7 ks j k k1
    grind [Kx.vg]
def dR(jd)(w)(sh:Sh):HeapKind jd w Kx where
 is:=λh k a=>nM h k (.bj a)/\eK k sh/\k.vg<=7
 Î:=j4 w
 draws:=kz
 room:=λA=>A.xT+8<xH
 La:=λhx hy=>OD _ _ hx.1 hy.1
 Yp:=λ{h h' k a d o es ep} x ho hd hs=>⟨MS (λb ob e1 e2 e3=>by
  have iN:b≠d:=by
   grind
  exact(hs.2 b iN).ki e1) _ x.1,x.2⟩
 ě:=λ{A E s k a Q} hu hk h=>OE k _ A s Q hk.1 (by have:=hk.2.2;omega) h
 ì:=λ{A E s x y a b Q} hu hx hy h=>Sk s 7 x y sh _ _ A hx.2.2 hx.2.1 hy.2.1 hx.1 hy.1 (by omega) jd w E Q h
 quiet:=λ{A E s k a Q} hk h=>zaY 8 k _ s Q (by have:=hk.2.2;omega) hk.1 h
set_option Elab.async false
set_option linter.all false
set_option maxRecDepth 100000
abbrev Yg:=ZW a6 d3
def j5:Yg->dS->fC
 |.j' k,v=>dS.isInt k v
 |.mv x,v=>dS.isStrOf x v
def EL(w:vq):Yg->a6
 |.j' k=>hashInt k
 |.mv x=>hashStr w x
theorem vG:∀{k:Yg}{v:dS},j5 k v=true->(∃i t,k=ZW.j' i/\v=dS.aO i t)\/(∃x t,k=ZW.mv x/\v=dS.str x t)
 |.j' i,v,h=>by
  let⟨t,e⟩:=dS.isInt_shape (k:=i) (v:=v) h;exact .j' ⟨i,t,rfl,e⟩
 |.mv x,v,h=>by
  let⟨t,e⟩:=dS.isStrOf_shape (x:=x) (v:=v) h;exact .mv ⟨x,t,rfl,e⟩
def zau(i)(t):j5 (.j' i) (.aO i t)=true:=by simp[j5,dS.isInt]
def zav(x)(t):j5 (.mv x) (.str x t)=true:=by simp[j5,dS.isStrOf]
def z7z(a b):decide ((ZW.j' a:Yg)=ZW.j' b)=(a==b):=by
 grind
def z70(a b):decide ((ZW.mv a:Yg)=ZW.mv b)=decide (a=b):=by
 grind
theorem z71(a)(b):decide ((ZW.j' a:Yg)=ZW.mv b)=false:=ZZ (λq=>nomatch q)
theorem z72(a)(b):decide ((ZW.mv a:Yg)=ZW.j' b)=false:=ZZ (λq=>nomatch q)
def c5(jd)(w):oa.KeyKind jd w Yg where
 is:=j5
 Î:=EL w
 La:=λv a b ha hb=>by
  grind [vG]
 byValue:=λk v h=>by
  rcases vG h with⟨i,t,rfl,rfl⟩|⟨x,t,rfl,rfl⟩<;>rfl
 ě:=λhv h=>by
  rcases vG hv with⟨i,t,rfl,rfl⟩|⟨x,t,rfl,rfl⟩
  .exact wpAny_pyHash_int h
  .exact wpAny_pyHash_str h
 ì:=λhu hv h=>by
  rcases vG hu with⟨i,t,rfl,rfl⟩|⟨x,t,rfl,rfl⟩
  .rcases vG hv with⟨j,u,rfl,rfl⟩|⟨y,u,rfl,rfl⟩
   .grind [z7z,wpAny_eqBool_int]
   .rw[z71]at h;exact w7.Rh.đ i t y u _ _ _ _ h
  .rcases vG hv with⟨j,u,rfl,rfl⟩|⟨y,u,rfl,rfl⟩
   .rw[z72]at h;exact w7.Rh.Ħ x t j u _ _ _ _ h
   grind [z70,wpAny_eqBool_str]
 «strs»:=λk x t v h=>by
  rcases vG h with⟨i,u,rfl,e⟩|⟨y,u,rfl,e⟩
  .exact nomatch e
  .injection e with e1 _
   subst e1;cases v<;>rfl
theorem WX(jd)(w)(i)(t):(c5 jd w).is (.j' i) (.aO i t)=true:=zau i t
theorem WY(jd)(w)(x)(t):(c5 jd w).is (.mv x) (.str x t)=true:=zav x t
set_option genInjectivity true in
inductive V where
 |aF|bl (b:fC)|aO (i:a6)|str (x:d3)|tq (b:yx UInt8)|tH (b:UInt64)|bj (a:f')|ty (n:Yv)
 deriving ϣ
variable{xs:ai V}{v:V}
def uu:V->dS->Prop
 |.aF,u=>u=dS.none
 |.bl b,u=>u=dS.wF b
 |.aO i,u=>∃t,u=dS.aO i t
 |.str x,u=>∃t,u=dS.str x t
 |.tq b,u=>∃t,u=dS.bytes b t
 |.tH b,u=>∃t,u=dS.float b t
 |.bj a,u=>u=dS.bj a
 |.ty n,u=>u=dS.ny n
abbrev sS:ai V->ai dS->Prop:=ZJ uu
theorem sS.aj(r:sS xs us):xs.aj=us.aj:=ZJ.aj r
theorem sS.Df:∀{xs:ai V}{us:ai dS}{i:ar}{x:V},sS xs us->xs[i]?=ab x->∃u,us[i]?=ab u/\uu x u
 |_,_,_,_,.rA,e=>by simp at e
 |_,_,0,_,.qY r _,e=>by simp at e;subst e;exact⟨_,rfl,r⟩
 |_,_,i+1,x,.qY _ t,e=>by
  let⟨u,h1,h2⟩:=sS.Df (i:=i) (x:=x) t (by simpa using e);exact⟨u,by simpa using h1,h2⟩
theorem sS.sx{x:V}(r:uu x u):∀{xs:ai V}{us:ai dS}(i:ar),sS xs us->sS (xs.sx i x) (us.sx i u)
 |_,_,_,.rA=>.rA
 |_,_,0,.qY _ t=>.qY r t
 |_,_,i+1,.qY q t=>.qY q (sS.sx r i t)
theorem sS.YX:∀{xs ys:ai V}{us ws:ai dS},sS xs us->sS ys ws->sS (xs++ys) (us++ws)
 |_,_,_,_,.rA,s=>s
 |_,_,_,_,.qY r t,s=>.qY r (sS.YX t s)
theorem sS.vA:∀{xs:ai V}{us:ai dS}(n:ar),sS xs us->sS (xs.vA n) (us.vA n)
 |_,_,0,_=>.rA
 |_,_,_+1,.rA=>.rA
 |_,_,n+1,.qY r t=>.qY r (sS.vA n t)
theorem sS.wa:∀{xs:ai V}{us:ai dS}(n:ar),sS xs us->sS (xs.wa n) (us.wa n)
 |_,_,0,r=>r
 |_,_,_+1,.rA=>.rA
 |_,_,n+1,.qY _ t=>sS.wa n t
def jE:fv V->fv dS->Prop
 |ab v,ab u=>uu v u
 |none,none=>kc
 |_,_=>vk
def KV{κ:Type}:ai (κ×V)->ai (κ×dS)->Prop:=ZJ fun(p:κ×V) (q:κ×dS)=>p.1=q.1/\uu p.2 q.2
def kV:Yg->V
 |.j' i=>.aO i
 |.mv x=>.str x
inductive HO where
 |dI (xs:ai V)
 |gs (xs:ai V)
 |dK (kvs:ai (Yg×V))|dT (sh:Sh) (kvs:ai (Kx×V)) (bt:ai f')
 |sx (S:a6->fC) (n:ar)
 |ins (C dx:f') (fs:ai (d3×V))
 |ie (x:f')
 |xd (fs:ai (d3×V))
 |met (f x:f')
 |HC (lo hi:a6)
 |eG (o:sy) (u:HO)
 |mT (ps:yx dS)
 |ext (φ:gw->Prop)
abbrev Hp:=f'->fv HO
variable{H H':Hp}
def d5:HO->Prop
 |.gs _=>kc
 |.eG _ (.gs _)=>kc
 |.eG _ (.ie _)=>kc
 |_=>vk
mutual
noncomputable def bV(H:Hp):Kx->V->Prop
 |.aF,v=>v=.aF
 |.bl b,v=>v=.bl b
 |.int i,v=>v=.int i
 |.str x,v=>v=.str x
 |.tup ks,v=>∃a xs,v=.ref a/\(H a=some (.tup xs)\/∃o,H a=some (.eG o (.tup xs)))/\eY H ks xs
noncomputable def eY(H:Hp):List Kx->List V->Prop
 |[],vs=>vs=[]
 |k::ks,vs=>∃v r,vs=v::r/\bV H k v/\eY H ks r
end
mutual
theorem bV.keeps{H H':Hp}(ht:∀b u,d5 u->H b=some u->H' b=some u):∀(k:Kx){v:V},bV H k v->bV H' k v
 |.aF,_,x=>x
 |.bl _,_,x=>x
 |.int _,_,x=>x
 |.str _,_,x=>x
 |.tup ks,_,x=>by
  let⟨a,xs,e,q,r⟩:=x;refine⟨a,xs,e,?_,eY.keeps ht ks r⟩;rcases q with q|⟨o,q⟩
  .exact .inl (ht _ _ True.intro q)
  .exact .inr ⟨o,ht _ _ True.intro q⟩
theorem eY.keeps{H H':Hp}(ht:∀b u,d5 u->H b=some u->H' b=some u):∀(ks:List Kx){vs:List V},eY H ks vs->eY H' ks vs
 |[],_,x=>x
 |k::ks,_,x=>by
  let⟨v,r,e,h1,h2⟩:=x;exact⟨v,r,e,bV.keeps ht k h1,eY.keeps ht ks h2⟩
end
def ot(H:Hp)(a:f')(o:HO):Hp:=λb=>if b=a then ab o else H b
def bT:ot H a o a=ab o:=by simp_all [ot]
def bh(h:b≠a):ot H a o b=H b:=by unfold ot;rw[sU h]
def Cv{u:HO}:ot (ot H a o) a u=ot H a u:=by
 grind [ot]
def kS{u:HO}(h:H a=ab o)(h':H b=ab u)(d:o≠u):a≠b:=by
 grind
def i3(h:H a=ab o)(h':H b=none):a≠b:=by
 grind
section
variable(P:wO)(w:vq)
def zep(h:gw)(a:f'):Prop:=∃o,h.g0 a=ab o/\o.we=none
def aS(H:Hp)(h:gw)(a:f'):HO->Prop
 |.dI xs=>xs.aj<=vr/\∃(ax:ai dS)(n:ar),sS xs ax/\h.g0 a=ab {oh:=.ny "list", oo:=.pJ ax.k8 n}
 |.gs xs=>xs.aj<=vr/\∃ax:ai dS,sS xs ax/\_n h a ax.k8/\zep h a
 |.dK kvs=>kvs.aj<=vr/\(a==_G)=false/\∃vs,KV kvs vs/\h.Ϥ (c5 P w) a vs
 |.dT sh kvs bt=>kvs.aj<=vr/\(a==_G)=false/\∃xs:ai (Kx×f'×dS),
   ZJ (fun(p:Kx×V) (q:Kx×f'×dS)=>p.1=q.1/\(bV H p.1 (.bj q.2.1)/\eK p.1 sh/\p.1.vg<=7)/\uu p.2 q.2.2) kvs xs/\xs.aT (·.2.1)=bt /\
   ∃o es ep,h.g0 a=ab o/\o.ż/\o.oo=.we es ep/\es.vZ=xs.aT (entryOfKey (dR P w sh))/\(xs.aT (·.1)).x6
 |.sx S n=>h.SetOf (intKind P w) a S n
 |.ins C dx fs=>H dx=ab (.ie a)/\fs.aj<=1000/\dx≠a/\h.g0 a=ab (oa.W.instObj C dx) /\
   ∃mA,h.Ns1 dx mA/\(∀f,jE (fs.gr f) (mA f))/\oa.Within mA (fs.aT (·.1))
 |.ie _=>∃o,h.g0 a=ab o
 |.xd fs=>∃mA,h.Ns1 a mA/\∀f,jE (fs.gr f) (mA f)
 |.HC lo hi=>∃t u v,h.g0 a=ab {oh:=.ny "range", oo:=.Rm #[.aO lo t,.aO hi u,.aO 1 v]}
 |.eG o u=>h.g0 a=ab o/\aS H h a u
 |.mT ps=>(∃(q:d3)(qs:yx dS),ps[0]?=ab (.wF true)/\ps[1]?=ab (.str q 0)/\h.g0 a=ab {oh:=.none,oo:=.Rm qs}/\ľ qs.vZ/\∀(gJ:vY)(cv:dS),Ã gJ qs.vZ=ab cv ->
   ∃(c:f')(oc:sy)(vs:yx dS)(t:ε),cv=.bj c/\H c=ab (.eG oc (.ie 0))/\oc.oo=.Rm vs/\vs[1]?=ab (.str q t)) \/
   ∃(q:d3)(c:f')(oc ob:sy)(vs:yx dS)(t:ε),ps[0]?=ab (.wF false)/\ps[1]?=ab (.str q 0)/\ps[2]?=ab (.bj c)/\H c=ab (.eG oc (.ie 0))/\oc.oo=.Rm vs/\vs[1]?=ab (.str q t)/\h.g0 a=ab ob
 |.met f x=>h.g0 a=ab (ś (.bj f) (.bj x))
 |.ext φ=>φ h/\(∃o,h.g0 a=ab o)/\∀h1 h2:gw,φ h1->(∀o,h1.g0 a=ab o->h2.g0 a=ab o)->φ h2
def dX(H:Hp)(h:gw):Prop:=∀a o,H a=ab o->aS P w H h a o
end
section
variable{P:wO}{o:HO}
def aS.Df(x:aS P w H h a o):∃ob,h.g0 a=ab ob:=by
 cases o with
 |dI xs=>let⟨_,_,_,_,e⟩:=x;exact⟨_,e⟩
 |gs xs=>let⟨_,_,_,p,_⟩:=x;let⟨o,e,_⟩:=p;exact⟨o,e⟩
 |dK kvs=>let⟨_,_,_,_,o,_,_,e,_⟩:=x;exact⟨_,e⟩
 |dT sh kvs bt=>let⟨_,_,_,_,_,o,_,_,e,_⟩:=x;exact⟨_,e⟩
 |sx S n=>let⟨o,_,_,_,e,_⟩:=x;exact⟨_,e⟩
 |ins C dx fs=>let⟨_,_,_,e,_⟩:=x;exact⟨_,e⟩
 |ie y=>let⟨_,e⟩:=x;exact⟨_,e⟩
 |xd fs=>let⟨_,⟨_,_,_,e,_⟩,_⟩:=x;exact⟨_,e⟩
 |HC lo hi=>let⟨_,_,_,e⟩:=x;exact⟨_,e⟩
 |eG ob u=>let⟨e,_⟩:=x;exact⟨_,e⟩
 |mT ps=>rcases x with⟨_,_,_,_,e,_⟩|⟨_,_,_,_,_,_,_,_,_,_,_,_,e⟩<;>exact⟨_,e⟩
 |met f y=>exact⟨_,(show h.g0 a=ab _ from x)⟩
 |ext φ=>let⟨_,⟨_,e⟩,_⟩:=x;exact⟨_,e⟩
def aS.lt(x:aS P w H h a o):a<h.fy.dt:=by
 let⟨_,e⟩:=x.Df;exact gw.xq e
theorem ZJ.vp{α β:Type}{F G:α->β->Prop}:∀{yI:ai α}{yJ:ai β},ZJ F yI yJ->(∀a b,F a b->G a b)->ZJ G yI yJ
 |_,_,.rA,_=>.rA
 |_,_,.qY r t,f=>.qY (f _ _ r) (ZJ.vp t f)
def aS.fE(x:aS P w H h a o)(k:∀b u,(b=a\/H b=ab (.ie a))->h.g0 b=ab u->h'.g0 b=ab u)
  (ho:∀b,H b=ab (.ie a)->H' b=ab (.ie a))(ht:∀b u,d5 u->H b=ab u->H' b=ab u):aS P w H' h' a o:=by
 induction o with
 |dI xs=>let⟨z,ax,n,r,e⟩:=x;exact⟨z,ax,n,r,k _ _ (.j' rfl) e⟩
 |gs xs=>let⟨z,ax,r,⟨ob,e,c⟩,⟨o2,e2,c2⟩⟩:=x;exact⟨z,ax,r,⟨ob,k _ _ (.j' rfl) e,c⟩,⟨o2,k _ _ (.j' rfl) e2,c2⟩⟩
 |dK kvs=>let⟨z,y,vs,r,ob,es,ep,e,c⟩:=x;exact⟨z,y,vs,r,ob,es,ep,k _ _ (.j' rfl) e,c⟩
 |dT sh kvs bt=>
  let⟨z,y,xs,r,ka,ob,es,ep,e,c⟩:=x;exact⟨z,y,xs,ZJ.vp r λp q z=>⟨z.1,⟨bV.Yp ht _ z.2.1.1,z.2.1.2⟩,z.2.2⟩,ka,ob,es,ep,k _ _ (.j' rfl) e,c⟩
 |sx S n=>let⟨ob,es,ep,t,e,c⟩:=x;exact⟨ob,es,ep,t,k _ _ (.j' rfl) e,c⟩
 |ins C dx fs=>
  let⟨d,z,ne,e,mA,⟨od,es,ep,e2,c⟩,r⟩:=x;exact⟨ho _ d,z,ne,k _ _ (.j' rfl) e,mA,⟨od,es,ep,k _ _ (.mv d) e2,c⟩,r⟩
 |ie y=>let⟨ob,e⟩:=x;exact⟨ob,k _ _ (.j' rfl) e⟩
 |xd fs=>let⟨mA,⟨od,es,ep,e,c⟩,r⟩:=x;exact⟨mA,⟨od,es,ep,k _ _ (.j' rfl) e,c⟩,r⟩
 |HC lo hi=>let⟨t,u,v,e⟩:=x;exact⟨t,u,v,k _ _ (.j' rfl) e⟩
 |eG ob u ih=>let⟨e,q⟩:=x;exact⟨k _ _ (.j' rfl) e,ih q⟩
 |mT ps=>
  rcases x with⟨q,qs,p0,p1,e,tr,cd⟩|⟨q,c,oc,ob,vs,t,p0,p1,p2,h3,h4,h5,e⟩
  .refine .j' ⟨q,qs,p0,p1,k _ _ (.j' rfl) e,tr,λgJ cv z=>?_⟩
   let⟨c,oc,vs,t,h1,h3,h4,h5⟩:=cd gJ cv z;exact⟨c,oc,vs,t,h1,ht _ _ kc.intro h3,h4,h5⟩
  .exact .mv ⟨q,c,oc,ob,vs,t,p0,p1,p2,ht _ _ kc.intro h3,h4,h5,k _ _ (.j' rfl) e⟩
 |met f y=>
  have e:h.g0 a=ab (ś (.bj f) (.bj y)):=x;show h'.g0 a=ab (ś (.bj f) (.bj y));exact k a _ (.j' rfl) e
 |ext φ=>let⟨p,⟨o,e⟩,st⟩:=x;exact⟨st _ _ p λo q=>k _ _ (.j' rfl) q,⟨o,k _ _ (.j' rfl) e⟩,st⟩
theorem dX.lt(x:dX P w H h)(e:H a=ab o):a<h.fy.dt:=(x a o e).lt
def dX.xS(x:dX P w H h)(e:h.fy.dt<=a):H a=none:=by
 cases q:H a with
 |none=>rfl
 |ab u=>exact uP (w0y (x.lt q) e) (w2e _)
theorem dX.Ya(x:dX P w H h)(k:∀b u,h.g0 b=ab u->h'.g0 b=ab u):dX P w H h':=λa o e=>
 (x a o e).fE (λb u _ q=>k b u q) (λ_ q=>q) λ_ _ _ q=>q
theorem dX.Lf(x:dX P w H h)(k:∀b u,h.g0 b=ab u->h'.g0 b=ab u)(hp:h.fy.dt<=a)(yL:aS P w (ot H a o) h' a o):dX P w (ot H a o) h':=λb u e=>by
 have hn:=x.xS hp
 by_cases hb:b=a
 .grind [bT]
 .rw[bh hb]at e;exact(x b u e).fE (λc v _ q=>k c v q) (λc q=>by rw[bh (i3 q hn)];exact q) λc xs _ q=>by rw[bh (i3 q hn)];exact q
end
def Rd(H:Hp)(a:f')(u:HO):Prop:=H a=ab u\/∃o,H a=ab (.eG o u)
def Rd.ok{u:HO}(r:Rd H a u)(x:dX P w H h):aS P w H h a u:=by
 rcases r with r|⟨o,r⟩
 .exact x a u r
 .let⟨_,q⟩:=x a _ r;exact q
def xD:fv HO->Prop
 |ab (.dI _)=>kc
 |ab (.dK _)=>kc
 |ab (.dT _ _ _)=>kc
 |ab (.sx _ _)=>kc
 |ab (.ins _ _ _)=>kc
 |ab (.ext _)=>kc
 |_=>vk
section
variable{P:wO}{x e:f'}{o':HO}
theorem dX.ZA(ok:dX P w H h)(mu:xD (H x))(he:e=x\/H e=ab (.ie x))(k:∀b u,b≠e->h.g0 b=ab u->h'.g0 b=ab u)(rR:∃u,h'.g0 e=ab u)
  (yL:aS P w (ot H x o') h' x o'):dX P w (ot H x o') h':=λb u q=>by
 have E6:∀c y,H c=ab (.ie y)->c≠x:=λc y r z=>by subst z;rw[r]at mu;exact mu
 have ze':∀c u,d5 u->H c=ab u->c≠x:=λc u t r z=>by
  subst z;rw[r]at mu;cases u<;>first|exact mu|exact t
 by_cases hb:b=x
 .grind [bT]
 .rw[bh hb]at q
  by_cases Kv:b=e
  .have q':H b=ab (.ie x):=by
    grind
   rw[q]at q';cases q';let⟨v,hv⟩:=rR;exact⟨v,by rw[Kv];exact hv⟩
  .refine(ok b u q).fE (λc v hc r=>k c v ?_ r) (λc r=>by grind [bh]) λc xs t r=>by grind [bh]
   rcases hc with rfl|hc
   .exact Kv
   .rintro rfl;rcases he with z|z
    .exact E6 c b hc z
    .rw[hc]at z;cases z;exact hb rfl
end
structure Un(fs ex:ai f')(H H':Hp)(h h':gw):Prop where
 wN:∀b o,h.g0 b=ab o->H b=none->b∉fs->b∉ex->h'.g0 b=ab o
 yM:∀b o,h.g0 b=ab o->H b=none->b∈fs->b∉ex->∃sl,h'.g0 b=ab {o with Zd:=sl}
 rD:∀b o,h.g0 b=ab o->H b=none->b∉ex->H' b=none
 ZP:∀b o,h.g0 b=ab o->b∉ex->∃o',h'.g0 b=ab o'
 gZ:∀b xs,H b=ab (.gs xs)->H' b=ab (.gs xs)
 bo:∀b o u,H b=ab (.eG o u)->H' b=ab (.eG o u)
 fP:∀b ps,H b=ab (.mT ps)->∃_E,H' b=ab (.mT (ps++_E))
section
variable{fs fs' ex Kn:ai f'}{H1 H2:Hp}{h1 h2:gw}{x e:f'}{o:HO}
def Un.vb(u:Un fs ex H H1 h h1)(q:h.g0 b=ab ob)(n:H b=none)(hx:b∉ex):∃sl,h1.g0 b=ab {ob with Zd:=sl}:=by
 by_cases hb:b∈fs
 .exact u.yM b ob q n hb hx
 .exact⟨ob.Zd,u.wN b ob q n hb hx⟩
theorem Un.Ya(k:∀b u,h.g0 b=ab u->h'.g0 b=ab u):Un fs ex H H h h':=
 ⟨λb ob q _ _ _=>k b ob q,λb ob q _ _ _=>⟨ob.Zd,k b ob q⟩,λ_ _ _ n _=>n,λb ob q _=>⟨ob,k b ob q⟩,λ_ _ q=>q,λ_ _ _ q=>q,λ_ ps q=>⟨#[],by rw[q];simp⟩⟩
theorem Un.uw:Un fs ex H H h h:=Un.Ya λ_ _ q=>q
theorem Un.Lf(k:∀b u,h.g0 b=ab u->h'.g0 b=ab u)(hp:h.fy.dt<=a)(hn:H a=none):Un fs ex H (ot H a o) h h' where
 wN:=λb u q _ _ _=>k b u q
 yM:=λb u q _ _ _=>⟨u.Zd,k b u q⟩
 rD:=λb u q n _=>by rw[bh (w0p (w0y (gw.xq q) hp))];exact n
 ZP:=λb u q _=>⟨u,k b u q⟩
 gZ:=λb xs q=>by rw[bh (i3 q hn)];exact q
 bo:=λb u xs q=>by rw[bh (i3 q hn)];exact q
 fP:=λb ps q=>⟨#[],by rw[bh (i3 q hn),q];simp⟩
def Un.ZA(mu:xD (H x))(he:e=x\/H e=ab (.ie x))(k:∀b u,b≠e->h.g0 b=ab u->h'.g0 b=ab u)(rR:∃u,h'.g0 e=ab u):Un fs ex H (ot H x o) h h':=by
 have hx:∀b,H b=none->b≠x:=λb n z=>by subst z;rw[n]at mu;exact mu
 have hb:∀b,H b=none->b≠e:=λb n z=>by
  grind
 have hm:∀b u,H b=ab u->¬xD (ab u)->b≠x:=λb u q nm z=>by grind
 refine⟨λb u q n _ _=>k b u (hb b n) q,λb u q n _ _=>⟨u.Zd,k b u (hb b n) q⟩,λb u q n _=>by grind [bh],λb u q _=>?_,
  λb xs q=>by rw[bh (hm b _ q λz=>z)];exact q,λb u xs q=>by rw[bh (hm b _ q λz=>z)];exact q,λb ps q=>⟨#[],by rw[bh (hm b _ q λz=>z),q];simp⟩⟩
 grind
end
def oF(h:gw)(H:Hp):ai f':=(ai.zd h.fy.dt).TV λa=>(H a).Bt
def gb(h:gw)(H:Hp):gw:=oa.W.hideAll h (oF h H)
theorem MU(h)(H):(gb h H).fy.dt=h.fy.dt:=oa.W.hideAll_size _ _
theorem NM(e:h.g0 b=ab o)(n:H b=none):(gb h H).g0 b=ab o:=
 oa.W.hideAll_get _ e λhm=>by
  have q:(H b).Bt=true:=(w1l.mp hm).2;rw[n]at q;simp at q
def OG(e:(gb h H).g0 b=ab o):h.g0 b=ab o/\H b=none:=by
 have e':h.g0 b=ab o:=oa.W.of_hideAll (oF h H) e;refine⟨e',?_⟩;cases q:H b with
 |none=>rfl
 |ab x=>
  grind [oF,gw.xq,gb,W.hideAll_none]
def zde(g h:gw)(L:f'):ai (f'×sy):=(ai.zd h.fy.dt).Ϯ λa=>if a=L\/(g.g0 a).Bt=true then none else(h.g0 a).aT λo=>(a,o)
def wb(g h:gw)(L d:f'):ai (f'×sy):=(zde g h L).TV λp=>decide (p.1≠d)
structure ψ(K:Fg)(mg:d3->fv dS)(j3:gw):Prop where
 yC:K.In j3
 _u:j3.Ns Yr mg
 blt:∃mb,j3.Ns Â mb/\∀x:d3,x≠"__name__"->mb x=ζ x
 Ó:j3.ϸ
structure Cx where
 jd:wO
 w:vq
 K:Fg
 mg:d3->fv dS
 j3:gw
 A:C7
 N:ai d3
 aA:oU
 aG:Hp
 a7:Rb
 qp:ai Rb
 Yd:ai Rb
 ex:ai f'
 fn:d3->fC
 TR:fC
 pn:ai (f'×sy)
 xe:dS->oU->Prop
variable{X:Cx}
def fW(l:ai Rb):ai f':=l.Ϯ (·.í)
abbrev Cx.fs(X:Cx):ai f':=fW X.qp
def jS(sc:yz)(x:d3):Prop:=sc.pM.gr x=ab .local\/sc.pM.gr x=ab .t9\/sc.pM.gr x=ab .rD
def Zq(sc:yz)(x:d3):Prop:=sc.pM.gr x=ab .local\/sc.pM.gr x=ab .t9
def Look(a7:Rb)(h:gw)(m:d3->fv dS)(x:d3)(u:dS):Prop:=
 (a7.yt x=ab .local/\m x=ab u)\/((a7.yt x=ab .t9\/a7.yt x=ab .rD)/\∃c,a7.xY.gr x=ab c/\h._w c (ab u))
abbrev iD(P:f')(q:d3):sy:={oh:=.str q 0,oo:=.Rm #[.bj P]}
def fR(K:Fg)(H:Hp):Prop:=∀(a:f')(q:d3)(P:f'),(a,iD P q)∈K->∃ps:yx dS,H P=ab (.mT ps)/\ps[0]?=ab (.wF true)/\ps[1]?=ab (.str q 0)
def gj(K:Fg):fC:=K.tB λp=>match p.2.oh with
 |.str _ _=>false
 |_=>true
theorem fR.Vs(h:gj K=true):fR K H:=λa q P m=>by
 have:=w1c.mp h _ m;cases this
theorem fR.un(t:fR K H)(u:Un fs ex H H' h h'):fR K H':=λa q P m=>by
 let⟨ps,e,p0,p1⟩:=t a q P m;let⟨_E,e'⟩:=u.fP P ps e
 grind
theorem fR.Lf(t:fR K H)(hn:H D=none):fR K (ot H D o):=λa q P m=>by
 let⟨ps,e,p⟩:=t a q P m;exact⟨ps,by rw[bh (i3 e hn)];exact e,p⟩
structure Cx.Ok(X:Cx):Prop where
 Yh:ψ X.K X.mg X.j3
 xx:X.a7.d0.xx=.Z0
 _u:X.a7.ϯ=Yr
 blt:X.a7.ϔ=Â
 Λ:X.aA.a5.fy.dt<=X.a7.Zc
 La:∀x y c,X.a7.xY.gr x=ab c->X.a7.xY.gr y=ab c->x=y
 yD:∀x,(X.a7.yt x=ab .t9\/X.a7.yt x=ab .rD)->∃c,X.a7.xY.gr x=ab c
 xP:∀x c,X.fn x=true->X.a7.xY.gr x=ab c->X.aA.a5.fy.dt<=c
 hd:X.TR=true->X.A.Zj=none
 Yy:X.A.Yy=ab X.Yd
 L3:X.Yd=X.qp\/(X.Yd=X.a7::X.qp/\X.a7.í=ab X.a7.Zc)
 Bc:∀b∈X.ex,b≠X.a7.Zc/\∀x c,X.a7.xY.gr x=ab c->c≠b
 bs:∀b o,X.j3.g0 b=ab o->X.aA.a5.g0 b=ab o/\X.aG b=none
 l_:X.j3.fy.dt<=X.aA.a5.fy.dt
 vy:∀b o,X.j3.g0 b=ab o->b∉X.ex
 rH:∀b∈X.ex,b∉X.fs
 eQ:X.aA.a5.ϥ X.j3 X.qp
 m6:∀b∈X.fs,X.aG b=none
 _a:fR X.K X.aG
structure je(X:Cx)(cf:ai (f'×sy))(σ:ai (fv V))(H:Hp)(s:oU):Prop where
 ok:X.Ok
 os:s.os=X.aA.os
 QN:_l s.Za
 j3:Un X.fs X.ex X.aG H X.aA.a5 s.a5
 Zw:∃m,s.a5.Ns X.a7.Zc m/\∀(i:ar)(x:d3)(v:V),X.N[i]?=ab x->σ[i]?=ab (ab v)->jS X.a7.d0 x->∃u,uu v u/\Look X.a7 s.a5 m x u
 t9:∀x c,X.a7.xY.gr x=ab c->∃v,s.a5._w c v
 rD:H X.a7.Zc=none
 e7:∀x c,X.a7.xY.gr x=ab c->H c=none
 Zh:∀p∈X.pn++cf,s.a5.g0 p.1=ab p.2/\H p.1=none/\p.1≠X.a7.Zc/\p.1∉X.fs/\∀v,p.2.oo≠.t9 v
 aL:dX X.jd X.w H s.a5
 vn:σ.aj=X.N.aj
section
variable{σ:ai (fv V)}
theorem Cx.Ok.E4(ok:X.Ok)(e:X.j3.g0 b=ab o):b∉X.fs:=λhb=>by
 have:=(ok.eQ.Ye hb).1
 grind
theorem je.bs(I:je X cf σ H s):∀b o,X.j3.g0 b=ab o->s.a5.g0 b=ab o/\H b=none:=λb o e=>
 ⟨I.j3.wN b o (I.ok.bs b o e).1 (I.ok.bs b o e).2 (I.ok.E4 e) (I.ok.vy b o e),I.j3.rD b o (I.ok.bs b o e).1 (I.ok.bs b o e).2 (I.ok.vy b o e)⟩
theorem je.bk(I:je X cf σ H s):∀b o,X.j3.g0 b=ab o->s.a5.g0 b=ab o:=λb o e=>(I.bs b o e).1
theorem je.Yh(I:je X cf σ H s):ψ X.K X.mg X.j3:=I.ok.Yh
theorem je.qG(I:je X cf σ H s):X.K.In s.a5:=I.ok.Yh.yC.Yp I.bk
theorem je.fr(I:je X cf σ H s):∃m,Fr X.j3 X.a7.Zc s.a5 m:=
 let ⟨m,hn,_⟩:=I.Zw
 ⟨m,hn,I.bk,w0r I.ok.l_ I.ok.Λ⟩
theorem je.lt(I:je X cf σ H s):X.a7.Zc<s.a5.fy.dt:=let ⟨_,hn,_⟩:=I.Zw;hn.lt
theorem je.sz(I:je X cf σ H s):X.aA.a5.fy.dt<=s.a5.fy.dt:=w0r I.ok.Λ (w3q I.lt)
theorem je.E5(I:je X cf σ H s)(h:s.a5.fy.dt<=a):a∉X.fs:=λhb=>by
 let⟨_,o,ho,_⟩:=I.ok.eQ.Ye hb
 exact uP (w0y (gw.xq ho) (w0r I.sz h)) (w2e _)
theorem je.rC(I:je X cf σ H s):∀x c,X.a7.xY.gr x=ab c->c≠X.a7.Zc:=λx c e z=>by
 let⟨v,o,ho,hd⟩:=I.t9 x c e;let⟨m,⟨o',es,ep,wK,KA,_⟩,_⟩:=I.Zw
 grind
def je.eQ(I:je X cf σ H s):s.a5.ϥ X.j3 X.qp:=by
 have tB:∀(l:ai Rb),(∀b∈fW l,b∈X.fs)->X.aA.a5.ϥ X.j3 l->s.a5.ϥ X.j3 l:=by
  intro l
  induction l with
  |rA=>intro _ _;trivial
  |qY a7 r ih=>
   intro hs hl;let⟨hk,⟨L,o,hf,hn,ho,hd⟩,hr⟩:=hl;have hL:L∈X.fs:=hs L (by grind [fW]);let⟨sl,e⟩:=I.j3.yM L o ho (I.ok.m6 L hL) hL λz=>I.ok.rH L z hL
   exact⟨hk,⟨L,_,hf,hn,e,hd⟩,ih (λb hb=>hs b (by grind [fW])) hr⟩
 exact tB X.qp (λ_ hb=>hb) I.ok.eQ
def je.Yd(I:je X cf σ H s):s.a5.ϥ X.j3 X.Yd:=by
 rcases I.ok.L3 with e|⟨e,hf⟩
 .rw[e];exact I.eQ
 .rw[e];let⟨m,hn,_⟩:=I.Zw;refine .qY (by rw[I.ok.xx];decide) hf hn ?_ I.eQ
  exact gw.Ŕ (w0r I.ok.l_ I.ok.Λ)
theorem je.jx(I:je X cf σ H s):∀b∈fW X.Yd,b∈X.a7.Zc::X.fs:=λb hb=>by
 rcases I.ok.L3 with e|⟨e,hf⟩
 all_goals grind [fW]
theorem je.nH(I:je X cf σ H s):∀b∈fW X.Yd,H b=none:=λb hb=>by
 rcases w0g.mp (I.jx b hb)with e|hb
 .rw[e];exact I.rD
 .let⟨_,o,ho,_⟩:=I.ok.eQ.Ye hb
  exact I.j3.rD b o ho (I.ok.m6 b hb) λz=>I.ok.rH b z hb
def je.Zy{g':yx GenState}{d':Drawn}{ch:ai f'}(I:je X cf σ H s)
  (qC:∀b∈ch,(b∈X.ex\/X.aA.a5.fy.dt<=b)/\b≠X.a7.Zc/\(∀x c,X.a7.xY.gr x=ab c->c≠b)/\∀p∈X.pn++cf,p.1≠b)
  (wN:∀b o,b≠X.a7.Zc->b∉X.fs->b∉ch->s.a5.g0 b=ab o->H b=none->h'.g0 b=ab o)
  (yM:∀b o,b≠X.a7.Zc->b∈X.fs->b∉ch->s.a5.g0 b=ab o->H b=none->∃sl,h'.g0 b=ab {o with Zd:=sl})(rD:∀b o,b∉ch->s.a5.g0 b=ab o->H b=none->H' b=none)
  (ZP:∀b o,b∉ch->s.a5.g0 b=ab o->∃o',h'.g0 b=ab o')
  (gZ:∀b xs,H b=ab (.gs xs)->H' b=ab (.gs xs))(bo:∀b o u,H b=ab (.eG o u)->H' b=ab (.eG o u))(fP:∀b ps,H b=ab (.mT ps)->∃_E,H' b=ab (.mT (ps++_E)))
  (ns:∀m,s.a5.Ns X.a7.Zc m->h'.Ns X.a7.Zc m)(aL:dX X.jd X.w H' h')(hg:_l g'):
  je X cf σ H' {s with a5:=h',Za:=g',ϕ:=d',sP:=t'}:=by
 have yQ:∀b o,X.aA.a5.g0 b=ab o->b≠X.a7.Zc:=λb o e=>w0p (w0y (gw.xq e) I.ok.Λ)
 have vt:∀b o,X.aA.a5.g0 b=ab o->b∉X.ex->b∉ch:=λb o e hx hb=>by
  rcases(qC b hb).1 with z|z
  .exact hx z
  .exact uP (w0y (gw.xq e) z) (w2e _)
 have cellK:∀x c,X.a7.xY.gr x=ab c->∀v,s.a5._w c v->h'._w c v:=λx c e v ⟨o,ho,hd⟩=>by
  have Ld:c∉ch:=λz=>(qC c z).2.2.1 x c e rfl
  by_cases hc:c∈X.fs
  .let⟨sl,q⟩:=yM c o (I.rC x c e) hc Ld ho (I.e7 x c e);exact⟨_,q,hd⟩
  .exact⟨o,wN c o (I.rC x c e) hc Ld ho (I.e7 x c e),hd⟩
 refine⟨I.ok,I.os,hg,⟨λb o e n hb hx=>?_,λb o e n hb hx=>?_,λb o e n hx=>?_,λb o e hx=>?_,λb xs e=>gZ b xs (I.j3.gZ b xs e),λb o xs e=>bo b o xs (I.j3.bo b o xs e),λb ps e=>?_⟩,?_,λx c e=>?_,?_,λx c e=>?_,λp hp=>?_,aL,I.vn⟩
 .exact wN b o (yQ b o e) hb (vt b o e hx) (I.j3.wN b o e n hb hx) (I.j3.rD b o e n hx)
 .let⟨sl,e1⟩:=I.j3.yM b o e n hb hx;let⟨Ax,e2⟩:=yM b _ (yQ b o e) hb (vt b o e hx) e1 (I.j3.rD b o e n hx);exact⟨Ax,e2⟩
 .let⟨o',e1⟩:=I.j3.ZP b o e hx;exact rD b o' (vt b o e hx) e1 (I.j3.rD b o e n hx)
 .let⟨o',e1⟩:=I.j3.ZP b o e hx
  grind
 .let⟨m1,e1⟩:=I.j3.fP b ps e
  grind
 .let⟨m,hn,hl⟩:=I.Zw;refine⟨m,ns m hn,λi x v e1 e2 e3=>?_⟩
  let⟨u,r,l⟩:=hl i x v e1 e2 e3;refine⟨u,r,?_⟩;rcases l with l|⟨k,c,e,z⟩
  .exact .j' l
  .exact .mv ⟨k,c,e,cellK x c e _ z⟩
 .let⟨v,z⟩:=I.t9 x c e
  grind
 .let⟨m,⟨o,_,_,ho,_⟩,_⟩:=I.Zw
  grind [rD]
 .let⟨v,o,ho,hd⟩:=I.t9 x c e;exact rD c o (λz=>(qC c z).2.2.1 x c e rfl) ho (I.e7 x c e)
 .let⟨e,n,ne,nf,d⟩:=I.Zh p hp
  grind
def je.un(I:je X cf σ H s)(u:Un X.fs [] H H' s.a5 h')(aL:dX X.jd X.w H' h'):je X cf σ H' {s with a5:=h',sP:=t'}:=by
 let⟨m,⟨o,es,ep,ho,r⟩,_⟩:=id I.Zw;let⟨sl,hL⟩:=u.vb ho I.rD (by simp)
 exact I.Zy (g':=s.Za) (d':=s.ϕ) (ch:=[]) (λ_ z=>nomatch z) (λb o _ hb _ e n=>u.wN b o e n hb (by simp)) (λb o _ hb _ e n=>u.yM b o e n hb (by simp)) (λb o _ e n=>u.rD b o e n (by simp)) (λb o _ e=>u.ZP b o e (by simp)) u.gZ u.bo u.fP (λm' hm=>by
  let⟨o',Dx,Dv,wK,r'⟩:=hm;rw[ho]at wK;cases wK;exact⟨_,Dx,Dv,hL,r'⟩) aL I.QN
def je.yd{g':yx GenState}{d':Drawn}(I:je X cf σ H s)(u:Un (fW X.Yd) ch H H' s.a5 h')(aL:dX X.jd X.w H' h')(hg:_l g')
  (qC:∀b∈ch,(b∈X.ex\/X.aA.a5.fy.dt<=b)/\b≠X.a7.Zc/\(∀x c,X.a7.xY.gr x=ab c->c≠b)/\∀p∈X.pn++cf,p.1≠b):
  je X cf σ H' {s with a5:=h',Za:=g',ϕ:=d',sP:=t'}:=by
 let⟨m,⟨o,es,ep,ho,r⟩,_⟩:=id I.Zw;let⟨sl,hL⟩:=u.vb ho I.rD λz=>(qC _ z).2.1 rfl
 exact I.Zy (ch:=ch) qC (λb o hL hb hc e n=>u.wN b o e n (λz=>(w0g.mp (I.jx b z)).oP hL hb) hc) (λb o _ _ hc e n=>u.vb e n hc) (λb o hc e n=>u.rD b o e n hc) (λb o hc e=>u.ZP b o e hc) u.gZ u.bo u.fP (λm' hm=>by
  let⟨o',Dx,Dv,wK,r'⟩:=hm;rw[ho]at wK;cases wK;exact⟨_,Dx,Dv,hL,r'⟩) aL hg
def je._k{t':ar}{it:f'}(I:je X cf σ H s)(k:∀b o,b≠it->s.a5.g0 b=ab o->h'.g0 b=ab o)(hn:H it=none)(hL:it≠X.a7.Zc)
  (h1:it∈X.ex\/X.aA.a5.fy.dt<=it)(h2:∀x c,X.a7.xY.gr x=ab c->c≠it)(h3:∀p∈X.pn++cf,p.1≠it):je X cf σ H {s with a5:=h',sP:=t'}:=by
 have nit:∀b u,H b=ab u->b≠it:=λb u e z=>by rw[z,hn]at e;cases e
 refine I.Zy (g':=s.Za) (d':=s.ϕ) (ch:=[it]) (λb hb=>?_) (λb o _ _ hc e _=>k b o (λz=>hc (by simp[z])) e) (λb o _ _ hc e _=>⟨o.Zd,k b o (λz=>hc (by simp[z])) e⟩) (λ_ _ _ _ n=>n)
  (λb o hc e=>⟨o,k b o (λz=>hc (by simp[z])) e⟩) (λ_ _ e=>e) (λ_ _ _ e=>e) (λb ps e=>⟨#[],by rw[e];simp⟩) (λm hm=>?_) (λb u e=>?_) I.QN
 .grind
 .let⟨o,es,ep,ho,r⟩:=hm;exact⟨o,es,ep,k _ o (Ne.symm hL) ho,r⟩
 .refine(I.aL b u e).fE (λc v hc q=>k c v ?_ q) (λ_ q=>q) λ_ _ _ q=>q
  grind
theorem je.Yn(I:je X cf σ H s)(t:ar):je X cf σ H {s with sP:=t}:=I.un (h':=s.a5) (t':=t) Un.uw I.aL
theorem je.Ya{t':ar}(I:je X cf σ H s)(k:∀b u,s.a5.g0 b=ab u->h'.g0 b=ab u):je X cf σ H {s with a5:=h',sP:=t'}:=I.un (Un.Ya k) (I.aL.Ya k)
theorem je.Lf{a:f'}{o:HO}{t':ar}(I:je X cf σ H s)(k:∀b u,s.a5.g0 b=ab u->h'.g0 b=ab u)(hp:s.a5.fy.dt<=a)(yL:aS X.jd X.w (ot H a o) h' a o):
  je X cf σ (ot H a o) {s with a5:=h',sP:=t'}:=I.un (Un.Lf k hp (I.aL.xS hp)) (I.aL.Lf k hp yL)
theorem je.ZA{x e:f'}{o:HO}{t':ar}(I:je X cf σ H s)(mu:xD (H x))(he:e=x\/H e=ab (.ie x))(k:∀b u,b≠e->s.a5.g0 b=ab u->h'.g0 b=ab u)(rR:∃u,h'.g0 e=ab u)
  (yL:aS X.jd X.w (ot H x o) h' x o):je X cf σ (ot H x o) {s with a5:=h',sP:=t'}:=I.un (Un.ZA mu he k rR) (I.aL.ZA mu he k rR yL)
theorem je.weak{aP:ai (fv V)}(I:je X cf σ H s)(hl:aP.aj=σ.aj)(w:∀(i:ar) v,aP[i]?=ab (ab v)->σ[i]?=ab (ab v)):je X cf aP H s:=
 ⟨I.ok,I.os,I.QN,I.j3,let ⟨m,hn,KP⟩:=I.Zw;⟨m,hn,λi x v e1 e2 e3=>KP i x v e1 (w i v e2) e3⟩,I.t9,I.rD,I.e7,I.Zh,I.aL,hl.ki I.vn⟩
theorem je.iZ{pins':ai (f'×sy)}(I:je X cf σ H s)(h:∀p∈pins',s.a5.g0 p.1=ab p.2/\H p.1=none/\p.1≠X.a7.Zc/\p.1∉X.fs/\∀v,p.2.oo≠.t9 v):je X pins' σ H s:=
 ⟨I.ok,I.os,I.QN,I.j3,I.Zw,I.t9,I.rD,I.e7,λp hp=>(w3i.mp hp).oP (λz=>I.Zh p (w3a _ z)) (h p),I.aL,I.vn⟩
def NN(hN:N.x6){j:ar}(a:N[i]?=ab x)(b:N[j]?=ab x):i=j:=by
 let⟨h1,e1⟩:=w0c.mp a;let⟨h2,e2⟩:=w0c.mp b;exact(ai.getElem_inj hN).mp (e1.ki e2.symm)
def zaw{Q:Unit->oU->Prop}(I:je X cf σ H s)(hN:X.N.x6)(hi:X.N[i]?=ab x)(hx:Zq X.a7.d0 x)(r:uu v u)
  (h:∀s',je X cf (σ.sx i (ab v)) H s'->(∃a,gw._p a s.a5 s'.a5/\(a=X.a7.Zc\/X.a7.xY.gr x=ab a))->Q () s')(hf:autoParam (X.fn x=true\/X.a7.d0.pM.gr x=ab .local) jL):oS M A (storeName X.a7 x u) Q E s:=by
 let⟨m,hn,hl⟩:=id I.Zw;have DP:(X.a7.d0.xx==.class||(X.a7.d0.xx==.module&&X.a7.Zc != X.a7.ϯ))=false:=by rw[I.ok.xx];rfl
 have yk:i<σ.aj:=by grind [je.vn]
 have rC:=I.rC
 have Ű:∀{a:f'}{h':gw},(∃o,s.a5.g0 a=ab o/\H a=none)->gw._p a s.a5 h'->dX X.jd X.w H h':=λ{a h'} ha hs b ob e=>by
  let⟨_,_,cV⟩:=ha;refine(I.aL b ob e).fE (λc w' hc q=>(hs.2 c ?_).ki q) (λ_ q=>q) λ_ _ _ q=>q
  grind
 rcases hx with hk|hk
 .refine wpAny_storeName_local hk hn (λh' yq hs=>?_) DP
  let⟨zcT,_,_,Ug,_⟩:=id hn;refine h _ ⟨I.ok,I.os,I.QN,⟨λb o e n hb hx=>?_,λb o e n hb hx=>?_,I.j3.rD,λb o e hx=>?_,I.j3.gZ,I.j3.bo,I.j3.fP⟩,⟨_,yq,λj y v' e1 e2 e3=>?_⟩,λy c e=>?_,I.rD,I.e7,λp hp=>?_,Ű ⟨zcT,Ug,I.rD⟩ hs,by simpa using I.vn⟩ ⟨_,hs,.j' rfl⟩
  .exact(hs.2 b (w0p (w0y (gw.xq e) I.ok.Λ))).ki (I.j3.wN b o e n hb hx)
  .let⟨sl,e1⟩:=I.j3.yM b o e n hb hx;exact⟨sl,(hs.2 b (w0p (w0y (gw.xq e) I.ok.Λ))).ki e1⟩
  .let⟨o',e1⟩:=I.j3.ZP b o e hx;exact⟨o',(hs.2 b (w0p (w0y (gw.xq e) I.ok.Λ))).ki e1⟩
  .by_cases hj:j=i
   .subst hj;rw[hi]at e1;cases e1;rw[w0m yk]at e2;cases e2;exact⟨u,r,.j' ⟨hk,by simp⟩⟩
   .rw[w0j (Ne.symm hj)]at e2;let⟨u',r',q⟩:=hl j y v' e1 e2 e3;refine⟨u',r',?_⟩;rcases q with⟨k,e⟩|⟨k,c,e,z⟩
    .refine .j' ⟨k,?_⟩
     grind [NN]
    .exact .mv ⟨k,c,e,z.Ø hs (rC y c e)⟩
  .let⟨w',z⟩:=I.t9 y c e;exact⟨w',z.Ø hs (rC y c e)⟩
  .let⟨e,n,ne,nf,d⟩:=I.Zh p hp;exact⟨(hs.2 p.1 ne).ki e,n,ne,nf,d⟩
 .have nT:X.fn x=true:=by
   grind
  let⟨c,hc⟩:=I.ok.yD x (.j' hk);let⟨w',z⟩:=I.t9 x c hc;refine zeg I.ok.xx hk hc z (λh' DL hs=>?_)
  let⟨oc,wL,zfa⟩:=id z;refine h {s with a5:=h'} ⟨I.ok,I.os,I.QN,⟨λb o e n hb hx=>?_,λb o e n hb hx=>?_,I.j3.rD,λb o e hx=>?_,I.j3.gZ,I.j3.bo,I.j3.fP⟩,⟨m,hn.Ø hs (Ne.symm (rC x c hc)),λj y v' e1 e2 e3=>?_⟩,λy c' e=>?_,I.rD,I.e7,λp hp=>?_,Ű ⟨oc,wL,I.e7 x c hc⟩ hs,by simpa using I.vn⟩ ⟨c,hs,.mv hc⟩
  .exact(hs.2 b (w0p (w0y (gw.xq e) (I.ok.xP x c nT hc)))).ki (I.j3.wN b o e n hb hx)
  .let⟨sl,e1⟩:=I.j3.yM b o e n hb hx;exact⟨sl,(hs.2 b (w0p (w0y (gw.xq e) (I.ok.xP x c nT hc)))).ki e1⟩
  .let⟨o',e1⟩:=I.j3.ZP b o e hx;exact⟨o',(hs.2 b (w0p (w0y (gw.xq e) (I.ok.xP x c nT hc)))).ki e1⟩
  .by_cases hj:j=i
   .subst hj;rw[hi]at e1;cases e1;rw[w0m yk]at e2;cases e2;exact⟨u,r,.mv ⟨.j' hk,c,hc,DL⟩⟩
   .rw[w0j (Ne.symm hj)]at e2;let⟨u',r',q⟩:=hl j y v' e1 e2 e3;refine⟨u',r',?_⟩;rcases q with q|⟨k,c',e,z'⟩
    .exact .j' q
    .refine .mv ⟨k,c',e,z'.Ø hs ?_⟩;rintro rfl;exact hj (NN hN e1 (I.ok.La _ _ _ e hc ▸ hi))
  .by_cases TL:c'=c
   .grind
   .let⟨w2,z2⟩:=I.t9 y c' e;exact⟨w2,z2.Ø hs TL⟩
  .let⟨e,n,ne,nf,d⟩:=I.Zh p hp;refine⟨(hs.2 p.1 ?_).ki e,n,ne,nf,d⟩
   grind
theorem NO{Q:Unit->oU->Prop}(I:je X cf σ H s)(hN:X.N.x6)(hi:X.N[i]?=ab x)(hx:Zq X.a7.d0 x)(r:uu v u)
  (h:∀s',je X cf (σ.sx i (ab v)) H s'->Q () s')(hf:autoParam (X.fn x=true\/X.a7.d0.pM.gr x=ab .local) jL):oS M A (storeName X.a7 x u) Q E s:=
 zaw I hN hi hx r (λs' I' _=>h s' I') hf
def je.tu{s':oU}{ch:ai f'}(I:je X cf σ H s)(ho:s'.os=s.os)(u:Un (fW X.Yd) ch H H' s.a5 s'.a5)(aL:dX X.jd X.w H' s'.a5)(hg:_l s'.Za)
  (qC:∀b∈ch,(b∈X.ex\/X.aA.a5.fy.dt<=b)/\b≠X.a7.Zc/\(∀x c,X.a7.xY.gr x=ab c->c≠b)/\∀p∈X.pn++cf,p.1≠b):je X cf σ H' s':=by
 let⟨h',g',d',t',o'⟩:=s';have e:o'=s.os:=ho;subst e;exact I.yd (g':=g') (t':=t') (d':=d') u aL hg qC
end
abbrev XK:=dS->fv f'->Hp->Prop
abbrev St:=ai (fv V)
variable{σ:St}
abbrev VK:=V->Hp->Prop
abbrev TE:=St->Hp->VK->Prop
variable{ta te:TE}
abbrev TT:=St->Hp->(fC->Hp->Prop)->Prop
abbrev TA:=St->Hp->(ai V->Hp->Prop)->Prop
structure Θ where
 nx:St->Hp->Prop
 rt:VK
 bk:St->Hp->Prop:=λ_ _=>vk
 ct:St->Hp->Prop:=λ_ _=>vk
abbrev TS:=Θ->St->Hp->Prop
variable{tb:TS}
def EP(X:Cx)(cf:ai (f'×sy))(σ:St)(Q:VK)(u:dS)(s':oU):Prop:=∃v H',je X cf σ H' s'/\uu v u/\Q v H'
def TP(X:Cx)(cf:ai (f'×sy))(σ:St)(Q:fC->Hp->Prop)(b:fC)(s':oU):Prop:=∃H',je X cf σ H' s'/\Q b H'
def AP(X:Cx)(cf:ai (f'×sy))(σ:St)(Q:ai V->Hp->Prop)(us:ai dS)(s':oU):Prop:=∃vs H',je X cf σ H' s'/\sS vs us/\Q vs H'
def SP(X:Cx)(cf:ai (f'×sy))(D:Θ)(f:Flow)(s':oU):Prop:=
 match f with
 |.next=>∃aP H',je X cf aP H' s'/\D.nx aP H'
 |._z=>∃aP H',je X cf aP H' s'/\D.bk aP H'
 |._A=>∃aP H',je X cf aP H' s'/\D.ct aP H'
 |.KJ u=>∃v aP H',je X cf aP H' s'/\uu v u/\D.rt v H'
def PE(X:Cx)(e:pN)(t:TE):Prop:=
 ∀(cf:ai (f'×sy))(s:oU)(σ:St)(H:Hp)(Q:VK),je X cf σ H s->t σ H Q->oS (q_ X.jd X.w) X.A (eval e X.a7) (EP X cf σ Q) X.xe s
def PT(X:Cx)(e:pN)(t:TT):Prop:=
 ∀(cf:ai (f'×sy))(s:oU)(σ:St)(H:Hp)(Q:fC->Hp->Prop),je X cf σ H s->t σ H Q->oS (q_ X.jd X.w) X.A (Ð e X.a7 (eval e X.a7)) (TP X cf σ Q) X.xe s
def PW(X:Cx)(e:pN)(t:TT):Prop:=
 ∀(ξ:Ι dS)(cf:ai (f'×sy))(s:oU)(σ:St)(H:Hp)(Q:fC->Hp->Prop),je X cf σ H s->t σ H Q->oS (q_ X.jd X.w) X.A (Ð e X.a7 ξ) (TP X cf σ Q) X.xe s
theorem PW.pt{t:TT}(h:PW X e t):PT X e t:=h _
def PA(X:Cx)(es:ai pN)(t:TA):Prop:=
 ∀(gJ:vY)(cf:ai (f'×sy))(s:oU)(σ:St)(H:Hp)(Q:ai V->Hp->Prop),je X cf σ H s->t σ H Q->oS (q_ X.jd X.w) X.A (Ù (A4 gJ (p5 es X.a7))) (AP X cf σ Q) X.xe s
def PS(X:Cx)(st:Rl)(t:TS):Prop:=
 ∀(cf:ai (f'×sy))(s:oU)(σ:St)(H:Hp)(D:Θ),je X cf σ H s->t D σ H->oS (q_ X.jd X.w) X.A (exec st X.a7) (SP X cf D) X.xe s
def lV(X:Cx)(st:ai Rl)(t:TS):Prop:=
 ∀(cf:ai (f'×sy))(s:oU)(σ:St)(H:Hp)(D:Θ),je X cf σ H s->t D σ H->oS (q_ X.jd X.w) X.A (execs st X.a7) (SP X cf D) X.xe s
theorem bw{α:Type}{t:Ι α}{Q Q':α->oU->Prop}(h:oS M A t Q E s)(hQ:∀a s,Q a s->Q' a s):oS M A t Q' E s:=Zz h hQ λ_ _ x=>x
section
def qq(i:ar):TE:=λσ H Q=>∃v,σ[i]?=ab (ab v)/\Q v H
def tC(v:V):TE:=λ_ H Q=>Q v H
def z73(hN:X.N[i]?=ab x)(hv:jS X.a7.d0 x)(hd:autoParam ((x==("__debug__":d3))=false) jK)(eE:autoParam ((x==("__classdict__":d3))=false) jK):PE X (.oL x gJ) (qq i):=by
 intro cf s σ H Q I h;let⟨v,e,h⟩:=h;let⟨m,hn,hl⟩:=I.Zw;let⟨u,r,l⟩:=hl i x v hN e hv;have ye:EP X cf σ Q u s:=⟨v,H,I,r,h⟩;rcases l with⟨hk,hm⟩|⟨hk,c,hc,dG⟩
 .exact ŵ (wpAny_loadName_local I.ok.xx hk hn hm ye) hd
 .rcases hk with hk|hk
  .exact ŵ (wpAny_loadName_cell I.ok.xx hk hc dG ye) hd
  .exact ŵ (wpAny_loadName_free I.ok.xx hk hc dG ye eE) hd
theorem NP{i j gJ}:PE X (.Ζ (.aO i) j gJ) (tC (.aO i)):=λ_ _ _ H _ I h=>wpAny_Constant_int ⟨.aO i,H,I.Yn _,⟨_,rfl⟩,h⟩
theorem Sl{b j gJ}:PE X (.Ζ (.wF b) j gJ) (tC (.bl b)):=λ_ _ _ H _ I h=>Constant_bool ⟨.bl b,H,I,rfl,h⟩
theorem z74{j gJ}:PE X (.Ζ .none j gJ) (tC .aF):=λ_ _ _ H _ I h=>Constant_none ⟨.aF,H,I,rfl,h⟩
theorem z75{x j gJ}:PE X (.Ζ (.str x) j gJ) (tC (.str x)):=λ_ _ _ H _ I h=>Zp.Constant_str ⟨.str x,H,I.Yn _,⟨_,rfl⟩,h⟩
def Gl(X:Cx)(x:d3):Prop:=X.a7.yt x=ab .globalImplicit
theorem Cw{Q:dS->oU->Prop}(I:je X cf σ H s)(hg:Gl X x)(hm:X.mg x=ab u)(h:Q u s)
  (hd:autoParam ((x==("__debug__":d3))=false) jK):oS (q_ X.jd X.w) X.A (eval (.oL x gJ) X.a7) Q E s:=
 Zp.ž I.ok.xx hg (Zp.loadGlobal_global (by rw[I.ok._u];exact I.Yh._u.Yp I.bk) hm h) hd
def qM{Q:dS->oU->Prop}(I:je X cf σ H s)(hg:Gl X x)(hm:X.mg x=none)(hv:ζ x=ab u)(h:Q u s)
  (hn:autoParam (x≠"__name__") jK)(hd:autoParam ((x==("__debug__":d3))=false) jK):oS (q_ X.jd X.w) X.A (eval (.oL x gJ) X.a7) Q E s:=by
 let⟨mb,h1,h2⟩:=I.Yh.blt;exact Zp.ž I.ok.xx hg (Zp.loadGlobal_builtin (by rw[I.ok._u];exact I.Yh._u.Yp I.bk) hm (by rw[I.ok.blt];exact h1.Yp I.bk) ((h2 x hn).ki hv) h) hd
theorem OH{v:V}(hg:Gl X x)(hm:X.mg x=ab u)(r:uu v u)(hd:autoParam ((x==("__debug__":d3))=false) jK):PE X (.oL x gJ) (tC v):=
 λ_ _ _ H _ I h=>Cw I hg hm ⟨v,H,I,r,h⟩ hd
variable{a b:pN}{tb:TE}
def PC(X:Cx)(op:Ϸ)(a b:pN)(t:TE):Prop:=
 ∀(cf:ai (f'×sy))(s:oU)(σ:St)(H:Hp)(Q:VK),je X cf σ H s->t σ H Q ->
  oS (q_ X.jd X.w) X.A (eval a X.a7) (λv aE=>oS (q_ X.jd X.w) X.A (eval b X.a7) (λu lS=>oS (q_ X.jd X.w) X.A (ZY op v u) (EP X cf σ Q) X.xe lS) X.xe aE) X.xe s
def zc6(b:pN)(h:op≠.In)(h2:op≠._o):_t op b=false:=by
 have e1:(op==Ϸ.In)=false:=by grind
 have e2:(op==Ϸ._o)=false:=by grind
 cases b<;>simp[_t,e1,e2]
def zdC(t:TE):TT:=λσ H Q=>t σ H λx H1=>∃c,x=.bl c/\Q c H1
def PX{t:TE}(h:PC X op a b t)(h1:_t op b=false:=by first|exact zc6 _ (by decide) (by decide)|rfl):PT X (.YT a [op] [b] gJ) (zdC t):=by
 intro cf s σ H Q I hw;refine zd_ (bw (h cf s σ H _ I hw) λv s1 h1=>bw h1 λu s2 h2=>bw h2 λc s3 ⟨x,H1,I1,r1,q1⟩=>?_) h1
 let⟨d,rfl,q⟩:=q1;cases r1;exact Ω ⟨H1,I1,q⟩
variable{tA CF:TT}{wb:ai pN}
def AA(t u:TT):TT:=λσ H Q=>t σ H λc H1=>if c=true then u σ H1 Q else Q false H1
def L6(t u:TT):TT:=λσ H Q=>t σ H λc H1=>if c=true then Q true H1 else u σ H1 Q
def HM(t:TT):TT:=λσ H Q=>t σ H λc H1=>Q (!c) H1
def z2v(ha:PT X a tA):PW X (.Ze .Γ [a] gJ) tA:=by
 intro wh cf s σ H Q I h;refine isTrue_and (bw (ha cf s σ H Q I h) λc s1 e=>?_)
 grind [isTrue_and_nil]
def z76(ha:PT X a tA):PW X (.Ze .Or [a] gJ) tA:=by
 intro wh cf s σ H Q I h;refine isTrue_or (bw (ha cf s σ H Q I h) λc s1 e=>?_)
 grind [isTrue_or_nil]
def z77(ha:PT X a tA)(hb:PW X (.Ze .Γ (b::wb) gJ) CF):PW X (.Ze .Γ (a::b::wb) gJ) (AA tA CF):=by
 intro wh cf s σ H Q I h;refine isTrue_and (bw (ha cf s σ H _ I h) λc s1 ⟨H1,I1,q1⟩=>?_)
 cases c with
 |true=>exact hb wh cf s1 σ H1 Q I1 q1
 |false=>exact⟨H1,I1,q1⟩
def Sn(ha:PT X a tA)(hb:PW X (.Ze .Or (b::wb) gJ) CF):PW X (.Ze .Or (a::b::wb) gJ) (L6 tA CF):=by
 intro wh cf s σ H Q I h;refine isTrue_or (bw (ha cf s σ H _ I h) λc s1 ⟨H1,I1,q1⟩=>?_)
 cases c with
 |true=>exact⟨H1,I1,q1⟩
 |false=>exact hb wh cf s1 σ H1 Q I1 q1
def z78(ha:PT X a tA):PT X (.ό .Not a gJ) (HM tA):=by
 intro cf s σ H Q I h;exact isTrue_not (ha cf s σ H (λc H1=>Q (!c) H1) I h)
def AB(ta tb:TE):TE:=λσ H Q=>ta σ H λx H1=>∃c,x=.bl c/\if c=true then tb σ H1 Q else Q (.bl false) H1
def HN(ta tb:TE):TE:=λσ H Q=>ta σ H λx H1=>∃c,x=.bl c/\if c=true then Q (.bl true) H1 else tb σ H1 Q
def AK(ta:TE):TE:=λσ H Q=>ta σ H λx H1=>∃c,x=.bl c/\Q (.bl (!c)) H1
theorem z79{op}{t:TE}(h:PE X a t):PE X (.Ze op [a] gJ) t:=λcf s σ H Q I hw=>BoolOp_one (h cf s σ H Q I hw)
def z8a(ha:PE X a ta)(hb:PE X (.Ze .Γ (b::wb) gJ) tb):PE X (.Ze .Γ (a::b::wb) gJ) (AB ta tb):=by
 intro cf s σ H Q I h;refine BoolOp_and (bw (ha cf s σ H _ I h) λv s1 ⟨x,H1,I1,r1,q1⟩=>?_)
 let⟨c,rfl,q1⟩:=q1;cases r1;refine Ω ?_;cases c with
 |true=>exact hb cf s1 σ H1 Q I1 q1
 |false=>exact⟨.bl false,H1,I1,rfl,q1⟩
def So(ha:PE X a ta)(hb:PE X (.Ze .Or (b::wb) gJ) tb):PE X (.Ze .Or (a::b::wb) gJ) (HN ta tb):=by
 intro cf s σ H Q I h;refine BoolOp_or (bw (ha cf s σ H _ I h) λv s1 ⟨x,H1,I1,r1,q1⟩=>?_)
 let⟨c,rfl,q1⟩:=q1;cases r1;refine Ω ?_;cases c with
 |false=>exact hb cf s1 σ H1 Q I1 q1
 |true=>exact⟨.bl true,H1,I1,rfl,q1⟩
def z8b(ha:PE X a ta):PE X (.ό .Not a gJ) (AK ta):=by
 intro cf s σ H Q I h;refine UnaryOp_ (bw (ha cf s σ H _ I h) λv s1 ⟨x,H1,I1,r1,q1⟩=>?_)
 let⟨c,rfl,q1⟩:=q1;cases r1;exact not_of (Ω ⟨.bl (!c),H1,I1,rfl,q1⟩)
def Vm(t:TT)(ta tb:TE):TE:=λσ H Q=>t σ H λc H1=>if c=true then ta σ H1 Q else tb σ H1 Q
def zaZ(hc:PT X c tA)(ha:PE X a ta)(hb:PE X b tb):PE X (.IfExp c a b gJ) (Vm tA ta tb):=by
 intro cf s σ H Q I h;refine wpAny_IfExp (bw (hc cf s σ H _ I h) λd s1 ⟨H1,I1,q1⟩=>?_)
 cases d with
 |true=>exact ha cf s1 σ H1 Q I1 q1
 |false=>exact hb cf s1 σ H1 Q I1 q1
end
def bJ(K:Fg)(H:Hp)(a:f')(xs:ai V):Prop:=
 Rd H a (.dI xs) \/
  ∃(o:sy)(ax:yx dS)(n:ar),K.gr a=ab o/\o.oh=.ny "list" /\ o.we=none/\o.oo=.pJ ax n/\ax.dt<=vr/\sS xs ax.vZ
def c7(K:Fg)(H:Hp)(a:f')(xs:ai V):Prop:=
 Rd H a (.gs xs) \/
  ∃(o:sy)(ax:yx dS)(n:ar),K.gr a=ab o/\o.oh=.ny "tuple" /\ o.we=none/\o.oo=.pJ ax n/\ax.dt<=vr/\sS xs ax.vZ
def Dl:dS->fv V
 |.none=>ab .aF
 |.wF b=>ab (.bl b)
 |.aO i _=>ab (.aO i)
 |.str x _=>ab (.str x)
 |.bytes b _=>ab (.tq b)
 |.float b _=>ab (.tH b)
 |.bj a=>ab (.bj a)
 |.ny n=>ab (.ty n)
 |_=>none
def uu.abs{x:V}(r:uu x u):Dl u=ab x:=by
 cases x with
 |aF=>cases r;rfl
 |bl _=>cases r;rfl
 |aO _=>let⟨t,rfl⟩:=r;rfl
 |str _=>let⟨t,rfl⟩:=r;rfl
 |tq _=>let⟨t,rfl⟩:=r;rfl
 |tH _=>let⟨t,rfl⟩:=r;rfl
 |bj _=>cases r;rfl
 |ty _=>cases r;rfl
theorem uu.La{x y:V}(r:uu x u)(q:uu y u):x=y:=fv.ab.La (r.abs.symm.ki q.abs)
theorem sS.La:∀{xs ys:ai V}{us:ai dS},sS xs us->sS ys us->xs=ys
 |_,_,_,.rA,.rA=>rfl
 |_,_,_,.qY r t,.qY r' t'=>by rw[r.La r',sS.La t t']
section
variable{ys:ai V}
theorem bJ.of(h:H a=ab (.dI xs)):bJ K H a xs:=.j' (.j' h)
theorem c7.of(h:H a=ab (.gs xs)):c7 K H a xs:=.j' (.j' h)
def je.xE(I:je X cf σ H s)(h:bJ X.K H a xs):∃ax:ai dS,sS xs ax/\PlainL s.a5 a ax.k8/\xs.aj<=vr:=by
 rcases h with h|⟨o,ax,n,hk,hc,hd,hs,hz,r⟩
 .let⟨z,ax,n,r,e⟩:=h.ok I.aL;exact⟨ax,r,⟨_,n,e,rfl,rfl,rfl⟩,z⟩
 .refine⟨ax.vZ,r,⟨o,n,I.qG a o hk,hc,hd,by simpa using hs⟩,?_⟩
  grind [sS.aj,yx.zcD]
def je.UH(I:je X cf σ H s)(h:c7 X.K H a xs):∃ax:ai dS,sS xs ax/\_n s.a5 a ax.k8/\xs.aj<=vr:=by
 rcases h with h|⟨o,ax,n,hk,hc,_,hs,hz,r⟩
 .let⟨z,ax,r,p,_⟩:=h.ok I.aL;exact⟨ax,r,p,z⟩
 .refine⟨ax.vZ,r,⟨o,I.qG a o hk,hc,n,by simpa using hs⟩,?_⟩
  grind [sS.aj,yx.zcD]
def je.gQ(I:je X cf σ H s)(h:bJ X.K H a xs)(h':bJ X.K H a ys):xs=ys:=by
 let⟨ax,r,⟨o,n,e,_,_,d⟩,_⟩:=I.xE h;let⟨its',r',⟨o',n',e',_,_,d'⟩,_⟩:=I.xE h';rw[e]at e';cases e';rw[d]at d';injection d' with d1 _
 have:ax=its':=by grind
 subst this;exact r.La r'
def je.fN(I:je X cf σ H s)(h:c7 X.K H a xs)(h':c7 X.K H a ys):xs=ys:=by
 let⟨ax,r,⟨o,e,_,n,d⟩,_⟩:=I.UH h;let⟨its',r',⟨o',e',_,n',d'⟩,_⟩:=I.UH h';rw[e]at e';cases e';rw[d]at d';injection d' with d1 _
 have:ax=its':=by grind
 subst this;exact r.La r'
end
section
variable{st:Rl}{wb:ai Rl}{t u:TS}
def AI:TS:=λD σ H=>D.nx σ H
def AN(t u:TS):TS:=λD σ H=>t {D with nx:=u D} σ H
theorem z2w:lV X [] AI:=λ_ _ σ H _ I h=>İ ⟨σ,H,I,h⟩
def za0(h1:PS X st t)(h2:lV X wb u):lV X (st::wb) (AN t u):=by
 intro cf s σ H D I h;refine zd8 (bw (h1 cf s σ H {D with nx:=u D} I h) λf s1 q=>?_)
 cases f with
 |next=>
  let⟨aP,H',I',q⟩:=q;exact h2 cf s1 aP H' D I' q
 |KJ v=>exact q
 |_z=>exact q
 |_A=>exact q
def z2x(h1:PS X st t):lV X [st] t:=by
 intro cf s σ H D I h;refine zd8 (bw (h1 cf s σ H D I h) λf s1 q=>?_)
 grind [İ]
def je.quiet(I:je X cf σ H s):interactive X.a7=false:=by simp[interactive,I.ok.xx]
def AE(te:TE):TS:=λD σ H=>te σ H λ_ H1=>D.nx σ H1
def IM(he:PE X e te)(hs:autoParam (ZO e none gJ.Yq X.a7=vo false) jJ):PS X (.pN e gJ) (AE te):=by
 intro cf s σ H D I h;exact wpAny_Expr_any (bw (he cf s σ H _ I h) λv s1 ⟨x,H1,I1,r1,q1⟩=>⟨σ,H1,I1,q1⟩) I.quiet hs
def HP(te:TE):TS:=λD σ H=>te σ H D.rt
def Jx(he:PE X e te):PS X (.ã (ab e) gJ) (HP te):=by
 intro cf s σ H D I h;exact wpAny_Return_some (bw (he cf s σ H _ I h) λv s1 ⟨x,H1,I1,r1,q1⟩=>⟨x,σ,H1,I1,r1,q1⟩)
def AF(c:TT)(t u:TS):TS:=λD σ H=>c σ H λb H1=>if b=true then t D σ H1 else u D σ H1
def Sq{a b:ai Rl}{tc:TT}(hc:PT X c tc)(ha:lV X a t)(hb:lV X b u):PS X (.If c a b gJ) (AF tc t u):=by
 intro cf s σ H D I h;refine wpAny_If (bw (hc cf s σ H _ I h) λd s1 ⟨H1,I1,q1⟩=>?_)
 cases d with
 |true=>exact ha cf s1 σ H1 D I1 q1
 |false=>exact hb cf s1 σ H1 D I1 q1
end
abbrev TG:=V->St->Hp->(St->Hp->Prop)->Prop
abbrev uI:=ai V->St->Hp->(St->Hp->Prop)->Prop
def PG(X:Cx)(UK:pN)(t:TG):Prop:=
 ∀(cf:ai (f'×sy))(s:oU)(σ:St)(H:Hp)(v:V)(u:dS)(Q:St->Hp->Prop),je X cf σ H s->uu v u->t v σ H Q ->
  oS (q_ X.jd X.w) X.A (_r UK X.a7 u) (λ_ s'=>∃aP H',je X cf aP H' s'/\Q aP H') X.xe s
def xF(X:Cx)(ts:ai pN)(t:uI):Prop:=
 ∀(cf:ai (f'×sy))(s:oU)(σ:St)(H:Hp)(vs:ai V)(us:ai dS)(Q:St->Hp->Prop),je X cf σ H s->sS vs us->t vs σ H Q ->
  oS (q_ X.jd X.w) X.A (assignInOrder ((Zs ts X.a7).aT (·.2)) us) (λ_ s'=>∃aP H',je X cf aP H' s'/\Q aP H') X.xe s
abbrev uJ:=V->V->V->Hp->(Hp->Prop)->Prop
def xG(X:Cx)(t:uJ):Prop:=
 ∀(cf:ai (f'×sy))(s:oU)(σ:St)(H:Hp)(o i v:V)(ov iv u:dS)(Q:Hp->Prop),je X cf σ H s->uu o ov->uu i iv->uu v u->t o i v H Q ->
  oS (q_ X.jd X.w) X.A (Ğ ov iv u) (λ_ s'=>∃H',je X cf σ H' s'/\Q H') X.xe s
def bM(i:ar):TG:=λv σ H Q=>Q (σ.sx i (ab v)) H
def z2y(hN:X.N.x6)(hi:X.N[i]?=ab x)(hx:Zq X.a7.d0 x)(hf:autoParam (X.fn x=true\/X.a7.d0.pM.gr x=ab .local) jL):PG X (.oL x gJ) (bM i):=by
 intro cf s σ H v u Q I r h;exact wpAny_assign_Name (NO I hN hi hx r (λs' I'=>⟨_,H,I',h⟩) hf)
def nR:uI:=λvs σ H Q=>vs=[]/\Q σ H
def ft(t:TG)(u:uI):uI:=λvs σ H Q=>∃v r,vs=v::r/\t v σ H λaP H'=>u r aP H' Q
def OT:xF X [] nR:=by
 intro cf s σ H vs us Q I r h;let⟨e,h⟩:=h;subst e;cases r;exact assignInOrder_nil ⟨σ,H,I,h⟩
def Cj{t:TG}{u:uI}(h1:PG X e t)(h2:xF X es u)
  (hs:autoParam ((Zs (e::es) X.a7).aT (·.2)=_r e X.a7::(Zs es X.a7).aT (·.2)) jJ):xF X (e::es) (ft t u):=by
 intro cf s σ H vs us Q I r h;let⟨v,zfq,e1,h⟩:=h;subst e1;cases r with
 |qY r rr=>
  rw[hs];refine assignInOrder_cons (bw (h1 cf s σ H _ _ _ I r h) λ_ s1 ⟨sY,H1,I1,q1⟩=>?_)
  exact h2 cf s1 sY H1 _ _ Q I1 rr q1
def nS(K:Fg)(n:ar)(t:uI):TG:=λv σ H Q=>∃a xs,v=.bj a/\c7 K H a xs/\xs.aj=n/\t xs σ H Q
def PY{k:ar}{t:uI}{n:ar}(hc:X.TR=true)(h:xF X es t)
  (hn:autoParam ((Zs es X.a7).aj=n) jJ)(jI:autoParam ((Zs es X.a7).ő (·.1)=none) jJ):PG X (.Yo es k gJ) (nS X.K n t):=by
 intro cf s σ H v u Q I r hw;let⟨a,xs,e1,hq,hl,hw⟩:=hw;subst e1;cases r;let⟨ax,rv,ht,hz⟩:=I.UH hq;refine assign_Tuple_tuple (I.ok.hd hc) ht (by simp[hn,<- hl,rv.aj]) jI λh' hx=>?_
 have I1:je X cf σ H {s with a5:=h'}:=I.Ya (t':=s.sP) λb o e=>hx b o (w0p (gw.xq e)) e
 exact h cf _ σ H xs _ Q I1 (by simpa using rv) hw
def DC(to ti:TE)(t:uJ):TG:=λv σ H Q=>to σ H λo H1=>ti σ H1 λi H2=>t o i v H2 λH3=>Q σ H3
def z8c{o i:pN}{to ti:TE}{t:uJ}(ho:PE X o to)(hi:PE X i ti)(hs:xG X t)
  (ha:∀v,_r (.Yw o i gJ) X.a7 v=(do
   let ov <- _U [v] (eval o X.a7)
   let iv <- _U [v,ov] (eval i X.a7)
   Ú gJ
   _U [v,ov,iv] (Ğ ov iv v)
   release [v,ov,iv] []):=by intro _;rfl):PG X (.Yw o i gJ) (DC to ti t):=by
 intro cf s σ H v u Q I r h;rw[ha];refine lb (_I (bw (ho cf s σ H _ I h) λov s1 ⟨x,H1,I1,r1,q1⟩=>?_))
 refine lb (_I (bw (hi cf s1 σ H1 _ I1 q1) λiv s2 ⟨y,H2,I2,r2,q2⟩=>?_))
 refine lb (ă (lb (_I (bw (hs cf s2 σ H2 x y v ov iv u _ I2 r1 r2 r q2) λ_ s3 ⟨H3,I3,q3⟩=>?_))))
 exact wpAny_release ⟨σ,H3,I3,q3⟩
def ql(te:TE)(g:TG):TS:=λD σ H=>te σ H λx H1=>g x σ H1 D.nx
def z8d{g:TG}(he:PE X e te)(hg:PG X tg g)(hs:autoParam (zdx [tg] e gJ.Yq X.a7=vo false) jJ)(hw:autoParam (zdw [tg] e X.a7=vo none) jJ)
  (h1:autoParam ((Zs [tg] X.a7).aT (·.2)=[_r tg X.a7]) jJ):PS X (.ZR [tg] e gJ) (ql te g):=by
 intro cf s σ H D I h;refine wpAny_Assign_stores (bw (he cf s σ H _ I h) λv s1 ⟨x,H1,I1,r1,q1⟩=>?_) hs hw
 rw[h1];exact bw (hg cf s1 σ H1 x v _ I1 r1 q1) λ_ s2 q=>q
def z8e{YR:vY}(hN:X.N.x6)(hi:X.N[i]?=ab x)(hx:Zq X.a7.d0 x)(he:PE X e te)(hs:autoParam (ZO e (ab (.oL x YR)) gJ.Yq X.a7=vo false) jJ)(hf:autoParam (X.fn x=true\/X.a7.d0.pM.gr x=ab .local) jL):
  PS X (.ZR [.oL x YR] e gJ) (ql te (bM i)):=by
 intro cf s σ H D I h;refine wpAny_Assign_Name (bw (he cf s σ H _ I h) λv s1 ⟨y,H1,I1,r1,q1⟩=>?_) hs
 exact NO I1 hN hi hx r1 (λs2 I2=>⟨_,H1,I2,q1⟩) hf
def zd2(c:TT)(tb:TS):TS:=λD σ H=>∃W:ar->St->Hp->Prop,(∃m,W m σ H)/\∀m σ H,W m σ H ->
 c σ H λb H1=>if b=true then ∃N:St->Hp->Prop,(∀aP H',N aP H'->∃m',m'<m/\W m' aP H')/\tb {D with nx:=N,ct:=N,bk:=D.nx} σ H1 else D.nx σ H1
def za1{rK:ai Rl}{tc:TT}(hp:Ϲ (q_ X.jd X.w) X.A X.a7 X.xe)(hc:PT X c tc)(hb:lV X rK tb):PS X (.While c rK [] gJ) (zd2 tc tb):=by
 intro cf s σ H D I h;let⟨W,⟨m0,w0⟩,Zi⟩:=h;refine wpAny_While (codeAny_whileLoop (λn s'=>∃aP H',je X cf aP H' s'/\W n aP H') ?_ m0 ⟨σ,H,I,w0⟩)
 rintro n s1 ⟨sY,H1,I1,w1⟩;refine ϴ hp (bw (hc cf s1 sY H1 _ I1 (Zi n sY H1 w1)) λb s2 ⟨H2,I2,q2⟩=>?_)
 cases b with
 |true=>
  let⟨N,hN,q2⟩:=q2;rw[og rfl];refine ϴ hp (bw (hb cf s2 sY H2 _ I2 q2) λf s3 q3=>?_)
  cases f with
  |next=>
   let⟨wt,H3,I3,n3⟩:=q3
   grind
  |_A=>
   let⟨wt,H3,I3,n3⟩:=q3
   grind
  |_z=>exact q3
  |KJ v=>exact q3
 |false=>
  rw[sU w1m];exact İ ⟨sY,H2,I2,q2⟩
structure It where
 go:ar->Hp->Prop
 kT:ar->Hp->V->Hp->Prop
 stop:ar->Hp->Prop
def er(X:Cx)(cf:ai (f'×sy))(H:Hp)(b:f'):Prop:=
 H b=none/\b≠X.a7.Zc/\b∉X.fs/\(b∈X.ex\/X.aA.a5.fy.dt<=b)/\(∀x c,X.a7.xY.gr x=ab c->c≠b)/\∀p∈X.pn++cf,p.1≠b
def je.jg{b:f'}(I:je X cf σ H s)(hb:s.a5.fy.dt<=b)(hn:H' b=none):er X cf H' b:=by
 refine⟨hn,w2r (w0y I.lt hb),I.E5 hb,.mv (w0r I.sz hb),λx c e z=>?_,λp hp z=>?_⟩
 .let⟨v,q⟩:=I.t9 x c e;exact uP (w0y q.lt (by rw[z];exact hb)) (w2e _)
 .exact uP (w0y (gw.xq (I.Zh p hp).1) (by rw[z];exact hb)) (w2e _)
structure ϋ(P:wO)(w:vq)(K:Fg)(tg:pN)(J:It)(fp:ai f')(it:f')(tn:ar->gw->Prop):Prop where
 Ye:it∈fp
 Yc:∀i h,tn i h->∀b∈fp,∃o,h.g0 b=ab o/\∀v,o.oo≠.t9 v
 wN:∀i h h',tn i h->(∀b∈fp,∀o,h.g0 b=ab o->h'.g0 b=ab o)->tn i h'
 Z7:∀(X:Cx),X.jd=P->X.w=w->X.K=K->X.TR=true->∀(i:ar)(cf:ai (f'×sy))(s:oU)(σ:St)(H:Hp)(E:dS->oU->Prop),je X cf σ H s->(∀b∈fp,er X cf H b)->tn i s.a5->J.go i H ->
  oS (q_ P w) X.A (ι (.bj it)) (λr s1=>∃u,r=ab u /\
   oS (q_ P w) X.A (Ĕ tg (.bj it) u) (λ_ s2=>∃x H',je X cf σ H' s2/\uu x u/\J.kT i H x H'/\tn (i+1) s2.a5/\∀b∈fp,H' b=none) E s1) E s
 done:∀(X:Cx),X.jd=P->X.w=w->X.K=K->X.TR=true->∀(i:ar)(cf:ai (f'×sy))(s:oU)(σ:St)(H:Hp)(E:dS->oU->Prop),je X cf σ H s->(∀b∈fp,er X cf H b)->tn i s.a5->J.stop i H ->
  oS (q_ P w) X.A (ι (.bj it)) (λr s1=>r=none/\je X cf σ H s1) E s
 self:∀(A:C7)(i:ar)(s:oU)(Q:dS->oU->Prop)(E:dS->oU->Prop),tn i s.a5->Q (.bj it) s->oS (q_ P w) A (š (.bj it)) Q E s
abbrev TI:=St->Hp->(It->Hp->Prop)->Prop
def J4(X:Cx)(cf:ai (f'×sy))(σ:St)(tg:pN)(R:It->Hp->Prop)(Bs:dS)(s2:oU):Prop:=
 ∃(it:f')(fp:ai f')(tn:ar->gw->Prop)(J:It)(H':Hp),Bs=.bj it/\je X cf σ H' s2/\ϋ X.jd X.w X.K tg J fp it tn/\tn 0 s2.a5/\(∀b∈fp,er X cf H' b)/\R J H'
def PI(X:Cx)(tg xw:pN)(wi:TI):Prop:=
 ∀(cf:ai (f'×sy))(s:oU)(σ:St)(H:Hp)(R:It->Hp->Prop),je X cf σ H s->wi σ H R ->
  oS (q_ X.jd X.w) X.A (eval xw X.a7) (λv s1=>oS (q_ X.jd X.w) X.A (š v) (J4 X cf σ tg R) X.xe s1) X.xe s
def JR{E : dS -> oU -> Prop}{s : oU}{it : f'}{o : sy}{n : Yv}{vs : yx dS}{Q : Unit -> oU -> Prop}(ho : s.a5.g0 it = ab o)(hc : o.oh = .ny n)(hd : o.oo = .Rm vs)
    (hn : ["enumerate", "zip", "dict_itemiterator", "dict_reverseitemiterator", "odict_iterator", "itertools.zip_longest", "itertools.pairwise"]._R n = false)(hQ : Q () s) : oS M A (Ĕ tg (.bj it) u) Q E s := by
  unfold Ĕ
  cases tg <;> first
    | exact tW hQ
    | (cases u <;> first
        | exact tW hQ
        | (refine lb (wpAny_load ho ?_)
           rw [hc, hd];show oS M A (if (["enumerate", "zip", "dict_itemiterator", "dict_reverseitemiterator", "odict_iterator", "itertools.zip_longest", "itertools.pairwise"]._R n && vs[0]? == ab (_F _)) = true then _ else _) Q E s;rw [sU (by intro h; rw [hn, fC.false_and] at h; cases h)];exact tW hQ))
def wz(K:Fg)(a:f'):It:=
 ⟨λi H=>∃xs x,bJ K H a xs/\xs[i]?=ab x,λi H x H'=>H'=H/\∀xs,bJ K H a xs->xs[i]?=ab x,λi H=>∃xs,bJ K H a xs/\xs.aj<=i⟩
def wA(K:Fg)(a:f'):It:=
 ⟨λi H=>∃xs x,c7 K H a xs/\xs[i]?=ab x,λi H x H'=>H'=H/\∀xs,c7 K H a xs->xs[i]?=ab x,λi H=>∃xs,c7 K H a xs/\xs.aj<=i⟩
def oM(lo:a6)(n:ar):It:=⟨λi _=>i<n,λi H x H'=>H'=H/\x=.aO (lo+i),λi _=>n<=i⟩
theorem zax{P:wO}(a it:f'):ϋ P w K tg (wz K a) [it] it (λi h=>h.ϧ it a i) where
 Ye:=by simp
 Yc:=λi h st b hb=>by
  have e:b=it:=by simpa using hb
  subst e;let⟨o,e,c,d⟩:=st
  grind
 wN:=λi h h' st k=>st.at λo e=>k it (by simp) o e
 Z7:=by
  intro X hP hw hK hc i cf s σ H E I hf st hg;subst hP hw hK;let⟨xs,x,hq,hx⟩:=hg;let⟨ax,rv,p,hz⟩:=I.xE hq;let⟨u,hu,ru⟩:=rv.Df hx;let⟨f0,f1,f2,f3,f4,f5⟩:=hf it (by simp);refine wpAny_pyNext_list_item st p.yP (x:=u) (by simpa using hu) λh' lR sb=>?_
  have I1:je X cf σ H {s with a5:=h'}:=I._k (t':=s.sP) (λb o hb e=>(sb.2 b hb).ki e) f0 f1 f3 f4 f5
  let⟨o,e,c,d⟩:=id lR;exact⟨u,rfl,JR (s:={s with a5:=h'}) e c d (by decide) ⟨x,H,I1,ru,⟨rfl,λys hy=>by rw[I.gQ hy hq];exact hx⟩,lR,λb hb=>(hf b hb).1⟩⟩
 done:=by
  intro X hP hw hK hc i cf s σ H E I hf st hg;subst hP hw hK;let⟨xs,hq,hx⟩:=hg;let⟨ax,rv,p,hz⟩:=I.xE hq;let⟨f0,f1,f2,f3,f4,f5⟩:=hf it (by simp);have hl:=rv.aj;exact wpAny_pyNext_list_end (I.ok.hd hc) st p.yP (by simp;omega) λh' eb=>⟨rfl,I._k (t':=s.sP) (λb o hb e=>eb b o hb e) f0 f1 f3 f4 f5⟩
 self:=λ_ _ _ _ _ st h=>wpAny_pyIter_listiter st h
theorem XA{P:wO}(a it:f'):ϋ P w K tg (wA K a) [it] it (λi h=>h._x it a i) where
 Ye:=by simp
 Yc:=λi h st b hb=>by
  have e:b=it:=by simpa using hb
  subst e;let⟨o,e,c,d⟩:=st
  grind
 wN:=λi h h' st k=>st.at λo e=>k it (by simp) o e
 Z7:=by
  intro X hP hw hK hc i cf s σ H E I hf st hg;subst hP hw hK;let⟨xs,x,hq,hx⟩:=hg;let⟨ax,rv,p,hz⟩:=I.UH hq;let⟨u,hu,ru⟩:=rv.Df hx;let⟨f0,f1,f2,f3,f4,f5⟩:=hf it (by simp);refine wpAny_pyNext_tuple_item st (show s.a5.YV a ax.k8 from p) (x:=u) (by simpa using hu) λh' lR sb=>?_
  have I1:je X cf σ H {s with a5:=h'}:=I._k (t':=s.sP) (λb o hb e=>(sb.2 b hb).ki e) f0 f1 f3 f4 f5
  let⟨o,e,c,d⟩:=id lR;exact⟨u,rfl,JR (s:={s with a5:=h'}) e c d (by decide) ⟨x,H,I1,ru,⟨rfl,λys hy=>by rw[I.fN hy hq];exact hx⟩,lR,λb hb=>(hf b hb).1⟩⟩
 done:=by
  intro X hP hw hK hc i cf s σ H E I hf st hg;subst hP hw hK;let⟨xs,hq,hx⟩:=hg;let⟨ax,rv,p,hz⟩:=I.UH hq;let⟨f0,f1,f2,f3,f4,f5⟩:=hf it (by simp);have hl:=rv.aj;exact wpAny_pyNext_tuple_end (I.ok.hd hc) st (show s.a5.YV a ax.k8 from p) (by simp;omega) λh' eb=>⟨rfl,I._k (t':=s.sP) (λb o hb e=>eb b o hb e) f0 f1 f3 f4 f5⟩
 self:=λ_ _ _ _ _ st h=>wpAny_pyIter_tupleiter st h
theorem XB{P:wO}(it:f')(lo:a6)(n:ar):ϋ P w K tg (oM lo n) [it] it (λi h=>Ž h it (lo+(i:ar)*1) ((n:a6)-(i:ar)) 1) where
 Ye:=by simp
 Yc:=λi h st b hb=>by
  grind
 wN:=λi h h' st k=>k it (by simp) _ st
 Z7:=by
  intro X hP hw hK hc i cf s σ H E I hf st hg;subst hP hw hK;let⟨f0,f1,f2,f3,f4,f5⟩:=hf it (by simp);have W:=Ϫ.zd (jd:=X.jd) (w:=X.w) (I.ok.hd hc) it lo 1 n;refine W.Z7 i s _ _ hg st λv h' tk hv lR kk=>?_
  let⟨t,rfl⟩:=hv;have I1:je X cf σ H {s with a5:=h',sP:=tk}:=I._k (λb o hb e=>kk b o (by simpa using hb) e) f0 f1 f3 f4 f5
  refine⟨_,rfl,JR (s:={s with a5:=h',sP:=tk}) (n:="range_iterator") lR rfl rfl (by decide) ⟨.aO (lo+i),H,I1,⟨t,?_⟩,⟨rfl,rfl⟩,lR,λb hb=>(hf b hb).1⟩⟩
  rw[a6.mul_one]
 done:=by
  intro X hP hw hK hc i cf s σ H E I hf st hg;subst hP hw hK;let⟨f0,f1,f2,f3,f4,f5⟩:=hf it (by simp);exact wpAny_pyNext_range_end (I.ok.hd hc) st (by have:n<=i:=hg;omega) λh' eb=>⟨rfl,I._k (t':=s.sP) (λb o hb e=>eb b o hb e) f0 f1 f3 f4 f5⟩
 self:=λ_ _ _ _ _ st h=>wpAny_pyIter_rangeiter st h
def za2{R:It->Hp->Prop}{lo hi:a6}{t u v:ε}{tk:ar}(I:je X cf σ H s)(h1:-(2^62)<=lo)(h2:lo<2^62)(h3:-(2^62)<=hi)(h4:hi<2^62)
  (q:R (oM lo (hi-lo).t8) H):oS (q_ X.jd X.w) X.A (š (.bj s.a5.fy.dt)) (J4 X cf σ tg R) E {s with a5:=s.a5.si {oh:=.ny "range", oo:=.Rm #[.aO lo t,.aO hi u,.aO 1 v]},sP:=tk}:=by
 refine wpAny_pyIter_range (IsRange.yL ..) (small_one h1 h2 h3 h4) ?_;have I1:je X cf σ H {s with a5:=s.a5.si {oh:=.ny "range", oo:=.Rm #[.aO lo t,.aO hi u,.aO 1 v]},sP:=tk}:=I.Ya λb o e=>gw.v7 _ e
 refine⟨(s.a5.si {oh:=.ny "range", oo:=.Rm #[.aO lo t,.aO hi u,.aO 1 v]}).fy.dt,[(s.a5.si {oh:=.ny "range", oo:=.Rm #[.aO lo t,.aO hi u,.aO 1 v]}).fy.dt],_,_,H,rfl,
  I1.Ya (t':=tk) λb o e=>gw.v7 _ e,XB _ lo (hi-lo).t8,?_,λb hb=>?_,q⟩
 .have e1:lo+((0:ar):a6)*1=lo:=by simp
  have e2:(((hi-lo).t8:ar):a6)-((0:ar):a6)=u5.Range.rangeSize lo hi 1:=by grind [rangeSize_one]
  show Ž _ _ (lo+((0:ar):a6)*1) ((((hi-lo).t8:ar):a6)-((0:ar):a6)) 1;rw[e1,e2];exact gw.A9 _ rfl
 .have e:b=(s.a5.si {oh:=.ny "range", oo:=.Rm #[.aO lo t,.aO hi u,.aO 1 v]}).fy.dt:=by simpa using hb
  subst e;exact I1.jg (w0e _) (I1.aL.xS (w0e _))
def tS(ta:TA):TI:=λσ H R=>ta σ H λvs H1=>∃j:a6,vs=[.aO j]/\-(2^62)<=j/\j<2^62/\R (oM 0 j.t8) H1
def G_{a:pN}{ta:TA}(hg:Gl X "range")(hm:X.mg "range"=none)(ha:PA X [a] ta)(hs:autoParam (p5 [a] X.a7=[(false,eval a X.a7)]) jJ):PI X tg (.wc (.oL "range" p) [a] [] gJ) (tS ta):=by
 intro cf s σ H R I h;refine Ą (qM I hg hm boot_range (L1.Mk.ϭ (bw (ha gJ cf s σ H _ I h) λus s1 ⟨vs,H1,I1,r1,q1⟩=>?_) hs rfl))
 let⟨j,e,q1,q2,q⟩:=q1;subst e;cases r1 with
 |qY r rr=>
  cases rr;let⟨t,rfl⟩:=r;exact call_range_1 (za2 I1 (by omega) (by omega) q1 q2 (by simpa using q))
def HK(wi:TI)(g:TG)(tb:TS):TS:=λD σ H=>wi σ H λJ H1=>∃W:ar->ar->St->Hp->Prop,(∃m,W 0 m σ H1)/\∀i m σ H,W i m σ H ->
 (J.stop i H/\D.nx σ H)\/(J.go i H/\∃N:St->Hp->Prop,(∀aP H',N aP H'->∃m',m'<m/\W (i+1) m' aP H')/\∀x H',J.kT i H x H'->g x σ H' λkM H2=>tb {D with nx:=N,ct:=N,bk:=D.nx} kM H2)
def ip(fp:ai f')(h:gw):ai (f'×sy):=fp.Ϯ λb=>(h.g0 b).aT λo=>(b,o)
theorem vK{b:f'}{o:sy}(hb:b∈fp)(e:h.g0 b=ab o):(b,o)∈ip fp h:=w3j.uR ⟨b,hb,by rw[e];rfl⟩
def zay{p:f'×sy}(hp:p∈ip fp h):p.1∈fp/\h.g0 p.1=ab p.2:=by
 let⟨b,hb,e⟩:=w3j.mp hp;cases q:h.g0 b with
 |none=>rw[q]at e;cases e
 |ab o=>
  grind
theorem je.ò(I:je X cf σ H s)(hf:∀b∈fp,er X cf H b)(ho:∀b∈fp,∃o,s.a5.g0 b=ab o/\∀v,o.oo≠.t9 v):je X (cf++ip fp s.a5) σ H s:=
 I.iZ λp hp=>(w3i.mp hp).oP (λz=>I.Zh p (w0h _ z)) λz=>by
  let⟨hb,e⟩:=zay z;let⟨f0,f1,f2,_⟩:=hf p.1 hb
  grind
theorem je.eF{pl:ai (f'×sy)}(I:je X (cf++pl) σ H s):je X cf σ H s:=I.iZ λp hp=>I.Zh p (w0h _ (w3a _ hp))
def Jy{xw:pN}{rK:ai Rl}{wi:TI}{g:TG}(hp:Ϲ (q_ X.jd X.w) X.A X.a7 X.xe)(hc:X.TR=true)(hi:PI X tg xw wi)(hg:PG X tg g)(hb:lV X rK tb)
  (hs:∀x,_g xw X.a7 x=vo x:=by intro _;rfl):PS X (.For tg xw rK [] gJ) (HK wi g tb):=by
 intro cf s σ H D I h;refine wpAny_For (bw (hi cf s σ H _ I h) λv s1 h1=>bw h1 λBs s2 h2=>?_) hs
 let⟨it,fp,tn,J,H2,e,I2,T,ir,f2,W,⟨m0,w0⟩,Zi⟩:=h2;subst e;have jw:∀{H':Hp},(∀b∈fp,H' b=none)->∀b∈fp,er X cf H' b:=λhn b hb=>⟨hn b hb,(f2 b hb).2⟩
 refine codeAny_forLoop_any (λn s'=>∃i aP H',je X cf aP H' s'/\tn i s'.a5/\(∀b∈fp,H' b=none)/\W i n aP H') ?_ m0 ⟨0,σ,H2,I2,ir,λb hb=>(f2 b hb).1,w0⟩
 rintro n s3 ⟨i,wt,H3,I3,qP,tI,w3⟩;rcases Zi i n wt H3 w3 with⟨stop,qn⟩|⟨go,N,hN,Zy⟩
 .refine ϴ hp (bw (T.done X rfl rfl rfl hc i cf s3 wt H3 X.xe I3 (jw tI) qP stop) λr s4 ⟨hr,I4⟩=>?_)
  subst hr;exact İ ⟨wt,H3,I4,qn⟩
 .refine ϴ hp (bw (T.Z7 X rfl rfl rfl hc i cf s3 wt H3 X.xe I3 (jw tI) qP go) λr s4 ⟨u,hr,h4⟩=>?_)
  subst hr;refine ϴ hp (bw h4 λ_ s5 ⟨x,H5,I5,zc',y5,HH,Dz⟩=>?_)
  have Rj:=I5.ò (jw Dz) (T.Yc _ _ HH);refine ϴ hp (bw (hg _ s5 wt H5 x u _ Rj zc' (Zy x H5 y5)) λ_ s6 ⟨J2,H6,I6,q6⟩=>?_)
  refine ϴ hp (bw (hb _ s6 J2 H6 _ I6 q6) λf s7 q7=>?_)
  have Μ:∀{kN:St}{H7:Hp},je X (cf++ip fp s5.a5) kN H7 s7->N kN H7->∃m,m<n/\∃i aP H',je X cf aP H' s7/\tn i s7.a5/\(∀b∈fp,H' b=none)/\W i m aP H':=λ{kN H7} I7 n7=>by
   let⟨m',hm,zdY⟩:=hN kN H7 n7;refine⟨m',hm,i+1,kN,H7,I7.eF,T.wN _ _ _ HH λb hb o e=>(I7.Zh (b,o) (w0h _ (w0h _ (vK hb e)))).1,λb hb=>?_,zdY⟩
   let⟨o,e,d⟩:=T.Yc _ _ HH b hb;exact(I7.Zh (b,o) (w0h _ (w0h _ (vK hb e)))).2.1
  cases f with
  |next=>let⟨kN,H7,I7,n7⟩:=q7;exact Μ I7 n7
  |_A=>let⟨kN,H7,I7,n7⟩:=q7;exact Μ I7 n7
  |_z=>let⟨kN,H7,I7,q7⟩:=q7;exact⟨kN,H7,I7.eF,q7⟩
  |KJ v=>let⟨x7,kN,H7,I7,zda,q7⟩:=q7;exact⟨x7,kN,H7,I7.eF,zda,q7⟩
def za3{g:TG}{D:Θ}(Pv:ar->St->Hp->Prop)(h0:Pv 0 σ H)(hl:∀i σ H,i<=xs.aj->Pv i σ H->bJ K H a xs)
  (hs:∀i x σ H,xs[i]?=ab x->Pv i σ H->g x σ H λkM H2=>tb {D with nx:=Pv (i+1),ct:=Pv (i+1),bk:=D.nx} kM H2)(hd:∀σ H,Pv xs.aj σ H->D.nx σ H):
  ∃W:ar->ar->St->Hp->Prop,(∃m,W 0 m σ H)/\∀i m σ H,W i m σ H ->
   ((wz K a).stop i H/\D.nx σ H)\/((wz K a).go i H/\∃N:St->Hp->Prop,(∀aP H',N aP H'->∃m',m'<m/\W (i+1) m' aP H')/\∀x H',(wz K a).kT i H x H'->g x σ H' λkM H2=>tb {D with nx:=N,ct:=N,bk:=D.nx} kM H2):=by
 refine⟨λi m σ H=>m=xs.aj-i/\i<=xs.aj/\Pv i σ H,⟨xs.aj,by simp,w1b _,h0⟩,?_⟩
 rintro i m σ H ⟨rfl,hi,p⟩;have q:=hl i σ H hi p
 by_cases bR:i<xs.aj
 .refine .mv ⟨⟨xs,xs[i],q,by simp[bR]⟩,Pv (i+1),λaP H' p'=>⟨xs.aj-(i+1),by omega,rfl,bR,p'⟩,λx H' y=>?_⟩
  let⟨e,y⟩:=y
  grind
 .have e:i=xs.aj:=by omega
  subst e;exact .j' ⟨⟨xs,q,w0e _⟩,hd σ H p⟩
def z2z{g:TG}{D:Θ}(Pv:ar->St->Hp->Prop)(h0:Pv 0 σ H)(hl:∀i σ H,i<=xs.aj->Pv i σ H->c7 K H a xs)
  (hs:∀i x σ H,xs[i]?=ab x->Pv i σ H->g x σ H λkM H2=>tb {D with nx:=Pv (i+1),ct:=Pv (i+1),bk:=D.nx} kM H2)(hd:∀σ H,Pv xs.aj σ H->D.nx σ H):
  ∃W:ar->ar->St->Hp->Prop,(∃m,W 0 m σ H)/\∀i m σ H,W i m σ H ->
   ((wA K a).stop i H/\D.nx σ H)\/((wA K a).go i H/\∃N:St->Hp->Prop,(∀aP H',N aP H'->∃m',m'<m/\W (i+1) m' aP H')/\∀x H',(wA K a).kT i H x H'->g x σ H' λkM H2=>tb {D with nx:=N,ct:=N,bk:=D.nx} kM H2):=by
 refine⟨λi m σ H=>m=xs.aj-i/\i<=xs.aj/\Pv i σ H,⟨xs.aj,by simp,w1b _,h0⟩,?_⟩
 rintro i m σ H ⟨rfl,hi,p⟩;have q:=hl i σ H hi p
 by_cases bR:i<xs.aj
 .refine .mv ⟨⟨xs,xs[i],q,by simp[bR]⟩,Pv (i+1),λaP H' p'=>⟨xs.aj-(i+1),by omega,rfl,bR,p'⟩,λx H' y=>?_⟩
  let⟨e,y⟩:=y
  grind
 .have e:i=xs.aj:=by omega
  subst e;exact .j' ⟨⟨xs,q,w0e _⟩,hd σ H p⟩
def X3{lo:a6}{n:ar}{g:TG}{D:Θ}(Pv:ar->St->Hp->Prop)(h0:Pv 0 σ H)
  (hs:∀i σ H,i<n->Pv i σ H->g (.aO (lo+i)) σ H λkM H2=>tb {D with nx:=Pv (i+1),ct:=Pv (i+1),bk:=D.nx} kM H2)(hd:∀σ H,Pv n σ H->D.nx σ H):
  ∃W:ar->ar->St->Hp->Prop,(∃m,W 0 m σ H)/\∀i m σ H,W i m σ H ->
   ((oM lo n).stop i H/\D.nx σ H)\/((oM lo n).go i H/\∃N:St->Hp->Prop,(∀aP H',N aP H'->∃m',m'<m/\W (i+1) m' aP H')/\∀x H',(oM lo n).kT i H x H'->g x σ H' λkM H2=>tb {D with nx:=N,ct:=N,bk:=D.nx} kM H2):=by
 refine⟨λi m σ H=>m=n-i/\i<=n/\Pv i σ H,⟨n,by simp,w1b _,h0⟩,?_⟩
 rintro i m σ H ⟨rfl,hi,p⟩
 by_cases bR:i<n
 .refine .mv ⟨bR,Pv (i+1),λaP H' p'=>⟨n-(i+1),by omega,rfl,bR,p'⟩,λx H' y=>?_⟩
  let⟨e,y⟩:=y;subst e y;exact hs i σ _ bR p
 .have e:i=n:=by omega
  subst e;exact .j' ⟨w0e _,hd σ H p⟩
abbrev R2:=V->V->Hp->VK->Prop
variable{r:R2}
def fe(X:Cx)(f:dS->dS->Ι dS)(r:R2):Prop:=
 ∀(cf:ai (f'×sy))(s:oU)(σ:St)(H:Hp)(x y:V)(v u:dS)(Q:VK),je X cf σ H s->uu x v->uu y u->r x y H Q ->
  oS (q_ X.jd X.w) X.A (f v u) (EP X cf σ Q) X.xe s
def xJ(X:Cx)(f:dS->Ι dS)(r:V->Hp->VK->Prop):Prop:=
 ∀(cf:ai (f'×sy))(s:oU)(σ:St)(H:Hp)(x:V)(v:dS)(Q:VK),je X cf σ H s->uu x v->r x H Q ->
  oS (q_ X.jd X.w) X.A (f v) (EP X cf σ Q) X.xe s
def dg(X:Cx)(f:dS)(r:ai V->Hp->VK->Prop):Prop:=
 ∀(cf:ai (f'×sy))(s:oU)(σ:St)(H:Hp)(xs:ai V)(us:ai dS)(Q:VK),je X cf σ H s->sS xs us->r xs H Q ->
  oS (q_ X.jd X.w) X.A (yd f us) (EP X cf σ Q) X.xe s
def xI(X:Cx)(r:V->Hp->(fC->Hp->Prop)->Prop):Prop:=
 ∀(cf:ai (f'×sy))(s:oU)(σ:St)(H:Hp)(x:V)(v:dS)(Q:fC->Hp->Prop),je X cf σ H s->uu x v->r x H Q ->
  oS (q_ X.jd X.w) X.A (ű v) (TP X cf σ Q) X.xe s
def AL(r:R2)(ta tb:TE):TE:=λσ H Q=>ta σ H λx H1=>tb σ H1 λy H2=>r x y H2 Q
def L7(r:V->Hp->VK->Prop)(ta:TE):TE:=λσ H Q=>ta σ H λx H1=>r x H1 Q
def rI(C:a6->a6->Prop)(g:a6->a6->V):R2:=λx y H Q=>∃i j,x=.aO i/\y=.aO j/\C i j/\Q (g i j) H
def mP(g:a6->a6->V):R2:=λx y H Q=>∃i j,x=.aO i/\y=.aO j/\Q (g i j) H
def rU(g:a6->V):V->Hp->VK->Prop:=λx H Q=>∃i,x=.aO i/\Q (g i) H
section
variable{a b:pN}{tb tc:TE}
def uN(ha:PE X a ta)(hb:PE X b tb){R:V->V->Hp->Prop}(I:je X cf σ H s)
  (h:ta σ H λx H1=>tb σ H1 λy H2=>R x y H2){Q:dS->oU->Prop}
  (hf:∀v u s2 x y H2,je X cf σ H2 s2->uu x v->uu y u->R x y H2->oS (q_ X.jd X.w) X.A (f v u) Q X.xe s2):
  oS (q_ X.jd X.w) X.A (eval a X.a7) (λv aE=>oS (q_ X.jd X.w) X.A (eval b X.a7) (λu lS=>oS (q_ X.jd X.w) X.A (f v u) Q X.xe lS) X.xe aE) X.xe s:=by
 refine bw (ha cf s σ H _ I h) λv s1 ⟨x,H1,I1,r1,q1⟩=>?_
 refine bw (hb cf s1 σ H1 _ I1 q1) λu s2 ⟨y,H2,I2,r2,q2⟩=>?_
 exact hf v u s2 x y H2 I2 r1 r2 q2
def QO{op:Operator}(ho:fe X (ZX op) r)(ha:PE X a ta)(hb:PE X b tb):PE X (._K a op b gJ) (AL r ta tb):=by
 intro cf s σ H Q I h;exact wpAny_BinOp (uN ha hb I h λv u s2 x y H2 I2 rx ry q=>ho cf s2 σ H2 x y v u Q I2 rx ry q)
def Sr{op:ό}{r:V->Hp->VK->Prop}(ho:xJ X (ų op) r)(ha:PE X a ta):PE X (.ό op a gJ) (L7 r ta):=by
 intro cf s σ H Q I h;exact UnaryOp_ (bw (ha cf s σ H _ I h) λv s1 ⟨x,H1,I1,r1,q1⟩=>ho cf s1 σ H1 x v Q I1 r1 q1)
def Bz{C:a6->a6->Prop}{g:a6->a6->a6}
  (_v:∀(i j:a6)(t u:ε)(s:oU)(Q:dS->oU->Prop)(E:dS->oU->Prop),C i j->Q (.aO (g i j) s.sP) {s with sP:=s.sP+1}->oS (q_ X.jd X.w) X.A (f (.aO i t) (.aO j u)) Q E s):
  fe X f (rI C λi j=>.aO (g i j)):=by
 intro cf s σ H x y v u Q I rx ry h;let⟨i,j,rfl,rfl,hc,q⟩:=h;let⟨t,rfl⟩:=rx;let⟨t',rfl⟩:=ry;exact _v i j t t' s _ _ hc ⟨.aO (g i j),H,I.Yn _,⟨_,rfl⟩,q⟩
def yU{g:a6->a6->a6}
  (_v:∀(i j:a6)(t u:ε)(s:oU)(Q:dS->oU->Prop)(E:dS->oU->Prop),Q (.aO (g i j) s.sP) {s with sP:=s.sP+1}->oS (q_ X.jd X.w) X.A (f (.aO i t) (.aO j u)) Q E s):
  fe X f (mP λi j=>.aO (g i j)):=by
 intro cf s σ H x y v u Q I rx ry h;let⟨i,j,rfl,rfl,q⟩:=h;let⟨t,rfl⟩:=rx;let⟨t',rfl⟩:=ry;exact _v i j t t' s _ _ ⟨.aO (g i j),H,I.Yn _,⟨_,rfl⟩,q⟩
def sv{g:a6->a6->fC}
  (_v:∀(i j:a6)(t u:ε)(s:oU)(Q:dS->oU->Prop)(E:dS->oU->Prop),Q (.wF (g i j)) s->oS (q_ X.jd X.w) X.A (f (.aO i t) (.aO j u)) Q E s):
  fe X f (mP λi j=>.bl (g i j)):=by
 intro cf s σ H x y v u Q I rx ry h;let⟨i,j,rfl,rfl,q⟩:=h;let⟨t,rfl⟩:=rx;let⟨t',rfl⟩:=ry;exact _v i j t t' s _ _ ⟨.bl (g i j),H,I,rfl,q⟩
def xr(i j:a6):Prop:=0<j/\j<1073741824
def xt(i j:a6):Prop:=0<=j/\j<=1000000/\i.ϱ<2^64
def qT(i j:a6):Prop:=(-(2^64)<i/\i<2^64)\/(-(2^64)<j/\j<2^64)
def qT.ok{i j:a6}(h:qT i j):IntMulOk i j:=by
 rcases h with⟨h1,h2⟩|⟨h1,h2⟩
 .exact .of_left (zcr h1 h2)
 .exact .of_right (zcr h1 h2)
theorem zdO:fe X (ZX .Add) (mP λi j=>.aO (i+j)):=yU λ_ _ _ _ _ _ _ q=>add_int q
theorem z8f:fe X (ZX .Sub) (mP λi j=>.aO (i-j)):=yU λ_ _ _ _ _ _ _ q=>sub_int q
theorem z8g:fe X (ZX .ω) (rI qT λi j=>.aO (i*j)):=Bz λ_ _ _ _ _ _ _ hc q=>mul_int q hc.ok
theorem z20:fe X (ZX .FloorDiv) (rI xr λi j=>.aO (i / j)):=Bz λi j _ _ _ _ _ hc q=>by
 have h1:(0:a6)<j:=hc.1;have h2:j<1073741824:=hc.2;exact floordiv_int (by omega) (by rw[a6.fdiv_eq_ediv_of_nonneg i (by omega)];exact q) (.j' (L1.noPylong_small (by omega)))
theorem z8h:fe X (ZX .ψ) (rI (λ_ j=>0<j) λi j=>.aO (i%j)):=Bz λi j _ _ _ _ _ hc q=>by
 have h1:(0:a6)<j:=hc;exact mod_int' (by omega) (by rw[a6.fmod_eq_emod_of_nonneg i (by omega)];exact q)
theorem z8i:fe X (ZX .Pow) (rI xt λi j=>.aO (i^j.t8)):=Bz λ_ _ _ _ _ _ _ hc q=>pow_int_small hc.1 hc.2.1 hc.2.2 q
def Vr{f:dS->Ι dS}{g:a6->a6}
  (_v:∀(i:a6)(t:ε)(s:oU)(Q:dS->oU->Prop)(E:dS->oU->Prop),Q (.aO (g i) s.sP) {s with sP:=s.sP+1}->oS (q_ X.jd X.w) X.A (f (.aO i t)) Q E s):
  xJ X f (rU λi=>.aO (g i)):=by
 intro cf s σ H x v Q I rx h;let⟨i,rfl,q⟩:=h;let⟨t,rfl⟩:=rx;exact _v i t s _ _ ⟨.aO (g i),H,I.Yn _,⟨_,rfl⟩,q⟩
theorem z8j:xJ X (ų .USub) (rU λi=>.aO (-i)):=Vr λ_ _ _ _ _ q=>neg_int q
end
section
variable{a b:pN}{tb tc:TE}
def PN{Q:VK}{k k':fC}(I:je X cf σ H s)(q:Q (.bl k) H)(e:k=k'):EP X cf σ Q (.wF k') s:=by
 subst e;exact⟨.bl k,H,I,rfl,q⟩
theorem QP:fe X (ZY .Lt) (mP λi j=>.bl (decide (i<j))):=sv λ_ _ _ _ _ _ _ q=>lt_int q
theorem QQ:fe X (ZY .LtE) (mP λi j=>.bl (decide (i<=j))):=sv λ_ _ _ _ _ _ _ q=>le_int q
theorem QR:fe X (ZY .Gt) (mP λi j=>.bl (decide (j<i))):=sv λ_ _ _ _ _ _ _ q=>gt_int q
theorem Ss:fe X (ZY .GtE) (mP λi j=>.bl (decide (j<=i))):=sv λ_ _ _ _ _ _ _ q=>ge_int q
def fe.or{r':R2}(h:fe X f r)(h':fe X f r'):fe X f (λx y H Q=>r x y H Q\/r' x y H Q):=by
 intro cf s σ H x y v u Q I rx ry q;rcases q with q|q
 .exact h cf s σ H x y v u Q I rx ry q
 .exact h' cf s σ H x y v u Q I rx ry q
def cb(b:pN)(h:autoParam (op≠.In) jK)(h2:autoParam (op≠._o) jK):_t op b=false:=by
 have e1:(op==Ϸ.In)=false:=by grind
 have e2:(op==Ϸ._o)=false:=by grind
 cases b<;>simp[_t,e1,e2]
def z21(ho:fe X (ZY op) r)(ha:PE X a ta)(hb:PE X b tb)(hm:_t op b=false):PE X (.YT a [op] [b] gJ) (AL r ta tb):=by
 intro cf s σ H Q I h;exact wpAny_Compare1 (uN ha hb I h λv u s2 x y H2 I2 rx ry q=>ho cf s2 σ H2 x y v u Q I2 rx ry q) hm
def AO(t:TE):TT:=λσ H Q=>t σ H λx H'=>∃k,x=.bl k/\Q k H'
def z22(ho:fe X (ZY op) r)(ha:PE X a ta)(hb:PE X b tb)(hm:_t op b=false):PT X (.YT a [op] [b] gJ) (AO (AL r ta tb)):=by
 intro cf s σ H Q I h
 refine zd_ (bw (ha cf s σ H _ I h) λv s1 ⟨x,H1,I1,r1,q1⟩=>bw (hb cf s1 σ H1 _ I1 q1) λu s2 ⟨y,H2,I2,r2,q2⟩=>
  bw (ho cf s2 σ H2 x y v u _ I2 r1 r2 q2) λc s3 ⟨z,H3,I3,r3,k,e,q3⟩=>?_) hm
 subst e;cases r3;exact Ω ⟨H3,I3,q3⟩
def uK(K:Fg)(x:V)(H:Hp)(k:fC):Prop:=
 match x with
 |.aF=>k=false
 |.bl b=>k=b
 |.aO i=>k=(i != 0)
 |.str y=>y.aj<=vr/\k=((y.aj:a6) != 0)
 |.tq y=>y.dt<=vr/\k=((y.dt:a6) != 0)
 |.bj p=>(∃xs,bJ K H p xs/\k=!xs.UD)\/(∃xs,c7 K H p xs/\k=!xs.UD)\/∃kvs,H p=ab (.dK kvs)/\k=!kvs.UD
 |_=>vk
def XC{κ:Type}{kvs:ai (κ×V)}{vs:ai (κ×dS)}(r:KV kvs vs):(!vs.UD)=!kvs.UD:=by
 cases r<;>rfl
def Mq{ax:ai dS}(r:sS xs ax):(!ax.k8.UD)=!xs.UD:=by
 cases r<;>simp
def fw:(vr:ar)<2^63:=by rw[Yf];decide
def z8k:xI X (λx H Q=>∃k,uK X.K x H k/\Q k H):=by
 intro cf s σ H x v Q I rx h;let⟨k,e,q⟩:=h;have hl:=fw;have hs:vr=16777216:=Yf;cases x with
 |aF=>
  cases rx;have e':k=false:=e;subst e';exact truthy_none ⟨H,I,q⟩
 |bl b=>
  cases rx;have e':k=b:=e;subst e';exact Ω ⟨H,I,q⟩
 |aO i=>
  let⟨t,rfl⟩:=rx;have e':k=(i != 0):=e;subst e';exact oa.P.truthy_int ⟨H,I,q⟩
 |str y=>
  let⟨t,rfl⟩:=rx;obtain⟨hy,e'⟩:y.aj<=vr/\k=((y.aj:a6) != 0):=e;subst e';exact oa.P.truthy_str (by omega) ⟨H,I.Yn _,q⟩
 |tq y=>
  let⟨t,rfl⟩:=rx;obtain⟨hy,e'⟩:y.dt<=vr/\k=((y.dt:a6) != 0):=e;subst e';exact oa.W.truthy_bytes (by omega) ⟨H,I.Yn _,q⟩
 |bj p=>
  cases rx;have e':(∃xs,bJ X.K H p xs/\k=!xs.UD)\/(∃xs,c7 X.K H p xs/\k=!xs.UD)\/∃kvs,H p=ab (.dK kvs)/\k=!kvs.UD:=e;rcases e' with⟨xs,hx,e'⟩|⟨xs,hx,e'⟩|⟨kvs,hx,e'⟩
  .subst e';let⟨ax,r,pl,hz⟩:=I.xE hx;have v_:=r.aj;exact wpAny_truthy_list pl.yP (by simp only[w1j];omega) ⟨H,I.Yn _,by rw[Mq r];exact q⟩
  .subst e';let⟨ax,r,pl,hz⟩:=I.UH hx;have v_:=r.aj;exact truthy_tuple pl (by simp only[w1j];omega) ⟨H,I.Yn _,by rw[Mq r];exact q⟩
  .subst e';obtain⟨hz,hS,vs,r,m⟩:kvs.aj<=vr/\(p==_G)=false/\∃vs,KV kvs vs/\s.a5.Ϥ (c5 X.jd X.w) p vs:=I.aL p _ hx;have v_:kvs.aj=vs.aj:=ZJ.aj r;exact wpAny_truthy_dict hS m (by omega) ⟨H,I.Yn _,by rw[XC r];exact q⟩
 |_=>exact(show vk from e).oP
def za4(ha:PE X a ta)(he:∀ξ,Ð a X.a7 ξ=(do let v <- ξ;Ú a.gJ;_U [v] (ű v))):
  PT X a (λσ H Q=>ta σ H λx H'=>∃k,uK X.K x H' k/\Q k H'):=by
 intro cf s σ H Q I h;exact isTrue_plain (bw (ha cf s σ H _ I h) λv s1 ⟨x,H1,I1,r1,q1⟩=>z8k cf s1 σ H1 x v Q I1 r1 q1) (he _)
def zcK:fe X (ZX .Add) (λx y H Q=>∃i j,x=.str i/\y=.str j/\i.aj+j.aj<=vr/\Q (.str (i++j)) H):=by
 intro cf s σ H x y v u Q I rx ry h;let⟨i,j,rfl,rfl,hz,q⟩:=h;let⟨t,rfl⟩:=rx;let⟨t',rfl⟩:=ry;exact add_str (λt' tk=>⟨.str (i++j),H,I.Yn _,⟨_,rfl⟩,q⟩) hz
def _H{x:V}{us:ai dS}(r:sS [x] us):∃u,us=[u]/\uu x u:=by
 cases r with
 |qY r1 r2=>cases r2;exact⟨_,rfl,r1⟩
def X4:dg X (.ny "int") (λxs H Q=>(∃i,xs=[.aO i]/\Q (.aO i) H)\/∃k,xs=[.bl k]/\Q (.aO (if k then 1 else 0)) H):=by
 intro cf s σ H xs us Q I r h;rcases h with⟨i,rfl,q⟩|⟨k,rfl,q⟩
 .let⟨u,rfl,t,rfl⟩:=_H r;exact call_int_int ⟨.aO i,H,I,⟨_,rfl⟩,q⟩
 .let⟨u,rfl,r1⟩:=_H r;cases r1;exact call_int_bool ⟨.aO (if k then 1 else 0),H,I.Yn _,⟨_,rfl⟩,q⟩
def xC(K:Fg)(x:V)(H:Hp)(n:ar):Prop:=
 match x with
 |.str y=>y.aj<=vr/\n=y.aj
 |.tq y=>y.dt<=vr/\n=y.dt
 |.bj p=>(∃xs,bJ K H p xs/\n=xs.aj)\/∃xs,c7 K H p xs/\n=xs.aj
 |_=>vk
def NQ:dg X (.yR "len") (λxs H Q=>∃x n,xs=[x]/\xC X.K x H n/\Q (.aO n) H):=by
 intro cf s σ H xs us Q I r h;let⟨x,n,rfl,e,q⟩:=h;let⟨u,rfl,rx⟩:=_H r;have hl:=fw;have hs:vr=16777216:=Yf;cases x with
 |str y=>
  let⟨t,rfl⟩:=rx;obtain⟨hy,e'⟩:y.aj<=vr/\n=y.aj:=e;subst e';exact len_str (by omega) ⟨.aO _,H,I.Yn _,⟨_,rfl⟩,q⟩
 |tq y=>
  let⟨t,rfl⟩:=rx;obtain⟨hy,e'⟩:y.dt<=vr/\n=y.dt:=e;subst e';exact oa.W.len_bytes (by omega) ⟨.aO _,H,I.Yn _,⟨_,rfl⟩,q⟩
 |bj p=>
  cases rx;have e':(∃xs,bJ X.K H p xs/\n=xs.aj)\/∃xs,c7 X.K H p xs/\n=xs.aj:=e;rcases e' with⟨xs,hx,e'⟩|⟨xs,hx,e'⟩
  .subst e';let⟨ax,r',pl,hz⟩:=I.xE hx;have v_:=r'.aj;exact Zp.call_len_list pl.yP (by grind) ⟨.aO xs.aj,H,I.Yn _,⟨_,by simp only[w1j];rw[v_]⟩,q⟩
  .subst e';let⟨ax,r',pl,hz⟩:=I.UH hx;have v_:=r'.aj;exact len_tuple pl (by grind) ⟨.aO xs.aj,H,I.Yn _,⟨_,by simp only[w1j];rw[v_]⟩,q⟩
 |_=>exact(show vk from e).oP
end
structure ze2(h:gw)(x dx C:f')(mA:d3->fv dS):Prop where
 Yc:h.g0 x=ab (oa.W.instObj C dx)
 ns:h.Ns1 dx mA
 ne:dx≠x
def jE.Ũ{v:V}{o:fv dS}(r:jE (ab v) o):∃u,o=ab u/\uu v u:=by
 cases o with
 |none=>exact(show vk from r).oP
 |ab u=>exact⟨u,rfl,r⟩
structure Rc(K:Fg)(C:f'):Prop where
 zfl:oa.W.plainGet K C d3.empty=true
 hd:oa.W.hasDictIn K C=true
 po:oa.W.plainOver K C=true
 sa:ϙ K (.bj C) "__setattr__"=ab (ab (.yR "object.__setattr__"))
structure Con(K:Fg)(C:f')(f:d3)(v:V)(u:dS):Prop where
 at_:ϙ K (.bj C) f=ab (ab u)
 nN:uu v u
 Df:ũ K u "__get__"=ab none
 cp:oa.W.copiedNames._R f=false
structure Meth(K:Fg)(C:f')(m:d3)(f:f'):Prop where
 at_:ϙ K (.bj C) m=ab (ab (.bj f))
 fn:oa.W.isFn K (.bj f)=true
 kp:_V K (.bj f)=true
section
variable{Q:dS->oU->Prop}{c:dS}{b:fC}
inductive i9(K:Fg)(H:Hp):V->dS->Prop where
 |aF:i9 K H .aF (.ny "NoneType")
 |bl (x:fC):i9 K H (.bl x) (.ny "bool")
 |aO (i:a6):i9 K H (.aO i) (.ny "int")
 |str (x:d3):i9 K H (.str x) (.ny "str")
 |tH (x:UInt64):i9 K H (.tH x) (.ny "float")
 |dI {a:f'} {xs:ai V} (e:H a=ab (.dI xs)):i9 K H (.bj a) (.ny "list")
 |eG {a:f'} {o:sy} {xs:ai V} (e:H a=ab (.eG o (.dI xs))):i9 K H (.bj a) (.ny "list")
 |gs {a:f'} {xs:ai V} (e:H a=ab (.gs xs)):i9 K H (.bj a) (.ny "tuple")
 |dK {a:f'} {kvs:ai (Yg×V)} (e:H a=ab (.dK kvs)):i9 K H (.bj a) (.ny "dict")
 |dT {a:f'} {sh:Sh} {kvs:ai (Kx×V)} {bt:ai f'} (e:H a=ab (.dT sh kvs bt)):i9 K H (.bj a) (.ny "dict")
 |ins {a C dx:f'} {fs:ai (d3×V)} (e:H a=ab (.ins C dx fs)) (cl:Rc K C) (ha:ϙ K (.bj C) "__class__"=ab (ab (.yR "object.__class__")))
   (hn:ũ K (.yR "object.__class__") "__get__"=ab (ab (.yR "getset_descriptor.__get__"))) (htk:oa.W.takesIn K (.yR "object.__class__")=ab true)
   (hm:mroIn K C (.ny "object")=ab true):i9 K H (.bj a) (.bj C)
end
structure bp(k:ar)(A:C7):Prop where
 hd:A.Zj=none
 dp:A.vg+3*k+5<Ţ
 un:A.xT+16*k+200<xH
 gd:A.guards=ab []
theorem bp.pg{j k:ar}(r:bp k A)(h:j<=k):bp j A:=⟨r.hd,by have:=r.dp;omega,by have:=r.un;omega,r.gd⟩
theorem bp.ZE{k:ar}(r:bp (k+1) A)(a7:Rb):bp k (A.ZE a7):=
 ⟨r.hd,by have:=r.dp;show A.vg+1+3*k+5<_;omega,by have:=r.un;show A.xT+3+16*k+200<_;omega,r.gd⟩
theorem bp.Ko{k:ar}(r:bp (k+1) A):bp k A.Ko:=
 ⟨r.hd,by have:=r.dp;grind,by have:=r.un;grind,r.gd⟩
def bp.vg{k:ar}(r:bp k A):A.vg<Ţ:=by have:=r.dp;omega
def AJ:TA:=λ_ H Q=>Q [] H
def qo(ta:TE)(tr:TA):TA:=λσ H Q=>ta σ H λx H1=>tr σ H1 λxs H2=>Q (x::xs) H2
section
variable{t:TA}
theorem Jv:PA X [] AJ:=λ_ _ _ _ H Q I h=>Zp.ú ⟨[],H,I,.rA,h⟩
def Cy(ha:PE X e te)(hr:PA X es t)(hs:autoParam (p5 (e::es) X.a7=(false,eval e X.a7)::p5 es X.a7) jJ):PA X (e::es) (qo te t):=by
 intro gJ cf s σ H Q I h;rw[hs];show oS _ _ (Ù ((false,eval e X.a7)::A4 gJ (p5 es X.a7))) _ _ s;refine Zp.ù (bw (ha cf s σ H _ I h) λu s1 ⟨x,H1,I1,r1,q1⟩=>?_)
 exact bw (hr gJ cf s1 σ H1 _ I1 q1) λus s2 ⟨xs,H2,I2,r2,q2⟩=>⟨x::xs,H2,I2,.qY r1 r2,q2⟩
def HQ(t:TA):TE:=λσ H Q=>t σ H λxs H1=>xs.aj<=vr/\∀p,H1 p=none->Q (.bj p) (ot H1 p (.gs xs))
def HL(t:TA):TE:=λσ H Q=>t σ H λxs H1=>xs.aj<=vr/\∀p,H1 p=none->Q (.bj p) (ot H1 p (.dI xs))
def z8l{x1}(h:PA X es t):PE X (.Yo es x1 gJ) (HQ t):=by
 intro cf s σ H Q I hq;refine wpAny_Tuple_spliced (bw (h gJ cf s σ H _ I hq) λus s1 ⟨xs,H1,I1,r,z,q⟩=>⟨by rw[<- r.aj];exact z,?_⟩)
 have hf:H1 s1.a5.fy.dt=none:=I1.aL.xS (w0e _);refine⟨.bj s1.a5.fy.dt,ot H1 s1.a5.fy.dt (.gs xs),I1.Lf (t':=s1.sP) (λb u e=>gw.v7 _ e) (w0e _) ?_,rfl,q _ hf⟩
 exact⟨z,us,r,⟨_,gw.A9 _ rfl,rfl,_,rfl⟩,⟨_,gw.A9 _ rfl,rfl⟩⟩
def z8m(h:PA X es t):PE X (.ai es gJ) (HL t):=by
 intro cf s σ H Q I hq;refine wpAny_List_spliced (bw (h gJ cf s σ H _ I hq) λus s1 ⟨xs,H1,I1,r,z,q⟩=>⟨by rw[<- r.aj];exact z,?_⟩)
 have hf:H1 s1.a5.fy.dt=none:=I1.aL.xS (w0e _);refine⟨.bj s1.a5.fy.dt,ot H1 s1.a5.fy.dt (.dI xs),I1.Lf (t':=s1.sP) (λb u e=>gw.v7 _ e) (w0e _) ?_,rfl,q _ hf⟩
 exact⟨z,us,0,r,gw.A9 _ rfl⟩
end
abbrev Sp:=ai V->Hp->VK->XK->Prop
variable{sp:Sp}
abbrev mU:=ai Rb->Hp->oU->XK->dS->oU->Prop
variable{CX:mU}
structure f6(P:wO)(w:vq)(K:Fg)(mg:d3->fv dS)(j3:gw)(A:C7)(qp:ai Rb)(s:oU)(H:Hp):Prop where
 Yy:A.Yy=ab qp
 Yh:ψ K mg j3
 bs:∀b o,j3.g0 b=ab o->s.a5.g0 b=ab o/\H b=none
 l_:j3.fy.dt<=s.a5.fy.dt
 eQ:s.a5.ϥ j3 qp
 m6:∀b∈fW qp,H b=none
 aL:dX P w H s.a5
 QN:_l s.Za
 _a:fR K H
def CE(qp:ai Rb)(P:wO)(w:vq)(H:Hp)(s:oU)(Q:VK)(u:dS)(s':oU):Prop:=
 ∃v H',s'.os=s.os/\_l s'.Za/\Un (fW qp) [] H H' s.a5 s'.a5/\dX P w H' s'.a5/\uu v u/\Q v H'
def CR(CX:mU)(qp:ai Rb)(P:wO)(w:vq)(H:Hp)(s:oU)(Q:VK)(E:XK)(r:Result)(s':oU):Prop:=
 match r with
 |.ok (.KJ u)=>CE qp P w H s Q u s'
 |.ok _=>vk
 |._S e=>CX qp H s E e s'
structure ei(P:wO)(w:vq)(K:Fg)(mg:d3->fv dS)(j3:gw)(CX:mU)(k:ar)(f:f')(fd:ZT)(ps:ai d3)(sp:Sp):Prop where
 vn:∀vs H Q E,sp vs H Q E->vs.aj=ps.aj
 mH:∀(A:C7)(qp:ai Rb)(s:oU)(H:Hp)(args:Args)(us:ai dS)(vs:ai V)(Q:VK)(E:XK),bp k A->f6 P w K mg j3 A qp s H->_L s fd args (ps.wk us)->sS vs us->sp vs H Q E ->
  Zv (q_ P w) A (.yd (.bj f) args) (CR CX qp P w H s Q E) s
theorem ei.vW{P:wO}{k:ar}{f:f'}{ps:ai d3}{L0:Sp}(F:ei P w K mg j3 CX k f fd ps sp)
  (h:∀vs H Q E,L0 vs H Q E->sp vs H Q E):ei P w K mg j3 CX k f fd ps L0:=
 ⟨λvs H Q E q=>F.vn vs H Q E (h _ _ _ _ q),λA qp s H args us vs Q E hr he hb hv hs=>F.mH A qp s H args us vs Q E hr he hb hv (h _ _ _ _ hs)⟩
section
variable{s':oU}
theorem je.o3(I:je X cf σ H s):f6 X.jd X.w X.K X.mg X.j3 X.A X.Yd s H:=
 ⟨I.ok.Yy,I.ok.Yh,I.bs,w0r I.ok.l_ I.sz,I.Yd,I.nH,I.aL,I.QN,I.ok._a.un I.j3⟩
def je.Ϭ{Q:VK}(I:je X cf σ H s)(h:CE X.Yd X.jd X.w H s Q u s'):EP X cf σ Q u s':=by
 let⟨v,H',os,QN,un,aL,r,q⟩:=h;let⟨hh,g,d,t,UT⟩:=s';obtain rfl:UT=s.os:=os;exact⟨v,H',I.yd (h':=hh) (g':=g) (d':=d) (t':=t) (ch:=[]) un aL QN (λb z=>uP z (by simp)),r,q⟩
end
def ZS(K:Fg)(fd:ZT)(ps:ai d3)(ds:ai dS):Prop:=
 ∀(s:oU)(us:ai dS),K.In s.a5->(us++ds).aj=ps.aj->_L s fd ⟨us,[]⟩ (ps.wk (us++ds))
theorem ZS.tB{ps:ai d3}(h:∀us:ai dS,us.aj=ps.aj->Ν fd ⟨us,[]⟩=vo (ps.wk us)):ZS K fd ps []:=λs us _ hl=>by
 grind [_L.Ô]
section
variable{k:ar}{f:f'}{ps:ai d3}{rF:ai V}{ds:ai dS}{E:XK}{m:d3}{YW:vY}{o:pN}{t:TA}
structure zeX(K:Fg)(C f:f'):Prop where
 makes:oa.W.makesIn K C=true
 Z3:ϙ K (.bj C) "__init__"=ab (ab (.bj f))
 fn:oa.W.isFn K (.bj f)=true
 kp:_V K (.bj C)=true
end
section
variable{k:ar}{f:f'}{ps ks:ai d3}{E:XK}{m:d3}{YW ze7:vY}{o:pN}{kws:ai ZI}{t tk:TA}{nm:fv d3}
structure zeP(K:Fg)(fd:ZT)(ps ks:ai d3)(g:ai dS->ai dS->ai dS)(gV:ai V->ai V->ai V):Prop where
 to:∀(s:oU)(us ws:ai dS),K.In s.a5->(g us ws).aj=ps.aj->_L s fd ⟨us,ks.wk ws⟩ (ps.wk (g us ws))
 nN:∀{vs:ai V}{us:ai dS}{zs:ai V}{ws:ai dS},sS vs us->sS zs ws->sS (gV vs zs) (g us ws)
variable{g:ai dS->ai dS->ai dS}{gV:ai V->ai V->ai V}
end
structure fG(N P:ai d3)(sc:yz):Prop where
 xx:sc.xx=.Z0
 co:sc.ï=false
 gen:sc.ð=false
 nd:N.x6
 pre:N.vA P.aj=P
 Α:∀x∈P,sc.pM.gr x=ab .local\/sc.pM.gr x=ab .t9
 fB:∀y∈sc.pM,y.2≠.rD
theorem MV{yt:d3->fv Vo}:∀{ϓ:ai (d3×dS)}{m:d3->fv dS},(∀v,(x,v)∉ϓ)->ϒ yt ϓ m x=m x
 |[],_,_=>rfl
 |(n,v)::r,m,h=>by
  unfold ϒ;rw[MV λw hw=>h w (w0u _ hw)]
  split
  all_goals grind
theorem MW{yt:d3->fv Vo}:∀{ϓ:ai (d3×dS)}{m:d3->fv dS},(∀v,(x,v)∉ϓ)->ϑ yt ϓ m x=m x
 |[],_,_=>rfl
 |(n,v)::r,m,h=>by
  unfold ϑ;rw[MW λw hw=>h w (w0u _ hw)]
  split
  all_goals grind
theorem MX{yt:d3->fv Vo}{x:d3}{v:dS}:∀{P:ai d3}{vs:ai dS}{i:ar}{m:d3->fv dS},P.x6->P[i]?=ab x->vs[i]?=ab v->yt x=ab .local ->
  ϒ yt (P.wk vs) m x=ab v
 |[],_,_,_,_,h,_,_=>by simp at h
 |_::_,[],_,_,_,_,h,_=>by simp at h
 |p::P,w::vs,0,m,nd,h1,h2,hk=>by
  simp at h1 h2;subst h1;subst h2;show ϒ yt ((p,w)::P.wk vs) m p=_;unfold ϒ;rw[MV λv hv=>(w2s.mp nd).1 (w3k hv).1,og hk]
  simp
 |p::P,w::vs,i+1,m,nd,h1,h2,hk=>by
  show ϒ yt ((p,w)::P.wk vs) m x=_;unfold ϒ;exact MX (i:=i) (w2s.mp nd).2 (by simpa using h1) (by simpa using h2) hk
theorem MY{yt:d3->fv Vo}{x:d3}{v:dS}:∀{P:ai d3}{vs:ai dS}{i:ar}{m:d3->fv dS},P.x6->P[i]?=ab x->vs[i]?=ab v->yt x≠ab .local ->
  ϑ yt (P.wk vs) m x=ab v
 |[],_,_,_,_,h,_,_=>by simp at h
 |_::_,[],_,_,_,_,h,_=>by simp at h
 |p::P,w::vs,0,m,nd,h1,h2,hk=>by
  simp at h1 h2;subst h1;subst h2;show ϑ yt ((p,w)::P.wk vs) m p=_;unfold ϑ;rw[MW λv hv=>(w2s.mp nd).1 (w3k hv).1,sU hk]
  simp
 |p::P,w::vs,i+1,m,nd,h1,h2,hk=>by
  show ϑ yt ((p,w)::P.wk vs) m x=_;unfold ϑ;exact MY (i:=i) (w2s.mp nd).2 (by simpa using h1) (by simpa using h2) hk
def Z_(N:ai d3)(vs:ai V):St:=vs.aT ab++ai.v5 (N.aj-vs.aj) none
def iG(CX:mU)(P:wO)(w:vq)(K:Fg)(mg:d3->fv dS)(j3:gw)(N:ai d3)(p6:d3)(d0:yz)(f:f')(cd:dS)(A:C7)(qp:ai Rb)(s:oU)(H:Hp)(E:XK):Cx where
 jd:=P
 w:=w
 K:=K
 mg:=mg
 j3:=j3
 A:=A.ZE (_e p6 d0 s.a5.fy.dt f cd)
 N:=N
 aA:=s
 aG:=H
 a7:=_e p6 d0 s.a5.fy.dt f cd
 qp:=qp
 Yd:=_e p6 d0 s.a5.fy.dt f cd::qp
 ex:=[]
 TR:=true
 fn:=λ_=>true
 pn:=[]
 xe:=λe s'=>oS (q_ P w) (A.ZE (_e p6 d0 s.a5.fy.dt f cd)) (leaving (_e p6 d0 s.a5.fy.dt f cd) e) (λ_ iq=>CX qp H s E e iq) (λe' iq=>CX qp H s E e' iq) s'
def NH{sc:yz}{n:ar}(h:sc.pM.gr x=ab .t9):∃c,(è n sc.pM []).gr x=ab c:=by
 have q:=oa.W.zbY sc.pM n [] (.j' h);exact w4l.mp q
def X5{P:wO}{ps:ai d3}{p6:d3}{d0:yz}{f:f'}{cd:dS}{qp:ai Rb}{s1:oU}{E:XK}{us:ai dS}{vs:ai V}
  (S:fG N ps d0)(hd:A.Zj=none)(e0:f6 P w K mg j3 A qp s H)(hl:vs.aj=ps.aj)(r:sS vs us)
  (x:InCallC s s.a5.fy.dt (ϒ (_e p6 d0 s.a5.fy.dt f cd).yt (ps.wk us) λ_=>none) (è (s.a5.fy.dt+1) d0.pM []) (ϑ (_e p6 d0 s.a5.fy.dt f cd).yt (ps.wk us) λ_=>none) s1):
  je (iG CX P w K mg j3 N p6 d0 f cd A qp s H E) [] (Z_ N vs) H s1:=by
 have d9:ps.aj<=N.aj:=by have:=_d ai.aj S.pre;grind
 let⟨h1,tk,rfl,hk⟩:=x.done;have nY:∀b:f',b∉(iG CX P w K mg j3 N p6 d0 f cd A qp s H E).ex:=λb z=>uP (show b∈([]:ai f')from z) (by simp)
 refine⟨⟨e0.Yh,S.xx,rfl,rfl,w0e _,λy z c h1 h2=>?_,λy hy=>?_,λy c _ h=>?_,λ_=>hd,C7.Œ e0.Yy,.mv ⟨rfl,rfl⟩,λb z=>uP z (nY b),e0.bs,e0.l_,λb _ _=>nY b,λb z=>uP z (nY b),e0.eQ,e0.m6,e0._a⟩,
  rfl,e0.QN,Un.Ya hk,⟨_,x.toInCall.ns,λi y v h1 h2 h3=>?_⟩,λy c h=>⟨_,x.t9 y c h⟩,e0.aL.xS (w0e _),λy c h=>?_,λp hp=>uP (show p∈([]:ai (f'×sy))from hp) (by simp),e0.aL.Ya hk,?_⟩
 .exact name_of_addr x.apart (oa.ZL h1) (oa.ZL h2)
 .have hy:d0.pM.gr y=ab .t9\/d0.pM.gr y=ab .rD:=hy;rcases hy with hy|hy
  .exact NH hy
  .exact uP rfl (S.fB _ (oa.ZL hy))
 .exact w3q (x.Λ y c (oa.ZL h))
 .have hi:i<vs.aj:=by
   grind [Z_]
  have ha:vs[i]?=ab v:=by
   grind [Z_]
  let⟨u,hu,rv⟩:=r.Df ha
  have hp:ps[i]?=ab y:=by
   rw[<- S.pre,ai.getElem?_take_of_lt (by omega)];exact h1
  have Le:ps.x6:=by rw[<- S.pre];exact S.nd.sublist (ai.take_sublist _ _)
  refine⟨u,rv,?_⟩;rcases S.Α y (w0s hp)with k|k
  .exact .j' ⟨k,MX Le hp hu k⟩
  .let⟨c,e⟩:=NH (n:=s.a5.fy.dt+1) k;refine .mv ⟨.j' k,c,e,?_⟩;have q:=x.t9 y c e;rw[MY Le hp hu (by show d0.pM.gr y≠_;rw[k];decide)]at q;exact q
 .exact e0.aL.xS (w3q (x.Λ y c (oa.ZL h)))
 .unfold Z_;show _=N.aj
  grind
def Su{P:wO}{k:ar}{f:f'}{name p6:d3}{r5:_m}{rK:ai Rl}{d0:yz}{dV kV Yx pm ez ct oc:dS}{an od:fv f'}
  {vB:yx (fv dS)}{ps:ai d3}(lk:K.gr f=ab ⟨oc,od,.Zn (oa.W.Ο name p6 r5 rK d0 dV kV Yx pm an ez ct),vB⟩)(eE:oa.W._Q K ez p6=true)(S:fG N ps d0)
  (vn:∀vs H Q E,sp vs H Q E->vs.aj=ps.aj)
  (zeB:∀(A:C7)(qp:ai Rb)(s:oU)(H:Hp)(vs:ai V)(Q:VK)(E:XK),bp k (A.ZE (_e p6 d0 s.a5.fy.dt f ez))->sp vs H Q E ->
   ∃t,lV (iG CX P w K mg j3 N p6 d0 f ez A qp s H E) rK t/\t {nx:=λ_ H'=>Q .aF H',rt:=Q} (Z_ N vs) H):
  ei P w K mg j3 CX (k+1) f (oa.W.Ο name p6 r5 rK d0 dV kV Yx pm an ez ct) ps sp:=by
 refine⟨vn,λA qp s H args us vs Q E hr e0 hb r oA=>?_⟩
 have hl:=vn _ _ _ _ oA;have KX:K.In s.a5:=e0.Yh.yC.Yp λb o e=>(e0.bs b o e).1
 have lim:s.a5.ϸ:=e0.Yh.Ó.Yp λb o e=>(e0.bs b o e).1
 have zeD:∀y∈ps.wk us,d0.pM.gr y.1=ab .local\/(d0.pM.gr y.1=ab .t9/\((è (s.a5.fy.dt+1) d0.pM []).gr y.1).Bt=true):=fun⟨n,v⟩ hy=>by
  rcases S.Α n (w3k hy).1 with q|q
  all_goals grind [W.zbY]
 refine codeAny_call_function hr.vg (KX _ _ lk) rfl S.co S.gen rfl (oa.W.codeRec_of KX eE) (hb _ _ _ _ ?_)
 refine wpAny_newFunctionEnv_cells S.xx zeD λa7 he s1 x=>?_
 subst he;refine⟨lim.Yp x.toInCall.wN,codeAny_func ?_⟩
 let⟨t,ht,hq⟩:=zeB A qp s H vs Q E (hr.ZE _) oA;have I:je (iG CX P w K mg j3 N p6 d0 f ez A qp s H E) [] (Z_ N vs) H s1:=X5 S hr.hd e0 hl r x;refine Zz (ht [] s1 (Z_ N vs) H _ I hq) (λfl s' hs=>?_) λe s' hs=>hs
 have ye:∀{aP:St}{H':Hp}{v:V}{u:dS},je (iG CX P w K mg j3 N p6 d0 f ez A qp s H E) [] aP H' s'->uu v u->Q v H'->CE qp P w H s Q u s':=
  λ{aP H' v u} J rv q=>⟨v,H',J.os,J.QN,J.j3,J.aL,rv,q⟩
 cases fl with
 |KJ u=>
  let⟨v,aP,H',J,rv,q⟩:=hs;exact ye J rv q
 |next=>
  let⟨aP,H',J,q⟩:=hs;exact ye (v:=V.aF) (u:=dS.none) J rfl q
 |_z=>
  let⟨_,_,_,q⟩:=hs;exact vk.oP q
 |_A=>
  let⟨_,_,_,q⟩:=hs;exact vk.oP q
section
variable{t:TA}{id T:Yv}{r:ai V->Hp->VK->Prop}
def HI(r:ai V->Hp->VK->Prop)(t:TA):TE:=λσ H Q=>t σ H λvs H1=>r vs H1 Q
def NI(hc:dg X (.yR id) r)(hg:Gl X x)(hm:X.mg x=none)(hv:ζ x=ab (.yR id))(ha:PA X (e::es) t)(hn:autoParam (x≠"__name__") jK)(jH:autoParam ((x==("__debug__":d3))=false) jK)
  (he:autoParam (p5 (e::es) X.a7=(false,eval e X.a7)::p5 es X.a7) jJ)(d9:autoParam ((A4 gJ (p5 es X.a7)).vb (·.1)=false) jJ):PE X (.wc (.oL x p) (e::es) [] gJ) (HI r t):=by
 intro cf s σ H Q I h;refine ο (qM I hg hm hv ?_ hn jH);exact L1.Mk.callWith_builtin1 (bw (ha gJ cf s σ H _ I h) λus s1 ⟨vs,H1,I1,r1,q1⟩=>hc cf s1 σ H1 vs us Q I1 r1 q1) he d9
def MZ(hc:dg X (.ny T) r)(hg:Gl X x)(hm:X.mg x=none)(hv:ζ x=ab (.ny T))(ha:PA X (e::es) t)(hn:autoParam (x≠"__name__") jK)(jH:autoParam ((x==("__debug__":d3))=false) jK)
  (he:autoParam (p5 (e::es) X.a7=(false,eval e X.a7)::p5 es X.a7) jJ)(d9:autoParam ((A4 gJ (p5 es X.a7)).vb (·.1)=false) jJ):PE X (.wc (.oL x p) (e::es) [] gJ) (HI r t):=by
 intro cf s σ H Q I h;refine ο (qM I hg hm hv ?_ hn jH);exact L1.Mk.ϭ (bw (ha gJ cf s σ H _ I h) λus s1 ⟨vs,H1,I1,r1,q1⟩=>hc cf s1 σ H1 vs us Q I1 r1 q1) he d9
end
end L2
namespace HT
open PySem PyProof.Rows
section
variable{jd:wO}{w:vq}{A:C7}{E:dS->oU->Prop}{s:oU}
def zdb{t b:f'}{vs ws:ai dS}{Q:dS->oU->Prop}(ht:_n s.a5 t vs.k8)(hb:_n s.a5 b ws.k8)(hv:vs≠[])
  (h1:ws=[]->Q (.bj t) s)(h2:ws≠[]->Q (.bj s.a5.fy.dt) {s with a5:=s.a5.si {oh:=.ny "tuple", oo:=.pJ (vs++ws).k8}})
  (hsz:vs.aj+ws.aj<=vr):oS (q_ jd w) A (ZX .Add (.bj t) (.bj b)) Q E s:=by
 let⟨⟨oh,dd,oo,sl⟩,ho,hc,n,hd⟩:=id ht;let⟨⟨xQ,tF,data2,xn⟩,qD,de,n2,Zo⟩:=id hb;simp only at hc hd de Zo;subst hc hd de Zo;have e:vs.k8++ws.k8=(vs++ws).k8:=by simp
 by_cases hw:ws=[]
 .exact Đ ⟨_,ho,rfl⟩ ⟨_,qD,rfl⟩ Ŝ Ŧ oa.F.ŧ oa.F.ō (oa.F.ŀ _ _)
   (tuple_addW1 t b vs.k8 ws.k8 n n2 dd tF sl xn (by simpa using hv) (by simp[hw])) ⟨ho,qD,h1 hw⟩
 .refine Đ ⟨_,ho,rfl⟩ ⟨_,qD,rfl⟩ Ŝ Ŧ oa.F.ŧ oa.F.ō (oa.F.ŀ _ _)
   (tuple_addW2 t b vs.k8 ws.k8 n n2 dd tF sl xn (by simpa using hv) (by simpa using hw) (by grind)) ⟨ho,qD,?_⟩
  rw[e];exact h2 hw
def cz(n d:ar):fv a6->ar
 |none=>d
 |ab v=>if v<0 then(v+(n:a6)).t8 else min v.t8 n
theorem lN(n d:ar):cz n d none=d:=rfl
def eW(n d k:ar):cz n d (ab (k:a6))=min k n:=by
 show(if(k:a6)<0 then((k:a6)+(n:a6)).t8 else min (k:a6).t8 n)=min k n;rw[sU (by omega),w1s]
def z8n(n d:ar)(hd:d<=n)(o:fv a6):cz n d o<=n:=by
 cases o with
 |none=>exact hd
 |ab v=>
  show(if v<0 then(v+(n:a6)).t8 else min v.t8 n)<=n
  grind
def OU(v:a6)(n d:ar):(if v<0 then max (v+(n:a6)) 0 else min v (n:a6))=((cz n d (ab v):ar):a6):=by
 show(if v<0 then max (v+(n:a6)) 0 else min v (n:a6))=(((if v<0 then(v+(n:a6)).t8 else min v.t8 n):ar):a6)
 grind
def XD(lo hi:fv a6)(n:ar):u5._O.sliceAdjust lo hi 1 (n:a6)=(((cz n 0 lo:ar):a6),((cz n n hi:ar):a6)):=by
 have h1:¬((1:a6)<0):=by omega
 unfold u5._O.sliceAdjust;simp only[h1,_C];refine Prod.ext ?_ ?_
 .cases lo with
  |none=>rfl
  |ab v=>exact OU v n 0
 .cases hi with
  |none=>rfl
  |ab v=>exact OU v n n
def Xv(i j:ar):u5._O.slicePlaces (i:a6) (j:a6) 1=j-i:=by
 unfold u5._O.slicePlaces
 grind
def Xw{v:dS}{o:fv a6}{Q:fv a6->oU->Prop}(p:υ v o)(h:Q o s):oS (q_ jd w) A (u5._O.slicePartIndex v) Q E s:=by
 cases p with
 |none=>exact zdn h
 |aO i t=>exact slicePart_int h
def VC{sl:f'}{vl vu:dS}{lo hi:fv a6}{n:ar}{Q:a6×a6×ar->oU->Prop}(hs:s.a5.ĉ sl vl vu .none)(pl:υ vl lo)(pu:υ vu hi)
  (h:Q (((cz n 0 lo:ar):a6),1,cz n n hi-cz n 0 lo) s):oS (q_ jd w) A (u5._O.zdm (.bj sl) (vo (n:a6))) Q E s:=by
 let⟨os,rZ,rO,Bi⟩:=id hs;unfold u5._O.zdm u5._O.sliceFields;refine lb (lb (_b rZ Bi (x:=vl) rfl (lb (_b rZ Bi (x:=vu) rfl (lb (_b rZ Bi (x:=.none) rfl (tW ?_)))))));refine lb (zdn ?_);show oS _ _ (if((1:a6)==0)=true then _ else _) _ _ s;rw[sU (by decide)]
 grind [lb,Xw,tW,XD,Xv]
def za5(xs:yx dS)(i k:ar):((ai.zd k).Ϯ fun(m:ar)=>xs[((i:a6)+(m:a6)*1).t8]?).k8=((xs.vZ.wa i).vA k).k8:=by
 have e:(fun(m:ar)=>xs[((i:a6)+(m:a6)*1).t8]?)=λm=>xs[i+m]?:=by
  grind
 rw[e];have:=pick_run xs i k;rw[ai.filterMap_map]at this;have e2:((λx=>xs[x]?) ∘ λx=>i+x)=λm=>xs[i+m]?:=rfl
 grind
def zcm{t sl:f'}{p9:yx dS}{vl vu:dS}{lo hi:fv a6}{Q:dS->oU->Prop}(ht:_n s.a5 t p9)(hs:s.a5.ĉ sl vl vu .none)(pl:υ vl lo)(pu:υ vu hi)
  (hw:¬(cz p9.dt 0 lo=0/\cz p9.dt p9.dt hi=p9.dt))
  (h:Q (.bj s.a5.fy.dt) {s with a5:=s.a5.si {oh:=.ny "tuple", oo:=.pJ ((p9.vZ.wa (cz p9.dt 0 lo)).vA (cz p9.dt p9.dt hi-cz p9.dt 0 lo)).k8}})
  (hsz:p9.dt<=vr):oS (q_ jd w) A (ϛ (.bj t) (.bj sl)) Q E s:=by
 have m_:sizeOk (.pJ ((p9.vZ.wa (cz p9.dt 0 lo)).vA (cz p9.dt p9.dt hi-cz p9.dt 0 lo)).k8):=by
  show((p9.vZ.wa (cz p9.dt 0 lo)).vA (cz p9.dt p9.dt hi-cz p9.dt 0 lo)).k8.dt<=vr;rw[w1j,w2p,w3t,w3z];exact w0r (ar.zcM _ _) (w0r (ar.sub_le _ _) hsz)
 have hj:cz p9.dt p9.dt hi<=p9.dt:=z8n _ _ (w0e _) hi;let⟨os,rZ,rO,Bi⟩:=id hs;have TH:s.Κ (.bj sl) "slice":=⟨os,rZ,rO⟩;unfold ϛ;try with_reducible refine _I ?_
 first|refine lb (tW ?_)|skip
 refine lb (wpAny_sequenceKey ht.ZH (by decide) ?_)
 refine lb (Ü (name:=d3.Zk "__getitem__") ht.ZH L1.Mk.ġ
  (ÿ L1.Mk.ġ ht.ZH entry_tuple_getitem ?_ (args_tuple_getitem _ _)))
 show oS _ _ (u5.Yo.tupleItemsOf (.bj t) >>= _) _ _ s;refine lb (tupleItemsOf_ ht ?_);refine lb (ź TH ?_);rw[og (by decide)];refine lb (VC hs pl pu ?_)
 have Ue:¬((((cz p9.dt 0 lo:ar):a6)==0&&(1:a6)==1&&(cz p9.dt p9.dt hi-cz p9.dt 0 lo)==p9.dt)=true):=by
  intro q;rw[w0t,w0t]at q;have q1:((cz p9.dt 0 lo:ar):a6)=0:=ŏ q.1.1;have q2:cz p9.dt p9.dt hi-cz p9.dt 0 lo=p9.dt:=ŏ q.2;exact hw ⟨by omega,by omega⟩
 show oS _ _ (if(((cz p9.dt 0 lo:ar):a6)==0&&(1:a6)==1&&(cz p9.dt p9.dt hi-cz p9.dt 0 lo)==p9.dt)=true then _ else _) _ _ s;rw[sU Ue,za5]
 first
  |exact lb (m:=u5.Yo.Û _) (Ψ (tW ⟨_,rfl,tW h⟩) m_)
  |exact lb (m:=u5.Yo.Û _) (Ψ (lb (tW (tW ⟨_,rfl,tW h⟩))) m_)
  |exact lb (lb (m:=u5.Yo.Û _) (Ψ (tW (tW ⟨_,rfl,tW h⟩)) m_))
  |exact lb (lb (m:=u5.Yo.Û _) (Ψ (tW ⟨_,rfl,tW h⟩) m_))
end
end HT
namespace L2
open PySem PySem.Spec PyProof.Rows
variable{A:C7}{X:Cx}{H:Hp}{cf:ai (f'×sy)}{xs:ai V}{ax us:ai dS}{n:ar}{s:oU}{σ:St}{α:Type}{x:V}{v:dS}
abbrev TO:=St->Hp->(fv a6->Hp->Prop)->Prop
def PO(X:Cx)(e:fv pN)(t:TO):Prop:=
 ∀(cf:ai (f'×sy))(s:oU)(σ:St)(H:Hp)(Q:fv a6->Hp->Prop),je X cf σ H s->t σ H Q ->
  oS (q_ X.jd X.w) X.A (evalPart e X.a7) (λu s'=>∃o H',je X cf σ H' s'/\υ u o/\Q o H') X.xe s
def zdi:TO:=λ_ H Q=>Q none H
def AM(t:TE):TO:=λσ H Q=>t σ H λx H1=>∃i,x=.aO i/\Q (ab i) H1
section
variable{e:pN}{te:TE}{lo hi:fv pN}{tl th:TO}{gJ p2:vY}
def z23:PO X none zdi:=by
 intro cf s σ H Q I h;rw[zcd];exact tW ⟨none,H,I,.none,h⟩
def z24(h:PE X e te):PO X (ab e) (AM te):=by
 intro cf s σ H Q I hw;rw[evalPart_some];refine bw (h cf s σ H _ I hw) λu s1 ⟨x,H1,I1,r1,q1⟩=>?_
 let⟨i,rfl,q⟩:=q1;let⟨t,rfl⟩:=r1;exact⟨ab i,H1,I1,.aO i t,q⟩
def tf(X:Cx)(r:V->fv a6->fv a6->Hp->VK->Prop):Prop:=
 ∀(cf:ai (f'×sy))(s:oU)(σ:St)(H:Hp)(x:V)(v vl vu:dS)(lo hi:fv a6)(sl:f')(Q:VK),je X cf σ H s->uu x v->s.a5.ĉ sl vl vu .none->υ vl lo->υ vu hi->r x lo hi H Q ->
  ∃T id,ĭ (.ny T) "__getitem__"=vo (ab (.yR id))/\s.Κ v T/\oS (q_ X.jd X.w) X.A (ϛ v (.bj sl)) (EP X cf σ Q) X.xe s
def tf.or{r r':V->fv a6->fv a6->Hp->VK->Prop}(h:tf X r)(h':tf X r'):tf X (λx lo hi H Q=>r x lo hi H Q\/r' x lo hi H Q):=by
 intro cf s σ H x v vl vu lo hi sl Q I rx hs pl pu q;rcases q with q|q
 .exact h cf s σ H x v vl vu lo hi sl Q I rx hs pl pu q
 .exact h' cf s σ H x v vl vu lo hi sl Q I rx hs pl pu q
def Vn(r:V->fv a6->fv a6->Hp->VK->Prop)(te:TE)(tl th:TO):TE:=λσ H Q=>te σ H λx H1=>tl σ H1 λl H2=>th σ H2 λu H3=>r x l u H3 Q
def za6{r:V->fv a6->fv a6->Hp->VK->Prop}(hr:tf X r)(he:PE X e te)(hl:PO X lo tl)(hu:PO X hi th):PE X (.Yw e (._O lo hi none p2) gJ) (Vn r te tl th):=by
 intro cf s σ H Q I h;refine Ľ (bw (he cf s σ H _ I h) λv s1 ⟨x,H1,I1,r1,q1⟩=>?_)
 refine wpAny_Slice (bw (hl cf s1 σ H1 _ I1 q1) λvl s2 ⟨l,H2,I2,pl,q2⟩=>bw (hu cf s2 σ H2 _ I2 q2) λvu s3 ⟨u,H3,I3,pu,q3⟩=>?_)
 rw[zcd];refine tW ?_;have I4:je X cf σ H3 {s3 with a5:=s3.a5.si {oh:=.ny "slice", oo:=.Rm #[vl,vu,.none]}}:=I3.Ya (t':=s3.sP) λb ob q=>gw.v7 _ q
 let⟨T,id,hT,ht,hg⟩:=hr cf {s3 with a5:=s3.a5.si {oh:=.ny "slice", oo:=.Rm #[vl,vu,.none]}} σ H3 x v vl vu l u s3.a5.fy.dt Q I4 r1 (gw.ĉ.yL ..) pl pu q3;show oS (q_ X.jd X.w) X.A (Ŭ e (._O lo hi none p2) v (.bj s3.a5.fy.dt)) (EP X cf σ Q) X.xe {s3 with a5:=s3.a5.si {oh:=.ny "slice", oo:=.Rm #[vl,vu,.none]}};exact Ů (ops:=[.bj s3.a5.fy.dt,v]) ht hT hg (by with_unfolding_all rfl)
def jG(xs:ai V)(lo hi:fv a6):ai V:=(xs.wa (HT.cz xs.aj 0 lo)).vA (HT.cz xs.aj xs.aj hi-HT.cz xs.aj 0 lo)
def L9(xs:ai V)(lo hi:fv a6):(jG xs lo hi).aj<=xs.aj:=by
 unfold jG;rw[w2p,w3t];exact w0r (ar.zcM _ _) (ar.sub_le _ _)
def HB(K:Fg):V->fv a6->fv a6->Hp->VK->Prop:=λx lo hi H Q=>∃a xs,x=.bj a/\c7 K H a xs /\
 ¬(HT.cz xs.aj 0 lo=0/\HT.cz xs.aj xs.aj hi=xs.aj)/\∀p,H p=none->Q (.bj p) (ot H p (.gs (jG xs lo hi)))
def z8o:tf X (HB X.K):=by
 intro cf s σ H x v vl vu lo hi sl Q I rx hs pl pu h;let⟨a,xs,rfl,hx,hw,q⟩:=h;cases rx;let⟨ax,r,ht,hz⟩:=I.UH hx;have v_:ax.k8.dt=xs.aj:=by rw[w1j];exact r.aj.symm
 refine⟨"tuple", _,L1.Mk.ġ.gr,ht.ZH,?_⟩;refine HT.zcm ht hs pl pu (by rw[v_];exact hw) ?_ (by rw[v_];exact hz);rw[v_];refine⟨.bj s.a5.fy.dt,_,I.Lf (t':=s.sP) (o:=.gs (jG xs lo hi)) (λb ob q=>gw.v7 _ q) (w0e _) ?_,rfl,q _ (I.aL.xS (w0e _))⟩
 exact⟨w0r (L9 xs lo hi) hz,_,(r.wa (HT.cz xs.aj 0 lo)).vA (HT.cz xs.aj xs.aj hi-HT.cz xs.aj 0 lo),_n.yL _ _,_,gw.A9 _ rfl,rfl⟩
def qa(K:Fg):R2:=λx y H Q=>∃a b xs ys,x=.bj a/\y=.bj b/\c7 K H a xs/\c7 K H b ys/\xs≠[]/\xs.aj+ys.aj<=vr /\
 (ys=[]->Q (.bj a) H)/\(ys≠[]->∀p,H p=none->Q (.bj p) (ot H p (.gs (xs++ys))))
def sS.kE(r:sS xs us):us=[]↔xs=[]:=by
 cases r with
 |rA=>simp
 |qY _ _=>simp
def zdz:fe X (ZX .Add) (qa X.K):=by
 intro cf s σ H x y v u Q I rx ry h;let⟨a,b,xs,ys,rfl,rfl,ha,hb,hx,hz,q1,q2⟩:=h;cases rx;cases ry;let⟨ax,r1,p1,_⟩:=I.UH ha;let⟨fu,r2,p2,_⟩:=I.UH hb;refine HT.zdb p1 p2 (λz=>hx (r1.kE.mp z)) (λz=>⟨.bj a,H,I,rfl,q1 (r2.kE.mp z)⟩) (λz=>?_) (by rw[<- r1.aj,<- r2.aj];exact hz)
 refine⟨.bj s.a5.fy.dt,_,I.Lf (t':=s.sP) (o:=.gs (xs++ys)) (λb ob q=>gw.v7 _ q) (w0e _) ?_,rfl,q2 (λw=>z (r2.kE.uR w)) _ (I.aL.xS (w0e _))⟩
 exact⟨by rw[w1t];exact hz,_,r1.YX r2,_n.yL _ _,_,gw.A9 _ rfl,rfl⟩
end
def nh(n:ar)(i:a6):fv ar:=if 0<=i then(if i<n then ab i.t8 else none)else if -(n:a6)<=i then ab (i+n).t8 else none
def ee(xs:ai α)(i:a6):fv α:=(nh xs.aj i).r7 λj=>xs[j]?
def OV{i:a6}{j:ar}(h:nh n i=ab j):seqIndex? i n=ab j/\j<n/\-(n:a6)<=i/\i<n:=by
 unfold nh at h
 by_cases h0:0<=i
 .rw[og h0]at h
  by_cases h1:i<n
  .rw[og h1]at h
   grind [ť]
  grind
 .rw[sU h0]at h
  by_cases h1:-(n:a6)<=i
  .rw[og h1]at h
   grind [Ť]
  grind
def IP{xs:ai α}{i:a6}{v:α}(h:ee xs i=ab v):∃j,seqIndex? i xs.aj=ab j/\xs[j]?=ab v/\j<xs.aj/\-(xs.aj:a6)<=i/\i<xs.aj:=by
 unfold ee at h;cases e:nh xs.aj i with
 |none=>rw[e]at h;cases h
 |ab j=>
  rw[e]at h;let⟨h1,h2,h3,h4⟩:=OV e;exact⟨j,h1,h,h2,h3,h4⟩
def oC{xs:ai α}{j:ar}{v:α}(h:xs[j]?=ab v):ee xs (j:a6)=ab v:=by
 have hj:j<xs.aj:=(w0c.mp h).1
 simp_all [nh,ee]
def iU(b:pN):Prop:=∀o i,Ĩ b false o i=Š [o,i] (ϛ o i)
def oN(X:Cx)(r:R2):Prop:=
 ∀(ZQ _j:pN)(cf:ai (f'×sy))(s:oU)(σ:St)(H:Hp)(x y:V)(v u:dS)(Q:VK),je X cf σ H s->uu x v->uu y u->r x y H Q ->
  Ĩ _j false v u=Š [v,u] (ϛ v u)->oS (q_ X.jd X.w) X.A (Ŭ ZQ _j v u) (EP X cf σ Q) X.xe s
def uF(X:Cx)(id:Yv)(r:V->ai V->Hp->VK->Prop):Prop:=
 ∀(cf:ai (f'×sy))(s:oU)(σ:St)(H:Hp)(x:V)(xs:ai V)(v:dS)(us:ai dS)(Q:VK),je X cf σ H s->uu x v->sS xs us->r x xs H Q ->
  oS (q_ X.jd X.w) X.A (yd (.yR id) (v::us)) (EP X cf σ Q) X.xe s
section
variable{a b:pN}{ta tb:TE}{gJ:vY}
def oN.or{r r':R2}(h:oN X r)(h':oN X r'):oN X (λx y H Q=>r x y H Q\/r' x y H Q):=by
 intro ZQ _j cf s σ H x y v u Q I rx ry q hs;rcases q with q|q
 .exact h ZQ _j cf s σ H x y v u Q I rx ry q hs
 .exact h' ZQ _j cf s σ H x y v u Q I rx ry q hs
def JN{r:R2}(hr:oN X r)(ha:PE X a ta)(hb:PE X b tb)(hs:iU b):PE X (.Yw a b gJ) (AL r ta tb):=by
 intro cf s σ H Q I h;exact Ľ (uN ha hb I h λv u s2 x y H2 I2 rx ry q=>hr a b cf s2 σ H2 x y v u Q I2 rx ry q (hs _ _))
def Ah(K:Fg):R2:=λx y H Q=>∃p xs i v,x=.bj p/\y=.aO i/\bJ K H p xs/\ee xs i=ab v/\Q v H
def Aj(K:Fg):R2:=λx y H Q=>∃p xs i v,x=.bj p/\y=.aO i/\c7 K H p xs/\ee xs i=ab v/\Q v H
def Ai:R2:=λx y H Q=>∃z i c,x=.str z/\y=.aO i/\z.aj<=vr/\ee z.Yl.vZ i=ab c/\Q (.str ⟨#[c]⟩) H
def zdl:oN X (Ah X.K):=by
 intro ZQ _j cf s σ H x y v u Q I rx ry h hs;let⟨p,xs,i,z,rfl,rfl,hq,he,q⟩:=h;cases rx;let⟨t,rfl⟩:=ry;let⟨ax,r,pl,hz⟩:=I.xE hq;let⟨j,h1,h2,h3,h4,h5⟩:=IP he;let⟨w,ew,sN⟩:=r.Df h2;have hl:=r.aj;have hn:=fw;have ye:EP X cf σ Q w s:=⟨z,H,I,sN,q⟩
 by_cases h0:0<=i
 .have hj:i.t8=j:=by
   grind [ť]
  exact item_listR pl.yP h0 (by omega) (by rw[hj];simpa using ew) ye hs
 .have hj:(i+(ax.k8.dt:a6)).t8=j:=by
   grind [Ť]
  exact zdv (x:=w) pl.yP.ZH zdt.gr
   (wpAny_getItem_list_neg (Q:=λr s'=>r=w/\EP X cf σ Q r s') pl.yP (by omega) (by grind) (by omega) (by rw[hj];simpa using ew) ⟨rfl,ye⟩) hs
def zdU:oN X (Aj X.K):=by
 intro ZQ _j cf s σ H x y v u Q I rx ry h hs;let⟨p,xs,i,z,rfl,rfl,hq,he,q⟩:=h;cases rx;let⟨t,rfl⟩:=ry;let⟨ax,r,pl,hz⟩:=I.UH hq;let⟨j,h1,h2,h3,h4,h5⟩:=IP he;let⟨w,ew,sN⟩:=r.Df h2;have hl:=r.aj;have hn:=fw;have ye:EP X cf σ Q w s:=⟨z,H,I,sN,q⟩
 exact zdv (x:=w) pl.ZH ġ.gr
  (getItem_tuple (j:=j) (Q:=λr s'=>r=w/\EP X cf σ Q r s') pl (by omega) (by omega) (by grind) (by simpa using ew) ⟨rfl,ye⟩) hs
def z8p:oN X Ai:=by
 intro ZQ _j cf s σ H x y v u Q I rx ry h hs;let⟨z,i,c,rfl,rfl,hz,he,q⟩:=h;let⟨t,rfl⟩:=rx;let⟨t',rfl⟩:=ry;let⟨j,h1,h2,h3,h4,h5⟩:=IP he;have hl:z.Yl.vZ.aj=z.aj:=by simp[d3.aj]
 rw[hl]at h1 h4 h5;have hn:=fw
 exact Ů (typeIs_str s z t) slot_str_getitem.gr (getItem_str (c:=c) (by
  grind) (by rw[h1];simpa using h2) ⟨.str ⟨#[c]⟩,H,I.Yn _,⟨_,rfl⟩,q⟩) hs
def LY(K:Fg):R2:=λx y H Q=>Ah K x y H Q\/Aj K x y H Q\/Ai x y H Q
theorem PQ:oN X (LY X.K):=zdl.or (zdU.or z8p)
def Xx(ax:ai dS)(n j:ar)(u:dS):sy.Ys (·.zdk j u) {oh:=.ny "list", oo:=.pJ ax.k8 n}={oh:=.ny "list", oo:=.pJ (ax.sx j u).k8 n}:=by
 simp[sy.Ys]
def je.dI{p:f'}(I:je X cf σ H s)(h:H p=ab (.dI xs)):
  ∃(ax:ai dS)(n:ar),sS xs ax/\s.a5.g0 p=ab {oh:=.ny "list", oo:=.pJ ax.k8 n}/\xs.aj<=vr:=by
 let⟨z,ax,n,r,e⟩:=I.aL p _ h;exact⟨ax,n,r,e,z⟩
def je.zdW{p:f'}{ys:ai V}{its':ai dS}{n':ar}{f:sy->sy}(I:je X cf σ H s)(h:H p=ab (.dI xs))
  (ho:s.a5.g0 p=ab {oh:=.ny "list", oo:=.pJ ax.k8 n})(hf:f {oh:=.ny "list", oo:=.pJ ax.k8 n}={oh:=.ny "list", oo:=.pJ its'.k8 n'})(r:sS ys its')(hz:ys.aj<=vr)(t:ar):
  je X cf σ (ot H p (.dI ys)) {s with a5:=s.a5.Yk p f,sP:=t}:=by
 have e:(s.a5.Yk p f).g0 p=ab {oh:=.ny "list", oo:=.pJ its'.k8 n'}:=by
  rw[gw.zcn f ho (by rw[hf]<;>rfl),hf]
 refine I.ZA (x:=p) (e:=p) (by rw[h];trivial) (.j' rfl) (λb u hb q=>(gw._T _ _ (Ne.symm hb)).ki q) ⟨_,e⟩ ?_
 exact⟨hz,its',n',r,e⟩
def Ap:V->V->V->Hp->(Hp->Prop)->Prop:=λo i v H Q=>∃p xs k j,o=.bj p/\i=.aO k/\H p=ab (.dI xs)/\nh xs.aj k=ab j/\Q (ot H p (.dI (xs.sx j v)))
def za7:xG X Ap:=by
 intro cf s σ H o i v ov iv u Q I zdf zdd rv h;let⟨p,xs,k,j,rfl,rfl,hp,hj,q⟩:=h;cases zdf;let⟨t,rfl⟩:=zdd;let⟨ax,n,r,ho,hz⟩:=I.dI hp;let⟨h1,h2,h3,h4⟩:=OV hj;have hl:=r.aj;have hn:=fw
 have I':je X cf σ (ot H p (.dI (xs.sx j v))) {s with a5:=s.a5.Yk p (sy.Ys (·.zdk j u))}:=
  I.zdW hp ho (Xx ax n j u) (r.sx rv j) (by grind) s.sP
 grind [ť,W.ki_setAt,Ť,W.ki_setBack]
def Wm(lo hi:fv a6)(n:ar):(ϲ lo hi none n).1=((HT.cz n 0 lo:ar):a6)/\(ϲ lo hi none n).2.1=((HT.cz n n hi:ar):a6)/\(ϲ lo hi none n).2.2=1:=by
 refine⟨?_,?_,rfl⟩
 .cases lo with
  |none=>simp[ϲ,HT.cz]
  |ab i=>
   simp only[ϲ,HT.cz,fv.getD_none,show(1:a6)>0 by decide,Z2]
   grind
 .cases hi with
  |none=>simp[ϲ,HT.cz]
  |ab i=>
   simp only[ϲ,HT.cz,fv.getD_none,show(1:a6)>0 by decide,Z2]
   grind
def Wk(ax:ai dS)(lo hi:fv a6):slicePick ax.k8 lo hi none=((ax.wa (HT.cz ax.aj 0 lo)).vA (HT.cz ax.aj ax.aj hi-HT.cz ax.aj 0 lo)).k8:=by
 let⟨h1,h2,h3⟩:=Wm lo hi ax.k8.dt;unfold slicePick;rw[h1,h2,h3];simp only[sliceRange_one,pick_run,w1j]<;>rfl
def HA(K:Fg):V->fv a6->fv a6->Hp->VK->Prop:=λx lo hi H Q=>∃a xs,x=.bj a/\bJ K H a xs/\∀p,H p=none->Q (.bj p) (ot H p (.dI (jG xs lo hi)))
def zdg:tf X (HA X.K):=by
 intro cf s σ H x v vl vu lo hi sl Q I rx hs pl pu h;let⟨a,xs,rfl,hx,q⟩:=h;cases rx;let⟨ax,r,ht,hz⟩:=I.xE hx;have v_:=r.aj;refine⟨"list", _,zdt.gr,ht.yP.ZH,?_⟩;refine wpAny_getItem_list_slice ht.yP hs pl pu .none (by simp) ?_ (by grind);rw[Wk,<- v_];refine⟨.bj s.a5.fy.dt,_,I.Lf (t':=s.sP) (o:=.dI (jG xs lo hi)) (λb ob q=>gw.v7 _ q) (w0e _) ?_,rfl,q _ (I.aL.xS (w0e _))⟩
 exact⟨w0r (L9 xs lo hi) hz,_,0,(r.wa (HT.cz xs.aj 0 lo)).vA (HT.cz xs.aj xs.aj hi-HT.cz xs.aj 0 lo),gw.A9 _ rfl⟩
def fV:V->fC
 |.aF=>true
 |.bl _=>true
 |.aO _=>true
 |.str _=>true
 |_=>false
def qz:V->V->fC
 |.aF,.aF=>true
 |.bl a,.bl b=>a==b
 |.bl a,.aO b=>(if a then 1 else 0)==b
 |.aO a,.bl b=>a==(if b then 1 else 0)
 |.aO a,.aO b=>a==b
 |.str a,.str b=>a==b
 |_,_=>false
def z8q{y:V}{u:dS}(ry:uu y u)(rx:uu x v)(zck:fV y=true)(fx:fV x=true):w7.Rh A s u v (qz y x):=by
 cases y with
 |aF=>
  cases ry;cases x with
  |aF=>cases rx;exact w7.Rh.same _
  |bl b=>cases rx;exact w7.Rh.ñ b
  |aO b=>let⟨t,rfl⟩:=rx;exact w7.Rh.ŝ b t
  |str b=>let⟨t,rfl⟩:=rx;exact w7.Rh.Ş b t
  |_=>exact uP (show false=true from fx) w1m
 |bl a=>
  cases ry;cases x with
  |aF=>cases rx;exact w7.Rh.ç a
  |bl b=>cases rx;exact w7.Rh.Á a b
  |aO b=>let⟨t,rfl⟩:=rx;exact w7.Rh.Ń a b t
  |str b=>let⟨t,rfl⟩:=rx;exact w7.Rh.ń a b t
  |_=>exact uP (show false=true from fx) w1m
 |aO a=>
  let⟨t',rfl⟩:=ry;cases x with
  |aF=>cases rx;exact w7.Rh.ŗ a t'
  |bl b=>cases rx;exact w7.Rh.Ŗ a t' b
  |aO b=>let⟨t,rfl⟩:=rx;exact w7.Rh.î a t' b t
  |str b=>let⟨t,rfl⟩:=rx;exact w7.Rh.đ a t' b t
  |_=>exact uP (show false=true from fx) w1m
 |str a=>
  let⟨t',rfl⟩:=ry;cases x with
  |aF=>cases rx;exact w7.Rh.ū a t'
  |bl b=>cases rx;exact w7.Rh.Ū a t' b
  |aO b=>let⟨t,rfl⟩:=rx;exact w7.Rh.Ħ a t' b t
  |str b=>let⟨t,rfl⟩:=rx;exact w7.Rh.ħ a t' b t
  |_=>exact uP (show false=true from fx) w1m
 |_=>exact uP (show false=true from zck) w1m
def mi(x:V)(u:dS):fC:=match u with
 |.none=>qz .aF x
 |.wF b=>qz (.bl b) x
 |.aO i _=>qz (.aO i) x
 |.str z _=>qz (.str z) x
 |_=>false
def PR{y:V}{u:dS}(r:uu y u)(f:fV y=true):mi x u=qz y x:=by
 cases y with
 |aF=>cases r;rfl
 |bl b=>cases r;rfl
 |aO i=>let⟨t,rfl⟩:=r;rfl
 |str z=>let⟨t,rfl⟩:=r;rfl
 |_=>exact uP (show false=true from f) w1m
theorem zV:∀{xs:ai V}{us:ai dS},sS xs us->xs.tB fV=true->us.vb (mi x)=xs.vb λy=>qz y x
 |_,_,.rA,_=>rfl
 |y::xs,u::us,.qY r t,f=>by
  rw[w2w,w0t]at f;rw[w2x,w2x,PR r f.1,zV t f.2]
theorem zC(rx:uu x v)(fx:fV x=true):∀{xs:ai V}{us:ai dS},sS xs us->xs.tB fV=true->∀u∈us,w7.Rh A s u v (mi x u)
 |_,_,.rA,_=>λu hu=>by cases hu
 |y::xs,u::us,.qY r t,f=>λu' hu=>by
  rw[w2w,w0t]at f;rcases w0g.mp hu with rfl|hu
  .rw[PR r f.1];exact z8q r rx f.1 fx
  .exact zC rx fx t f.2 u' hu
def Br(x:V)(xs:ai V):fC:=xs.vb λy=>qz y x
def CC(K:Fg)(neg:fC):R2:=λx y H Q=>∃p xs,y=.bj p/\(bJ K H p xs\/c7 K H p xs)/\fV x=true/\xs.tB fV=true/\Q (.bl (if neg then !Br x xs else Br x xs)) H
def X6:fe X (ZY .In) (CC X.K false):=by
 intro cf s σ H x y v u Q I rx ry h;let⟨p,xs,rfl,hq,fx,fs,q⟩:=h;cases ry;rcases hq with hq|hq
 .let⟨ax,r,pl,hz⟩:=I.xE hq;refine w7.in_listAt (mi x) pl.yP (λw hw=>zC rx fx r fs w (by simpa using hw)) ⟨.bl _,H,I,rfl,?_⟩
  rw[show ax.k8.vb (mi x)=ax.vb (mi x) by simp,zV r fs];exact q
 .let⟨ax,r,pl,hz⟩:=I.UH hq;refine w7.in_tupleAt (mi x) pl (λw hw=>zC rx fx r fs w (by simpa using hw)) ⟨.bl _,H,I,rfl,?_⟩
  rw[show ax.k8.vb (mi x)=ax.vb (mi x) by simp,zV r fs];exact q
def Wn:fe X (ZY ._o) (CC X.K true):=by
 intro cf s σ H x y v u Q I rx ry h;let⟨p,xs,rfl,hq,fx,fs,q⟩:=h;cases ry;rcases hq with hq|hq
 .let⟨ax,r,pl,hz⟩:=I.xE hq;refine w7.notIn_listAt (mi x) pl.yP (λw hw=>zC rx fx r fs w (by simpa using hw)) ⟨.bl _,H,I,rfl,?_⟩
  rw[show ax.k8.vb (mi x)=ax.vb (mi x) by simp,zV r fs];exact q
 .let⟨ax,r,pl,hz⟩:=I.UH hq;refine w7.notIn_tupleAt (mi x) pl (λw hw=>zC rx fx r fs w (by simpa using hw)) ⟨.bl _,H,I,rfl,?_⟩
  rw[show ax.k8.vb (mi x)=ax.vb (mi x) by simp,zV r fs];exact q
def Wo:dg X (.ny "list") (λxs H Q=>∃p ys,xs=[.bj p]/\(bJ X.K H p ys\/c7 X.K H p ys)/\∀l,H l=none->Q (.bj l) (ot H l (.dI ys))):=by
 intro cf s σ H xs us Q I r h;let⟨p,ys,rfl,hq,q⟩:=h;let⟨u,rfl,rx⟩:=_H r;cases rx
 have ye:∀(ax:ai dS),sS ys ax->ys.aj<=vr->∀(h':gw)(c':ar),(∀b o',s.a5.g0 b=ab o'->h'.g0 b=ab o') ->
   h'.g0 s.a5.fy.dt=ab {oh:=.ny "list", we:=none,oo:=.pJ ax.k8 c',Zd:=#[]}->EP X cf σ Q (.bj s.a5.fy.dt) {s with a5:=h'}:=λax r' hz h' c' kp e=>
  ⟨.bj s.a5.fy.dt,_,I.Lf (t':=s.sP) kp (w0e _) (show aS X.jd X.w _ h' _ (.dI ys)from⟨hz,ax,c',r',e⟩),rfl,q _ (I.aL.xS (w0e _))⟩
 rcases hq with hq|hq
 .let⟨ax,r',pl,hz⟩:=I.xE hq;have v_:=r'.aj;let⟨o,ho,hc,n,hd⟩:=pl.yP;exact zbX p (.j' rfl) ho hc hd (λh' c' kp e=>ye ax r' hz h' c' kp e) (by simp only[w1j]<;>omega)
 .let⟨ax,r',pl,hz⟩:=I.UH hq;have v_:=r'.aj;let⟨o,ho,hc,n,hd⟩:=pl;exact zbX p (.mv rfl) ho hc hd (λh' c' kp e=>ye ax r' hz h' c' kp e) (by simp only[w1j]<;>omega)
def Wl:dg X (.ny "tuple") (λxs H Q=>∃p ys,xs=[.bj p]/\((bJ X.K H p ys/\∀l,H l=none->Q (.bj l) (ot H l (.gs ys)))\/(c7 X.K H p ys/\Q (.bj p) H))):=by
 intro cf s σ H xs us Q I r h;let⟨p,ys,rfl,h⟩:=h;let⟨u,rfl,rx⟩:=_H r;cases rx;rcases h with⟨hq,q⟩|⟨hq,q⟩
 .let⟨ax,r',pl,hz⟩:=I.xE hq;have v_:=r'.aj;refine call_tuple_list pl.yP (λh' kp=>?_) (by grind)
  have I1:je X cf σ H {s with a5:=h'}:=I.Ya (t':=s.sP) kp
  have I2:je X cf σ (ot H h'.fy.dt (.gs ys)) {s with a5:=h'.si {oh:=.ny "tuple", oo:=.pJ ax.k8}}:=
   I1.Lf (t':=s.sP) (λb o e=>gw.v7 _ e) (w0e _) (show aS X.jd X.w _ _ _ (.gs ys)from⟨hz,ax,r',_n.yL _ _,_,gw.A9 _ rfl,rfl⟩)
  exact⟨.bj h'.fy.dt,_,I2,rfl,q _ (I1.aL.xS (w0e _))⟩
 .let⟨ax,r',pl,hz⟩:=I.UH hq;exact call_tuple_same pl ⟨.bj p,H,I,rfl,q⟩
def L8(K:Fg)(T:Yv)(x:V)(H:Hp):Prop:=match x with
 |.str _=>T="str"
 |.aO _=>T="int"
 |.bj p=>(T="list" /\ ∃xs,bJ K H p xs)\/(T="tuple" /\ ∃o,K.gr p=ab o/\o.oh=.ny "tuple" /\ o.we=none) \/
   (T="dict" /\ ((∃kvs,H p=ab (.dK kvs))\/∃sh kvs bt,H p=ab (.dT sh kvs bt)))\/(T="set" /\ ∃S n,H p=ab (.sx S n))
 |_=>vk
def z8r{T:Yv}(I:je X cf σ H s)(r:uu x v)(ty:L8 X.K T x H):
  s.Κ v T/\∀a,v=.bj a->∃ob,s.a5.g0 a=ab ob/\ob.we=none:=by
 cases x with
 |str z=>
  let⟨t,rfl⟩:=r;cases(show T="str" from ty)
  grind [typeIs_str]
 |aO i=>
  let⟨t,rfl⟩:=r;cases(show T="int" from ty)
  grind [û]
 |bj p=>
  cases r;rcases ty with⟨rfl,xs,hq⟩|⟨rfl,o,hk,hc,hd⟩|⟨rfl,hk⟩|⟨rfl,S,n,hk⟩
  .let⟨ax,_,pl,_⟩:=I.xE hq;refine⟨pl.yP.ZH,λa e=>?_⟩
   cases e;let⟨o,n,e,c,hd,_⟩:=pl;exact⟨o,e,hd⟩
  .refine⟨⟨o,I.qG p o hk,hc⟩,λa e=>?_⟩
   cases e;exact⟨o,I.qG _ o hk,hd⟩
  .have z:∃o,s.a5.g0 p=ab o/\o.ż:=by
    rcases hk with⟨kvs,hk⟩|⟨sh,kvs,bt,hk⟩
    .let⟨_,_,_,_,o,_,_,e,ex,_⟩:=I.aL p _ hk;exact⟨o,e,ex⟩
    .let⟨_,_,_,_,_,o,_,_,e,ex,_⟩:=I.aL p _ hk;exact⟨o,e,ex⟩
   let⟨o,e,ex⟩:=z;refine⟨⟨o,e,ex.1⟩,λa e2=>?_⟩
   cases e2;exact⟨o,e,ex.2.1⟩
  .let⟨o,_,_,_,e,ex,_⟩:=I.aL p _ hk;refine⟨⟨o,e,ex.1⟩,λa e2=>?_⟩
   cases e2;exact⟨o,e,ex.2.1⟩
 |_=>exact vk.oP ty
def L5(K:Fg)(T:Yv)(r:V->ai V->Hp->VK->Prop)(to:TE)(t:TA):TE:=λσ H Q=>to σ H λx H1=>L8 K T x H1/\t σ H1 λxs H2=>r x xs H2 Q
variable{o e:pN}{es:ai pN}{to:TE}{t:TA}{name:d3}{YW bI:vY}{T id:Yv}{r:V->ai V->Hp->VK->Prop}
def JO(pa:ſ T)(yM:Slot T name id)(Et:typeOf (.yR id)=vo (.ny "method_descriptor"))(hm:uF X id r)(ho:PE X o to)(ha:PA X (e::es) t)
  (dF:autoParam (Ϗ o name X.a7 (eval o X.a7)=eval o X.a7) jJ)
  (dJ:autoParam (((A4 bI (p5 (e::es) X.a7)).tB (λx=>!x.1)&&(ϐ bI (ϝ [] X.a7)).tB (λx=>x.1.Bt)
   && decide ((e::es).aj+([]:ai ZI).aj+(if([]:ai ZI).UD then 0 else 1)<30))=true) jJ)
  (dN:autoParam ((YW.ϖ==bI.Yq)=true) jJ)(hs:autoParam (p5 (e::es) X.a7=(false,eval e X.a7)::p5 es X.a7) jJ)(cK:autoParam ((A4 bI (p5 es X.a7)).vb (·.1)=false) jJ):
  PE X (.wc (.Δ o name YW) (e::es) [] bI) (L5 X.K T r to t):=by
 intro cf s σ H Q I h;refine wpAny_Call_method_late dF dJ dN rfl (bw (ho cf s σ H _ I h) λv s1 ⟨x,H1,I1,r1,ty,q1⟩=>?_)
 let⟨h1,h2⟩:=z8r I1 r1 ty;refine⟨T,id,pa,yM,Et,h1,h2,?_⟩;have hA:=ha bI cf s1 σ H1 _ I1 q1;rw[hs]at hA |-
 refine Zp.callWith_builtin (by grind) (Zp.evalArgs_plain ?_);exact bw hA λus s2 ⟨vs,H2,I2,r2,q2⟩=>hm cf s2 σ H2 x vs v us Q I2 r1 r2 q2
/- xs.YX(e),xE.index on a zfu UH .. are uF facts of 06m -/
end
def Di(X:Cx)(id:Yv)(r:V->ai V->Hp->VK->Prop):Prop:=
 ∀(cf:ai (f'×sy))(s:oU)(σ:St)(H:Hp)(x:V)(xs:ai V)(v:dS)(us:ai dS)(Q:VK),je X cf σ H s->uu x v->sS xs us->r x xs H Q ->
  oS (q_ X.jd X.w) X.A (yd (.yR id) (v::us)) (EP X cf σ Q) X.xe s
theorem sS.Zg(h:sS [x] us):∃u,us=[u]/\uu x u:=_H h
def sS.UE(h:sS xs us):sS xs.UE us.UE:=by
 induction h with
 |rA=>exact .rA
 |qY r t ih=>rw[w2y,w2y];exact sS.YX ih (.qY r .rA)
theorem sS.yB(h:sS xs us):∀k:ar,sS (ai.v5 k xs).Ym (ai.v5 k us).Ym
 |0=>.rA
 |k+1=>by
  rw[w2l,w2l,w3n,w3n];exact sS.YX h (sS.yB h k)
theorem Ha(ax:ai dS):∀(k:ar)(sT:ai dS),
  ai.ym (λx1 x2=>x1++x2) sT.k8 (ai.v5 k ax.k8)=(sT++(ai.v5 k ax).Ym).k8
 |0,sT=>by simp
 |k+1,sT=>by
  have e:sT.k8++ax.k8=(sT++ax).k8:=by simp
  have e2:(sT++ax)++(ai.v5 k ax).Ym=sT++(ai.v5 (k+1) ax).Ym:=by
   grind
  rw[<- e2,<- Ha ax k (sT++ax),<- e,w2l,w1v]
section
variable{l b:f'}{ys zs:ai V}
def je.yG{its':ai dS}{f:yx dS->yx dS}{t':ar}(I:je X cf σ H s)(hH:H l=ab (.dI xs))
  (e:s.a5.g0 l=ab {oh:=.ny "list", oo:=.pJ ax.k8 n})(hf:f ax.k8=its'.k8)(hv:sS ys its')(hz:ys.aj<=vr):
  je X cf σ (ot H l (.dI ys)) {s with a5:=s.a5.Yk l (sy.Ys f),sP:=t'}:=by
 have q:=oa.IsL.Yk e f;rw[hf]at q;refine I.ZA (x:=l) (e:=l) (by rw[hH];exact trivial) (.j' rfl) (λb' u hb hu=>(gw._T s.a5 (sy.Ys f) (Ne.symm hb)).ki hu) ⟨_,q⟩ ?_
 exact⟨hz,its',_,hv,q⟩
theorem je.yF{t':ar}(I:je X cf σ H s)(hv:sS ys ax)(hz:ys.aj<=vr):
  je X cf σ (ot H s.a5.fy.dt (.dI ys)) {s with a5:=s.a5.si {oh:=.ny "list", oo:=.pJ ax.k8},sP:=t'}:=
 I.Lf (λ_ _ q=>gw.v7 _ q) (w0e _) ⟨hz,ax,0,hv,gw.A9 _ rfl⟩
theorem je.xS(I:je X cf σ H s):H s.a5.fy.dt=none:=I.aL.xS (w0e _)
def je.yH(I:je X cf σ H s)(hH:H l=ab (.dI xs)):xs.aj<=vr/\∃(ax:ai dS)(n:ar),sS xs ax/\xs.aj=ax.aj/\s.a5.g0 l=ab {oh:=.ny "list", oo:=.pJ ax.k8 n}:=by
 let⟨z,ax,n,r,e⟩:=I.aL l _ hH;exact⟨z,ax,n,r,r.aj,e⟩
def lJ(h:n<=vr):u5.ai.Ñ n=false:=by
 grind [u5.ai.Ñ]
end
def nB:V->ai V->Hp->VK->Prop:=λx vs H Q=>∃l xs y,x=.bj l/\vs=[y]/\H l=ab (.dI xs)/\xs.aj<vr/\Q .aF (ot H l (.dI (xs++[y])))
def Hb:Di X "list.append" nB:=by
 intro cf s σ H x vs v us Q I rx rv h;let⟨l,xs,y,rfl,rfl,hH,hz,q⟩:=h;cases rx;let⟨u,rfl,ru⟩:=rv.Zg;let⟨z,ax,n,r,hl,e⟩:=I.yH hH;refine Ξ F.zdr ⟨_,e,rfl⟩ F.entry_list_append (F.args_list_append_2 _ _) (oa.list_append l ax.k8 n u (by grind)) ⟨e,?_⟩;refine⟨.aF,_,I.yG (its':=ax++[u]) hH e (by simp) (r.YX (.qY ru .rA)) ?_,rfl,q⟩
 grind
def IQ(xs:ai α)(k:ar):(ai.v5 k xs).Ym.aj=k*xs.aj:=by
 simp_all
end L2
namespace xp
open PySem PySem.W PySem.Calls PyProof.Rows
def VG{P:â}{h:gw}:∀(ns:ai a6)(vs:ai dS),WellAll P h vs (ns.aT Zr.aO)->Ϧ vs ns:=by
 intro ns
 induction ns with
 |rA=>
  intro vs w;rw[w2k]at w;cases w;exact .rA
 |qY n ns ih=>
  intro vs w;rw[w0k]at w;cases w with
  |qY a b=>
   cases a;exact .qY _ _ (ih _ b)
def M0{l:δ}{n:ar}(hn:l._W=ab n){P:â}{h:gw}{args:ai Zr}{ü:ai dS}
  (nV:l.n9.ϡ.claim.pre args=true)(oB:WellAll P h ü args):
  ∃a vs ns,ü=[dS.bj a]/\args=[Zr.xE (ns.aT Zr.aO)]/\h.g0 a=ab {oh:=.ny "list", oo:=.pJ vs.k8}/\Ϧ vs ns/\ns.aj<=n:=by
 have Ul:ä.hasAll [] args [.xE .aO]=true:=(pre_splitW nV).1;have hc:l.pre.Uh [] {args:=args}=true:=(pre_splitW nV).2;let⟨d,r,rfl,h1,h2⟩:=hasAllW_cons Ul;obtain rfl:=hasAllW_nil h2;let⟨xs,rfl,h3⟩:=hasW_list h1;let⟨ns,rfl⟩:=items_int h3
 have v_:ns.aj<=n:=by
  unfold δ.pre at hc
  have h4:(WTm.not (.lt (.lit (.aO (n:a6))) (.vn (.arg 0)))).Uh [] {args:=[.xE (ns.aT .aO)]}=true:=by
   have h4:=(holds_andW hc).1
   grind
  have h5:=condW_of h4 (w_not (w_lt w_lit (w_len_list (w_arg rfl))))
  grind
 cases oB with
 |qY w1 w2=>
  cases w2;cases w1 with
  |xE ho uZ=>grind [VG]
theorem M1(l:δ)(args:ai Zr):l.n9.ϡ.claim.post args (.wF true) args=true:=
 postW_of (r:=l.n9.ϡ) (X:=(true==true))
  (show ä.yD [] (.wF true) .wF=true by first|rfl|decide|simp[ä.yD,ä.arms,ä.armsAll])
  (show(WTm.eq .res (.lit (.wF true))).ZQ [] {args:=args,res:=ab (.wF true),Ϭ:=args}=ab (.wF (true==true))from w_eq_bool (w_res rfl) w_lit) rfl
def zcw{l:δ}{n:ar}{q:wO}{Ρ:ai d3}{XP:(d3->fv dS)->gw->Prop}{YP:vq->gw->Prop}{d:ĸ}
  (hn:l._W=ab n)(rP:d.r5.Ç=[])
  (yd:∀(w:vq)(aA aE:oU)(mg mb:d3->fv dS)(fa:f')(o:sy)(pm cd Yx:dS)(a:f')(vs:ai dS)(ns:ai a6),
   Ground q Ρ [] XP w aA mg mb aE.a5->YP w aE.a5 ->
   aE.a5.g0 fa=ab o->o.oo=.Zn (docDef d.name d.r5 d.rK d.d0 pm cd Yx)->aE.a5.ķ cd d.name->mg d.name=ab (.bj fa) ->
   aE.a5.g0 a=ab {oh:=.ny "list", oo:=.pJ vs.k8}->Ϧ vs ns->ns.aj<=n->aE.Za=#[] ->
   Zv (q_ l.jd w) _c (.yd (.bj fa) ⟨[.bj a],[]⟩) (λr s'=>r=.ok (.KJ (.wF true))/\Ϩ aE.a5 s'.a5/\s'.os=aE.os/\_l s'.Za) aE):
  å q Ρ XP YP l.n9.ϡ d [] (λf vs=>oa.yd f vs):=by
 intro w aA aE mg mb G Y fa o pm cd Yx dV kV ho hd eE hD hmg hg args ü as nV yp Ui oB Ub;obtain rfl:dV=.none:=Ć.none hD rP;obtain rfl:kV=.none:=Ć.noKw hD;let⟨a,vs,ns,rfl,rfl,mw,Ϝ,v_⟩:=M0 hn nV oB;refine enter_call (η (yd w aA aE mg mb fa o pm cd Yx a vs ns G Y ho (fd_plain hd) eE hmg mw Ϝ v_ hg) λr s' hq=>?_)
 let⟨rfl,h2,h3,h4⟩:=hq;exact⟨.j' ⟨.wF true,.wF true,[],rfl,λ_=>rfl,.wF true,M1 l _,λ_=>⟨ai.Zl.rA,λ_ hm=>(nomatch hm)⟩⟩,h2,h3,h4⟩
section
variable{jd:wO}{w:vq}{A:C7}{E:dS->oU->Prop}{s:oU}{K:Frag}
def ledger(h:gw)(L d:f'):ai (f'×sy):=(ai.zd h.fy.dt).Ϯ λa=>if a=L\/a=d then none else(h.g0 a).aT λo=>(a,o)
end
end xp
namespace L2
open PySem PySem.Spec PyProof.Rows
theorem Hd:∀{vs:ai dS}{ns:ai a6},Ϧ vs ns->sS (ns.aT V.aO) vs
 |_,_,.rA=>.rA
 |_,_,.qY n t h=>.qY ⟨t,rfl⟩ (Hd h)
def uG(H:Hp):Prop:=∀b,H b=none\/∃o xs,H b=ab (.eG o (.dI xs))
def za8{P:wO}{w:vq}{K:Fg}{mg mb:d3->fv dS}{CX:mU}{k:ar}{fa a:f'}{fd:ZT}{x:d3}{sp:Sp}{aE:oU}{vs:ai dS}{ns:ai a6}
  (KX:K.In aE.a5)(lx:aE.a5.Ns Yr mg)(hb:aE.a5.Ns Â mb)(wH:∀x:d3,x≠"__name__"->mb x=ζ x)(u7:aE.a5.ϸ)(hg:aE.Za=#[])
  (ha:aE.a5.g0 a=ab {oh:=.ny "list", oo:=.pJ vs.k8})(hi:Ϧ vs ns)(hl:ns.aj<=vr)(hr:bp k _c)
  (F:∀j3:gw,K.In j3->j3.Ns Yr mg->ei P w K mg j3 CX k fa fd [x] sp)(jh:∀(s:oU)(u:dS),_L s fd ⟨[u],[]⟩ [(x,u)])
  (oA:∀H:Hp,uG H->bJ K H a (ns.aT V.aO)->sp [.bj a] H (λv _=>v=.bl true) λ_ _ _=>vk)
  (uY:∀H e s',CX [] H aE (λ_ _ _=>vk) e s'->vk)(x9:gj K=true):
  Zv (q_ P w) _c (.yd (.bj fa) ⟨[.bj a],[]⟩) (λr s'=>r=.ok (.KJ (.wF true))/\Ϩ aE.a5 s'.a5/\s'.os=aE.os/\_l s'.Za) aE:=by
 have rv:=Hd hi;have ER:=hi.aj
 have Ä:∀H:Hp,uG H->bJ K H a (ns.aT V.aO)->dX P w H aE.a5->(∀b,H b≠none->b=a)->(H a≠none->K.gr a=none) ->
   Zv (q_ P w) _c (.yd (.bj fa) ⟨[.bj a],[]⟩) (λr s'=>r=.ok (.KJ (.wF true))/\Ϩ aE.a5 s'.a5/\s'.os=aE.os/\_l s'.Za) aE:=by
  intro H hO hS aL hA hK;have fH:∀{b:f'}{o:sy},aE.a5.g0 b=ab o->H b=none->(gb aE.a5 H).g0 b=ab o:=λe n=>NM e n
  have nY:∀{b:f'}{o:sy}{es:yx DictEntry}{ep:ar},aE.a5.g0 b=ab o->o.oo=.we es ep->H b=none:=λ{b o es ep} e d=>by
   grind
  have sq:∀{b:f'}{m:d3->fv dS},aE.a5.Ns b m->(gb aE.a5 H).Ns b m:=λ{b m} ⟨o,es,ep,e,d,r⟩=>⟨o,es,ep,fH e (nY e d),d,r⟩
  have x8:K.In (gb aE.a5 H):=λb o e=>fH (KX b o e) (by
   grind)
  have hM:ψ K mg (gb aE.a5 H):=⟨x8,sq lx,⟨mb,sq hb,wH⟩,let ⟨mc,h1,h2⟩:=u7;⟨mc,sq h1,h2⟩⟩;have e0:f6 P w K mg (gb aE.a5 H) _c [] aE H:=⟨rfl,hM,λb o e=>OG e,ar.le_of_eq (MU _ _),trivial,λb hb=>uP (show b∈([]:ai f')from hb) (by simp),aL,.Ô hg,.Vs x9⟩
  refine η ((F _ x8 (sq lx)).mH _c [] aE H ⟨[.bj a],[]⟩ [.bj a] [.bj a] _ _ hr e0 (jh aE (.bj a)) (.qY rfl .rA) (oA H hO hS)) λr s' h=>?_
  cases r with
  |_S e=>exact(uY H e s' h).oP
  |ok fl=>
   cases fl with
   |next=>exact vk.oP h
   |_z=>exact vk.oP h
   |_A=>exact vk.oP h
   |KJ u=>
    let⟨v,H',os,QN,un,rY,r',q⟩:=h;have q':v=.bl true:=q;subst q';obtain rfl:u=dS.wF true:=r';refine⟨rfl,Ϩ.of_keep λb o e=>?_,os,QN⟩
    cases q:H b with
    |none=>exact un.wN b o e q (by intro z;exact uP (show b∈([]:ai f')from z) (by simp)) (by simp)
    |ab u=>
     rcases hO b with z|⟨ob,xs,z⟩
     .rw[q]at z;cases z
     .have z2:=un.bo b ob _ z;let⟨e1,_⟩:=aL b _ z;let⟨e2,_⟩:=rY b _ z2
      grind
 cases hk:K.gr a with
 |ab o=>
  have e:=KX a o hk;rw[ha]at e;cases e;refine Ä (λ_=>none) (λ_=>.j' rfl) (.mv ⟨_,vs.k8,_,hk,rfl,rfl,rfl,by grind,by simpa using rv⟩) (λb u z=>by grind) (λb z=>uP rfl z) λz=>uP rfl z
 |none=>
  refine Ä (λb=>if b=a then ab (.eG {oh:=.ny "list", oo:=.pJ vs.k8} (.dI (ns.aT V.aO)))else none) (λb=>?_) (.j' (.mv ⟨{oh:=.ny "list", oo:=.pJ vs.k8},og rfl⟩)) (λb u z=>?_) (λb z=>?_) λ_=>hk
  .grind
  .by_cases hb:b=a
   .have z':=(og hb).symm.ki z;cases z';subst hb;exact⟨ha,by grind,vs,_,rv,ha⟩
   grind
  grind
abbrev J3{K:Fg}{h:gw}(_:K.In h):Fg:=K
def z25{l:oa.W.δ}{n k:ar}{q:wO}{Ρ:ai d3}{XP:(d3->fv dS)->gw->Prop}{YP:vq->gw->Prop}{d:ĸ}{K:â->Fg}{CX:vq->mU}{sp:vq->Sp}{x:d3}
  (hn:l._W=ab n)(m8:n<=vr)(rP:d.r5.Ç=[])(hr:bp k _c)
  (hY:∀(w:vq)(h:gw),YP w h->(K w.r5).In h)
  (F:∀(w:vq)(mg:d3->fv dS)(fa:f')(h:gw),(K w.r5).In h->h.Ns Yr mg->mg d.name=ab (.bj fa) ->
   ∃fd:ZT,(∀(s:oU)(u:dS),_L s fd ⟨[u],[]⟩ [(x,u)]) /\
    ∀j3:gw,(K w.r5).In j3->j3.Ns Yr mg->ei l.jd w (K w.r5) mg j3 (CX w) k fa fd [x] (sp w))
  (oA:∀(w:vq)(H:Hp)(a:f')(ns:ai a6),ns.aj<=n->uG H->bJ (K w.r5) H a (ns.aT V.aO)->sp w [.bj a] H (λv _=>v=.bl true) λ_ _ _=>vk)
  (uY:∀(w:vq)(H:Hp)(s:oU)(e:dS)(s':oU),CX w [] H s (λ_ _ _=>vk) e s'->vk)(x9:∀w:vq,gj (K w.r5)=true):
  oa.W.å q Ρ XP YP l.n9.ϡ d [] (λf vs=>oa.yd f vs):=by
 refine xp.zcw hn rP λw aA aE mg mb fa o pm cd Yx a vs ns G Y ho hd eE hmg mw Ϝ v_ hg=>?_
 have KX:=hY w _ Y;let⟨fd,hb,hF⟩:=F w mg fa _ KX G.T.g hmg;exact za8 KX G.T.g G.T.b G.T.ϔ G.T.Ó hg mw Ϝ (w0r v_ m8) hr hF hb (λH hO hS=>oA w H a ns v_ hO hS) (λH e s'=>uY w H aE e s') (x9 w)
end L2
/- THE ze1 zeM (shape; LID, My.* are zeY):
   My.aI: a structure of AQ addresses zfb zfc zeV pM (classes, zfr); My._q K t: a structure (Prop) of AQ equations over K;
   My.zd4 : {K} {implicit addresses ..} (e1 : θ K Yr "law" = ab (ab (.bj f))) (e2 : K.gr f = ab ⟨oc, od, .Zn (Ο "law" "law" r5 rK d0 dV kV Yx pm an ez ct), sl⟩) (e3 : _Q K ez "law" = true) .. : ∃ t, My._q K t
set_option maxRecDepth 100000 in
set_option maxHeartbeats 0 in
def oa.ą.zfm : oa.ą.zdQ.Holds := by
 w_on; o_law; k_head; (case hw => w_witness2)
 k_fill
 refine L2.z25 (l := oa.ą.zdQ) (n := 63) (k := 40) (x := "script") (CX := λw => ..) (sp := λ_ => My.zeQ) rfl (by decide) rfl ⟨rfl, by decide, by decide⟩ (λw h Y => oa.W.kIn_of Y) ?F ?S ?C
 case F =>
  intro w mg fa h KX G hmg
  have T : ∃ t, My._q (L2.J3 KX) t := by
   dsimp only [L2.J3]                          -- K ze_ zeU as «<heap const> w.params» for k_is;refine' My.zd4 ?e1 ?e2 ?e3 ..
   (case e1 => oa.W.k_is)                    -- in AQ order: a name -> ax address -> ax object -> ax parts
   (case e2 => oa.W.k_is)
   ..
  let⟨t, T⟩:= T;have e0 := hmg.symm.ki (oa.W.mg_of KX G T.law);cases e0                                       -- fa is AQ zeR ie address;exact ⟨_, λs u => .Ô rfl, λj3 kb nb => My.zdV T kb nb⟩     -- if «.of_eq rfl» comes too early: refine' ⟨_, ?b, λj3 kb nb => My.zdV T kb nb⟩; exact λs u => .Ô rfl
 case S => exact λw H a ns hl hO hS => ..
 case C => exact ..
(AQ tactic k_is yD no namespace: ZA k_is) -/
namespace L2
open PySem PySem.Spec PyProof.Rows
variable{f:f'}{X:Cx}{K':pN}{fd:ZT}{H H':Hp}{es zb:ai pN}{js:ai ar}{gJ:vY}{K:Fg}{s:oU}{σ:St}{p6 x:d3}{te:TE}{wi:TI}{tc:TT}
def d8(s:Rl):_m:=match s with
 |.ć _ a _ _ _ _ _ _ _ _=>a
 |_=>{posonlyargs:=[],args:=[],vararg:=none,kwonlyargs:=[],kw_defaults:=[],kwarg:=none,Ç:=[]}
def cH(s:Rl):ai Rl:=match s with
 |.ć _ _ b _ _ _ _ _ _ _=>b
 |_=>[]
def aZ(s:Rl):yz:=match s with
 |.ć _ _ _ _ _ _ sc _ _ _=>sc
 |_=>{xx:=.Z0,pM:=[],ð:=false,ï:=false}
abbrev Ra:mU:=λ_ _ _ _ _ _=>vk
abbrev E0:XK:=λ_ _ _=>vk
structure xy(K:Fg)(x p6:d3)(st:Rl)(f:f')(fd:ZT):Prop where
 ex:∃(oc:dS)(od:fv f')(kV Yx pm:dS)(an:fv f')(ez ct:dS)(vB:yx (fv dS)),
  fd=oa.W.Ο x p6 (d8 st) (cH st) (aZ st) .none kV Yx pm an ez ct/\K.gr f=ab ⟨oc,od,.Zn fd,vB⟩/\oa.W._Q K ez p6=true
 kp:_V K (.bj f)=true
section
variable{P:wO}{w:vq}{mg:d3->fv dS}{j3:gw}
def xy.ϓ{st:Rl}{ps:ai d3}(F:xy K x p6 st f fd)
  (h:∀(kV Yx pm:dS)(an:fv f')(ez ct:dS)(us:ai dS),us.aj=ps.aj->Ν (oa.W.Ο x p6 (d8 st) (cH st) (aZ st) .none kV Yx pm an ez ct) ⟨us,[]⟩=vo (ps.wk us)):ZS K fd ps []:=by
 grind [ex,ZS.tB]
theorem PU{st:Rl}{oc:dS}{od an:fv f'}{vB:yx (fv dS)}{kV Yx pm ez ct:dS}(l:K.gr f=ab ⟨oc,od,.Zn (oa.W.Ο x p6 (d8 st) (cH st) (aZ st) .none kV Yx pm an ez ct),vB⟩)
  (c:oa.W._Q K ez p6=true)(k:_V K (.bj f)=true):xy K x p6 st f (oa.W.Ο x p6 (d8 st) (cH st) (aZ st) .none kV Yx pm an ez ct):=⟨⟨oc,od,kV,Yx,pm,an,ez,ct,vB,rfl,l,c⟩,k⟩
end
theorem pv(i:ar)(hN:autoParam (X.N[i]?=ab x) jJ)(hv:autoParam (jS X.a7.d0 x) jN)(hd:autoParam ((x==("__debug__":d3))=false) jK)
  (eE:autoParam ((x==("__classdict__":d3))=false) jK):PE X (.oL x gJ) (qq i):=z73 hN hv hd eE
def au(H H':Hp):Prop:=∀b o,H b=ab o->H' b=ab o
theorem au.uw(H:Hp):au H H:=λ_ _ h=>h
theorem au.ki{H1 H2:Hp}(a:au H H1)(b:au H1 H2):au H H2:=λc o h=>b c o (a c o h)
def au.rD(e:au H H'){l:f'}(h:H' l=fv.none):H l=fv.none:=by
 cases q:H l with
 |none=>rfl
 |ab o=>
  rw[e l o q]at h;cases h
def au.pJ{a:f'}{xs:ai V}(e:au H H')(h:bJ K H a xs):bJ K H' a xs:=by
 rcases h with(h|⟨o,h⟩)|h
 .exact .j' (.j' (e _ _ h))
 .exact .j' (.mv ⟨o,e _ _ h⟩)
 .exact .mv h
set_option maxHeartbeats 4000000
structure Rg(qp:ai Rb)(H H':Hp)(h h':gw)(e:f')(oh:dS)(B:gw):Prop where
 fl:∃a0,gw.FlyingW B qp e oh a0 h'
 yc:∀b o,h.g0 b=ab o->H b=none->b∉fW qp->B.g0 b=ab o
 oF:∀b u o,H' b=ab u->h'.g0 b=ab o->B.g0 b=ab o
 tB:∀b o,h.g0 b=ab o->b∈fW qp\/∃o',B.g0 b=ab o'
 yL:h.g0 e=none
def eh(P:wO)(w:vq):mU:=λqp H s E ev s'=>∃(e:f')(oh:dS)(H':Hp)(B:gw),
 ev=.bj e/\s'.os=s.os/\_l s'.Za/\Un (fW qp) [] H H' s.a5 s'.a5/\dX P w H' s'.a5/\Rg qp H H' s.a5 s'.a5 e oh B/\E oh none H'
def eZ(CX:mU)(X:Cx)(EE:L2.St->XK):Prop:=∀(cf:ai (f'×sy))(σ:St)(H:Hp)(s:oU)(e:dS)(s':oU),je X cf σ H s->CX X.Yd H s (EE σ) e s'->X.xe e s'
def z26
  (I:je (iG CX P w K mg j3 N p6 d0 f cd A qp aA aG E) cf σ H s)(J:je (iG CX P w K mg j3 N p6 d0 f cd A qp aA aG E) cf σ H' s')
  (yc:∀b o,s.a5.g0 b=ab o->H b=none->b∉fW (_e p6 d0 aA.a5.fy.dt f cd::qp)->B.g0 b=ab o)
  (oF:∀b u o,H' b=ab u->s'.a5.g0 b=ab o->B.g0 b=ab o)
  (tB:∀b o,s.a5.g0 b=ab o->b∈fW (_e p6 d0 aA.a5.fy.dt f cd::qp)\/∃o',B.g0 b=ab o')
  (yL:s.a5.g0 e=none)
  (fl:gw.FlyingW B qp e oh a0 qB)(up:s'.a5.UpToSlots qB)(hE:E oh none H'):
  eh P w qp aG aA E (.bj e) {s' with a5:=qB}:=by
 have yQ:∀b o,aA.a5.g0 b=ab o->b∉fW qp->b∉fW (_e p6 d0 aA.a5.fy.dt f cd::qp):=λb o q nb hb=>by
  rcases w0g.mp (show b∈aA.a5.fy.dt::fW qp from hb)with z|z
  .exact uP (gw.xq q) (by grind)
  .exact nb z
 have xW:∀b:f',b∉([]:ai f'):=λb z=>nomatch z
 have yM:∀b o,aA.a5.g0 b=ab o->b∈fW qp->∃sl,qB.g0 b=ab {o with Zd:=sl}:=λb o q hb=>by
  let⟨sl,e1⟩:=J.j3.yM b o q (J.ok.m6 b hb) hb (xW b);let⟨_,o2,e2,nd⟩:=J.eQ.Ye hb
  rw[e1]at e2;cases e2;let⟨Ax,e3⟩:=up b _ e1 nd;exact⟨Ax,e3⟩
 refine⟨e,oh,H',B,rfl,J.os,J.QN,⟨λb o q n hb hx=>?_,λb o q n hb hx=>yM b o q hb,λb o q n hx=>J.j3.rD b o q n hx,λb o q hx=>?_,J.j3.gZ,J.j3.bo,J.j3.fP⟩,λa o q=>?_,⟨⟨a0,fl⟩,λb o q n hb=>?_,λb u o q z=>?_,λb o q=>?_,?_⟩,hE⟩
 .exact fl.1 b o (yc b o (I.j3.wN b o q n hb hx) (I.j3.rD b o q n hx) (yQ b o q hb))
 .by_cases hb:b∈fW qp
  .grind
  .let⟨o1,e1⟩:=I.j3.ZP b o q hx;rcases tB b o1 e1 with z|⟨o',z⟩
   .grind
   .exact⟨o',fl.1 b o' z⟩
 .refine(J.aL a o q).fE (λb u hb z=>?_) (λ_ z=>z) λ_ _ _ z=>z
  rcases hb with rfl|hb
  .exact fl.1 _ _ (oF b o u q z)
  .exact fl.1 _ _ (oF b _ u hb z)
 .exact yc b o (I.j3.wN b o q n hb (xW b)) (I.j3.rD b o q n (xW b)) (yQ b o q hb)
 .let⟨o1,e1⟩:=(J.aL b u q).Df;have e2:=oF b u o1 q e1;have e3:=fl.1 b o1 e2
  grind
 .let⟨o1,e1⟩:=I.j3.ZP b o q (xW b)
  grind
 .cases q:aA.a5.g0 e with
  |none=>rfl
  |ab o=>
   let⟨o1,e1⟩:=I.j3.ZP e o q (xW e)
   grind
def yW:eZ (eh P w) (iG (eh P w) P w K mg j3 N p6 d0 f cd A qp aA aG E) (λ_=>E):=by
 intro cf σ H s ev s' I hx;let⟨e,oh,H',B,rfl,rZ,hg,un,aL,ow,hE⟩:=hx;have J:=I.tu (ch:=[]) rZ un aL hg (λb hb=>nomatch hb)
 let⟨a0,fl⟩:=ow.fl;refine wpAny_leaves_onW (j3:=B) I.ok.Yy rfl fl λqB Tj up=>?_
 exact z26 I J ow.yc ow.oF ow.tB ow.yL Tj up hE
theorem yX:eZ (eh P w) X (λ_=>E0):=λ_ _ _ _ _ _ _ h=>by
 let⟨_,_,_,_,_,_,_,_,_,_,z⟩:=h;exact vk.oP z
def qm(sp:Sp)(rF:ai V)(EE:L2.St->XK)(t:TA):TE:=λσ H Q=>t σ H λvs H1=>sp (vs++rF) H1 Q (EE σ)
section
variable{CX:mU}{k:ar}{C:f'}{ps:ai d3}{sp:Sp}{rF:ai V}{ds:ai dS}{EE:L2.St->XK}{m:d3}{p:vY}{e o:pN}{ta:TE}{t:TA}
def z27(F:ei X.jd X.w X.K X.mg X.j3 CX k f fd ps sp)(hr:bp k X.A)(hb:ZS X.K fd ps ds)(hd:sS rF ds)(hx:eZ CX X EE)
  (I:je X cf σ H s)(r:sS vs us)(h:sp (vs++rF) H Q (EE σ)):oS (q_ X.jd X.w) X.A (yd (.bj f) us) (EP X cf σ Q) X.xe s:=by
 have r2:sS (vs++rF) (us++ds):=r.YX hd;have hl:(us++ds).aj=ps.aj:=by rw[<- r2.aj];exact F.vn _ _ _ _ h
 refine þ (η (F.mH X.A X.Yd s H ⟨us,[]⟩ (us++ds) (vs++rF) Q (EE σ) hr I.o3 (hb s us I.qG hl) r2 h) λr s' hq=>?_)
 cases r with
 |_S e=>exact hx cf σ H s e s' I hq
 |ok fl=>
  cases fl with
  |KJ u=>exact I.Ϭ hq
  |next=>exact vk.oP hq
  |_z=>exact vk.oP hq
  |_A=>exact vk.oP hq
def za9(F:ei X.jd X.w X.K X.mg X.j3 CX k f fd ps sp)(hr:bp k X.A)(hg:Gl X x)(hm:X.mg x=ab (.bj f))(hk:_V X.K (.bj f)=true)(hb:ZS X.K fd ps ds)(hd:sS rF ds)(hx:eZ CX X EE)
  (ha:PA X (e::es) t)(jH:autoParam ((x==("__debug__":d3))=false) jK)(he:autoParam (p5 (e::es) X.a7=(false,eval e X.a7)::p5 es X.a7) jJ)(d9:autoParam ((A4 gJ (p5 es X.a7)).vb (·.1)=false) jJ):
  PE X (.wc (.oL x p) (e::es) [] gJ) (qm sp rF EE t):=by
 intro cf s σ H Q I h;refine ο (Cw I hg hm ?_ jH);refine oa.W.callWith_K (h₀:=X.j3) I.ok.Yh.yC hk (bw (ha gJ cf s σ H _ I h) λus s1 ⟨vs,H1,I1,r,q⟩=>⟨I1.qG,?_⟩) he d9
 exact z27 F hr hb hd hx I1 r q
end
abbrev qr:ai dS:=[.ny "ValueError", .ny "Exception", .ny "BaseException", .ny "object"]
inductive zeq(h:gw)(C A:f'):Prop
 |mk (nm qn N bs DQ sn ri zbK col dd k0 k1 k2 k3 k5 mN) (e:h.g0 C=ab (excClassObj nm qn C N bs (.bj A::qr) DQ sn ri zbK col dd k0 k1 k2 k3 k5 "ValueError.__new__")) (n:h.Ns N mN) (i:mN "__init__"=none) (T:OwnTail h qr (.bj A::qr)):zeq h C A
def xX(e:f')(oh:dS):HO:=.ext λh=>∃o vs,h.g0 e=ab o/\o.oh=oh/\o.oo=.Rm vs
abbrev Cx.hn(X:Cx)(e:f'):Cx:={X with A:=X.A.mark (ab (.bj e)),TR:=false,xe:=λ_ _=>vk}
structure zek(k:ar)(A:C7):Prop where
 dp:A.vg+3*k+5<Ţ
 un:A.xT+16*k+200<xH
 gd:A.guards=ab []
structure zes(P:wO)(w:vq)(K:Fg)(mg:d3->fv dS)(j3:gw)(k:ar)(f:f')(fd:ZT)(ps:ai d3)(sp:Sp):Prop where
 vn:∀vs H Q E,sp vs H Q E->vs.aj=ps.aj
 mH:∀(A:C7)(qp:ai Rb)(s:oU)(H:Hp)(args:Args)(us:ai dS)(vs:ai V)(Q:VK),zek k A->f6 P w K mg j3 A qp s H->_L s fd args (ps.wk us)->sS vs us->sp vs H Q E0 ->
  Zv (q_ P w) A (.yd (.bj f) args) (CR Ra qp P w H s Q E0) s
abbrev Cx.cp(X:Cx)(Nc:ai d3)(d0:yz)(cl:ai (d3×f'))(C:f')(aA:oU)(aG:Hp)(ex:ai f'):Cx:=
 {X with N:=Nc,aA:=aA,aG:=aG,a7:=ď d0 cl C X.a7,qp:=X.Yd,ex:=ex,fn:=λy=>d0.pM.gr y==ab .t9,pn:=[],xe:=λ_ _=>vk}
theorem FI:∀(pM:ai (d3×Vo))(sT:ai (d3×f')),(∀x∈pM,x.2=.rD->∃c,a7.xY.gr x.1=ab c) ->
  ∃cl,(Ϛ pM sT fun(x:d3×Vo) (r:ai (d3×f'))=>(if(x.2==Vo.rD)=true then(Ň a7 x.1 >>= λa=>vo (γ.ϵ ((x.1,a)::r)))else vo (γ.ϵ r):Ι (γ (ai (d3×f')))))=vo cl /\
   (∀x c,cl.gr x=ab c->sT.gr x=ab c\/a7.xY.gr x=ab c)/\(∀x,((x,Vo.rD)∈pM\/(sT.gr x).Bt=true)->(cl.gr x).Bt=true)
 |[],sT,_=>⟨sT,rfl,λx c h=>.j' h,λx h=>h.oP (λz=>nomatch z) id⟩
 |(n,k)::r,sT,h=>by
  by_cases hk:k=.rD
  .subst hk;let⟨c,hc⟩:=h (n,.rD) w1h rfl;let⟨cl,e1,e2,e3⟩:=FI r ((n,c)::sT) λx hx=>h x (w0u _ hx)
   refine⟨cl,?_,λx d hd=>?_,λx hx=>?_⟩
   .rw[w2g];have:Ň a7 n=vo c:=by unfold Ň;rw[hc]
    grind
   all_goals grind
  .let⟨cl,e1,e2,e3⟩:=FI r sT λx hx=>h x (w0u _ hx)
   grind
def zr(h:∀x∈d0.pM,x.2=.rD->∃c,a7.xY.gr x.1=ab c):
  ∃cl,č d0 a7=vo cl/\(∀x c,cl.gr x=ab c->a7.xY.gr x=ab c)/\∀x,(x,Vo.rD)∈d0.pM->∃c,cl.gr x=ab c:=by
 let⟨cl,e1,e2,e3⟩:=FI d0.pM [] h
 grind [fv.isSome_iff_exists,č]
theorem FJ{a7 : Rb} : ∀ {pM : ai (d3 × Vo)} {x : d3}, (∀ y ∈ pM, y.2 = .t9 -> y.1 ≠ x) ->
    ((pM.aT λ(n, k) => if (k == Vo.rD && a7.d0.xx == .Z0 && a7.yt n == ab .t9) then (n, Vo.t9) else (n, k)).gr x = ab .t9 \/
     (pM.aT λ(n, k) => if (k == Vo.rD && a7.d0.xx == .Z0 && a7.yt n == ab .t9) then (n, Vo.t9) else (n, k)).gr x = ab .rD) -> (x, Vo.rD) ∈ pM
  | [], x, _, h => by grind
  | (n, k) :: r, x, hc, h => by
    have ih := @FJ a7 r x λy hy => hc y (w0u _ hy)
    grind
def M3{jd:wO}{w:vq}{A:C7}{R:Result->oU->Prop}{UK xw:pN}{d0:yz}{it sT:dS}{a7:Rb}(I:ar->oU->Prop)
  (Zi:∀n s,I n s->oS (q_ jd w) A (ι it) (λr s1=>match r with
   |none=>R (.ok .next) s1
   |ab v=>oS (q_ jd w) A (Ĕ UK it v) (λ_ s2=>oS (q_ jd w) A (_r UK a7 v) (λ_ s3=>
     oS (q_ jd w) A (Ϛ zb true λc r=>if r=true then do let ok <- Ð c a7 (eval c a7);vo (γ.ϵ ok)else vo (γ.ϵ r)) (λok s4=>
      if ok=true then oS (q_ jd w) A (eval K' a7) (λx s5=>oS (q_ jd w) A (yd (.yR "list.append") [sT,x]) (λ_ s6=>∃m,m<n/\I m s6) (λ_ _=>vk) s5) (λ_ _=>vk) s4
      else ∃m,m<n/\I m s4) (λ_ _=>vk) s3) (λ_ _=>vk) s2) (λ_ _=>vk) s1) (λ_ _=>vk) s)
  (n:ar)(h:I n s):Zv (q_ jd w) A (.Ŋ (.ZC K' [⟨UK,xw,zb,0⟩] d0 gJ) 0 it sT a7) R s:=by
 refine codeAny_loop rfl I (λn s hI=>?_) n h
 show oS _ A ((compTurn (.ZC K' [⟨UK,xw,zb,0⟩] d0 gJ) 0 it sT a7).onRaise (λx=>do noteFrame x a7;theTreesLotGoes x)) _ _ s
 refine wpAny_noted ?_;rw[compTurn_list];refine lb (ă (lb (Zz (Zi n s hI) (λr s1 h1=>?_) λ_ _ z=>z.oP)))
 cases r with
 |none=>exact tW h1
 |ab v=>
  refine lb (Zz h1 (λ_ s2 h2=>?_) λ_ _ z=>z.oP)
  refine lb (Zz h2 (λ_ s3 h3=>?_) λ_ _ z=>z.oP)
  refine lb (Zz h3 (λok s4 h4=>?_) λ_ _ z=>z.oP)
  cases ok with
  |false=>exact tW ⟨rfl,h4⟩
  |true=>exact lb (lb (Zz h4 (λx s5 h5=>lb (Zz h5 (λ_ s6 h6=>tW (tW ⟨rfl,h6⟩)) λ_ _ z=>z.oP)) λ_ _ z=>z.oP))
def pj(js:ai ar)(σ:St):St:=js.aT λj=>(σ[j]?).g6 none
def z8s{i:ar}(h:(pj js σ)[i]?=ab (ab v)):∃j,js[i]?=ab j/\σ[j]?=ab (ab v):=by
 grind [pj]
def qx(X:Cx)(zb:ai pN)(t:TT):Prop:=
 ∀(cf:ai (f'×sy))(s:oU)(σ:St)(H:Hp)(Q:fC->Hp->Prop),je X cf σ H s->t σ H Q ->
  oS (q_ X.jd X.w) X.A (Ϛ zb true λc r=>if r=true then do let ok <- Ð c X.a7 (eval c X.a7);vo (γ.ϵ ok)else vo (γ.ϵ r)) (TP X cf σ Q) X.xe s
def HR:TT:=λ_ H Q=>Q true H
theorem z28:qx X [] HR:=λcf s σ H Q I h=>wpAny_tests_nil ⟨H,I,h⟩
theorem z29(h:PT X c t):qx X [c] t:=λcf s σ H Q I hq=>wpAny_tests_one (h cf s σ H Q I hq)
def Kp(σ aP:St):Prop:=∀(i:ar) v,σ[i]?=ab (ab v)->aP[i]?=ab (ab v)
theorem Kp.Zg{v:V}:Kp (ai.v5 1 none++σ) (ab v::σ):=λi u h=>by
 cases i with
 |UQ=>cases h
 |UI i=>exact h
theorem Kp.two{v u:V}:Kp (ai.v5 2 none++σ) (ab v::ab u::σ):=λi w h=>by
 match i,h with
 |0,h=>cases h
 |1,h=>cases h
 |i+2,h=>exact h
def iF(wi:TI)(nl:ar)(js:ai ar)(g:TG)(tc:TT)(te:TE):TE:=λσ H Q=>wi σ H λJ H1=>∀D,H1 D=none->∃W:ar->ar->Hp->Prop,(∃m,W 0 m (ot H1 D (.dI [])))/\∀i m H2,W i m H2 ->
 (J.stop i H2/\Q (.bj D) H2)\/(J.go i H2/\∀x H3,J.kT i H2 x H3->g x (ai.v5 nl none++pj js σ) H3 λqw H4=>Kp (ai.v5 nl none++pj js σ) qw/\tc qw H4 λb H5=>
  if b=true then te qw H5 λy H6=>∃ys,H6 D=ab (.dI ys)/\ys.aj<vr/\∃m',m'<m/\W (i+1) m' (ot H6 D (.dI (ys++[y])))else ∃m',m'<m/\W (i+1) m' H5)
section
variable{UK xw:pN}{d0:yz}{g:TG}
def M4{x0:d3}
  (I:je X cf σ H s)(oy:∀b∈fp,er X cf H b)(Bm:∀b∈fp,∃o,s.a5.g0 b=ab o/\∀v,o.oo≠.t9 v)
  (hk:d0.xx=.Z0)(DH:∀x,((Χ d0 X.a7).pM.gr x=ab .t9\/(Χ d0 X.a7).pM.gr x=ab .rD)->∃c,cl.gr x=ab c)(eI:∀x c,cl.gr x=ab c->X.a7.xY.gr x=ab c\/(x=x0/\c=s.a5.fy.dt+2/\∃v,h1._w c v))(lZ:∀y∈Nf,∃c,cl.gr y=ab c/\X.a7.xY.gr y=ab c)
  (DM:∀x c,d0.pM.gr x=ab .t9->cl.gr x=ab c->s.a5.fy.dt+1<=c)
  (hj:∀(i j:ar) y,Nf[i]?=ab y->js[i]?=ab j->X.N[j]?=ab y)(v_:js.aj=Nf.aj)
  (mj:∀y∈Nf,(y,Vo.rD)∈d0.pM/\jS X.a7.d0 y/\X.a7.yt y≠ab .local)
  (gK:∀y∈Nf,(Χ d0 X.a7).pM.gr y=ab .t9\/(Χ d0 X.a7).pM.gr y=ab .rD)
  (hn:h1.Ns (s.a5.fy.dt+1) mC)(HV:∀b u,(s.a5.si {oh:=.ny "list", we:=none,oo:=.pJ ([]:ai dS).k8}).g0 b=ab u->h1.g0 b=ab u):
  je (X.cp (Nl++Nf) d0 cl (s.a5.fy.dt+1) {s with a5:=s.a5.si {oh:=.ny "list", we:=none,oo:=.pJ ([]:ai dS).k8}} (ot H s.a5.fy.dt (.dI [])) fp) [] (ai.v5 Nl.aj none++pj js σ) (ot H s.a5.fy.dt (.dI [])) {s with a5:=h1,sP:=tk}:=by
 have fD:H s.a5.fy.dt=none:=I.aL.xS (w0e _);have ν:∀b u,s.a5.g0 b=ab u->(s.a5.si {oh:=.ny "list", we:=none,oo:=.pJ ([]:ai dS).k8}).g0 b=ab u:=λb u q=>gw.v7 _ q
 have uB:(s.a5.si {oh:=.ny "list", we:=none,oo:=.pJ ([]:ai dS).k8}).fy.dt=s.a5.fy.dt+1:=gw.Z4 ..;have up:∀b u,s.a5.g0 b=ab u->h1.g0 b=ab u:=λb u q=>HV b u (ν b u q)
 have ze9:∀b o,s.a5.g0 b=ab o->b≠s.a5.fy.dt:=λb o q=>w0p (gw.xq q)
 have wD:∀b o,s.a5.g0 b=ab o->H b=none->ot H s.a5.fy.dt (.dI []) b=none:=λb o q n=>by grind [bh]
 have Ei:dX X.jd X.w (ot H s.a5.fy.dt (.dI [])) (s.a5.si {oh:=.ny "list", we:=none,oo:=.pJ ([]:ai dS).k8}):=
  I.aL.Lf ν (w0e _) ⟨w1b _,[],_,.rA,gw.A9 _ rfl⟩
 have oV:∀c v,s.a5._w c v->h1._w c v:=λc v ⟨o,q,r⟩=>⟨o,up _ _ q,r⟩
 have Kf:∀x c,X.a7.xY.gr x=ab c->c<s.a5.fy.dt:=λx c e=>by
  let⟨v,o,q,_⟩:=I.t9 x c e;exact gw.xq q
 have D5:∀x y c,cl.gr x=ab c->cl.gr y=ab c->x=y:=λx y c e1 e2=>by
  rcases eI x c e1 with z1|⟨a1,b1,_⟩<;>rcases eI y c e2 with z2|⟨a2,b2,_⟩
  .exact I.ok.La x y c z1 z2
  .exact uP (b2 ▸ Kf x c z1) (w2z.uR (w4p _ 2))
  .exact uP (b1 ▸ Kf y c z2) (w2z.uR (w4p _ 2))
  .rw[a1,a2]
 refine⟨⟨I.ok.Yh,hk,I.ok._u,I.ok.blt,(by show(s.a5.si _).fy.dt<=_;rw[uB];exact w0e _),D5,λx hx=>DH x hx,(λx c z q=>by show(s.a5.si _).fy.dt<=_;rw[uB];exact DM x c (by simpa using z) q),I.ok.hd,I.ok.Yy,.j' rfl,λb hb=>⟨?_,λx c e=>?_⟩,λb o q=>?_,?_,λb o q hb=>?_,λb hb yb=>?_,?_,λb hb=>?_,(I.ok._a.un I.j3).Lf fD⟩,
  rfl,I.QN,Un.Ya HV,⟨mC,hn,λi y v e1 e2 e3=>?_⟩,λx c e=>?_,?_,λx c e=>?_,λp hp=>(by cases hp),Ei.Ya HV,?_⟩
 .let⟨o,q,_⟩:=Bm b hb;exact w0p (w1y (gw.xq q))
 .rcases eI x c e with z|⟨_,rfl,_⟩
  .exact(oy b hb).2.2.2.2.1 x c z
  .let⟨o,q,_⟩:=Bm b hb;exact(w0p (w1y (w1y (gw.xq q)))).symm
 .let⟨q1,q2⟩:=I.bs b o q
  grind
 .show X.j3.fy.dt<=(s.a5.si _).fy.dt;rw[uB];exact ar.le_succ_of_le (w0r I.ok.l_ I.sz)
 .rcases(oy b hb).2.2.2.1 with z|z
  .exact I.ok.vy b o q z
  .let⟨q1,_⟩:=I.ok.bs b o q;exact uP (gw.xq q1) (w2z.uR z)
 .rcases w0g.mp (I.jx b yb)with z|z
  .exact(oy b hb).2.1 z
  .exact(oy b hb).2.2.1 z
 .exact I.Yd.of_keeps λb o q _=>⟨o,ν _ _ q,rfl⟩
 .let⟨_,o,q,_⟩:=I.Yd.Ye hb;exact wD b o q (I.nH b hb)
 ·-- AQ pM
  have Dt:(ai.v5 Nl.aj none++pj js σ)[i]?=ab (ab v):=e2;have xU:(Nl++Nf)[i]?=ab y:=e1
  by_cases hi:i<Nl.aj
  .grind
  .have rS:Nl.aj<=i:=w2z.mp hi;rw[w1i (by simpa using rS)]at Dt;rw[w1i rS]at xU;rw[w2t]at Dt;let⟨j,ej,Tg⟩:=z8s Dt;have Tw:=hj _ _ _ xU ej;let⟨nU,hv,Ud⟩:=mj y (w0s xU);let⟨m,hm,hl⟩:=I.Zw;let⟨u,r,l⟩:=hl j y v Tw Tg hv;refine⟨u,r,?_⟩;rcases l with⟨k,_⟩|⟨k,c,ec,z⟩
   .exact uP k Ud
   .let⟨c',rG,this⟩:=lZ y (w0s xU);rw[ec]at this;cases this;exact .mv ⟨gK y (w0s xU),c,rG,oV _ _ z⟩
 .rcases eI x c e with z|⟨_,_,z⟩
  .let⟨v,z⟩:=I.t9 x c z;exact⟨v,oV _ _ z⟩
  .exact z
 .show ot H s.a5.fy.dt (.dI []) (s.a5.fy.dt+1)=none;rw[bh (w4q _)];exact I.aL.xS (w5h _)
 .rcases eI x c e with z|⟨_,rfl,_⟩
  .let⟨v,o,q,_⟩:=I.t9 x c z;exact wD c o q (I.e7 x c z)
  .show ot H s.a5.fy.dt (.dI []) (s.a5.fy.dt+2)=none;rw[bh (w2r (ar.lt_add_of_pos_right (by decide)))];exact I.aL.xS (w4p _ 2)
 .grind [pj]
def NJ
  (I:je X cf σ H s)(oy:∀b∈fp,er X cf H b)(Bm:∀b∈fp,∃o,s.a5.g0 b=ab o/\∀v,o.oo≠.t9 v)
  (hk:d0.xx=.Z0)(dG:∀y∈d0.pM,y.2≠.t9)(eI:∀x c,cl.gr x=ab c->X.a7.xY.gr x=ab c)(lZ:∀x,(x,Vo.rD)∈d0.pM->∃c,cl.gr x=ab c)
  (hj:∀(i j:ar) y,Nf[i]?=ab y->js[i]?=ab j->X.N[j]?=ab y)(v_:js.aj=Nf.aj)
  (mj:∀y∈Nf,(y,Vo.rD)∈d0.pM/\jS X.a7.d0 y/\X.a7.yt y≠ab .local)
  (gK:∀y∈Nf,(Χ d0 X.a7).pM.gr y=ab .t9\/(Χ d0 X.a7).pM.gr y=ab .rD)
  (hn:h1.Ns (s.a5.fy.dt+1) mC)(hs:gw._p (s.a5.fy.dt+1) ((s.a5.si {oh:=.ny "list", we:=none,oo:=.pJ ([]:ai dS).k8}).si {oh:=.ny "dict", oo:=.we #[]}) h1):
  je (X.cp (Nl++Nf) d0 cl (s.a5.fy.dt+1) {s with a5:=s.a5.si {oh:=.ny "list", we:=none,oo:=.pJ ([]:ai dS).k8}} (ot H s.a5.fy.dt (.dI [])) fp) [] (ai.v5 Nl.aj none++pj js σ) (ot H s.a5.fy.dt (.dI [])) {s with a5:=h1,sP:=tk}:=by
 refine M4 (x0:="") I oy Bm hk (λx hx=>lZ x (FJ (λy hy z=>uP z (dG y hy)) hx)) (λx c e=>.j' (eI x c e)) (λy hy=>?_) (λx c e=>uP rfl (dG _ (oa.ZL e))) hj v_ mj gK hn λb u q=>?_
 .let⟨c,e⟩:=lZ y (mj y hy).1;exact⟨c,e,eI y c e⟩
 .have bR:=gw.xq q;rw[gw.Z4]at bR;exact(hs.2 b (w0p bR)).ki (gw.v7 _ q)
def PV{aP:St}
  (I:je X cf σ H s)(oy:∀b∈fp,er X cf H b)
  (J:je (X.cp Nc d0 cl (s.a5.fy.dt+1) {s with a5:=s.a5.si {oh:=.ny "list", we:=none,oo:=.pJ ([]:ai dS).k8}} (ot H s.a5.fy.dt (.dI [])) fp) [] aP H' s')
  (hs:gw._p (s.a5.fy.dt+1) s'.a5 h'):je X cf σ H' {s' with a5:=h'}:=by
 have fD:H s.a5.fy.dt=none:=I.aL.xS (w0e _);have ν:∀b u,s.a5.g0 b=ab u->(s.a5.si {oh:=.ny "list", we:=none,oo:=.pJ ([]:ai dS).k8}).g0 b=ab u:=λb u q=>gw.v7 _ q
 have vt:∀b o,s.a5.g0 b=ab o->b≠s.a5.fy.dt+1:=λb o q=>w0p (w1y (gw.xq q))
 have wD:∀b o,s.a5.g0 b=ab o->H b=none->ot H s.a5.fy.dt (.dI []) b=none:=λb o q n=>by rw[bh (w0p (gw.xq q))];exact n
 have yc:∀b u,H b=ab u->ot H s.a5.fy.dt (.dI []) b=ab u:=λb u q=>by rw[bh (i3 q fD)];exact q
 have B:Un (fW X.Yd) fp (ot H s.a5.fy.dt (.dI [])) H' (s.a5.si {oh:=.ny "list", we:=none,oo:=.pJ ([]:ai dS).k8}) s'.a5:=J.j3;have hC:H' (s.a5.fy.dt+1)=none:=J.rD;refine I.tu (s':={s' with a5:=h'}) (ch:=fp) (J.os.ki rfl) ⟨λb o q n hb hx=>?_,λb o q n hb hx=>?_,λb o q n hx=>B.rD b o (ν _ _ q) (wD b o q n) hx,λb o q hx=>?_,λb xs q=>B.gZ b xs (yc _ _ q),λb o u q=>B.bo b o u (yc _ _ q),λb ps q=>B.fP b ps (yc _ _ q)⟩ (λa o q=>?_) J.QN λb hb=>?_
 .exact(hs.2 b (vt b o q)).ki (B.wN b o (ν _ _ q) (wD b o q n) hb hx)
 .let⟨sl,z⟩:=B.yM b o (ν _ _ q) (wD b o q n) hb hx;exact⟨sl,(hs.2 b (vt b o q)).ki z⟩
 .let⟨o',z⟩:=B.ZP b o (ν _ _ q) hx;exact⟨o',(hs.2 b (vt b o q)).ki z⟩
 .refine(J.aL a o q).fE (λc v hc z=>(hs.2 c ?_).ki z) (λ_ z=>z) λ_ _ _ z=>z
  grind
 .let⟨_,f1,f2,f3,f4,f5⟩:=oy b hb
  grind
structure iT(x:d3)(sc:yz):Prop where
 Α:sc.pM.gr x=ab .t9
 Zg:∀n cl,è n sc.pM cl=(x,n)::cl
 vz:∀h:gw,pushCells h sc.pM=h.si {oh:=.ny "cell", oo:=.t9 none}
 only:∀y∈sc.pM,y.2=.t9->y.1=x
 UO:(x,Vo.rD)∉sc.pM
def zc5{E:dS->oU->Prop}{M:Model}{A:C7}{_P:dS}{Q:Rb->oU->Prop}{x0:d3}{a7:Rb}{ϯ ϔ:f'}{ê:ai (d3×f')}{Zn:fv f'}(S:iT x0 d0)
  (hQ:∀h',h'.Ns s.a5.fy.dt (λ_=>none)->h'._w (s.a5.fy.dt+1) none->(∀b o,s.a5.g0 b=ab o->h'.g0 b=ab o) ->
   Q (newEnv d0 s.a5.fy.dt ϯ ((x0,s.a5.fy.dt+1)::ê) p6 Zn _P (ab a7) ϔ) {s with a5:=h'}):
  oS M A (Ė d0 ϯ ê [] p6 Zn _P (ab a7) ϔ) Q E s:=by
 simp only[Ė,fv.isSome_some,Z2];refine lb (wpAny_alloc ?_);refine lb (zeb _ (λname xx xY=>by grind) _ _ _ _ ?_)
 rw[show({s with a5:=s.a5.si {oh:=.ny "dict", oo:=.we #[]}}:oU).a5.fy.dt=s.a5.fy.dt+1 from gw.Z4 ..,S.Zg,S.vz]
 have ic:((s.a5.si {oh:=.ny "dict", oo:=.we #[]}).si {oh:=.ny "cell", oo:=.t9 none})._w (s.a5.fy.dt+1) none:=by
  have e:=gw.A9 (s.a5.si {oh:=.ny "dict", oo:=.we #[]}) (o:={oh:=.ny "cell", oo:=.t9 none}) rfl;rw[gw.Z4]at e;exact⟨_,e,rfl⟩
 have kp:∀b o,(s.a5.si {oh:=.ny "dict", oo:=.we #[]}).g0 b=ab o->((s.a5.si {oh:=.ny "dict", oo:=.we #[]}).si {oh:=.ny "cell", oo:=.t9 none}).g0 b=ab o:=λb o e=>gw.v7 _ e
 refine lb ?_;rw[w3b];exact tW (tW (hQ _ ((gw.Ns.yL s.a5 (.ny "dict")).Yp kp) ic λb o e=>kp b o (gw.v7 _ e)))
def z3a{Nl Nf : ai d3}(hc : X.TR = true)(hi : PI X UK xw wi)
    (hk : d0.xx = .Z0)(dG : (∀ y ∈ d0.pM, y.2 ≠ .t9) \/ ∃ x0, iT x0 d0)(mr : ∀ x ∈ d0.pM, x.2 = .local -> d0.pM.gr x.1 = ab .local)
    (cV : ∀ x ∈ d0.pM, x.2 = .rD -> X.a7.yt x.1 = ab .t9 \/ X.a7.yt x.1 = ab .rD)
    (hj : ∀ (i j : ar) y, Nf[i]? = ab y -> js[i]? = ab j -> X.N[j]? = ab y)(v_ : js.aj = Nf.aj)
    (mj : ∀ y ∈ Nf, (y, Vo.rD) ∈ d0.pM /\ jS X.a7.d0 y /\ X.a7.yt y ≠ ab .local)
    (gK : ∀ y ∈ Nf, (Χ d0 X.a7).pM.gr y = ab .t9 \/ (Χ d0 X.a7).pM.gr y = ab .rD)
    (hg : ∀ cl C aA aG ex, PG (X.cp (Nl ++ Nf) d0 cl C aA aG ex) UK g)(ht : ∀ cl C aA aG ex, qx (X.cp (Nl ++ Nf) d0 cl C aA aG ex) zb tc)(he : ∀ cl C aA aG ex, PE (X.cp (Nl ++ Nf) d0 cl C aA aG ex) K' te)
    (hs : ∀ x, _g xw X.a7 x = vo x := by intro _; rfl) :
    PE X (.ZC K' [⟨UK, xw, zb, 0⟩] d0 gJ) (iF wi Nl.aj js g tc te) := by
  intro cf s σ H Q I h;let⟨cl, dH, eI, lZ⟩:= zr (d0 := d0) (a7 := X.a7) λx hx hf => I.ok.yD x.1 (cV x hx hf)
  rw [eval_ListComp];refine zd7 (use := none) rfl hs dH hk mr (bw (hi cf s σ H _ I h) λv s1 h1 => bw h1 λBs s2 h2 => ?_)
  let⟨it, fp, tn, J, H2, e, I2, T, ir, f2, rd⟩:= h2;subst e;have uB : (s2.a5.si { oh := .ny "list", we := none, oo := .pJ ([] : ai dS).k8 }).fy.dt = s2.a5.fy.dt + 1 := gw.Z4 ..;have fD : H2 s2.a5.fy.dt = none := I2.aL.xS (w0e _);let⟨W, ⟨m0, w0⟩, Zi⟩:= rd s2.a5.fy.dt fD;have nZ := T.Yc 0 s2.a5 ir
  have wb : ∀ (cl : ai (d3 × f')) (cL : gw) (tk : ar), je (X.cp (Nl ++ Nf) d0 cl (s2.a5.fy.dt + 1) { s2 with a5 := s2.a5.si { oh := .ny "list", we := none, oo := .pJ ([] : ai dS).k8 } } (ot H2 s2.a5.fy.dt (.dI [])) fp) [] (ai.v5 Nl.aj none ++ pj js σ) (ot H2 s2.a5.fy.dt (.dI [])) { s2 with a5 := cL, sP := tk } ->
      (∀ b u, s2.a5.g0 b = ab u -> cL.g0 b = ab u) -> Zv (q_ X.jd X.w) X.A (.compStart (.ZC K' [⟨UK, xw, zb, 0⟩] d0 gJ) 0 (.bj it) (.bj s2.a5.fy.dt) (ď d0 cl (s2.a5.fy.dt + 1) X.a7))
        (ŋ (q_ X.jd X.w) X.A X.xe none (EP X cf σ Q) (.bj s2.a5.fy.dt) (s2.a5.fy.dt + 1)) { s2 with a5 := cL, sP := tk } := by
   intro cl cL tk IS HW;have Ay : tn 0 cL := T.wN 0 s2.a5 cL ir λb hb o q => HW b o q
   have E3 : ∀ b ∈ fp, ot H2 s2.a5.fy.dt (.dI []) b = none := λb hb => by
     let⟨o, q, _⟩:= nZ b hb;rw [bh (w0p (gw.xq q))];exact (f2 b hb).1
   have jw : ∀ {H' : Hp}, (∀ b ∈ fp, H' b = none) -> ∀ b ∈ fp, er (X.cp (Nl ++ Nf) d0 cl (s2.a5.fy.dt + 1) { s2 with a5 := s2.a5.si { oh := .ny "list", we := none, oo := .pJ ([] : ai dS).k8 } } (ot H2 s2.a5.fy.dt (.dI [])) fp) [] H' b := λhn b hb => by
     refine ⟨hn b hb, (IS.ok.Bc b hb).1, IS.ok.rH b hb, .j' hb, (IS.ok.Bc b hb).2, λp hp => (by cases hp)⟩
   have Ò : ∀ s4 : oU, s4 = { s2 with a5 := cL, sP := tk } ->
       Zv (q_ X.jd X.w) X.A (.Ŋ (.ZC K' [⟨UK, xw, zb, 0⟩] d0 gJ) 0 (.bj it) (.bj s2.a5.fy.dt) (ď d0 cl (s2.a5.fy.dt + 1) X.a7))
         (ŋ (q_ X.jd X.w) X.A X.xe none (EP X cf σ Q) (.bj s2.a5.fy.dt) (s2.a5.fy.dt + 1)) s4 := by
     rintro s4 rfl;refine M3 (λn s' => ∃ i H', je (X.cp (Nl ++ Nf) d0 cl (s2.a5.fy.dt + 1) { s2 with a5 := s2.a5.si { oh := .ny "list", we := none, oo := .pJ ([] : ai dS).k8 } } (ot H2 s2.a5.fy.dt (.dI [])) fp) [] (ai.v5 Nl.aj none ++ pj js σ) H' s' /\ tn i s'.a5 /\ (∀ b ∈ fp, H' b = none) /\ W i n H') ?_ m0 ⟨0, _, IS, Ay, E3, w0⟩
     rintro n s3 ⟨i, H3, I3, qP, tI, w3⟩;rcases Zi i n H3 w3 with ⟨stop, qn⟩ | ⟨go, Zy⟩
     . refine bw (T.done (X.cp (Nl ++ Nf) d0 cl (s2.a5.fy.dt + 1) { s2 with a5 := s2.a5.si { oh := .ny "list", we := none, oo := .pJ ([] : ai dS).k8 } } (ot H2 s2.a5.fy.dt (.dI [])) fp) rfl rfl rfl hc i [] s3 _ H3 _ I3 (jw tI) qP stop) λr s5 ⟨hr, I5⟩ => ?_
       subst hr;let⟨m5, Ec, _⟩:= I5.Zw;refine ⟨m5, Ec, λh' g_ => ⟨.bj s2.a5.fy.dt, H3, PV I2 f2 I5 g_, rfl, qn⟩⟩
     . refine bw (T.Z7 (X.cp (Nl ++ Nf) d0 cl (s2.a5.fy.dt + 1) { s2 with a5 := s2.a5.si { oh := .ny "list", we := none, oo := .pJ ([] : ai dS).k8 } } (ot H2 s2.a5.fy.dt (.dI [])) fp) rfl rfl rfl hc i [] s3 _ H3 _ I3 (jw tI) qP go) λr s5 ⟨u, hr, h5⟩ => ?_
       subst hr;refine bw h5 λ_ s6 ⟨x, H6, I6, r6, y6, v9, DB⟩ => ?_
       have C_ := I6.ò (jw DB) (T.Yc _ _ v9);refine bw (hg _ _ _ _ _ _ s6 _ H6 x u _ C_ r6 (Zy x H6 y6)) λ_ s7 ⟨kN, H7, I7, kp, q7⟩ => ?_
       refine bw (ht _ _ _ _ _ _ s7 kN H7 _ I7 q7) λok s8 ⟨H8, I8, q8⟩ => ?_
       have Μ : ∀ {wu : St} {H9 : Hp} {s9 : oU}, je (X.cp (Nl ++ Nf) d0 cl (s2.a5.fy.dt + 1) { s2 with a5 := s2.a5.si { oh := .ny "list", we := none, oo := .pJ ([] : ai dS).k8 } } (ot H2 s2.a5.fy.dt (.dI [])) fp) ([] ++ ip fp s6.a5) wu H9 s9 ->
           Kp (ai.v5 Nl.aj none ++ pj js σ) wu -> (∃ m', m' < n /\ W (i + 1) m' H9) -> ∃ m, m < n /\ ∃ i H', je (X.cp (Nl ++ Nf) d0 cl (s2.a5.fy.dt + 1) { s2 with a5 := s2.a5.si { oh := .ny "list", we := none, oo := .pJ ([] : ai dS).k8 } } (ot H2 s2.a5.fy.dt (.dI [])) fp) [] (ai.v5 Nl.aj none ++ pj js σ) H' s9 /\ tn i s9.a5 /\ (∀ b ∈ fp, H' b = none) /\ W i m H' := λ{wu H9 s9} I9 hw ⟨m', hm, w9⟩ => by
         refine ⟨m', hm, i + 1, H9, I9.eF.weak (by rw [I9.vn, <- IS.vn]) hw, T.wN _ _ _ v9 λb hb o q => (I9.Zh (b, o) (w0h _ (w0h _ (vK hb q)))).1, λb hb => ?_, w9⟩
         let⟨o, q, d⟩:= T.Yc _ _ v9 b hb;exact (I9.Zh (b, o) (w0h _ (w0h _ (vK hb q)))).2.1
       cases ok with
       | false => exact Μ I8 kp (by simpa using q8)
       | true =>
         have GU := by simpa only [Z2] using q8
         refine bw (he _ _ _ _ _ _ s8 kN H8 _ I8 GU) λy s9 ⟨yv, H9, I9, r9, ys, hD, hz, q9⟩ => ?_
         refine bw (Hb _ s9 kN H9 (.bj s2.a5.fy.dt) [yv] (.bj s2.a5.fy.dt) [y] (λv H' => v = .aF /\ H' = ot H9 s2.a5.fy.dt (.dI (ys ++ [yv]))) I9 rfl (.qY r9 .rA) ⟨_, ys, yv, rfl, rfl, hD, hz, rfl, rfl⟩) λ_ Vc ⟨_, Ri, C9, _, _, Ds⟩ => ?_
         subst Ds;exact Μ C9 kp q9
   exact zb0 (Ò _ rfl) (T.self X.A 0 _ _ _ Ay (Ò _ rfl))
  refine Ψ ?_;rcases dG with dG | ⟨x0, S⟩
  . refine Ÿ dG (by intro y hy; simp at hy) (λcL dP eR => ?_) hk
    dsimp only at dP eR |-
    rw [uB] at dP eR |-
    exact wb cl cL _ (NJ I2 f2 nZ hk dG eI lZ hj v_ mj gK dP eR) λb u q => (eR.2 b (w0p (w1y (gw.xq q)))).ki (gw.v7 _ (gw.v7 _ q))
  . refine zc5 S λcL dP ic up => ?_
    dsimp only at dP ic up |-
    rw [uB] at dP ic |-
    have lk : ∀ y, y ≠ x0 -> ((x0, s2.a5.fy.dt + 1 + 1) :: cl).gr y = cl.gr y := λy hy => by grind
    have l0 : ((x0, s2.a5.fy.dt + 1 + 1) :: cl).gr x0 = ab (s2.a5.fy.dt + 1 + 1) := by simp [ai.gr]
    refine wb _ cL _ (M4 (x0 := x0) I2 f2 nZ hk (λy hy => ?_) (λy c e => ?_) (λy hy => ?_) (λy c e1 e2 => ?_) hj v_ mj gK dP up) λb u q => up b u (gw.v7 _ q)
    . by_cases z : y = x0
      . exact ⟨_, by rw [z]; exact l0⟩
      . let⟨c, q⟩:= lZ y (FJ (λk hk hc => by rw [S.only k hk hc]; exact Ne.symm z) hy)
        exact ⟨c, (lk y z).ki q⟩
    . by_cases z : y = x0
      . subst z
        have : c = s2.a5.fy.dt + 1 + 1 := fv.ab.La (e.symm.ki l0);exact .mv ⟨rfl, this, _, this ▸ ic⟩
      . exact .j' (eI y c ((lk y z).symm.ki e))
    . have z : y ≠ x0 := λe => S.UO (e ▸ (mj y hy).1)
      let⟨c, q⟩:= lZ y (mj y hy).1;exact ⟨c, (lk y z).ki q, eI y c q⟩
    . have z : y = x0 := S.only _ (oa.ZL e1) rfl
      subst z;have : c = s2.a5.fy.dt + 1 + 1 := fv.ab.La (e2.symm.ki l0);exact this ▸ w5h _
end
theorem FK{a7:Rb}:∀{pM:ai (d3×Vo)}{x:d3},pM.gr x=ab .rD ->
  (pM.aT fun(n,k)=>if(k==Vo.rD&&a7.d0.xx==.Z0&&a7.yt n==ab .t9)then(n,Vo.t9)else(n,k)).gr x=ab .t9 \/
  (pM.aT fun(n,k)=>if(k==Vo.rD&&a7.d0.xx==.Z0&&a7.yt n==ab .t9)then(n,Vo.t9)else(n,k)).gr x=ab .rD
 |[],x,h=>by cases h
 |(n,k)::r,x,h=>by
  have ih:=@FK a7 r x
  grind
def cD(sc d0:yz)(N Nf:ai d3)(js:ai ar):fC:=
 d0.xx==.Z0&&d0.pM.tB (λy=>y.2 != .t9)&&d0.pM.tB (λy=>y.2 != .local||d0.pM.gr y.1==ab .local) &&
 d0.pM.tB (λy=>y.2 != .rD||sc.pM.gr y.1==ab .t9||sc.pM.gr y.1==ab .rD)&&js.aj==Nf.aj &&
 (ai.zd js.aj).tB (λi=>match js[i]?,Nf[i]? with|ab j,ab y=>N[j]?==ab y|_,_=>true) &&
 Nf.tB (λy=>d0.pM.gr y==ab .rD&&(sc.pM.gr y==ab .t9||sc.pM.gr y==ab .rD))
def fJ(sc d0:yz)(N Nf:ai d3)(js:ai ar):fC:=
 d0.xx==.Z0&&d0.pM.tB (λy=>y.2 != .local||d0.pM.gr y.1==ab .local) &&
 d0.pM.tB (λy=>y.2 != .rD||sc.pM.gr y.1==ab .t9||sc.pM.gr y.1==ab .rD)&&js.aj==Nf.aj &&
 (ai.zd js.aj).tB (λi=>match js[i]?,Nf[i]? with|ab j,ab y=>N[j]?==ab y|_,_=>true) &&
 Nf.tB (λy=>d0.pM.gr y==ab .rD&&(sc.pM.gr y==ab .t9||sc.pM.gr y==ab .rD))
def M5{UK xw:pN}{d0 sc:yz}{g:TG}{Nl Nf N:ai d3}(hc:X.TR=true)(hi:PI X UK xw wi)
  (dG:(∀y∈d0.pM,y.2≠.t9)\/∃x0,iT x0 d0)(ok:fJ sc d0 N Nf js=true)
  (hg:∀cl C aA aG ex,PG (X.cp (Nl++Nf) d0 cl C aA aG ex) UK g)(ht:∀cl C aA aG ex,qx (X.cp (Nl++Nf) d0 cl C aA aG ex) zb tc)(he:∀cl C aA aG ex,PE (X.cp (Nl++Nf) d0 cl C aA aG ex) K' te)
  (hsc:autoParam (X.a7.d0=sc) jJ)(hN:autoParam (X.N=N) jJ)(hs:∀x,_g xw X.a7 x=vo x:=by intro _;rfl):
  PE X (.ZC K' [⟨UK,xw,zb,0⟩] d0 gJ) (iF wi Nl.aj js g tc te):=by
 unfold fJ at ok;simp only[w0t,w1c,_y,À,w1q,w0x]at ok;obtain⟨⟨⟨⟨⟨k1,k3⟩,k4⟩,k5⟩,k6⟩,k7⟩:=ok;have xx:∀x,X.a7.yt x=sc.pM.gr x:=λx=>by rw[<- hsc];rfl
 refine z3a hc hi k1 dG (λx hx hl=>(k3 x hx).ϟ λz=>z hl) (λx hx hf=>?_) (λi j y e1 e2=>?_) k5 (λy hy=>?_) (λy hy=>?_) hg ht he hs
 .grind
 .grind
 .let⟨z1,z2⟩:=k7 y hy;refine⟨oa.ZL z1,?_,?_⟩
  .rw[hsc];rcases z2 with z|z
   .exact .mv (.j' z)
   .exact .mv (.mv z)
  grind
 .exact FK (k7 y hy).1
def Ig{UK xw:pN}{d0 sc:yz}{g:TG}{Nl Nf N:ai d3}(hc:X.TR=true)(hi:PI X UK xw wi)
  (ok:cD sc d0 N Nf js=true)
  (hg:∀cl C aA aG ex,PG (X.cp (Nl++Nf) d0 cl C aA aG ex) UK g)(ht:∀cl C aA aG ex,qx (X.cp (Nl++Nf) d0 cl C aA aG ex) zb tc)(he:∀cl C aA aG ex,PE (X.cp (Nl++Nf) d0 cl C aA aG ex) K' te)
  (hsc:autoParam (X.a7.d0=sc) jJ)(hN:autoParam (X.N=N) jJ)(hs:∀x,_g xw X.a7 x=vo x:=by intro _;rfl):
  PE X (.ZC K' [⟨UK,xw,zb,0⟩] d0 gJ) (iF wi Nl.aj js g tc te):=by
 unfold cD at ok;simp only[w0t]at ok;obtain⟨⟨⟨⟨⟨⟨k1,k2⟩,k3⟩,k4⟩,k5⟩,k6⟩,k7⟩:=ok;exact M5 hc hi (.j' (by simpa using k2)) (by unfold fJ;simp only[w0t];exact⟨⟨⟨⟨⟨k1,k3⟩,k4⟩,k5⟩,k6⟩,k7⟩) hg ht he hsc hN hs
abbrev TF:=d3->St->Hp->(d3->Hp->Prop)->Prop
def PF(X:Cx)(es:ai pN)(t:TF):Prop:=∀(sT:d3)(cf:ai (f'×sy))(s:oU)(σ:St)(H:Hp)(Q:d3->Hp->Prop),je X cf σ H s->t sT σ H Q ->
 Joins (q_ X.jd X.w) X.A X.xe (evalEach es X.a7) sT (λwj s'=>wj.aj<=vr/\∃H',je X cf σ H' s'/\Q wj H') s
def za_(hc:X.TR=true):dg X (.yR "all") (λxs H Q=>∃p ys,xs=[.bj p]/\bJ X.K H p ys/\(∀y∈ys,∃b,y=.bl b)/\Q (.bl (ys.tB λy=>decide (y=.bl true))) H):=by
 intro cf s σ H xs us Q I r h;let⟨p,ys,rfl,hq,hb,q⟩:=h;let⟨u,rfl,rx⟩:=_H r;cases rx;let⟨ax,r',pl,hz⟩:=I.xE hq;have hl:=pl.yP;have bR:p<s.a5.fy.dt:=by let⟨_,e,_⟩:=hl;exact gw.xq e
 have hh:X.A.Ko.Zj=none:=I.ok.hd hc;refine call_all_walk (ρ hl ⟨s.a5.fy.dt,[s.a5.fy.dt,p],[s.a5.fy.dt],_,_,_,λi=>decide (ys[i]?=ab (.bl true)),rfl,Ϫ.xE hh s.a5.fy.dt p (w0p bR) ax.k8,⟨⟨_,gw.A9 _ rfl,rfl,rfl⟩,hl.si _⟩,?_,λh' tk kp=>?_⟩)
 .intro i v s1 Q1 E1 hv hQ;have r_:ax[i]?=ab v:=by simpa using hv
  have hi:i<ys.aj:=by grind [sS.aj]
  let⟨u,hu,ru⟩:=r'.Df (w0b hi);rw[r_]at hu;cases hu;let⟨b,eb⟩:=hb ys[i] (w1o hi);rw[eb]at ru;cases ru;refine Ω ?_
  simp_all
 .have e:(ai.zd ax.k8.dt).tB (λi=>decide (ys[i]?=ab (V.bl true)))=ys.tB λy=>decide (y=.bl true):=by
   rw[w1w,w1c,w1c];constructor
   .intro hA y hy;let⟨i,hi,rfl⟩:=w3g hy;have z:=hA i (by grind [sS.aj])
    grind
   grind [sS.aj,ai.getElem_mem]
  refine⟨.bl _,H,I.Ya (t':=tk) λb o pb=>kp b o (λz=>?_) (gw.v7 _ pb),rfl,e ▸ q⟩
  rw[w1e]at z;exact uP (gw.xq pb) (by grind)
namespace rh
variable{X:Cx}{e:pN}{EE:L2.St->XK}{es:ai pN}{gJ:vY}{K:Fg}{x:d3}{te:TE}
def zez:ĭ (.ny "list_reverseiterator") "__len__"=vo none:=by rw[Į,Č];kernel_rfl
def hint:ĭ (.ny "list_reverseiterator") "__length_hint__"=vo (ab (.yR "list_reverseiterator.__length_hint__")):=by rw[Į,Č];kernel_rfl
section
variable{St:ar->oU->Prop}
def WZ(W:WalksS jd w A.Ko I fp wr G n P St)(hT:∀i s,St i s->s.Κ (.bj I) "list_reverseiterator")(jI:St 0 s)(oy:∀b∈fp,b<s.a5.fy.dt)(hI:I∈fp)
  (hQ:∀s' sT,á wr G s s'->à P sT n->Q sT.vZ s')(hn:n<=vr):oS (q_ jd w) A (ŉ (.bj I)) Q E s:=by
 have Kt:s.a5.fy.dt∉fp:=λhm=>w2e _ (oy _ hm)
 have TC:s.a5.fy.dt≠I:=λe=>Kt (e ▸ hI)
 unfold ŉ;refine lb (wpAny_runValue (Ď F.entry_proto_collect ?_));rw[C7.į F.plain_proto_collect _];show oS _ A.Ko (newList [] >>= λl=>Μ (.yR "list.__iadd__" ⟨[l,.bj I],[]⟩)) _ _ s
 refine lb (Ψ ?_);refine tW ⟨Õ F.zc7 _,Ď F.entry_list_iadd ?_⟩;rw[C7.į F.zc7 _];have ly:=W.í 0 s (s.a5.si {oh:=.ny "list", oo:=.pJ ([]:ai dS).k8}) s.sP jI (w0e _) λb _ o e=>gw.v7 _ e
 have Tz:(s.a5.si {oh:=.ny "list", oo:=.pJ ([]:ai dS).k8}).g0 s.a5.fy.dt=ab {oh:=.ny "list", oo:=.pJ ([]:ai dS).k8}:=gw.A9 _ rfl;have h1:u5.ai.listSameRef (.bj s.a5.fy.dt) (.bj I)=false:=by simp[u5.ai.listSameRef,TC]
 show oS _ A.Ko (u5.ai.zcE (.bj s.a5.fy.dt) (.bj I) (.bj s.a5.fy.dt)) _ _ _;unfold u5.ai.zcE;refine lb (ź (hT 0 _ ly) ?_);rw[sU (by rw[h1];decide)];refine lb (W.self 0 _ _ _ ly ?_);refine lb (_I ?_);unfold u5.ai.listLengthHint;refine lb (Ĵ (hT 0 _ ly) zez ?_);show oS _ A.Ko (specialOf (dS.bj I) (d3.Zk "__length_hint__") >>= _) _ _ _;refine lb (Ĵ (hT 0 _ ly) hint ?_)
 (generalize l3:("list_reverseiterator.__length_hint__":Yv)=K7;(fail_if_success (clear l3 K7));wp_delta;rw[show splitId K7=ab ("list_reverseiterator", "__length_hint__")from by subst l3;decide +kernel];subst l3)
 refine lb (ŷ (b:=true) (hT 0 _ ly) (by rw[Ř];kernel_rfl) ?_);refine tW ?_;rw[sU (by decide)];refine tW ⟨Õ F.plain_extend_loop _,codeAny_extend_loopS W hn _ Kt _ n 0 _ _ _ rfl (w1b _) ly Tz (à.rA P) λs' nO c' hm x_ ml=>?_⟩
 show oS _ A (load s.a5.fy.dt >>= _) _ _ s';refine lb (wpAny_load x_ ?_);exact tW (hQ s' nO (á.drop_new (o:={oh:=.ny "list", oo:=.pJ ([]:ai dS).k8}) (tk:=s.sP) hm (w0e _)) ml)
end
open AutoSeq1 (wpAny_loadPart')
def Xy(hh:A.Zj=none)(iN:l≠I)(Z1:s.a5.Ĺ I l ((p9.dt:a6)-1))(hl:s.a5._M l p9)(hsz:p9.dt<=vr)
  (hQ:∀s' sT,á [I] (λa b=>b=a) s s'->à (λi v=>p9[p9.dt-1-i]?=ab v) sT p9.dt->Q sT.vZ s'):oS (q_ jd w) A (ŉ (.bj I)) Q E s:=by
 have bR:∀b∈[I,l],b<s.a5.fy.dt:=λb hb=>by
  rcases w0g.mp hb with z|z
  .rw[z];let⟨_,e,_⟩:=Z1;exact gw.xq e
  .rw[w1e.mp z];let⟨_,e,_⟩:=hl;exact gw.xq e
 exact WZ (Ϫ.listRev (A:=A.Ko) hh I l iN p9).toS (λ_ _ st=>st.2.1.ZH) ⟨w1b _,by simpa using Z1,hl⟩ bR w1h hQ hsz
theorem Wa(I l)(p9)(iN:l≠I)(hsz:p9.dt<=vr):
  _N (u5.«tuple.__new__» ⟨[.ny "tuple", .bj I],[]⟩)
   (λA R s=>A.Zj=none/\s.a5.Ĺ I l ((p9.dt:a6)-1)/\s.a5._M l p9/\∀(s':oU)(sT:yx dS),á [I] (λa b=>b=a) s s'->à (λi v=>p9[p9.dt-1-i]?=ab v) sT p9.dt ->
    R (.ok (.KJ (.bj s'.a5.fy.dt))) {s' with a5:=s'.a5.si {oh:=.ny "tuple", oo:=.pJ sT}}):=
 ._Y λjd w A R s h=>by
  let⟨hh,Z1,hl,h⟩:=h;have pA:=sub_tuple_self;have zeS:=init_tuple_lookup;have hmh:=madeHere_tuple;have hT:s.Κ (.bj I) "list_reverseiterator":=Z1.ZH;have T4:A.Ko.Zj=none:=hh
  wp_walk using ź hT,Xy T4 iN Z1 hl hsz
  intro s' sT hm ml;show oS _ _ (u5.Yo.Û sT.vZ.k8 >>= λv=>KJ v) _ _ _
  unfold u5.Yo.Û;refine lb (Ψ ?_ (show sT.vZ.k8.dt<=vr by simp only[w5e];rw[ml.1];exact hsz));refine tW ⟨_,rfl,?_⟩
  simp_all
def zcW(hh:A.Zj=none)(iN:l≠I)(Z1:s.a5.Ĺ I l ((p9.dt:a6)-1))(hl:s.a5._M l p9)(hsz:p9.dt<=vr)
  (h:∀(h':gw)(tk:ar)(sT:yx dS),(∀b o,b≠I->s.a5.g0 b=ab o->h'.g0 b=ab o)->à (λi v=>p9[p9.dt-1-i]?=ab v) sT p9.dt->Q (.bj h'.fy.dt) {s with a5:=h'.si {oh:=.ny "tuple", oo:=.pJ sT},sP:=tk}):
  oS (q_ jd w) A (yd (.ny "tuple") [.bj I]) Q E s:=by
 refine ņ F.called_tuple (by decide) (F.typeCall_tuple_1 _) (F.newCall_tuple_1 _) (λYc=>F.zbQ Yc _) F.entry_tuple_new
  (Wa I l p9 iN hsz) ⟨hh,Z1,hl,λs' sT hm ml=>⟨⟨_,gw.A9 _ rfl,rfl⟩,?_⟩⟩
 rw[á.eq_with hm];exact h s'.a5 s'.sP sT (λb o hb e=>hm.a5 b o (λz=>hb (w1e.mp z)) e) ml
end rh
def zdj(K:Fg)(te:TE):TE:=λσ H Q=>te σ H λx H1=>∃p ys,x=.bj p/\bJ K H1 p ys/\∀l,H1 l=none->Q (.bj l) (ot H1 l (.gs ys.UE))
def X7{p1 p2 sC kG:vY}(hc:X.TR=true)(Eb:X.mg "tuple"=none)(u9:X.mg "reversed"=none)(he:PE X e te)(DZ:autoParam (Gl X "tuple") jJ)(pf:autoParam (Gl X "reversed") jJ)
  (m9:autoParam (p5 [.wc (.oL "reversed" p2) [e] [] kG] X.a7=(false,eval (.wc (.oL "reversed" p2) [e] [] kG) X.a7)::p5 [] X.a7) jJ)(iW:autoParam (p5 [e] X.a7=(false,eval e X.a7)::p5 [] X.a7) jJ):
  PE X (.wc (.oL "tuple" p1) [.wc (.oL "reversed" p2) [e] [] kG] [] sC) (zdj X.K te):=by
 intro cf s σ H Q I h;refine ο (qM I DZ Eb L1.Mk.Ε.«tuple» ?_ (by decide));refine L1.Mk.ϭ ?_ m9 rfl;rw[m9];show oS _ _ (Ù ((false,eval (.wc (.oL "reversed" p2) [e] [] kG) X.a7)::A4 sC (p5 [] X.a7))) _ _ s;refine Zp.ù ?_;refine ο (qM I pf u9 L1.Mk.Ε.«reversed» ?_ (by decide));refine L1.Mk.ϭ ?_ iW rfl;rw[iW];show oS _ _ (Ù ((false,eval e X.a7)::A4 kG (p5 [] X.a7))) _ _ s;refine Zp.ù (bw (he cf s σ H _ I h) λv s1 ⟨x,H1,I1,rx,p,ys,ex,hq,q⟩=>Zp.ú ?_)
 subst ex;cases rx;let⟨ax,r',pl,hz⟩:=I1.xE hq;have hl:=pl.yP;have bR:p<s1.a5.fy.dt:=by let⟨_,e,_⟩:=hl;exact gw.xq e
 refine call_reversed_list hl ?_;refine Zp.ú ?_;have hh:X.A.Zj=none:=I1.ok.hd hc;refine rh.zcW (p9:=ax.k8) hh (w0p bR) ⟨_,gw.A9 _ rfl,rfl,rfl⟩ (hl.si _) (by grind [sS.aj]) λh' tk sT kp ml=>?_
 have up:∀b o,s1.a5.g0 b=ab o->h'.g0 b=ab o:=λb o pb=>kp b o (w0p (gw.xq pb)) (gw.v7 _ pb)
 have I2:je X cf σ H1 {s1 with a5:=h',sP:=tk}:=I1.Ya (t':=tk) up
 have ea:sT=ax.UE.k8:=by
  let⟨n1,n2⟩:=ml;apply yx.ext';apply w2b
  grind
 subst ea
 have I3:je X cf σ (ot H1 h'.fy.dt (.gs ys.UE)) {s1 with a5:=h'.si {oh:=.ny "tuple", oo:=.pJ ax.UE.k8},sP:=tk}:=
  I2.Lf (t':=tk) (λb o e=>gw.v7 _ e) (w0e _) (show aS X.jd X.w _ _ _ (.gs ys.UE)from⟨by grind,ax.UE,r'.UE,_n.yL _ _,_,gw.A9 _ rfl,rfl⟩)
 exact⟨.bj h'.fy.dt,_,I3,rfl,q _ (I2.aL.xS (w0e _))⟩
open PySem PySem.Spec PyProof.Rows
structure zeO(K:Fg)(D:f'):Prop where
 ga:ϙ K (.bj D) "__getattribute__"=ab (ab (.yR "BaseException.__getattribute__"))
 gt:ϙ K (.bj D) "__getattr__"=ab none
 cl:ϙ K (.bj D) "__class__"=ab (ab (.yR "object.__class__"))
 zff:ũ K (.yR "object.__class__") "__get__"=ab (ab (.yR "getset_descriptor.__get__"))
 tk:oa.W.takesIn K (.yR "object.__class__")=ab true
 mo:mroIn K D (.ny "object")=ab true
 mb:mroIn K D (.ny "BaseException")=ab true
 cd:(oa.W.clsIn K D).Bt=true
structure qU(P:wO)(w:vq)(K:Fg)(mg:d3->fv dS)(j3:gw)(k:ar)(x:d3)(ps:ai d3)(sp:Sp):Prop where
 ex:∃f fd,ei P w K mg j3 (eh P w) k f fd ps sp/\mg x=ab (.bj f)/\_V K (.bj f)=true/\ZS K fd ps []
structure zeZ(P:wO)(w:vq)(K:Fg)(mg:d3->fv dS)(j3:gw)(k:ar)(x:d3)(ps:ai d3)(sp:Sp):Prop where
 ex:∃f fd,zes P w K mg j3 k f fd ps sp/\mg x=ab (.bj f)/\_V K (.bj f)=true/\ZS K fd ps []
structure At(K:Fg)(mg:d3->fv dS)(x:d3)(st:Rl)(ps:ai d3):Prop where
 ex:∃f fd,xy K x x st f fd/\mg x=ab (.bj f)/\ZS K fd ps []
section
variable{k:ar}{ps:ai d3}{sp:Sp}{p:vY}{t:TA}
def z8t(C:qU X.jd X.w X.K X.mg X.j3 k x ps sp)(hr:bp k X.A)(hx:eZ (eh X.jd X.w) X EE)(ha:PA X (e::es) t)(hg:autoParam (Gl X x) jJ)
  (jH:autoParam ((x==("__debug__":d3))=false) jK)(he:autoParam (p5 (e::es) X.a7=(false,eval e X.a7)::p5 es X.a7) jJ)(d9:autoParam ((A4 gJ (p5 es X.a7)).vb (·.1)=false) jJ):
  PE X (.wc (.oL x p) (e::es) [] gJ) (qm sp [] EE t):=by
 let⟨f,fd,F,m,kp,b⟩:=C.ex;exact za9 F hr hg m kp b .rA hx ha jH he d9
end
section
variable{t:TA}{YR p:vY}
theorem AW(i:ar)(hN:X.N.x6)(he:PE X e te)(hi:autoParam (X.N[i]?=ab x) jJ)(hx:autoParam (Zq X.a7.d0 x) jM)(hs:autoParam (ZO e (ab (.oL x YR)) gJ.Yq X.a7=vo false) jJ)(hf:autoParam (X.fn x=true\/X.a7.d0.pM.gr x=ab .local) jL):
  PS X (.ZR [.oL x YR] e gJ) (ql te (bM i)):=z8e hN hi hx he hs hf
theorem ug(i:ar)(hN:X.N.x6)(hi:autoParam (X.N[i]?=ab x) jJ)(hx:autoParam (Zq X.a7.d0 x) jM)(hf:autoParam (X.fn x=true\/X.a7.d0.pM.gr x=ab .local) jL):PG X (.oL x gJ) (bM i):=z2y hN hi hx hf
theorem z8u{o:pN}{to:TE}{YW:vY}(ho:PE X o to)(ha:PA X (e::es) t)(dF:autoParam (Ϗ o "append" X.a7 (eval o X.a7)=eval o X.a7) jJ)
  (dJ:autoParam (((A4 gJ (p5 (e::es) X.a7)).tB (λx=>!x.1)&&(ϐ gJ (ϝ [] X.a7)).tB (λx=>x.1.Bt)&&decide ((e::es).aj+([]:ai ZI).aj+(if([]:ai ZI).UD then 0 else 1)<30))=true) jJ)
  (dN:autoParam ((YW.ϖ==gJ.Yq)=true) jJ)(hs:autoParam (p5 (e::es) X.a7=(false,eval e X.a7)::p5 es X.a7) jJ)(cK:autoParam ((A4 gJ (p5 es X.a7)).vb (·.1)=false) jJ):
  PE X (.wc (.Δ o "append" YW) (e::es) [] gJ) (L5 X.K "list" nB to t):=JO oa.F.ę oa.F.zdr oa.F.type_list_append Hb ho ha dF dJ dN hs cK
end
theorem ua(h:H p=none)(o):au H (ot H p o):=λb u q=>by rw[bh (i3 q h)];exact q
def au.gs(e:au H H')(h:c7 K H a xs):c7 K H' a xs:=by
 rcases h with(h|⟨o,h⟩)|h
 .exact .j' (.j' (e _ _ h))
 .exact .j' (.mv ⟨o,e _ _ h⟩)
 .exact .mv h
abbrev qb(o:sy):HO:=.eG o (.ie 0)
abbrev iV(o:sy)(q:d3)(c:f'):HO:=.eG o (.mT #[.wF false,.str q 0,.bj c])
abbrev km(o:sy):HO:=.eG o (.ext λ_=>kc)
abbrev Cs:=ai (f'×sy)
def b9(H:Hp)(cs:Cs):Hp:=λb=>match cs.gr b with
 |ab _=>none
 |none=>H b
def bD(H:Hp)(cs:Cs):Hp:=λb=>match cs.gr b with
 |ab o=>ab (km o)
 |none=>H b
def pZ(h:cs.gr b=ab o):b9 H cs b=none:=by unfold b9;rw[h]
def lM(h:cs.gr b=none):b9 H cs b=H b:=by unfold b9;rw[h]
def mL(h:cs.gr b=ab o):bD H cs b=ab (km o):=by unfold bD;rw[h]
def gp(h:cs.gr b=none):bD H cs b=H b:=by unfold bD;rw[h]
def vN(h:H b=none):b9 H cs b=none:=by grind [b9]
def bc(H:Hp)(cs:Cs):Prop:=∀b o,cs.gr b=ab o->H b=ab (km o)
def bc.wj(c:bc H cs)(h:H b=none):cs.gr b=none:=by
 cases q:cs.gr b with
 |none=>rfl
 |ab o=>rw[c b o q]at h;cases h
def bc.vC(c:bc H cs)(h:H b=ab u)(n:∀o,u≠km o):cs.gr b=none:=by
 cases q:cs.gr b with
 |none=>rfl
 |ab o=>rw[c b o q]at h;grind
def bc.cO(c:bc H cs)(h:H b=ab u)(n:∀o,u≠km o):b9 H cs b=ab u:=by rw[lM (c.vC h n)];exact h
def JP(h:b9 H cs b=ab u):H b=ab u/\cs.gr b=none:=by
 unfold b9 at h;split at h
 .cases h
 .rename_i q;exact⟨h,q⟩
theorem L_(t:d5 u):∀o,u≠km o:=λo z=>by subst z;exact t
theorem dX.rm(x:dX P w H h)(c:bc H cs):dX P w (b9 H cs) h:=λa u e=>by
 let⟨e1,_⟩:=JP e;exact(x a u e1).fE (λb v _ q=>q) (λb q=>c.cO q λo z=>nomatch z) λb v t q=>c.cO q (L_ t)
theorem dX.add(x:dX P w H h)(hc:∀b o,cs.gr b=ab o->H b=none/\h.g0 b=ab o):dX P w (bD H cs) h:=λa u e=>by
 cases q:cs.gr a with
 |ab o=>
  rw[mL q]at e;cases e;exact⟨(hc a o q).2,trivial,⟨o,(hc a o q).2⟩,λ_ _ _ _=>trivial⟩
 |none=>
  rw[gp q]at e
  have wj:∀b v,H b=ab v->bD H cs b=ab v:=λb v z=>by
   cases q2:cs.gr b with
   |ab o=>grind
   |none=>grind [gp]
  exact(x a u e).fE (λb v _ q=>q) (λb q=>wj b _ q) λb v t q=>wj b v q
def OW(x:dX P w H h)(e:H f=ab (iV o q c)):h.g0 f=ab o/\h.ķ (.bj c) q:=by
 let⟨h1,h2⟩:=(show h.g0 f=ab o/\aS P w H h f (.mT #[.wF false,.str q 0,.bj c])from x f _ e);refine⟨h1,?_⟩;rcases h2 with⟨_,_,p0,_⟩|⟨q',c',oc,ob,vs,t,_,p1,p2,h3,h4,h5,_⟩
 .cases p0
 .cases p1;cases p2;exact⟨c,oc,vs,t,rfl,(show h.g0 c=ab oc/\_ from x c _ h3).1,h4,h5⟩
theorem Un.xY(u:Un fs ex (b9 H cs) H' h h')(c:bc H cs):Un fs ex H (bD H' cs) h h' where
 wN:=λb o q n hb hx=>u.wN b o q (vN n) hb hx
 yM:=λb o q n hb hx=>u.yM b o q (vN n) hb hx
 rD:=λb o q n hx=>by rw[gp (c.wj n)];exact u.rD b o q (vN n) hx
 ZP:=u.ZP
 gZ:=λb xs q=>by
  have z:=c.vC q λo z=>nomatch z
  rw[gp z];exact u.gZ b xs (by rw[lM z];exact q)
 bo:=λb o v q=>by
  cases z:cs.gr b with
  |ab o'=>
   rw[mL z];rw[c b o' z]at q;exact q
  |none=>rw[gp z];exact u.bo b o v (by rw[lM z];exact q)
 fP:=λb ps q=>by
  have z:=c.vC q λo z=>nomatch z
  rw[gp z];exact u.fP b ps (by rw[lM z];exact q)
def Un.eU(u:Un fs ex (bD H cs) H' h h')(aL:dX P w H' h')(hc:∀b o,cs.gr b=ab o->H b=none/\h.g0 b=ab o):Un fs ex H (b9 H' cs) h h':=by
 have UA:∀b o,cs.gr b=ab o->H' b=ab (km o)/\h'.g0 b=ab o:=λb o z=>by
  have q:=u.bo b o _ (mL z);exact⟨q,(show h'.g0 b=ab o/\_ from aL b _ q).1⟩
 refine⟨λb o q n hb hx=>?_,λb o q n hb hx=>?_,λb o q n hx=>?_,u.ZP,λb xs q=>?_,λb o v q=>?_,λb ps q=>?_⟩
 .cases z:cs.gr b with
  |ab o'=>
   grind
  |none=>exact u.wN b o q (by rw[gp z];exact n) hb hx
 .cases z:cs.gr b with
  |ab o'=>
   have:=(hc b o' z).2;rw[q]at this;cases this;exact⟨o.Zd,(UA b _ z).2⟩
  |none=>exact u.yM b o q (by rw[gp z];exact n) hb hx
 .cases z:cs.gr b with
  |ab o'=>exact pZ z
  |none=>rw[lM z];exact u.rD b o q (by rw[gp z];exact n) hx
 .have z:cs.gr b=none:=by
   cases z:cs.gr b with
   |ab o'=>grind
   |none=>rfl
  rw[lM z];exact u.gZ b xs (by rw[gp z];exact q)
 .have z:cs.gr b=none:=by
   cases z:cs.gr b with
   |ab o'=>grind
   |none=>rfl
  rw[lM z];exact u.bo b o v (by rw[gp z];exact q)
 .have z:cs.gr b=none:=by
   cases z:cs.gr b with
   |ab o'=>grind
   |none=>rfl
  rw[lM z];exact u.fP b ps (by rw[gp z];exact q)
abbrev df(p6:d3)(d0:yz)(f:f')(cd:dS)(cl:ai (d3×f'))(s:oU):Rb:=oa.W.envX p6 d0 s.a5.fy.dt f cd cl
def gF(P:wO)(w:vq)(K:Fg)(mg:d3->fv dS)(j3:gw)(N:ai d3)(p6:d3)(d0:yz)(f:f')(cd:dS)(cl:ai (d3×f'))(A:C7)(qp:ai Rb)(s:oU)(H:Hp):Cx where
 jd:=P
 w:=w
 K:=K
 mg:=mg
 j3:=j3
 A:=A.ZE (df p6 d0 f cd cl s)
 N:=N
 aA:=s
 aG:=H
 a7:=df p6 d0 f cd cl s
 qp:=qp
 Yd:=df p6 d0 f cd cl s::qp
 ex:=[]
 TR:=true
 fn:=λ_=>false
 pn:=[]
 xe:=λ_ _=>vk
structure gB(ps Nf:ai d3)(sc:yz):Prop where
 xx:sc.xx=.Z0
 co:sc.ï=false
 gen:sc.ð=false
 nd:ps.x6
 pO:∀y∈sc.pM,y.2≠.t9
 Α:∀x∈ps,sc.pM.gr x=ab .local
 fr:∀y∈Nf,sc.pM.gr y=ab .rD
structure et(cl:ai (d3×f'))(Nf:ai d3)(sc:yz)(zs:ai V)(h:gw)(cs:Cs):Prop where
 La:∀x y c,cl.gr x=ab c->cl.gr y=ab c->x=y
 yD:∀x,(x,Vo.rD)∈sc.pM->∃c,cl.gr x=ab c
 tB:∀x c,cl.gr x=ab c->∃o,cs.gr c=ab o
 jB:∀c o,cs.gr c=ab o->h.g0 c=ab o/\∃v,o.oo=.t9 v
 uO:∀(i:ar) y z,Nf[i]?=ab y->zs[i]?=ab z->∃c o u,cl.gr y=ab c/\cs.gr c=ab o/\o.oo=.t9 (ab u)/\uu z u
section
variable{P:wO}{w:vq}{ps:ai d3}{f:f'}{cl:ai (d3×f')}{s:oU}{us:ai dS}
def za'{v:dS}:∀{ps:ai d3}{us:ai dS}{i:ar},ps.x6->ps[i]?=ab x->us[i]?=ab v->(ps.wk us).UE.gr x=ab v:=by
 intro ps us i nd h1 h2;have hm:(x,v)∈(ps.wk us).UE:=ai.mem_reverse.uR (w0s (i:=i) (by grind))
 have hn:((ps.wk us).UE.aT (·.1)).x6:=by
  rw[ai.map_reverse];show ai.Zl (·≠·) _;rw[ai.pairwise_reverse];refine ai.Zl.vW (λh=>Ne.symm h) (show((ps.wk us).aT (·.1)).x6 from ?_)
  exact nd.sublist (by
   clear hm h1 h2
   induction ps generalizing us with
   |rA=>simp
   |qY p ps ih=>cases us with
    |rA=>simp
    |qY u us=>simp_all)
 generalize (ps.wk us).UE=l at hm hn
 induction l with
 |rA=>cases hm
 |qY p l ih=>
  grind
def z3b(S:gB ps Nf d0)(C:et cl Nf d0 zs s.a5 cs)(hd:A.Zj=none)(e0:f6 P w K mg j3 A qp s H)(hn:∀c o,cs.gr c=ab o->H c=none)
  (hl:vs.aj=ps.aj)(hz:zs.aj=Nf.aj)(r:sS vs us)
  (ns:cL.Ns s.a5.fy.dt (λx=>(ps.wk us).UE.gr x))(hs:gw._p s.a5.fy.dt (s.a5.si {oh:=.ny "frame", oo:=.we #[]}) cL):
  je (gF P w K mg j3 (ps++Nf) p6 d0 f cd cl A qp s H) [] (vs.aT ab++zs.aT ab) H {s with a5:=cL,sP:=tk}:=by
 have hk:∀b o,s.a5.g0 b=ab o->cL.g0 b=ab o:=λb o e=>hs.xu b o (w0p (gw.xq e)) (gw.v7 _ e)
 have nY:∀b:f',b∉([]:ai f'):=λb z=>nomatch z
 have fB:∀x c,cl.gr x=ab c->H c=none/\∃o,s.a5.g0 c=ab o/\∃v,o.oo=.t9 v:=λx c e=>by
  let⟨o,q⟩:=C.tB x c e;exact⟨hn c o q,o,C.jB c o q⟩
 refine⟨⟨e0.Yh,S.xx,rfl,rfl,w0e _,C.La,λy hy=>?_,(λx c z=>nomatch z),λ_=>hd,C7.Œ e0.Yy,.mv ⟨rfl,rfl⟩,λb z=>uP z (nY b),e0.bs,e0.l_,λb _ _=>nY b,λb z=>uP z (nY b),e0.eQ,e0.m6,e0._a⟩,
  rfl,e0.QN,Un.Ya hk,⟨_,ns,λi y v h1 h2 h3=>?_⟩,λy c h=>?_,e0.aL.xS (w0e _),λy c h=>(fB y c h).1,λp hp=>uP (show p∈([]:ai (f'×sy))from hp) (by simp),e0.aL.Ya hk,?_⟩
 .have hy:d0.pM.gr y=ab .t9\/d0.pM.gr y=ab .rD:=hy;rcases hy with hy|hy
  .exact uP rfl (S.pO _ (oa.ZL hy))
  .exact C.yD y (oa.ZL hy)
 .have h1:(ps++Nf)[i]?=ab y:=h1
  by_cases hi:i<ps.aj
  .rw[w1g (by simpa [hl]using hi),w0w]at h2;rw[w1g hi]at h1
   have ha:vs[i]?=ab v:=by
    grind
   let⟨u,hu,rv⟩:=r.Df ha;exact⟨u,rv,.j' ⟨S.Α y (w0s h1),za' S.nd h1 hu⟩⟩
  .have rS:ps.aj<=i:=w2z.mp hi;rw[w1i (by simpa [hl]using rS),w0w,w0a,hl]at h2;rw[w1i rS]at h1
   have ha:zs[i-ps.aj]?=ab v:=by
    grind
   let⟨c,o,u,e1,e2,e3,e4⟩:=C.uO _ _ _ h1 ha;exact⟨u,e4,.mv ⟨.mv (S.fr y (w0s h1)),c,e1,o,hk _ _ (C.jB c o e2).1,e3⟩⟩
 .let⟨_,o,q,v,d⟩:=fB y c h;exact⟨v,o,hk _ _ q,d⟩
 .show _=(ps++Nf).aj;simp[hl,hz]
def z3c
  (hr:bp (k+1) A)(e0:f6 P w K mg j3 A qp s H)(hf:H f=ab (iV (Zb name p6 r5 rK d0 cl pm c' cP) p6 c'))
  (S:gB ps Nf d0)(CI:bc H cs)(C:et cl Nf d0 zs s.a5 cs)(jh:Ν (ϰ name p6 r5 rK d0 cl pm (.bj c') cP) ⟨us,[]⟩=vo (ps.wk us))
  (hl:vs.aj=ps.aj)(hz:zs.aj=Nf.aj)(r:sS vs us)
  (hb:PE (gF P w K mg j3 (ps++Nf) p6 d0 f (.bj c') cl A qp s (b9 H cs)) rK t)(hq:t (vs.aT ab++zs.aT ab) (b9 H cs) λv H'=>(∀b o,cs.gr b=ab o->H' b=none)->Q v (bD H' cs)):
  Zv (q_ P w) A (.yd (.bj f) ⟨us,[]⟩) (CR CX qp P w H s Q E) s:=by
 have lim:s.a5.ϸ:=e0.Yh.Ó.Yp λb o e=>(e0.bs b o e).1
 let⟨DY,eE⟩:=OW e0.aL hf
 have e1:f6 P w K mg j3 A qp s (b9 H cs):=⟨e0.Yy,e0.Yh,λb o q=>⟨(e0.bs b o q).1,vN (e0.bs b o q).2⟩,e0.l_,e0.eQ,λb hb=>vN (e0.m6 b hb),e0.aL.rm CI,e0.QN,λa q P m=>by
  let⟨ps,e,p⟩:=e0._a a q P m;exact⟨ps,CI.cO e (λo z=>nomatch z),p⟩⟩
 refine oa.W.zcA hr.vg DY rfl S.co S.gen rfl eE ?_;rw[jh];refine tW (Ÿ S.pO (λy hy=>S.Α y.1 (w3k hy).1) (λcL lx KY=>⟨lim.xS _ KY,?_⟩) S.xx)
 show Zv _ _ (.expr rK (df p6 d0 f (.bj c') cl s)) _ _;have I:=z3b (tk:=s.sP+(ps.wk us).aj) (p6:=p6) (f:=f) (cd:=.bj c') S C hr.hd e1 (λc o q=>pZ q) hl hz r lx KY
 refine oa.W.zcB (Zz (hb [] _ _ _ _ I hq) (λu s' g_=>?_) λe s' z=>vk.oP z)
 let⟨v,H',J,rv,q⟩:=g_;have un:Un (fW qp) [] (b9 H cs) H' s.a5 s'.a5:=J.j3;refine⟨v,bD H' cs,J.os,J.QN,un.xY CI,J.aL.add λb o z=>?_,rv,q λb o z=>un.rD b o (C.jB b o z).1 (pZ z) (by simp)⟩
 have nf:b∉fW qp:=λhb=>by
  have:=e0.m6 b hb;rw[CI b o z]at this;cases this
 have g:=(C.jB b o z).1;exact⟨un.rD b o g (pZ z) (by simp),un.wN b o g (pZ z) nf (by simp)⟩
end
def om(P:wO)(w:vq)(K:Fg)(mg:d3->fv dS)(j3:gw)(CX:mU)(k:ar)(sp:V->ai V->Hp->VK->XK->Prop):Prop:=∀(x:V)(vs:ai V)(H:Hp)(Q:VK)(E:XK),sp x vs H Q E ->
 ∃f oc od fd sl u,x=.bj f/\H f=ab (.eG ⟨oc,od,.Zn fd,sl⟩ u)/\∀(A:C7)(qp:ai Rb)(s:oU)(us:ai dS),bp k A->f6 P w K mg j3 A qp s H->sS vs us ->
  Zv (q_ P w) A (.yd (.bj f) ⟨us,[]⟩) (CR CX qp P w H s Q E) s
def C'(H:Hp)(x:V):Prop:=∃f oc od fd sl u,x=.bj f/\H f=ab (.eG ⟨oc,od,.Zn fd,sl⟩ u)
def zdZ(sp:V->ai V->Hp->VK->XK->Prop)(EE:L2.St->XK)(tv:TE)(t:TA):TE:=λσ H Q=>tv σ H λx H1=>C' H1 x/\t σ H1 λvs H2=>sp x vs H2 Q (EE σ)
section
variable{CX:mU}{k:ar}{sp:V->ai V->Hp->VK->XK->Prop}{p:vY}{tv:TE}{t:TA}
def zba(F:om X.jd X.w X.K X.mg X.j3 CX k sp)(hr:bp k X.A)(hv:PE X (.oL x p) tv)(hx:eZ CX X EE)(ha:PA X (e::es) t)
  (he:autoParam (p5 (e::es) X.a7=(false,eval e X.a7)::p5 es X.a7) jJ)(d9:autoParam ((A4 gJ (p5 es X.a7)).vb (·.1)=false) jJ):
  PE X (.wc (.oL x p) (e::es) [] gJ) (zdZ sp EE tv t):=by
 intro cf s σ H Q I h;refine ο (bw (hv cf s σ H _ I h) λu s1 ⟨y,H1,I1,ry,⟨f,oc,od,fd,sl,zfo,ey,ef⟩,q⟩=>?_)
 subst ey;obtain rfl:u=dS.bj f:=ry;refine oa.W.callWith_F ⟨oc,od,fd,sl,(show s1.a5.g0 f=ab _/\_ from I1.aL f _ ef).1⟩ (bw (ha gJ cf s1 σ H1 _ I1 q) λus s2 ⟨vs,H2,I2,r,q2⟩=>?_) he d9
 let⟨zce,UR,US,Ti,Ax,u',Kn,S_,mH⟩:=F _ _ _ _ _ q2;cases Kn;refine⟨⟨UR,US,Ti,Ax,(show s2.a5.g0 f=ab _/\_ from I2.aL f _ S_).1⟩,þ (η (mH X.A X.Yd s2 us hr I2.o3 r) λr s' hq=>?_)⟩
 cases r with
 |_S e=>exact hx cf σ H2 s2 e s' I2 hq
 |ok fl=>
  cases fl with
  |KJ u=>exact I2.Ϭ hq
  |next=>exact vk.oP hq
  |_z=>exact vk.oP hq
  |_A=>exact vk.oP hq
end
def Xz(l)(h:ľ l)(z:Ã YR (l++[_F a,_F b,c])=ab cv):Ã YR l=ab cv\/cv=c:=by
 fun_induction ľ l with
 |case1=>
  grind [Ã,_F]
 |case2 x t y u v wb ih=>
  simp only[ai.cons_append,Ã]at z |-
  grind
 |case3=>exact h.oP
def _J(h:gw)(mg:d3->fv dS):Prop:=∃bm ob,mg "__builtins__"=ab (.bj bm)/\bm≠Â/\h.g0 bm=ab ob/\ob.oh=.ny "module" /\ ob.we=ab Â/\ob.oo=.plain
def mW(X:Cx)(r5:_m)(rK:pN)(d0:yz)(aN:ai (d3×f'))(f:f')(H H':Hp):Prop:=č d0 X.a7=vo aN/\∃(H1:Hp)(pm cP:dS)(c':f'),(H1=H\/∃c oc,H c=none/\H1=ot H c (qb oc))/\H1 f=none /\
 H'=ot H1 f (iV (Zb "<lambda>" (X.a7.p6++"<lambda>") r5 rK d0 aN pm c' cP) (X.a7.p6++"<lambda>") c')
def AG(X:Cx)(r5:_m)(rK:pN)(d0:yz):TE:=λ_ H Q=>∀f aN H',mW X r5 rK d0 aN f H H'->Q (.bj f) H'
structure χ(X:Cx):Prop where
 ex:∃c P a,X.a7._P=.bj c/\ë X.K c P=true/\(a,iD P (X.a7.p6++"<lambda>"))∈X.K
 bm:_J X.j3 X.mg
def PZ(M:χ X)(ji:È r5 X.a7=([],[]))(cV:∀x∈d0.pM,x.2=.rD->X.a7.yt x.1=ab .t9\/X.a7.yt x.1=ab .rD):
  PE X (.Yu r5 rK d0 cR) (AG X r5 rK d0):=by
 intro cf s σ H Q I h;let⟨aN,dH,_,_⟩:=zr (d0:=d0) (a7:=X.a7) λx hx hf=>I.ok.yD x.1 (cV x hx hf)
 let⟨c,P,a,tM,qC,wJ⟩:=M.ex;have KI:=oa.W.codeHd_of_K I.Yh.yC qC;let⟨ps,hP,p0,p1⟩:=I.ok._a a _ P wJ;let⟨_E,eP⟩:=I.j3.fP P ps hP
 have q0:(ps++_E)[0]?=ab (.wF true):=by
  grind
 have q1:(ps++_E)[1]?=ab (.str (X.a7.p6++"<lambda>") 0):=by
  grind
 have zcU:aS X.jd X.w H s.a5 P (.mT (ps++_E)):=I.aL P _ eP;rcases zcU with⟨q,qs,r0,r1,g1,tr,cd⟩|⟨_,_,_,_,_,_,r0,_⟩
 case mv=>rw[q0]at r0;cases r0
 rw[q1]at r1;cases r1;have nP:∀b,H b=none->b≠P:=λb n z=>by rw[z,eP]at n;cases n
 have T1:Yr≠P:=by
  let⟨o,es,ep,e,_⟩:=I.Yh._u;exact nP _ (I.bs _ o e).2
 have hB:s.a5.BuiltinsAt X.mg P:=by
  let⟨bm,ob,b1,b2,b3,b4,b5,b6⟩:=M.bm;refine⟨bm,ob,b1,b2,λz=>?_,nP _ (I.bs bm ob b3).2,(I.bs bm ob b3).1,b4,b5,b6⟩
  let⟨o,es,ep,e,d,_⟩:=I.Yh._u
  grind
 have lx:=I.Yh._u.Yp I.bk;refine oa.W.kla_eval ji ?_;cases hc:Ã cR qs.vZ with
 |ab cv=>
  let⟨c',oc,vs,t,rfl,k1,k2,k3⟩:=cd cR cv hc;refine oa.W.kla_makeFunctionHit (mg:=X.mg) dH I.ok._u lx tM (KI.Yp I.bk) g1 tr hc hB λcP h' tk hk hsz=>?_
  have fr:H h'.fy.dt=none:=I.aL.xS hsz;refine⟨.bj h'.fy.dt,_,I.Lf (t':=tk) (λb u e=>gw.v7 _ (hk b u e)) hsz ?_,rfl,h _ aN _ ⟨dH,H,(X.mg "__name__").g6 .none,cP,c',.j' rfl,fr,rfl⟩⟩
  exact⟨gw.A9 _ rfl,.mv ⟨_,c',oc,_,vs,t,rfl,rfl,rfl,by rw[bh (i3 k1 fr)];exact k1,k2,k3,gw.A9 _ rfl⟩⟩
 |none=>
  refine oa.W.kla_makeFunction (mg:=X.mg) dH I.ok._u lx tM (KI.Yp I.bk) g1 tr hc T1 hB λc' cP h' tk hx KH bR En Um=>?_
  let⟨c2,oc,vs,t,ec,wL,hd,hv⟩:=En;cases ec;have fc:H c'=none:=I.aL.xS KH;have iN:∀b u,H b=ab u->b≠c':=λb u z=>i3 z fc
  have kp:∀b o,H b=none->s.a5.g0 b=ab o->h'.g0 b=ab o:=λb o n e=>hx b o (nP b n) e
  have Eh:dX X.jd X.w (ot H c' (qb oc)) h':=λa u e=>by
   by_cases ha:a=c'
   .subst ha;rw[bT]at e;cases e;exact⟨wL,oc,wL⟩
   .rw[bh ha]at e
    by_cases TJ:a=P
    .subst TJ;rw[eP]at e;cases e;refine .j' ⟨_,_,q0,q1,Um,?_,λgJ cv z=>?_⟩
     .grind [TriplesOk_snoc]
     .rw[yx.toList_append]at z;rcases Xz _ tr z with z|z
      .grind [bh]
      grind [bT]
    .refine(I.aL a u e).fE (λb v hb q=>hx b v ?_ q) (λb q=>by grind [bh]) λb v _ q=>by grind [bh]
     grind
  have un:Un X.fs [] H (ot H c' (qb oc)) s.a5 h':=by
   refine⟨λb o q n _ _=>kp b o n q,λb o q n _ _=>⟨o.Zd,kp b o n q⟩,λb o q n _=>?_,λb o q _=>?_,λb xs q=>by grind [bh],λb o u q=>by grind [bh],λb qs q=>⟨#[],by grind [bh]⟩⟩
   .rw[bh (w0p (w0y (gw.xq q) KH))];exact n
   .by_cases hb:b=P
    .grind
    .exact⟨o,hx b o hb q⟩
  have I1:je X cf σ (ot H c' (qb oc)) {s with a5:=h',sP:=tk}:=I.un un Eh;have f1:ot H c' (qb oc) h'.fy.dt=none:=I1.aL.xS (w0e _);refine⟨.bj h'.fy.dt,_,I1.Lf (t':=tk) (λb u e=>gw.v7 _ e) (w0e _) ?_,rfl,h _ aN _ ⟨dH,_,(X.mg "__name__").g6 .none,cP,c',.mv ⟨c',oc,fc,rfl⟩,f1,rfl⟩⟩
  exact⟨gw.A9 _ rfl,.mv ⟨_,c',oc,_,vs,t,rfl,rfl,rfl,by rw[bh (i3 bT f1)];exact bT,hd,hv,gw.A9 _ rfl⟩⟩
theorem Ma{α:Type}{v:α}:∀{l:ai (f'×α)},(k,v)∈l->∃v',l.gr k=ab v'
 |[],h=>nomatch h
 |(a,b)::l,h=>by
  rw[w3e]
  by_cases e:(k==a)=true
  .simp_all
  .rw[w2v.uR e];rcases w0g.mp h with z|z
   .cases z;simp at e
   .exact Ma z
def dB(aN:ai (d3×f'))(h:gw):Cs:=(aN.aT (·.1)).Ϯ λx=>(aN.gr x).r7 λc=>(h.g0 c).aT λo=>(c,o)
def Gk(e:(dB aN h).gr c=ab o):∃x,aN.gr x=ab c/\h.g0 c=ab o:=by
 let⟨x,_,hx⟩:=w3j.mp (oa.W.mem_of_lookupK e)
 grind [fv.bind_eq_some_iff,fv.map_eq_some_iff]
def B4(e:aN.gr x=ab c)(g:h.g0 c=ab o):(dB aN h).gr c=ab o:=by
 have hm:(c,o)∈dB aN h:=w3j.uR ⟨x,w0o.uR ⟨(x,c),oa.ZL e,rfl⟩,by grind⟩;let⟨o',e'⟩:=Ma hm
 grind [Gk]
structure j_(aN:ai (d3×f'))(Nf:ai d3)(d0:yz)(js:ai ar)(σ:St)(H:Hp)(cs:Cs):Prop where
 La:∀x y c,aN.gr x=ab c->aN.gr y=ab c->x=y
 yD:∀x,(x,Vo.rD)∈d0.pM->∃c,aN.gr x=ab c
 tB:∀x c,aN.gr x=ab c->∃o,cs.gr c=ab o
 jB:∀c o,cs.gr c=ab o->H c=none/\∃v,o.oo=.t9 v
 uO:∀(i:ar) y j z,Nf[i]?=ab y->js[i]?=ab j->σ[j]?=ab (ab z)->∃c o u,aN.gr y=ab c/\cs.gr c=ab o/\o.oo=.t9 (ab u)/\uu z u
def W2{e:dS}(hc:∀b o,cs.gr b=ab o->H b=none/\s.a5.g0 b=ab o)
  (x:eh P w qp (bD H cs) s (λc o H'=>E c o (b9 H' cs)) e s'):eh P w qp H s E e s':=by
 let⟨e,oh,H',B,rfl,rZ,hg,un,aL,ow,hE⟩:=x;have CI:bc H' cs:=λb o z=>un.bo b o _ (mL z)
 refine⟨e,oh,b9 H' cs,B,rfl,rZ,hg,un.eU aL hc,aL.rm CI,⟨ow.fl,λb o q n nb=>?_,λb u o q z=>ow.oF b u o (JP q).1 z,ow.tB,ow.yL⟩,hE⟩
 cases z:cs.gr b with
 |ab o'=>
  have:=(hc b o' z).2;rw[q]at this;cases this;exact ow.oF b _ o (CI b o z) ((show s'.a5.g0 b=ab o/\_ from aL b _ (CI b o z)).1)
 |none=>exact ow.yc b o q (by rw[gp z];exact n) nb
def jr(h:(vo a:Ι α)=vo b):a=b:=by
 first
  |exact oa.Ι.jr h
  |(injection h)
  |(cases h;rfl)
section
variable{k:ar}{f:f'}{fd:ZT}{ps:ai d3}{sp:Sp}
def z3d{σ:St}(F:ei X.jd X.w X.K X.mg X.j3 (eh X.jd X.w) k f fd ps sp)(hr:bp k X.A)(hb:ZS X.K fd ps [])(hx:eZ (eh X.jd X.w) X EE)
  (I:je X cf σ H s)(hc:∀b o,cs.gr b=ab o->H b=none/\s.a5.g0 b=ab o)(hv:∀b o,cs.gr b=ab o->b∉fW X.Yd)(hn:∀b o,cs.gr b=ab o->X.j3.g0 b=none)(r:sS vs us)
  (h:sp vs (bD H cs) (λv H'=>Q v (b9 H' cs)) λc o H'=>EE σ c o (b9 H' cs)):oS (q_ X.jd X.w) X.A (yd (.bj f) us) (EP X cf σ Q) X.xe s:=by
 have hl:us.aj=ps.aj:=by rw[<- r.aj];exact F.vn _ _ _ _ h
 have e0:=I.o3
 have wj:∀b,H b=none->(∀o,cs.gr b≠ab o)->bD H cs b=none:=λb n z=>by
  cases q:cs.gr b with
  |ab o=>exact uP q (z o)
  |none=>rw[gp q];exact n
 have e1:f6 X.jd X.w X.K X.mg X.j3 X.A X.Yd s (bD H cs):=by
  refine⟨e0.Yy,e0.Yh,λb o q=>⟨(e0.bs b o q).1,wj b (e0.bs b o q).2 λo' z=>?_⟩,e0.l_,e0.eQ,λb hb=>wj b (e0.m6 b hb) λo z=>?_,e0.aL.add hc,e0.QN,λa q P m=>?_⟩
  .grind
  .exact hv b o z hb
  .let⟨ps,e,p⟩:=e0._a a q P m;refine⟨ps,?_,p⟩;cases z:cs.gr P with
   |ab o=>grind
   |none=>rw[gp z];exact e
 have wH:=hb s us I.qG (by grind);rw[w1k]at wH;refine þ (η (F.mH X.A X.Yd s (bD H cs) ⟨us,[]⟩ us vs _ _ hr e1 wH r h) λr s' hq=>?_)
 cases r with
 |_S e=>exact hx cf σ H s e s' I (W2 hc hq)
 |ok fl=>
  cases fl with
  |KJ u=>
   let⟨v,H',os,QN,un,aL,rv,q⟩:=hq;have CI:bc H' cs:=λb o z=>un.bo b o _ (mL z)
   exact I.Ϭ ⟨v,b9 H' cs,os,QN,un.eU aL hc,aL.rm CI,rv,q⟩
  |next=>exact vk.oP hq
  |_z=>exact vk.oP hq
  |_A=>exact vk.oP hq
def xB(sp:Sp)(X:Cx)(d0:yz)(Nf:ai d3)(js:ai ar)(E:XK)(σ:St)(Q:VK)(vs:ai V)(H2:Hp):Prop:=∃aN,č d0 X.a7=vo aN/\∀cs,j_ aN Nf d0 js σ H2 cs ->
 sp vs (bD H2 cs) (λv H'=>Q v (b9 H' cs)) λc o H'=>E c o (b9 H' cs)
def zc_(sp:Sp)(X:Cx)(r5:_m)(rK:pN)(d0:yz)(Nf:ai d3)(js:ai ar)(EE:L2.St->XK)(te:TE):TE:=λσ H Q=>te σ H λv1 H1=>∀f aN H2,mW X r5 rK d0 aN f H1 H2->xB sp X d0 Nf js (EE σ) σ Q [v1,.bj f] H2
def Mr{r5:_m}{rK:pN}{d0:yz}{cR p:vY}{Nf:ai d3}{js:ai ar}(F:ei X.jd X.w X.K X.mg X.j3 (eh X.jd X.w) k f fd ps sp)(hr:bp k X.A)(hg:Gl X x)(hm:X.mg x=ab (.bj f))(hk:_V X.K (.bj f)=true)
  (hb:ZS X.K fd ps [])(hx:eZ (eh X.jd X.w) X EE)(M:χ X)(nT:∀y,X.fn y=true)(he:PE X e te)(ji:È r5 X.a7=([],[]))
  (cV:∀x∈d0.pM,x.2=.rD->X.a7.yt x.1=ab .t9\/X.a7.yt x.1=ab .rD)
  (mj:∀(i j:ar) y,Nf[i]?=ab y->js[i]?=ab j->X.N[j]?=ab y/\(y,Vo.rD)∈d0.pM/\jS X.a7.d0 y/\X.a7.yt y≠ab .local)
  (jH:autoParam ((x==("__debug__":d3))=false) jK)(jI:autoParam (p5 [e,.Yu r5 rK d0 cR] X.a7=(false,eval e X.a7)::p5 [.Yu r5 rK d0 cR] X.a7) jJ)
  (pq:autoParam (p5 [.Yu r5 rK d0 cR] X.a7=(false,eval (.Yu r5 rK d0 cR) X.a7)::p5 [] X.a7) jJ)(d9:autoParam ((A4 gJ (p5 [.Yu r5 rK d0 cR] X.a7)).vb (·.1)=false) jJ):
  PE X (.wc (.oL x p) [e,.Yu r5 rK d0 cR] [] gJ) (zc_ sp X r5 rK d0 Nf js EE te):=by
 intro cf s σ H Q I h;have ha:PA X [e,.Yu r5 rK d0 cR] (qo te (qo (AG X r5 rK d0) AJ)):=Cy he (Cy (PZ M ji cV) Jv pq) jI;refine ο (Cw I hg hm ?_ jH);refine oa.W.callWith_K (h₀:=X.j3) I.ok.Yh.yC hk (bw (ha gJ cf s σ H (xB sp X d0 Nf js (EE σ) σ Q) I h) λus s1 ⟨vs,H2,I2,r,aN,dH,q⟩=>⟨I2.qG,?_⟩) jI d9
 let⟨eA,mq,eI,lZ⟩:=zr (d0:=d0) (a7:=X.a7) λx hx hf=>I.ok.yD x.1 (cV x hx hf)
 obtain rfl:eA=aN:=jr (mq.symm.ki dH)
 have YZ:∀b o,(dB eA s1.a5).gr b=ab o->∃x,X.a7.xY.gr x=ab b/\s1.a5.g0 b=ab o:=λb o z=>by
  let⟨x,h1,h2⟩:=Gk z;exact⟨x,eI x b h1,h2⟩
 have jj:∀b o,(dB eA s1.a5).gr b=ab o->H2 b=none/\s1.a5.g0 b=ab o:=λb o z=>by
  let⟨x,h1,h2⟩:=YZ b o z;exact⟨I2.e7 x b h1,h2⟩
 have tK:∀b o,(dB eA s1.a5).gr b=ab o->X.aA.a5.fy.dt<=b:=λb o z=>by
  let⟨x,h1,h2⟩:=YZ b o z;exact I2.ok.xP x b (nT x) h1
 refine z3d (cs:=dB eA s1.a5) F hr hb hx I2 jj (λb o z hb=>?_) (λb o z=>gw.Ŕ (w0r I2.ok.l_ (tK b o z))) r (q _ ⟨λx y c e1 e2=>I2.ok.La x y c (eI x c e1) (eI y c e2),lZ,λx c e=>?_,λc o e=>⟨(jj c o e).1,?_⟩,λi y j z e1 e2 e3=>?_⟩)
 .rcases w0g.mp (I2.jx b hb)with e|yb
  .let⟨x,h1,_⟩:=YZ b o z;exact I2.rC x b h1 e
  .let⟨_,o',q',_⟩:=I2.ok.eQ.Ye yb
   exact uP (gw.xq q') (w2z.uR (tK b o z))
 .let⟨v,o,g,_⟩:=I2.t9 x c (eI x c e);exact⟨o,B4 e g⟩
 .let⟨x,h1,h2⟩:=YZ c o e;let⟨v,o',g,d⟩:=I2.t9 x c h1;rw[h2]at g;cases g;exact⟨v,d⟩
 .let⟨n1,n2,n3,n4⟩:=mj i j y e1 e2;let⟨m,hm,hl⟩:=I2.Zw;let⟨u,ru,l⟩:=hl j y z n1 e3 n3;rcases l with⟨k1,_⟩|⟨k1,c,ec,o,g,d⟩
  .exact uP k1 n4
  .let⟨c',rG⟩:=lZ y n2;have e4:=eI y c' rG;rw[ec]at e4;cases e4;exact⟨c,o,u,rG,B4 rG g,d,ru⟩
end
set_option maxHeartbeats 1000000
def Sh.EH:Sh->fC
 |.Yz .aO=>true
 |_=>false
def Sh.qE:Sh->fC
 |.aO=>true
 |.str=>true
 |_=>false
end L2
namespace D
open PySem L2
variable{G H:Hp}{EE:L2.St->XK}{es:ai pN}{gJ YR:vY}{K:Fg}{σ:St}{x:d3}
abbrev Sv:=a6 ⊕ fC
inductive Dd where
 |k (kvs:ai (Yg×Sv))
structure Lm where
 p6:d3
 r5:_m
 rK:pN
 d0:yz
 nf:ai d3
set_option genInjectivity true in
inductive W where
 |aF|bl (b:fC)|aO (i:a6)|str (x:d3)|gs (xs:ai W)|dI (xs:ai W)|Zf (c:dS)|ba (kvs:Dd)|dw (fz:fC) (sh:Sh) (ks:ai Kx) (ws:ai W)|fn (i:ar) (l:Lm) (ws:ai W)
variable{ws:ai W}
inductive S where
 |no|fr (w:W)|ie (io:fv ar) (ws:ai W)|ba (kvs:Dd)|dw (sh:Sh) (ks:ai Kx) (ws:ai W)
def sV:Sv->V
 |.j' i=>.aO i
 |.mv b=>.bl b
def vi{κ:Type}(kvs:ai (κ×Sv)):ai (κ×V):=kvs.aT λp=>(p.1,sV p.2)
def dO:Dd->HO
 |.k kvs=>.dK (vi kvs)
def zeG:HO->fC
 |.dK _=>true
 |_=>false
theorem vU(h:zeG u=false):dO d≠u:=λz=>by
 subst z;cases d<;>cases h
def c6(G:Hp):ai Kx->ai f'->Prop
 |[],[]=>kc
 |k::ks,b::bs=>bV G k (.bj b)/\c6 G ks bs
 |[],_::_=>vk
 |_::_,[]=>vk
theorem c6.pg(e:au G G'):∀{ks:ai Kx}{bs:ai f'},c6 G ks bs->c6 G' ks bs
 |[],[],_=>trivial
 |k::ks,b::bs,h=>⟨bV.Yp (λ_ _ _ z=>e _ _ z) k h.1,c6.pg e h.2⟩
 |[],_::_,h=>h.oP
 |_::_,[],h=>h.oP
def K_:Kx->Yg
 |.aO i=>.j' i
 |.str x=>.mv x
 |_=>.j' 0
def EM:Sh->Kx->Prop
 |.aO,k=>∃i,k=.aO i
 |.str,k=>∃x,k=.str x
 |_,_=>vk
def m4(sh:Sh)(kvs:ai (Kx×V))(bt:ai f'):HO:=if sh.qE=true then .dK (kvs.aT λp=>(K_ p.1,p.2))else .dT sh kvs bt
def EG:HO->fC
 |.dK _=>true
 |.dT _ _ _=>true
 |_=>false
theorem vQ(h:EG u=false):m4 sh kvs bt≠u:=λz=>by
 subst z;unfold m4 at h;split at h<;>cases h
theorem vV(h:sh.qE=false):m4 sh kvs bt=.dT sh kvs bt:=sU (by grind)
def cq(sh:Sh)(G:Hp)(ks:ai Kx)(bt:ai f'):Prop:=if sh.qE=true then ∀k∈ks,EM sh k else c6 G ks bt
def cq.pg(e:au G G')(h:cq sh G ks bs):cq sh G' ks bs:=by
 unfold cq at h |-
 split at h
 .grind
 .rename_i hi;rw[sU hi];exact h.pg e
def cq.g(h:cq sh G ks bs)(hi:sh.qE=false):c6 G ks bs:=by
 simp_all [cq]
def cq.of(h:c6 G ks bs)(hi:sh.qE=false):cq sh G ks bs:=by
 simp_all [cq]
def qV(fz:fC)(G:Hp)(a:f')(sh:Sh)(kvs:ai (Kx×V))(bt:ai f'):Prop:=if fz=true then ∃o,G a=ab (.eG o (m4 sh kvs bt))else G a=ab (m4 sh kvs bt)
def qV.ex(h:qV fz G a sh kvs bt):∃o,G a=ab o:=by
 grind [qV]
def qV.pg(e:au G G')(h:qV fz G a sh kvs bt):qV fz G' a sh kvs bt:=by
 cases fz with
 |true=>let⟨o,h⟩:=h;exact⟨o,e _ _ h⟩
 |false=>exact e _ _ h
structure eL(G:Hp)(cl:ai (d3×f'))(l:Lm)(zs:ai V)(cs:Cs):Prop where
 La:∀x y c,cl.gr x=ab c->cl.gr y=ab c->x=y
 yD:∀x,(x,Vo.rD)∈l.d0.pM->∃c,cl.gr x=ab c
 tB:∀x c,cl.gr x=ab c->∃o,cs.gr c=ab o
 jB:∀c o,cs.gr c=ab o->G c=ab (km o)/\∃v,o.oo=.t9 v
 uO:∀(i:ar) y z,l.nf[i]?=ab y->zs[i]?=ab z->∃c o u,cl.gr y=ab c/\cs.gr c=ab o/\o.oo=.t9 (ab u)/\uu z u
 vn:zs.aj=l.nf.aj
theorem eL.pg(e:au G G')(h:eL G cl l zs cs):eL G' cl l zs cs:=⟨h.La,h.yD,h.tB,λc o q=>⟨e _ _ (h.jB c o q).1,(h.jB c o q).2⟩,h.uO,h.vn⟩
def zer(G:Hp)(l:Lm)(cl:ai (d3×f'))(f:f'):Prop:=∃pm c' cP,G f=ab (iV (Zb "<lambda>" l.p6 l.r5 l.rK l.d0 cl pm c' cP) l.p6 c')
inductive oR(v:V)(P Q:f'->ai V->Prop):Prop where
 |mk (a:f') (xs:ai V) (h:v=.bj a) (p:P a xs) (q:Q a xs):oR v P Q
inductive oJ(xs:ai V)(P:V->Prop)(Q:ai V->Prop):Prop where
 |mk (x:V) (r:ai V) (h:xs=x::r) (p:P x) (q:Q r):oJ xs P Q
mutual
noncomputable def Rep(K:Fg)(G:Hp):W->V->Prop
 |.aF,v=>v=.aF
 |.bl b,v=>v=.bl b
 |.int i,v=>v=.int i
 |.str x,v=>v=.str x
 |.tup ws,v=>oR v (c7 K G) λ_ xs=>aq K G ws xs
 |.lst ws,v=>oR v (bJ K G) λ_ xs=>aq K G ws xs
 |.exc c,v=>∃e,v=.ref e/\G e=some (xX e c)
 |.ba kvs,v=>∃e,v=.ref e/\G e=some (dO kvs)
 |.dw fz sh ks ws,v=>∃a kvs bt,v=.ref a/\qV fz G a sh kvs bt/\kvs.map (·.1)=ks/\cq sh G ks bt/\aq K G ws (kvs.map (·.2))
 |.fn _ l ws,v=>∃f cl zs cs,v=.ref f/\zer G l cl f/\eL G cl l zs cs/\aq K G ws zs
noncomputable def aq(K:Fg)(G:Hp):List W->List V->Prop
 |[],xs=>xs=[]
 |w::ws,xs=>oJ xs (Rep K G w) (aq K G ws)
end
mutual
theorem Rep.mono{K:Fg}{G G':Hp}(e:au G G'):∀(w:W){v:V},Rep K G w v->Rep K G' w v
 |.aF,v,h=>h
 |.bl b,v,h=>h
 |.int i,v,h=>h
 |.str x,v,h=>h
 |.tup ws,v,h=>by
  let⟨a,xs,rfl,q,r⟩:=h;exact⟨a,xs,rfl,e.tup q,aq.mono e ws r⟩
 |.lst ws,v,h=>by
  let⟨a,xs,rfl,q,r⟩:=h;exact⟨a,xs,rfl,e.seq q,aq.mono e ws r⟩
 |.exc c,v,h=>by
  let⟨a,rfl,q⟩:=h;exact⟨a,rfl,e _ _ q⟩
 |.ba kvs,v,h=>by
  let⟨a,rfl,q⟩:=h;exact⟨a,rfl,e _ _ q⟩
 |.dw fz sh ks ws,v,h=>by
  let⟨a,kvs,bt,rfl,h1,h2,h3,h4⟩:=h;exact⟨a,kvs,bt,rfl,h1.mono e,h2,h3.mono e,aq.mono e ws h4⟩
 |.fn i l ws,v,h=>by
  let⟨f,cl,zs,cs,rfl,⟨pm,c',cP,h1⟩,h2,h3⟩:=h;exact⟨f,cl,zs,cs,rfl,⟨pm,c',cP,e _ _ h1⟩,h2.mono e,aq.mono e ws h3⟩
theorem aq.mono{K:Fg}{G G':Hp}(e:au G G'):∀(ws:List W){xs:List V},aq K G ws xs->aq K G' ws xs
 |[],xs,h=>h
 |w::ws,xs,h=>by
  let⟨x,r,rfl,h1,h2⟩:=h;exact⟨x,r,rfl,Rep.mono e w h1,aq.mono e ws h2⟩
end
theorem aq.aj:∀{ws:ai W}{xs:ai V},aq K G ws xs->xs.aj=ws.aj
 |[],xs,h=>by cases h;rfl
 |w::ws,xs,h=>by
  let⟨x,r,rfl,_,h2⟩:=h;simp[aq.aj h2]
theorem aq.Df:∀{ws:ai W}{xs:ai V}{i:ar}{w:W},aq K G ws xs->ws[i]?=ab w->∃x,xs[i]?=ab x/\p7 K G w x
 |[],xs,i,w,h,e=>by simp at e
 |w'::ws,xs,0,w,h,e=>by
  let⟨x,r,rfl,h1,h2⟩:=h;simp at e;subst e;exact⟨x,rfl,h1⟩
 |w'::ws,xs,i+1,w,h,e=>by
  let⟨x,r,rfl,h1,h2⟩:=h;let⟨y,e1,e2⟩:=aq.Df (i:=i) h2 (by simpa using e);exact⟨y,by simpa using e1,e2⟩
theorem aq.iM:∀{ws:ai W}{xs:ai V}{i:ar}{x:V},aq K G ws xs->xs[i]?=ab x->∃w,ws[i]?=ab w/\p7 K G w x:=λ{ws xs i x} h e=>by
 have hl:=h.aj;have hi:i<xs.aj:=(w0c.mp e).1;have e2:ws[i]?=ab ws[i]:=w0b (by omega);let⟨y,e3,r⟩:=h.Df e2
 grind
theorem aq.YX:∀{ws ws':ai W}{xs iS:ai V},aq K G ws xs->aq K G ws' iS->aq K G (ws++ws') (xs++iS)
 |[],ws',xs,iS,h,h'=>by cases h;exact h'
 |w::ws,ws',xs,iS,h,h'=>by
  let⟨x,r,rfl,h1,h2⟩:=h;exact⟨x,r++iS,rfl,h1,aq.YX h2 h'⟩
theorem aq.Zg{x:L2.V}(h:p7 K G w x):aq K G [w] [x]:=⟨x,[],rfl,h,rfl⟩
theorem aq.vA:∀(n:ar){ws:ai W}{xs:ai V},aq K G ws xs->aq K G (ws.vA n) (xs.vA n)
 |0,_,_,_=>rfl
 |n+1,[],_,h=>by cases h;rfl
 |n+1,w::ws,_,h=>by
  let⟨x,r,rfl,h1,h2⟩:=h;exact⟨x,r.vA n,rfl,h1,aq.vA n h2⟩
theorem aq.wa:∀(n:ar){ws:ai W}{xs:ai V},aq K G ws xs->aq K G (ws.wa n) (xs.wa n)
 |0,_,_,h=>h
 |n+1,[],_,h=>by cases h;rfl
 |n+1,w::ws,_,h=>by
  let⟨x,r,rfl,h1,h2⟩:=h;exact aq.wa n h2
theorem aq.UE:∀{ws:ai W}{xs:ai V},aq K G ws xs->aq K G ws.UE xs.UE
 |[],_,h=>by cases h;rfl
 |w::ws,_,h=>by
  let⟨x,r,rfl,h1,h2⟩:=h;rw[w2y,w2y];exact(aq.UE h2).YX (.Zg h1)
theorem aq.sx:∀(i:ar){ws:ai W}{xs:ai V}{w:W}{x:V},aq K G ws xs->p7 K G w x->aq K G (ws.sx i w) (xs.sx i x)
 |_,[],_,_,_,h,_=>by cases h;rfl
 |0,w'::ws,_,w,x,h,q=>by
  let⟨y,r,rfl,h1,h2⟩:=h;exact⟨x,r,rfl,q,h2⟩
 |i+1,w'::ws,_,w,x,h,q=>by
  let⟨y,r,rfl,h1,h2⟩:=h;exact⟨y,r.sx i x,rfl,h1,aq.sx i h2 q⟩
structure Zt where
 H:Hp
 G:Hp
 io:ai f'
variable{Z:Zt}
def eu(K:Fg)(Z:Zt)(G:Hp)(sh:Sh)(ws:ai W)(vs:ai V):Prop:=aq K G ws vs
theorem eu.Aq(h:eu K Z G sh ws vs):aq K G ws vs:=h
theorem eu.of(hs:sh.EH=false)(h:aq K G ws vs):eu K Z G sh ws vs:=h
theorem eu.rA:eu K Z G sh [] []:=rfl
theorem eu.Τ(h:eu K Z G sh ws vs)(sg:au G G')(hz:∀a o,G a=ab o->Z.H a=none->Z'.H a=none):eu K Z' G' sh ws vs:=aq.pg sg ws h
inductive i6(K:Fg)(Z:Zt)(G H:Hp)(sh:Sh)(ks:ai Kx)(ws:ai W)(v:fv V):Prop where
 |mk (a:f') (kvs:ai (Kx×V)) (bt:ai f') (h1:v=ab (.bj a)) (h2:H a=ab (m4 sh kvs bt)) (h3:G a=none) (h4:Z.H a=none) (h5:kvs.aT (·.1)=ks) (h6:cq sh G ks bt) (h7:eu K Z G sh ws (kvs.aT (·.2))):i6 K Z G H sh ks ws v
def i6.Τ{Z':Zt}{G' H':Hp}{sh:Sh}{ks:ai Kx}{v:fv V}(q:i6 K Z G H sh ks ws v)(sg:au G G')(hf:∀a kvs bt,H a=ab (m4 sh kvs bt)->G a=none->Z.H a=none->H' a=ab (m4 sh kvs bt)/\G' a=none/\Z'.H a=none)(hz:∀a o,G a=ab o->Z.H a=none->Z'.H a=none:=by intro _ _ _ z;exact z):i6 K Z' G' H' sh ks ws v:=by
 let⟨a,kvs,bt,h1,h2,h3,h4,h5,h6,h7⟩:=q;let⟨k1,k2,k3⟩:=hf a kvs bt h2 h3 h4;exact⟨a,kvs,bt,h1,k1,k2,k3,h5,h6.pg sg,h7.Τ sg hz⟩
def oK(Z:Zt):fv ar->f'->Prop
 |none,a=>Z.H a=none
 |ab j,a=>Z.io[j]?=ab a
def oK.io(h:oK Z b a):a∈Z.io\/Z.H a=none:=by
 cases b with
 |none=>exact .mv h
 |ab j=>exact .j' (w0s h)
inductive s_(K:Fg)(Z:Zt)(G H:Hp)(b:fv ar)(ws:ai W)(v:fv V):Prop where
 |mk (a:f') (xs:ai V) (h1:v=ab (.bj a)) (h2:H a=ab (.dI xs)) (h3:G a=none) (h4:oK Z b a) (h5:aq K G ws xs):s_ K Z G H b ws v
inductive sZ(Z:Zt)(G H:Hp)(kvs:Dd)(v:fv V):Prop where
 |mk (a:f') (h1:v=ab (.bj a)) (h2:H a=ab (dO kvs)) (h3:G a=none) (h4:Z.H a=none):sZ Z G H kvs v
def fi(K:Fg)(Z:Zt)(G H:Hp):S->fv V->Prop
 |.no,_=>kc
 |.fr w,v=>∃u,v=ab u/\p7 K G w u
 |.ie b ws,v=>s_ K Z G H b ws v
 |.ba kvs,v=>sZ Z G H kvs v
 |.dw sh ks ws,v=>i6 K Z G H sh ks ws v
structure ro(K:Fg)(Z:Zt)(G:Hp)(σ:St)(H:Hp)(e:ai S):Prop where
 ri:au G H
 yM:∀(i:ar)(s:S),e[i]?=ab s->fi K Z G H s (σ[i]?.g6 none)
 vn:e.aj=σ.aj
 mf:∀(i j:ar)(b b':fv ar)(ws ws':ai W)(a:f'),e[i]?=ab (.ie b ws)->e[j]?=ab (.ie b' ws')->σ[i]?=ab (ab (.bj a))->σ[j]?=ab (ab (.bj a))->i=j
 YY:∀a o,Z.H a=ab o->a∉Z.io->H a=ab o
 lC:∀a∈Z.io,H a≠none
 gen:∀a,Z.H a≠none->G a=Z.G a
inductive qS(K:Fg)(Z:Zt)(σ:St)(H:Hp)(P:Hp->ai S->Prop):Prop where
 |mk (G:Hp) (e:ai S) (r:ro K Z G σ H e) (h:P G e):qS K Z σ H P
structure aK(G H G' H':Hp):Prop where
 hh:au H H'
 gg:au G G'
 ri:au G' H'
 yL:∀a,H a≠none->G' a=G a
theorem aK.uw(s:au G H):aK G H G H:=⟨.uw _,.uw _,s,λ_ _=>rfl⟩
theorem aK.ki(x:aK G H G1 H1)(y:aK G1 H1 G2 H2):aK G H G2 H2:=
 ⟨x.hh.ki y.hh,x.gg.ki y.gg,y.ri,λa h=>by
  rw[y.yL a,x.yL a h];cases q:H a with
  |none=>exact uP q h
  |ab o=>rw[x.hh a o q];simp⟩
def zaE(e:au H H')(h:H a≠none):H' a≠none:=by
 cases q:H a with
 |none=>exact uP q h
 |ab o=>rw[e a o q];simp
theorem aK.Lf(s:au G H)(h:H D=none)(o):aK G H (ot G D o) (ot H D o) where
 hh:=ua h o
 gg:=ua (s.rD h) o
 ri:=λb u e=>by
  by_cases hb:b=D
  .grind [bT]
  .rw[bh hb]at e |-;exact s b u e
 yL:=λa ha=>by grind [bh]
theorem aK.l3(s:au G H)(h:H D=none)(o):aK G H G (ot H D o) where
 hh:=ua h o
 gg:=.uw _
 ri:=λb u e=>by
  have:=s b u e;rw[bh (i3 this h)];exact this
 yL:=λa ha=>rfl
theorem ro.HF(r:ro K Z G σ H e)(g:aK G H G' H'):ro K Z G' σ H' e where
 ri:=g.ri
 yM:=λi s h=>by
  have q:=r.yM i s h;cases s with
  |no=>trivial
  |fr w=>
   let⟨u,h1,h2⟩:=q;exact⟨u,h1,p7.pg g.gg w h2⟩
  |ie b ws=>
   let⟨a,xs,h1,h2,h3,h4,h5⟩:=q;exact⟨a,xs,h1,g.hh _ _ h2,by rw[g.yL a (by rw[h2];simp)];exact h3,h4,aq.pg g.gg ws h5⟩
  |ba kvs=>
   let⟨a,h1,h2,h3,h4⟩:=q;exact⟨a,h1,g.hh _ _ h2,by rw[g.yL a (by rw[h2];simp)];exact h3,h4⟩
  |dw sh ks ws=>exact i6.Τ q g.gg λl o ys h1 h2 h3=>⟨g.hh _ _ h1,by rw[g.yL l (by rw[h1];simp)];exact h2,h3⟩
 vn:=r.vn
 mf:=r.mf
 YY:=λa o h n=>g.hh _ _ (r.YY a o h n)
 lC:=λa h=>zaE g.hh (r.lC a h)
 gen:=λa h=>by
  have:H a≠none:=by
   cases q:Z.H a with
   |none=>exact uP q h
   |ab o=>
    by_cases hi:a∈Z.io
    .exact r.lC a hi
    .rw[r.YY a o q hi];simp
  rw[g.yL a this];exact r.gen a h
def ro.ie(r:ro K Z G σ H e){i:ar}(h:e[i]?=ab (.ie b ws)):∃a xs,σ[i]?=ab (ab (.bj a))/\H a=ab (.dI xs)/\G a=none/\(oK Z b a)/\aq K G ws xs:=by
 let⟨a,xs,h1,h2,h3,h4,h5⟩:=r.yM i _ h
 grind
def ro.fr(r:ro K Z G σ H e){i:ar}(h:e[i]?=ab (.fr w)):∃v,σ[i]?=ab (ab v)/\p7 K G w v:=by
 let⟨v,h1,h2⟩:=r.yM i _ h
 grind
def ro.at(r:ro K Z G σ H e){i:ar}(h:e[i]?=ab s)(hs:fi K Z G H s (σ[i]?.g6 none)->σ[i]?.g6 none=ab v):σ[i]?=ab (ab v):=by
 have h1:=hs (r.yM i _ h)
 grind
def ro.mut(r:ro K Z G σ H e)(h:e[i]?=ab (.ie b ws))(ha:σ[i]?=ab (ab (.bj a)))(q:aq K G ws' iS):ro K Z G σ (ot H a (.dI iS)) (e.sx i (.ie b ws')):=by
 let⟨a',xs,h1,h2,h3,h4,h5⟩:=r.ie h;rw[ha]at h1;cases h1;have hi:i<e.aj:=(w0c.mp h).1;refine⟨λc o z=>?_,λj s z=>?_,by simpa using r.vn,λj k b1 b2 w1 w2 c z1 z2 z3 z4=>?_,λc o z n=>?_,λc z=>?_,r.gen⟩
 .rw[bh (i3 z h3)];exact r.ri c o z
 .by_cases hj:j=i
  .subst hj;rw[w0m hi]at z;cases z;exact⟨a,iS,by rw[ha];rfl,bT,h3,h4,q⟩
  .rw[w0j (λz=>hj z.symm)]at z
   have y:=r.yM j s z;cases s with
   |no=>trivial
   |fr w=>exact y
   |ie b2 w2=>
    let⟨c,ys,y1,y2,y3,y4,y5⟩:=y;refine⟨c,ys,y1,?_,y3,y4,y5⟩;rw[bh];exact y2;rintro rfl;let⟨c',_,z1,_⟩:=r.ie z;rw[z1]at y1;cases y1;exact hj (r.mf j i _ _ _ _ _ z h z1 ha)
   |ba kvs=>
    let⟨c,y1,y2,y3,y4⟩:=y;refine⟨c,y1,?_,y3,y4⟩;rw[bh (kS y2 h2 (vU rfl))];exact y2
   |dw sh ks ws=>exact i6.Τ y (.uw _) λl o ys k1 k2 k3=>⟨by rw[bh (kS k1 h2 (vQ rfl))];exact k1,k2,k3⟩
 .have yc:∀(k:ar)(bb:fv ar)(ww:ai W),(e.sx i (S.ie b ws'))[k]?=ab (.ie bb ww)->∃b' w',e[k]?=ab (.ie b' w'):=λk bb ww z=>by
   grind
  let⟨_,_,q1⟩:=yc _ _ _ z1;let⟨_,_,q2⟩:=yc _ _ _ z2;exact r.mf _ _ _ _ _ _ _ q1 q2 z3 z4
 .by_cases hc:c=a
  .grind [oK.io]
  .rw[bh hc];exact r.YY c o z n
 .by_cases hc:c=a
  .grind [bT]
  .rw[bh hc];exact r.lC c z
def ro.œ(r:ro K Z G σ H e)(h:e[i]?=ab (.ie none ws)):∃v G',σ[i]?=ab (ab v)/\au G G'/\p7 K G' (.dI ws) v/\ro K Z G' σ H (e.sx i (.fr (.dI ws))):=by
 let⟨a,xs,h1,h2,h3,h4,h5⟩:=r.ie h;have h4:Z.H a=none:=h4;have sg:au G (ot G a (.dI xs)):=ua h3 _;have hi:i<e.aj:=(w0c.mp h).1;have rp:p7 K (ot G a (.dI xs)) (.dI ws) (.bj a):=⟨a,xs,rfl,bJ.of bT,aq.pg sg ws h5⟩;refine⟨.bj a,ot G a (.dI xs),h1,sg,rp,⟨λc o z=>?_,λj s z=>?_,by simpa using r.vn,λj k b1 b2 w1 w2 c z1 z2 z3 z4=>?_,r.YY,r.lC,λc z=>?_⟩⟩
 .by_cases hc:c=a
  .grind [bT]
  .rw[bh hc]at z;exact r.ri c o z
 .by_cases hj:j=i
  .subst hj;rw[w0m hi]at z;cases z;exact⟨.bj a,by rw[h1];rfl,rp⟩
  .rw[w0j (λz=>hj z.symm)]at z
   have y:=r.yM j s z;cases s with
   |no=>trivial
   |fr w=>
    let⟨u,y1,y2⟩:=y;exact⟨u,y1,p7.pg sg w y2⟩
   |ie b2 w2=>
    let⟨c,ys,y1,y2,y3,y4,y5⟩:=y;refine⟨c,ys,y1,y2,?_,y4,aq.pg sg w2 y5⟩;rw[bh];exact y3;rintro rfl;let⟨c',_,z1,_⟩:=r.ie z;rw[z1]at y1;cases y1;exact hj (r.mf j i _ _ _ _ _ z h z1 h1)
   |ba kvs=>
    let⟨c,y1,y2,y3,y4⟩:=y;refine⟨c,y1,y2,?_,y4⟩;rw[bh (kS y2 h2 (vU rfl))];exact y3
   |dw sh ks ws=>exact i6.Τ y sg λl o ys k1 k2 k3=>⟨k1,by rw[bh (kS k1 h2 (vQ rfl))];exact k2,k3⟩
 .have yc:∀(k:ar)(bb:fv ar)(ww:ai W),(e.sx i (S.fr (W.dI ws)))[k]?=ab (.ie bb ww)->e[k]?=ab (.ie bb ww):=λk bb ww z=>by
   grind
  exact r.mf _ _ _ _ _ _ _ (yc _ _ _ z1) (yc _ _ _ z2) z3 z4
 .by_cases hc:c=a
  .grind
  .rw[bh hc];exact r.gen c z
def jD(σ:St)(e:ai S)(a:f'):Prop:=∀(j:ar)(b:fv ar)(ws:ai W),e[j]?=ab (.ie b ws)->σ[j]?≠ab (ab (.bj a))
def ro.sx(r:ro K Z G σ H e)(q:p7 K G w v):ro K Z G (σ.sx i (ab v)) H (e.sx i (.fr w)):=by
 refine⟨r.ri,λj s z=>?_,by simpa using r.vn,λj k b1 b2 w1 w2 c z1 z2 z3 z4=>?_,r.YY,r.lC,r.gen⟩
 .by_cases hj:j=i
  .subst hj
   have hi:j<e.aj:=by
    grind
   rw[w0m hi]at z;cases z;rw[w0m (by rw[<- r.vn];exact hi)];exact⟨v,rfl,q⟩
  .rw[w0j (λz=>hj z.symm)]at z |-
   exact r.yM j s z
 .have yc:∀(k:ar)(bb:fv ar)(ww:ai W),(e.sx i (S.fr w))[k]?=ab (.ie bb ww)->k≠i/\e[k]?=ab (.ie bb ww):=λk bb ww z=>by
   grind
  let⟨n1,q1⟩:=yc _ _ _ z1;let⟨n2,q2⟩:=yc _ _ _ z2;rw[w0j (λz=>n1 z.symm)]at z3
  rw[w0j (λz=>n2 z.symm)]at z4
  exact r.mf _ _ _ _ _ _ _ q1 q2 z3 z4
def ro.zdM(r:ro K Z G σ H e){i:ar}{a:f'}{xs:ai V}(h2:H a=ab (.dI xs))(h3:G a=none)(h4:Z.H a=none)(hf:jD σ e a)(q:aq K G ws xs):ro K Z G (σ.sx i (ab (.bj a))) H (e.sx i (.ie none ws)):=by
 refine⟨r.ri,λj s z=>?_,by simpa using r.vn,λj k b1 b2 w1 w2 c z1 z2 z3 z4=>?_,r.YY,r.lC,r.gen⟩
 .by_cases hj:j=i
  .subst hj
   have hi:j<e.aj:=by
    have:=(w0c.mp z).1;simpa using this
   rw[w0m hi]at z;cases z;rw[w0m (by rw[<- r.vn];exact hi)];exact⟨a,xs,rfl,h2,h3,h4,q⟩
  .rw[w0j (λz=>hj z.symm)]at z |-
   exact r.yM j s z
 .have both:∀(k:ar)(bb:fv ar)(ww:ai W),(e.sx i (S.ie none ws))[k]?=ab (.ie bb ww)->(σ.sx i (ab (.bj a)))[k]?=ab (ab (.bj c))->(k=i/\c=a)\/(k≠i/\e[k]?=ab (.ie bb ww)/\σ[k]?=ab (ab (.bj c))/\c≠a):=λk bb ww z y=>by
   by_cases hk:k=i
   .subst hk
    have hi:k<e.aj:=by
     have:=(w0c.mp z).1;simpa using this
    rw[w0m (by rw[<- r.vn];exact hi)]at y;cases y;exact .j' ⟨rfl,rfl⟩
   .rw[w0j (λz=>hk z.symm)]at z y
    exact .mv ⟨hk,z,y,λe=>hf k bb ww z (by rw[y,e])⟩
  rcases both _ _ _ z1 z3 with⟨e1,c1⟩|⟨n1,q1,p1,c1⟩<;>rcases both _ _ _ z2 z4 with⟨e2,c2⟩|⟨n2,q2,p2,c2⟩
  .rw[e1,e2]
  .exact uP c1 c2
  .exact uP c2 c1
  .exact r.mf _ _ _ _ _ _ _ q1 q2 p1 p2
set_option genInjectivity true in
inductive R(α:Type) where
 |ok (a:α) (e:ai S)|ex (c:dS) (e:ai S)|no
abbrev ke(α:Type):=ai S->R α
variable{dA:ke (ai W)}
def R.r7{α β:Type}:R α->(α->ai S->R β)->R β
 |.ok a e,k=>k a e
 |.ex c e,_=>.ex c e
 |.no,_=>.no
def R.Uh(r:R α)(P:α->ai S->Prop)(E:dS->ai S->Prop):Prop:=match r with
 |.ok a e=>P a e
 |.ex c e=>E c e
 |.no=>vk
def R.aw{r:R α}{P:β->ai S->Prop}:(r.r7 k).Uh P E↔r.Uh (λa e=>(k a e).Uh P E) E:=by
 cases r<;>rfl
def R.Uh.vW{r:R α}(h:r.Uh P E)(p:∀a e,P a e->P' a e)(x:∀c e,E c e->E' c e):r.Uh P' E':=by
 cases r with
 |ok a e=>exact p a e h
 |ex c e=>exact x c e h
 |no=>exact h
def bq(o:fv α)(e:ai S):R α:=match o with
 |ab a=>.ok a e
 |none=>.no
def aY{P:α->ai S->Prop}:(bq o e).Uh P E↔∃a,o=ab a/\P a e:=by
 cases o with
 |none=>exact⟨λh=>h.oP,fun⟨_,h,_⟩=>nomatch h⟩
 |ab a=>exact⟨λh=>⟨a,rfl,h⟩,fun⟨_,h,q⟩=>by cases h;exact q⟩
set_option genInjectivity true in
inductive SR where
 |nx (e:ai S)|rt (s:S) (e:ai S)|bk (e:ai S)|ct (e:ai S)|ex (c:dS) (e:ai S)|no
section
variable(K:Fg)(Z:Zt)(EE:L2.St->XK)
abbrev XH(σ:St)(G:Hp):dS->ai S->Prop:=λc e'=>∀G' H',ro K Z G' σ H' e'->au G G'->EE σ c none H'
def fY(d:ke W):TE:=λσ H Q=>qS K Z σ H λG e=>(d e).Uh (λw e'=>∀G' v H',ro K Z G' σ H' e'->au G G'->p7 K G' w v->Q v H') (XH K Z EE σ G)
def pF(d:ke (ai W)):TA:=λσ H Q=>qS K Z σ H λG e=>(d e).Uh (λws e'=>∀G' vs H',ro K Z G' σ H' e'->au G G'->aq K G' ws vs->Q vs H') (XH K Z EE σ G)
def _h(d:ke fC):TT:=λσ H Q=>qS K Z σ H λG e=>(d e).Uh (λb e'=>∀G' H',ro K Z G' σ H' e'->au G G'->Q b H') (XH K Z EE σ G)
def ni(d:ke (ai W)):TE:=λσ H Q=>qS K Z σ H λG e=>(d e).Uh (λws e'=>∀G' a xs H',ro K Z G' σ H' e'->au G G'->H' a=ab (.dI xs)->G' a=none->Z.H a=none->jD σ e' a->aq K G' ws xs->Q (.bj a) H') (XH K Z EE σ G)
def bC(D:Θ)(G:Hp):SR->Prop
 |.nx e'=>∀G' aP H',ro K Z G' aP H' e'->au G G'->D.nx aP H'
 |.bk e'=>∀G' aP H',ro K Z G' aP H' e'->au G G'->D.bk aP H'
 |.ct e'=>∀G' aP H',ro K Z G' aP H' e'->au G G'->D.ct aP H'
 |.rt s e'=>∀G' aP v H',ro K Z G' aP H' e'->au G G'->fi K Z G' H' s (ab v)->D.rt v H'
 |.ex c e'=>∀G' aP H',ro K Z G' aP H' e'->au G G'->EE aP c none H'
 |.no=>vk
def e9(d:ai S->SR):TS:=λD σ H=>qS K Z σ H λG e=>bC K Z EE D G (d e)
end
section
variable(Z:Zt)(X:Cx)(EE:L2.St->XK)
def DE(e:pN)(d:ke W):Prop:=PE X e (fY X.K Z EE d)
def DF(e:pN)(d:ke (ai W)):Prop:=PE X e (ni X.K Z EE d)
def DT(e:pN)(d:ke fC):Prop:=PT X e (_h X.K Z EE d)
def DW(e:pN)(d:ke fC):Prop:=PW X e (_h X.K Z EE d)
def DA(es:ai pN)(d:ke (ai W)):Prop:=PA X es (pF X.K Z EE d)
def DS(st:Rl)(d:ai S->SR):Prop:=PS X st (e9 X.K Z EE d)
def mV(eg:ai Rl)(d:ai S->SR):Prop:=lV X eg (e9 X.K Z EE d)
end
theorem PE.pg(h:PE X e t)(i:∀σ H Q,t' σ H Q->t σ H Q):PE X e t':=λcf s σ H Q I q=>h cf s σ H Q I (i σ H Q q)
theorem PT.pg(h:PT X e t)(i:∀σ H Q,t' σ H Q->t σ H Q):PT X e t':=λcf s σ H Q I q=>h cf s σ H Q I (i σ H Q q)
theorem PW.pg(h:PW X e t)(i:∀σ H Q,t' σ H Q->t σ H Q):PW X e t':=λwh cf s σ H Q I q=>h wh cf s σ H Q I (i σ H Q q)
theorem PA.pg(h:PA X es t)(i:∀σ H Q,t' σ H Q->t σ H Q):PA X es t':=λp cf s σ H Q I q=>h p cf s σ H Q I (i σ H Q q)
theorem PS.pg(h:PS X st t)(i:∀D σ H,t' D σ H->t D σ H):PS X st t':=λcf s σ H D I q=>h cf s σ H D I (i D σ H q)
theorem lV.pg(h:lV X st t)(i:∀D σ H,t' D σ H->t D σ H):lV X st t':=λcf s σ H D I q=>h cf s σ H D I (i D σ H q)
section
variable(K:Fg)
def g8(r:R2)(f:W->W->fv W):Prop:=∀(G H:Hp)(x y:V)(wx wy w:W)(Q:VK),au G H->p7 K G wx x->p7 K G wy y->f wx wy=ab w->(∀G' v H',aK G H G' H'->p7 K G' w v->Q v H')->r x y H Q
def A5(r:V->Hp->VK->Prop)(f:W->fv W):Prop:=∀(G H:Hp)(x:V)(wx w:W)(Q:VK),au G H->p7 K G wx x->f wx=ab w->(∀G' v H',aK G H G' H'->p7 K G' w v->Q v H')->r x H Q
def oQ(r:ai V->Hp->VK->Prop)(f:ai W->fv W):Prop:=∀(G H:Hp)(xs:ai V)(ws:ai W)(w:W)(Q:VK),au G H->aq K G ws xs->f ws=ab w->(∀G' v H',aK G H G' H'->p7 K G' w v->Q v H')->r xs H Q
end
def dC(w:W):ke W:=λe=>.ok w e
def af(i:ar):ke W:=λe=>match e[i]? with
 |ab (.fr w)=>.ok w e
 |ab (.ie none ws)=>.ok (.dI ws) (e.sx i (.fr (.dI ws)))
 |_=>.no
def ak(f:W->W->fv W)(da db:ke W):ke W:=λe=>(da e).r7 λx e1=>(db e1).r7 λy e2=>bq (f x y) e2
def me(f:W->fv W)(da:ke W):ke W:=λe=>(da e).r7 λx e1=>bq (f x) e1
def ay(da:ke W):ke fC:=λe=>(da e).r7 λx e1=>match x with
 |.bl k=>.ok k e1
 |_=>.no
def kL:W->fv fC
 |.aF=>ab false
 |.bl b=>ab b
 |.aO i=>ab (i != 0)
 |.str x=>if x.aj<=16777216 then ab ((x.aj:a6) != 0)else none
 |.gs xs=>ab (!xs.UD)
 |.dI xs=>ab (!xs.UD)
 |.Zf _=>none
 |.ba _=>none
 |.dw _ _ _ _=>none
 |.fn _ _ _=>none
def f_(da:ke W):ke fC:=λe=>(da e).r7 λx e1=>bq (kL x) e1
def iH(a b:ke fC):ke fC:=λe=>(a e).r7 λx e1=>if x=true then b e1 else .ok false e1
def qy(a b:ke fC):ke fC:=λe=>(a e).r7 λx e1=>if x=true then .ok true e1 else b e1
def ko(a:ke fC):ke fC:=λe=>(a e).r7 λx e1=>.ok (!x) e1
def jc(a b:ke W):ke W:=λe=>(a e).r7 λx e1=>match x with
 |.bl true=>b e1
 |.bl false=>.ok (.bl false) e1
 |_=>.no
def md(a b:ke W):ke W:=λe=>(a e).r7 λx e1=>match x with
 |.bl true=>.ok (.bl true) e1
 |.bl false=>b e1
 |_=>.no
def gH(a:ke W):ke W:=λe=>(a e).r7 λx e1=>match x with
 |.bl k=>.ok (.bl (!k)) e1
 |_=>.no
def tD(c:ke fC)(a b:ke W):ke W:=λe=>(c e).r7 λx e1=>if x=true then a e1 else b e1
def ag:ke (ai W):=λe=>.ok [] e
def ae(a:ke W)(r:ke (ai W)):ke (ai W):=λe=>(a e).r7 λx e1=>(r e1).r7 λxs e2=>.ok (x::xs) e2
def aV(a:ke (ai W)):ke W:=λe=>(a e).r7 λxs e1=>if xs.aj<=16777216 then .ok (.gs xs) e1 else .no
def cQ(a:ke (ai W)):ke (ai W):=λe=>(a e).r7 λxs e1=>if xs.aj<=16777216 then .ok xs e1 else .no
def eN(a:ke (ai W)):ke W:=λe=>(a e).r7 λxs e1=>.ok (.dI xs) e1
def cw(f:ai W->fv W)(a:ke (ai W)):ke W:=λe=>(a e).r7 λxs e1=>bq (f xs) e1
section
variable{X:Cx}{a b c e:pN}{da db:ke W}{ta:ke fC}
theorem XH.ki{G1:Hp}(s:au G G1){c:dS}{e:ai S}(h:XH K Z EE σ G c e):XH K Z EE σ G1 c e:=λG' H' r q=>h G' H' r (s.ki q)
theorem z8v{j gJ}:DE Z X EE (.Ζ (.aO i) j gJ) (dC (.aO i)):=PE.pg NP λσ H Q ⟨G,e,r,h⟩=>h G (.aO i) H r (.uw _) rfl
theorem Q3o{j gJ}:DE Z X EE (.Ζ (.wF i) j gJ) (dC (.bl i)):=PE.pg Sl λσ H Q ⟨G,e,r,h⟩=>h G (.bl i) H r (.uw _) rfl
theorem z8w{j gJ}:DE Z X EE (.Ζ .none j gJ) (dC .aF):=PE.pg z74 λσ H Q ⟨G,e,r,h⟩=>h G .aF H r (.uw _) rfl
theorem z8x{j gJ}:DE Z X EE (.Ζ (.str i) j gJ) (dC (.str i)):=PE.pg z75 λσ H Q ⟨G,e,r,h⟩=>h G (.str i) H r (.uw _) rfl
def zbb:∀σ H Q,fY K Z EE (af i) σ H Q->qq i σ H Q:=by
 rintro σ H Q ⟨G,e,r,h⟩;unfold af at h;split at h
 .rename_i w hw;let⟨v,h1,h2⟩:=r.fr hw;exact⟨v,h1,h G v H r (.uw _) h2⟩
 .rename_i ws hw;let⟨v,G',h1,h2,h3,h4⟩:=r.œ hw;exact⟨v,h1,h G' v H h4 h2 h3⟩
 .exact h.oP
theorem dv(i:ar)(hN:autoParam (X.N[i]?=ab x) jJ)(hv:autoParam (jS X.a7.d0 x) jN)(hd:autoParam ((x==("__debug__":d3))=false) jK)
  (eE:autoParam ((x==("__classdict__":d3))=false) jK):DE Z X EE (.oL x gJ) (af i):=PE.pg (pv i hN hv hd eE) zbb
def ue(hf:g8 K r f):∀σ H Q,fY K Z EE (ak f da db) σ H Q->AL r (fY K Z EE da) (fY K Z EE db) σ H Q:=by
 rintro σ H Q ⟨G,e,nN,h⟩;simp only[ak,R.aw,aY]at h;refine⟨G,e,nN,h.vW (λx e1 h G1 v1 H1 r1 s1 p1=>?_) λ_ _ h=>h⟩
 refine⟨G1,e1,r1,h.vW (λy e2 h G2 v2 H2 r2 s2 p2=>?_) λ_ _ h=>XH.ki s1 h⟩
 let⟨w,hw,h⟩:=h;exact hf G2 H2 v1 v2 x y w Q r2.ri (p7.pg s2 x p1) p2 hw λG' v H' g p=>h G' v H' (r2.HF g) ((s1.ki s2).ki g.gg) p
theorem uh(ho:fe X (ZX op) r)(hf:g8 X.K r f)(ha:DE Z X EE a da)(hb:DE Z X EE b db):DE Z X EE (._K a op b gJ) (ak f da db):=PE.pg (QO ho ha hb) (ue hf)
theorem vR(ho:fe X (ZY op) r)(hf:g8 X.K r f)(ha:DE Z X EE a da)(hb:DE Z X EE b db)(hm:_t op b=false):DE Z X EE (.YT a [op] [b] gJ) (ak f da db):=PE.pg (z21 ho ha hb hm) (ue hf)
def He(h:_h K Z EE (ay da) σ H Q):fY K Z EE da σ H (λx H'=>∃k,x=.bl k/\Q k H'):=by
 let⟨G,e,nN,h⟩:=h;simp only[ay,R.aw]at h;refine⟨G,e,nN,h.vW (λx e1 h G1 v1 H1 r1 s1 p1=>?_) λ_ _ h=>h⟩
 cases x with
 |bl k=>
  cases(show v1=V.bl k from p1);exact⟨k,rfl,h G1 H1 r1 s1⟩
 |_=>exact h.oP
theorem qN(ho:fe X (ZY op) r)(hf:g8 X.K r f)(ha:DE Z X EE a da)(hb:DE Z X EE b db)(hm:_t op b=false):DT Z X EE (.YT a [op] [b] gJ) (ay (ak f da db)):=
 PT.pg (z22 ho ha hb hm) λσ H Q h=>ue hf σ H _ (He h)
def OX(hf:A5 K r f):∀σ H Q,fY K Z EE (me f da) σ H Q->L7 r (fY K Z EE da) σ H Q:=by
 rintro σ H Q ⟨G,e,nN,h⟩;simp only[me,R.aw,aY]at h;refine⟨G,e,nN,h.vW (λx e1 h G1 v1 H1 r1 s1 p1=>?_) λ_ _ h=>h⟩
 let⟨w,hw,h⟩:=h;exact hf G1 H1 v1 x w Q r1.ri p1 hw λG' v H' g p=>h G' v H' (r1.HF g) (s1.ki g.gg) p
theorem Sw(ho:xJ X (ų op) r)(hf:A5 X.K r f)(ha:DE Z X EE a da):DE Z X EE (.ό op a gJ) (me f da):=PE.pg (Sr ho ha) (OX hf)
def z8y(s:au G H)(h:p7 K G w v)(e:kL w=ab k):uK K v H k:=by
 cases w with
 |aF=>cases(show v=.aF from h);cases e;rfl
 |bl b=>cases(show v=.bl b from h);cases e;rfl
 |aO i=>cases(show v=.aO i from h);cases e;rfl
 |str x=>
  cases(show v=.str x from h);simp only[kL]at e;split at e
  .cases e;exact⟨by grind [Yf],rfl⟩
  .cases e
 |gs ws=>
  let⟨p,xs,rfl,q,r⟩:=h;cases e;refine .mv (.j' ⟨xs,s.gs q,?_⟩);have:=r.aj
  grind
 |dI ws=>
  let⟨p,xs,rfl,q,r⟩:=h;cases e;refine .j' ⟨xs,s.pJ q,?_⟩;have:=r.aj
  grind
 |Zf _=>cases e
 |ba _=>cases e
 |dw _ _ _ _=>cases e
 |fn _ _ _=>cases e
def z8z(ha:DE Z X EE a da)(he:∀ξ,Ð a X.a7 ξ=(do let v <- ξ;Ú a.gJ;_U [v] (ű v)):=by intro _;rfl):DT Z X EE a (f_ da):=by
 refine PT.pg (za4 ha he) ?_;rintro σ H Q ⟨G,e,nN,h⟩;simp only[f_,R.aw,aY]at h;refine⟨G,e,nN,h.vW (λx e1 h G1 v1 H1 r1 s1 p1=>?_) λ_ _ h=>h⟩
 let⟨k,hk,h⟩:=h;exact⟨k,z8y r1.ri p1 hk,h G1 H1 r1 s1⟩
def zbc:∀σ H Q,_h K Z EE (iH ta tb) σ H Q->AA (_h K Z EE ta) (_h K Z EE tb) σ H Q:=by
 rintro σ H Q ⟨G,e,nN,h⟩;simp only[iH,R.aw]at h;refine⟨G,e,nN,h.vW (λx e1 h G1 H1 r1 s1=>?_) λ_ _ h=>h⟩
 cases x with
 |true=>exact⟨G1,e1,r1,R.Uh.vW (show(tb e1).Uh _ _ from h) (λy e2 h G2 H2 r2 s2=>h G2 H2 r2 (s1.ki s2)) λ_ _ h=>XH.ki s1 h⟩
 |false=>exact(show ∀G' H',_->_->Q false H' from h) G1 H1 r1 s1
def z3e:∀σ H Q,_h K Z EE (qy ta tb) σ H Q->L6 (_h K Z EE ta) (_h K Z EE tb) σ H Q:=by
 rintro σ H Q ⟨G,e,nN,h⟩;simp only[qy,R.aw]at h;refine⟨G,e,nN,h.vW (λx e1 h G1 H1 r1 s1=>?_) λ_ _ h=>h⟩
 cases x with
 |false=>exact⟨G1,e1,r1,R.Uh.vW (show(tb e1).Uh _ _ from h) (λy e2 h G2 H2 r2 s2=>h G2 H2 r2 (s1.ki s2)) λ_ _ h=>XH.ki s1 h⟩
 |true=>exact(show ∀G' H',_->_->Q true H' from h) G1 H1 r1 s1
theorem z3f(ha:DT Z X EE a ta):DW Z X EE (.Ze .Γ [a] gJ) ta:=z2v ha
theorem z80(ha:DT Z X EE a ta):DW Z X EE (.Ze .Or [a] gJ) ta:=z76 ha
theorem z81{wb:ai pN}(ha:DT Z X EE a ta)(hb:DW Z X EE (.Ze .Γ (b::wb) gJ) tb):DW Z X EE (.Ze .Γ (a::b::wb) gJ) (iH ta tb):=PW.pg (z77 ha hb) zbc
theorem Q3q{wb:ai pN}(ha:DT Z X EE a ta)(hb:DW Z X EE (.Ze .Or (b::wb) gJ) tb):DW Z X EE (.Ze .Or (a::b::wb) gJ) (qy ta tb):=PW.pg (Sn ha hb) z3e
theorem S7(h:DW Z X EE a ta):DT Z X EE a ta:=PW.pt h
def z82(ha:DT Z X EE a ta):DT Z X EE (.ό .Not a gJ) (ko ta):=by
 refine PT.pg (z78 ha) ?_;rintro σ H Q ⟨G,e,nN,h⟩;simp only[ko,R.aw]at h;exact⟨G,e,nN,h.vW (λx e1 h G1 H1 r1 s1=>h G1 H1 r1 s1) λ_ _ h=>h⟩
theorem z83{op}(h:DE Z X EE a da):DE Z X EE (.Ze op [a] gJ) da:=z79 h
def z84{wb:ai pN}(ha:DE Z X EE a da)(hb:DE Z X EE (.Ze .Γ (b::wb) gJ) db):DE Z X EE (.Ze .Γ (a::b::wb) gJ) (jc da db):=by
 refine PE.pg (z8a ha hb) ?_;rintro σ H Q ⟨G,e,nN,h⟩;simp only[jc,R.aw]at h;refine⟨G,e,nN,h.vW (λx e1 h G1 v1 H1 r1 s1 p1=>?_) λ_ _ h=>h⟩
 cases x with
 |bl k=>
  cases(show v1=V.bl k from p1);cases k with
  |true=>exact⟨true,rfl,⟨G1,e1,r1,R.Uh.vW (show(db e1).Uh _ _ from h) (λy e2 h G2 v2 H2 r2 s2 p2=>h G2 v2 H2 r2 (s1.ki s2) p2) λ_ _ h=>XH.ki s1 h⟩⟩
  |false=>exact⟨false,rfl,(show ∀G' v H',_->_->v=V.bl false->Q v H' from h) G1 _ H1 r1 s1 rfl⟩
 |_=>exact h.oP
def Q3r{wb:ai pN}(ha:DE Z X EE a da)(hb:DE Z X EE (.Ze .Or (b::wb) gJ) db):DE Z X EE (.Ze .Or (a::b::wb) gJ) (md da db):=by
 refine PE.pg (So ha hb) ?_;rintro σ H Q ⟨G,e,nN,h⟩;simp only[md,R.aw]at h;refine⟨G,e,nN,h.vW (λx e1 h G1 v1 H1 r1 s1 p1=>?_) λ_ _ h=>h⟩
 cases x with
 |bl k=>
  cases(show v1=V.bl k from p1);cases k with
  |false=>exact⟨false,rfl,⟨G1,e1,r1,R.Uh.vW (show(db e1).Uh _ _ from h) (λy e2 h G2 v2 H2 r2 s2 p2=>h G2 v2 H2 r2 (s1.ki s2) p2) λ_ _ h=>XH.ki s1 h⟩⟩
  |true=>exact⟨true,rfl,(show ∀G' v H',_->_->v=V.bl true->Q v H' from h) G1 _ H1 r1 s1 rfl⟩
 |_=>exact h.oP
def z85(ha:DE Z X EE a da):DE Z X EE (.ό .Not a gJ) (gH da):=by
 refine PE.pg (z8b ha) ?_;rintro σ H Q ⟨G,e,nN,h⟩;simp only[gH,R.aw]at h;refine⟨G,e,nN,h.vW (λx e1 h G1 v1 H1 r1 s1 p1=>?_) λ_ _ h=>h⟩
 cases x with
 |bl k=>
  cases(show v1=V.bl k from p1);exact⟨k,rfl,(show ∀G' v H',_->_->v=V.bl (!k)->Q v H' from h) G1 _ H1 r1 s1 rfl⟩
 |_=>exact h.oP
def Q3s(hc:DT Z X EE c dc)(ha:DE Z X EE a da)(hb:DE Z X EE b db):DE Z X EE (.IfExp c a b gJ) (tD dc da db):=by
 refine PE.pg (zaZ hc ha hb) ?_;rintro σ H Q ⟨G,e,nN,h⟩;simp only[tD,R.aw]at h;refine⟨G,e,nN,h.vW (λx e1 h G1 H1 r1 s1=>?_) λ_ _ h=>h⟩
 cases x with
 |true=>exact⟨G1,e1,r1,R.Uh.vW (show(da e1).Uh _ _ from h) (λy e2 h G2 v2 H2 r2 s2 p2=>h G2 v2 H2 r2 (s1.ki s2) p2) λ_ _ h=>XH.ki s1 h⟩
 |false=>exact⟨G1,e1,r1,R.Uh.vW (show(db e1).Uh _ _ from h) (λy e2 h G2 v2 H2 r2 s2 p2=>h G2 v2 H2 r2 (s1.ki s2) p2) λ_ _ h=>XH.ki s1 h⟩
theorem z86:DA Z X EE [] ag:=PA.pg Jv λσ H Q ⟨G,e,r,h⟩=>h G [] H r (.uw _) rfl
def z3g(ha:DE Z X EE e da)(hr:DA Z X EE es dA)(hs:autoParam (p5 (e::es) X.a7=(false,eval e X.a7)::p5 es X.a7) jJ):DA Z X EE (e::es) (ae da dA):=by
 refine PA.pg (Cy ha hr hs) ?_;rintro σ H Q ⟨G,e,nN,h⟩;simp only[ae,R.aw]at h;refine⟨G,e,nN,h.vW (λx e1 h G1 v1 H1 r1 s1 p1=>?_) λ_ _ h=>h⟩
 refine⟨G1,e1,r1,h.vW (λxs e2 h G2 vs H2 r2 s2 p2=>?_) λ_ _ h=>XH.ki s1 h⟩
 exact h G2 (v1::vs) H2 r2 (s1.ki s2) ⟨v1,vs,rfl,p7.pg s2 x p1,p2⟩
def z87{x1}(h:DA Z X EE es dA):DE Z X EE (.Yo es x1 gJ) (aV dA):=by
 refine PE.pg (z8l h) ?_;rintro σ H Q ⟨G,e,nN,h⟩;simp only[aV,R.aw]at h;refine⟨G,e,nN,h.vW (λws e1 h G1 vs H1 r1 s1 p1=>?_) λ_ _ h=>h⟩
 split at h
 .rename_i hl;refine⟨by rw[p1.aj,Yf];exact hl,λp hp=>?_⟩
  have g:=aK.Lf r1.ri hp (.gs vs);exact(show ∀G' v H',_->_->p7 X.K G' (.gs ws) v->Q v H' from h) _ (.bj p) _ (r1.HF g) (s1.ki g.gg) ⟨p,vs,rfl,c7.of bT,aq.pg g.gg ws p1⟩
 .exact h.oP
theorem zD{e:ai S}(r:ro K Z G σ H e){p:f'}(hp:H p=none):jD σ e p:=λj b ws h q=>by
 let⟨a,xs,h1,h2,_⟩:=r.ie h;rw[q]at h1;cases h1;rw[hp]at h2;cases h2
def sF{e:ai S}(r:ro K Z G σ H e){p:f'}(hp:H p=none):Z.H p=none:=by
 cases q:Z.H p with
 |none=>rfl
 |ab o=>
  by_cases hi:p∈Z.io
  .exact uP hp (r.lC p hi)
  .rw[r.YY p o q hi]at hp;cases hp
theorem Ck{e:ai S}{vs:ai V}{Q:VK}{G0:Hp}(r:ro K Z G σ H e)(s:au G0 G)(p1:aq K G ws vs)
  (h:∀G' a xs H',ro K Z G' σ H' e->au G0 G'->H' a=ab (.dI xs)->G' a=none->Z.H a=none->jD σ e a->aq K G' ws xs->Q (.bj a) H'):∀p,H p=none->Q (.bj p) (ot H p (.dI vs)):=λp hp=>by
 have g:=aK.l3 r.ri hp (.dI vs);exact h G p vs _ (r.HF g) s bT (r.ri.rD hp) (sF r hp) (zD r hp) p1
def z88(h:DA Z X EE es dA):DF Z X EE (.ai es gJ) (cQ dA):=by
 refine PE.pg (z8m h) ?_;rintro σ H Q ⟨G,e,nN,h⟩;simp only[cQ,R.aw]at h;refine⟨G,e,nN,h.vW (λws e1 h G1 vs H1 r1 s1 p1=>?_) λ_ _ h=>h⟩
 split at h
 .rename_i hl;exact⟨by rw[p1.aj,Yf];exact hl,Ck r1 s1 p1 h⟩
 .exact h.oP
def ro.seen{e:ai S}(r:ro K Z G σ H e){a:f'}{xs:ai V}(h:H a=ab (.dI xs))(hg:G a=none)(hz:Z.H a=none)(hf:jD σ e a):au G (ot G a (.dI xs))/\ro K Z (ot G a (.dI xs)) σ H e:=by
 have sg:au G (ot G a (.dI xs)):=ua hg _;refine⟨sg,⟨λc o z=>?_,λj s z=>?_,r.vn,r.mf,r.YY,r.lC,λc z=>?_⟩⟩
 .by_cases hc:c=a
  .subst hc;rw[bT]at z;cases z;exact h
  .rw[bh hc]at z;exact r.ri c o z
 .have y:=r.yM j s z;cases s with
  |no=>trivial
  |fr w=>
   let⟨u,y1,y2⟩:=y;exact⟨u,y1,p7.pg sg w y2⟩
  |ie b2 w2=>
   let⟨c,ys,y1,y2,y3,y4,y5⟩:=y;refine⟨c,ys,y1,y2,?_,y4,aq.pg sg w2 y5⟩;rw[bh];exact y3;rintro rfl;let⟨c',_,z1,_⟩:=r.ie z;rw[z1]at y1;cases y1;exact hf j b2 w2 z z1
  |ba kvs=>
   let⟨c,y1,y2,y3,y4⟩:=y;refine⟨c,y1,y2,?_,y4⟩;rw[bh (kS y2 h (vU rfl))];exact y3
  |dw sh ks ws=>exact i6.Τ y sg λl o ys k1 k2 k3=>⟨k1,by rw[bh (kS k1 h (vQ rfl))];exact k2,k3⟩
 .by_cases hc:c=a
  .subst hc;exact uP hz z
  .rw[bh hc];exact r.gen c z
def Q3t(h:DF Z X EE e dA):DE Z X EE e (eN dA):=by
 refine PE.pg h ?_;rintro σ H Q ⟨G,e,nN,h⟩;simp only[eN,R.aw]at h;refine⟨G,e,nN,h.vW (λws e1 h G1 a xs H1 r1 s1 q1 q2 q3 q4 p1=>?_) λ_ _ h=>h⟩
 let⟨sg,rg⟩:=r1.seen q1 q2 q3 q4;exact(show ∀G' v H',_->_->p7 X.K G' (.dI ws) v->Q v H' from h) _ (.bj a) _ rg (s1.ki sg) ⟨a,xs,rfl,bJ.of bT,aq.pg sg ws p1⟩
def OY(hf:oQ K r f):∀σ H Q,fY K Z EE (cw f dA) σ H Q->HI r (pF K Z EE dA) σ H Q:=by
 rintro σ H Q ⟨G,e,nN,h⟩;simp only[cw,R.aw,aY]at h;refine⟨G,e,nN,h.vW (λws e1 h G1 vs H1 r1 s1 p1=>?_) λ_ _ h=>h⟩
 let⟨w,hw,h⟩:=h;exact hf G1 H1 vs ws w Q r1.ri p1 hw λG' v H' g p=>h G' v H' (r1.HF g) (s1.ki g.gg) p
theorem z_{id:Yv}{p:vY}{r:ai V->Hp->VK->Prop}{f:ai W->fv W}(hc:dg X (.yR id) r)(hf:oQ X.K r f)(hv:ζ x=ab (.yR id))(hm:X.mg x=none)(ha:DA Z X EE (e::es) dA)(hg:autoParam (Gl X x) jJ)(hn:autoParam (x≠"__name__") jK)(jH:autoParam ((x==("__debug__":d3))=false) jK)
  (he:autoParam (p5 (e::es) X.a7=(false,eval e X.a7)::p5 es X.a7) jJ)(d9:autoParam ((A4 gJ (p5 es X.a7)).vb (·.1)=false) jJ):DE Z X EE (.wc (.oL x p) (e::es) [] gJ) (cw f dA):=
 PE.pg (NI hc hg hm hv ha hn jH he d9) (OY hf)
theorem P0{T:Yv}{p:vY}{r:ai V->Hp->VK->Prop}{f:ai W->fv W}(hc:dg X (.ny T) r)(hf:oQ X.K r f)(hv:ζ x=ab (.ny T))(hm:X.mg x=none)(ha:DA Z X EE (e::es) dA)(hg:autoParam (Gl X x) jJ)(hn:autoParam (x≠"__name__") jK)(jH:autoParam ((x==("__debug__":d3))=false) jK)
  (he:autoParam (p5 (e::es) X.a7=(false,eval e X.a7)::p5 es X.a7) jJ)(d9:autoParam ((A4 gJ (p5 es X.a7)).vb (·.1)=false) jJ):DE Z X EE (.wc (.oL x p) (e::es) [] gJ) (cw f dA):=
 PE.pg (MZ hc hg hm hv ha hn jH he d9) (OY hf)
end
def c_:ai S->SR:=λe=>.nx e
def ah(a b:ai S->SR):ai S->SR:=λe=>match a e with
 |.nx e'=>b e'
 |r=>r
def R.dr(r:R α)(k:α->ai S->SR):SR:=match r with
 |.ok a e=>k a e
 |.ex c e=>.ex c e
 |.no=>.no
def jf(d:ke W):ai S->SR:=λe=>(d e).dr λ_ e'=>.nx e'
def aJ(d:ke W):ai S->SR:=λe=>(d e).dr λw e'=>.rt (.fr w) e'
def dD(d:ke (ai W)):ai S->SR:=λe=>(d e).dr λws e'=>.rt (.ie none ws) e'
def fU(i:ar):ai S->SR:=λe=>match e[i]? with
 |ab (.ie none ws)=>.rt (.ie none ws) e
 |ab (.fr w)=>.rt (.fr w) e
 |_=>.no
def a9(c:ke fC)(a b:ai S->SR):ai S->SR:=λe=>(c e).dr λx e1=>if x=true then a e1 else b e1
def aD(i:ar)(d:ke W):ai S->SR:=λe=>(d e).dr λw e'=>.nx (e'.sx i (.fr w))
def b7(i:ar)(d:ke (ai W)):ai S->SR:=λe=>(d e).dr λws e'=>.nx (e'.sx i (.ie none ws))
def cy(i:ar)(b:ai S->SR):ai W->ai S->SR
 |[],e=>.nx e
 |w::ws,e=>match b (e.sx i (.fr w))with
  |.nx e'=>cy i b ws e'
  |.ct e'=>cy i b ws e'
  |.bk e'=>.nx e'
  |.rt s e'=>.rt s e'
  |.ex c e'=>.ex c e'
  |.no=>.no
def bg(c:ke fC)(b:ai S->SR):ar->ai S->SR
 |0,_=>.no
 |n+1,e=>(c e).dr λx e1=>if x=true then(match b e1 with
  |.nx e'=>bg c b n e'
  |.ct e'=>bg c b n e'
  |.bk e'=>.nx e'
  |.rt s e'=>.rt s e'
  |.ex c e'=>.ex c e'
  |.no=>.no)else .nx e1
def eX:W->fv (ai W)
 |.gs ws=>ab ws
 |.dI ws=>ab ws
 |_=>none
def iI(i:ar)(d:ke W)(b:ai S->SR):ai S->SR:=λe=>(d e).dr λw e1=>match eX w with
 |ab ws=>cy i b ws e1
 |none=>.no
def bK(lo hi:a6):ai W:=(ai.zd (hi-lo).t8).aT λk=>.aO (lo+(k:ar))
def n0(j:a6):fC:=ar.ble j.ϱ 4611686018427387903
def vS(h:n0 j=true):-(2^62)<=j/\j<2^62:=by
 have z:j.ϱ<=4611686018427387903:=w3r h
 grind
theorem n5{j:a6}(h1:-1000000000<=j)(h2:j<=1000000000):n0 j=true:=ar.ble_eq_true_of_le (by omega)
def eV:ai W->fv (ai W)
 |[.aO j]=>if n0 j=true then ab (bK 0 j)else none
 |_=>none
def U_:ai W->fv (ai W)
 |[.aO i,.aO j]=>if n0 i=true/\n0 j=true then ab (bK i j)else none
 |_=>none
def eC(i:ar)(g:ai W->fv (ai W))(d:ke (ai W))(b:ai S->SR):ai S->SR:=λe=>(d e).dr λw e1=>match g w with
 |ab ws=>cy i b ws e1
 |none=>.no
section
variable{X:Cx}{a c e:pN}{st:Rl}{wb rK:ai Rl}{d:ke W}{s1 s2:ai S->SR}
theorem bC.ki(s:au G G1):∀{r:SR},bC K Z EE D G r->bC K Z EE D G1 r
 |.nx e',h=>λG' aP H' r q=>h G' aP H' r (s.ki q)
 |.bk e',h=>λG' aP H' r q=>h G' aP H' r (s.ki q)
 |.ct e',h=>λG' aP H' r q=>h G' aP H' r (s.ki q)
 |.rt w e',h=>λG' aP v H' r q=>h G' aP v H' r (s.ki q)
 |.ex c e',h=>λG' aP H' r q=>h G' aP H' r (s.ki q)
 |.no,h=>h
def kR{r:R α}(h:bC K Z EE D G (r.dr k)):r.Uh (λa e'=>bC K Z EE D G (k a e')) (XH K Z EE σ G):=by
 cases r with
 |ok a e=>exact h
 |ex c e=>exact λG' H' r q=>h G' σ H' r q
 |no=>exact h
theorem z3h:mV Z X EE [] c_:=lV.pg z2w λD σ H ⟨G,e,r,h⟩=>h G σ H r (.uw _)
def zbd:∀D σ H,e9 K Z EE (ah s1 s2) D σ H->AN (e9 K Z EE s1) (e9 K Z EE s2) D σ H:=by
 rintro D σ H ⟨G,e,nN,h⟩;refine⟨G,e,nN,?_⟩;unfold ah at h;cases q:s1 e with
 |nx e'=>rw[q]at h;exact λG' aP H' r s=>⟨G',e',r,bC.ki s h⟩
 |bk e'=>rw[q]at h;exact h
 |ct e'=>rw[q]at h;exact h
 |rt w e'=>rw[q]at h;exact h
 |ex c e'=>rw[q]at h;exact h
 |no=>rw[q]at h;exact h
theorem y8x(h1:DS Z X EE st s1)(h2:mV Z X EE wb s2):mV Z X EE (st::wb) (ah s1 s2):=lV.pg (za0 h1 h2) zbd
theorem z3i(h1:DS Z X EE st s1):mV Z X EE [st] s1:=z2x h1
def z3j(he:DE Z X EE e d)(hs:autoParam (ZO e none gJ.Yq X.a7=vo false) jJ):DS Z X EE (.pN e gJ) (jf d):=by
 refine PS.pg (IM he hs) ?_;rintro D σ H ⟨G,e,nN,h⟩;exact⟨G,e,nN,(kR h).vW (λw e1 h G1 v1 H1 r1 s1 p1=>h G1 σ H1 r1 s1) λ_ _ h=>h⟩
def z89(he:DE Z X EE e d):DS Z X EE (.ã (ab e) gJ) (aJ d):=by
 refine PS.pg (Jx he) ?_;rintro D σ H ⟨G,e,nN,h⟩;exact⟨G,e,nN,(kR h).vW (λw e1 h G1 v1 H1 r1 s1 p1=>h G1 σ v1 H1 r1 s1 ⟨v1,rfl,p1⟩) λ_ _ h=>h⟩
def z3k(he:DF Z X EE e dA):DS Z X EE (.ã (ab e) gJ) (dD dA):=by
 refine PS.pg (Jx he) ?_;rintro D σ H ⟨G,e,nN,h⟩;exact⟨G,e,nN,(kR h).vW (λw e1 h G1 a xs H1 r1 s1 q1 q2 q3 q4 p1=>h G1 σ (.bj a) H1 r1 s1 ⟨a,xs,rfl,q1,q2,q3,p1⟩) λ_ _ h=>h⟩
def z3l(i:ar){p:vY}(hN:autoParam (X.N[i]?=ab x) jJ)(hv:autoParam (jS X.a7.d0 x) jN)(hd:autoParam ((x==("__debug__":d3))=false) jK)
  (eE:autoParam ((x==("__classdict__":d3))=false) jK):DS Z X EE (.ã (ab (.oL x p)) gJ) (fU i):=by
 refine PS.pg (Jx (pv i hN hv hd eE)) ?_;rintro D σ H ⟨G,e,nN,h⟩;unfold fU at h;split at h
 .rename_i ws hw;let⟨a,xs,h1,h2,h3,h4,h5⟩:=nN.ie hw;exact⟨.bj a,h1,h G σ _ H nN (.uw _) ⟨a,xs,rfl,h2,h3,h4,h5⟩⟩
 .rename_i w hw;let⟨v,h1,h2⟩:=nN.fr hw;exact⟨v,h1,h G σ _ H nN (.uw _) ⟨v,rfl,h2⟩⟩
 .exact h.oP
def zbe:∀D σ H,e9 K Z EE (a9 dc s1 s2) D σ H->AF (_h K Z EE dc) (e9 K Z EE s1) (e9 K Z EE s2) D σ H:=by
 rintro D σ H ⟨G,e,nN,h⟩;refine⟨G,e,nN,(kR h).vW (λx e1 h G1 H1 r1 q1=>?_) λ_ _ h=>h⟩
 cases x with
 |true=>exact⟨G1,e1,r1,bC.ki q1 h⟩
 |false=>exact⟨G1,e1,r1,bC.ki q1 h⟩
theorem Q3u(hc:DT Z X EE c dc)(ha:mV Z X EE p s1)(hb:mV Z X EE q s2):DS Z X EE (.If c p q gJ) (a9 dc s1 s2):=PS.pg (Sq hc ha hb) zbe
def z9a(i:ar)(hN:X.N.x6)(he:DE Z X EE e d)(hi:autoParam (X.N[i]?=ab x) jJ)(hx:autoParam (Zq X.a7.d0 x) jM)(hs:autoParam (ZO e (ab (.oL x YR)) gJ.Yq X.a7=vo false) jJ)(hf:autoParam (X.fn x=true\/X.a7.d0.pM.gr x=ab .local) jL):
  DS Z X EE (.ZR [.oL x YR] e gJ) (aD i d):=by
 refine PS.pg (AW i hN he hi hx hs hf) ?_;rintro D σ H ⟨G,e,nN,h⟩;exact⟨G,e,nN,(kR h).vW (λw e1 h G1 v1 H1 r1 q1 p1=>h G1 _ H1 (r1.sx p1) q1) λ_ _ h=>h⟩
def z9b(i:ar)(hN:X.N.x6)(he:DF Z X EE e dA)(hi:autoParam (X.N[i]?=ab x) jJ)(hx:autoParam (Zq X.a7.d0 x) jM)(hs:autoParam (ZO e (ab (.oL x YR)) gJ.Yq X.a7=vo false) jJ)(hf:autoParam (X.fn x=true\/X.a7.d0.pM.gr x=ab .local) jL):
  DS Z X EE (.ZR [.oL x YR] e gJ) (b7 i dA):=by
 refine PS.pg (AW i hN he hi hx hs hf) ?_;rintro D σ H ⟨G,e,nN,h⟩;exact⟨G,e,nN,(kR h).vW (λw e1 h G1 a xs H1 r1 s1 q1 q2 q3 q4 p1=>h G1 _ H1 (r1.zdM q1 q2 q3 q4 p1) s1) λ_ _ h=>h⟩
def y8z(n)(hp:Ϲ (q_ X.jd X.w) X.A X.a7 X.xe)(hc:DT Z X EE c dc)(hb:mV Z X EE rK s1):DS Z X EE (.While c rK [] gJ) (bg dc s1 n):=by
 refine PS.pg (za1 hp hc hb) ?_;rintro D σ H ⟨G,e,nN,h⟩;refine⟨λm aP H'=>∃G' e',ro X.K Z G' aP H' e'/\au G G'/\bC X.K Z EE D G (bg dc s1 m e'),⟨n,G,e,nN,.uw _,h⟩,?_⟩
 rintro m sY H1 ⟨G1,e1,r1,q1,h⟩;cases m with
 |UQ=>exact h.oP
 |UI m=>
  refine⟨G1,e1,r1,(kR (σ:=sY) h).vW (λx e2 h G2 H2 r2 q2=>?_) λ_ _ h=>XH.ki q1 h⟩
  cases x with
  |false=>exact h G2 sY H2 r2 (q1.ki q2)
  |true=>
   refine⟨λaP H'=>∃G' e',ro X.K Z G' aP H' e'/\au G G'/\bC X.K Z EE D G (bg dc s1 m e'),λaP H' q=>⟨m,w4r _,q⟩,⟨G2,e2,r2,?_⟩⟩
   have sg:=q1.ki q2;have h:bC X.K Z EE D G (match s1 e2 with|.nx e'=>bg dc s1 m e'|.ct e'=>bg dc s1 m e'|.bk e'=>.nx e'|.rt s e'=>.rt s e'|.ex c e'=>.ex c e'|.no=>.no):=h;cases q:s1 e2 with
   |nx e'=>rw[q]at h;exact λG' aP H' r s=>⟨G',e',r,sg.ki s,h⟩
   |ct e'=>rw[q]at h;exact λG' aP H' r s=>⟨G',e',r,sg.ki s,h⟩
   |bk e'=>rw[q]at h;exact λG' aP H' r s=>h G' aP H' r (sg.ki s)
   |rt w e'=>rw[q]at h;exact λG' aP v H' r s=>h G' aP v H' r (sg.ki s)
   |ex c e'=>rw[q]at h;exact λG' aP H' r s=>h G' aP H' r (sg.ki s)
   |no=>rw[q]at h;exact h
def zbF{x:L2.V}(r1:ro K Z G1 σ H e1)(q1:au G G1)(p:p7 K G1 w x)(h:bC K Z EE D G (cy i s1 (w::ws) e1))
  (hN:∀G' aP H' e',ro K Z G' aP H' e'->au G G'->bC K Z EE D G (cy i s1 ws e')->N aP H'):bM i x σ H λkM H2=>e9 K Z EE s1 {D with nx:=N,ct:=N,bk:=D.nx} kM H2:=by
 refine⟨G1,e1.sx i (.fr w),r1.sx p,?_⟩;unfold cy at h;cases q:s1 (e1.sx i (.fr w))with
 |nx e'=>rw[q]at h;exact λG' aP H' r s=>hN G' aP H' e' r (q1.ki s) h
 |ct e'=>rw[q]at h;exact λG' aP H' r s=>hN G' aP H' e' r (q1.ki s) h
 |bk e'=>rw[q]at h;exact λG' aP H' r s=>h G' aP H' r (q1.ki s)
 |rt w e'=>rw[q]at h;exact λG' aP v H' r s=>h G' aP v H' r (q1.ki s)
 |ex c e'=>rw[q]at h;exact λG' aP H' r s=>h G' aP H' r (q1.ki s)
 |no=>rw[q]at h;exact h
def yy(K:Fg)(tl:TE):TI:=λσ H R=>tl σ H λx H1=>∃a,x=.bj a/\(((∃xs,bJ K H1 a xs)/\R (wz K a) H1)\/((∃xs,c7 K H1 a xs)/\R (wA K a) H1))
def CL(hl:PE X l tl):PI X tg l (yy X.K tl):=by
 intro cf s σ H R I h;refine bw (hl cf s σ H _ I h) λv s1 ⟨x,H1,I1,r1,q1⟩=>?_
 let⟨a,e,q⟩:=q1;subst e;cases r1;rcases q with⟨⟨xs,hq⟩,q⟩|⟨⟨xs,hq⟩,q⟩
 .let⟨ax,rv,p,hz⟩:=I1.xE hq;refine ρ p.yP ?_;refine⟨s1.a5.fy.dt,[s1.a5.fy.dt],_,_,H1,rfl,I1.Ya (t':=s1.sP) λb o e=>gw.v7 _ e,zax a _,⟨_,gw.A9 _ rfl,rfl,rfl⟩,λb hb=>?_,q⟩
  have e:b=s1.a5.fy.dt:=by simpa using hb
  subst e;exact I1.jg (w0e _) (I1.aL.xS (w0e _))
 .let⟨ax,rv,p,hz⟩:=I1.UH hq;refine Ϣ (show s1.a5.YV a ax.k8 from p) ?_;refine⟨s1.a5.fy.dt,[s1.a5.fy.dt],_,_,H1,rfl,I1.Ya (t':=s1.sP) λb o e=>gw.v7 _ e,XA a _,⟨_,gw.A9 _ rfl,rfl,rfl⟩,λb hb=>?_,q⟩
  have e:b=s1.a5.fy.dt:=by simpa using hb
  subst e;exact I1.jg (w0e _) (I1.aL.xS (w0e _))
def M6{α:Type}{ws:ai α}{k:ar}{w:α}(h:ws[k]?=ab w):ws.wa k=w::ws.wa (k+1):=by
 let⟨hk,rfl⟩:=w0c.mp h;exact w3c hk
def OZ(r1:ro K Z G1 σ H1 e1)(rp:aq K G1 ws xs)(h:bC K Z EE D G1 (cy i s1 ws e1))(SQ:Hp->Prop)(rN:∀G' H',au G1 G'->au G' H'->SQ H'):
  ∃Pv:ar->St->Hp->Prop,Pv 0 σ H1/\(∀j σ H,j<=xs.aj->Pv j σ H->SQ H)/\(∀(j:ar) x σ H,xs[j]?=ab x->Pv j σ H->bM i x σ H λkM H2=>e9 K Z EE s1 {D with nx:=Pv (j+1),ct:=Pv (j+1),bk:=D.nx} kM H2)/\∀σ H,Pv xs.aj σ H->D.nx σ H:=by
 refine⟨λj aP H'=>∃G' e',ro K Z G' aP H' e'/\au G1 G'/\bC K Z EE D G1 (cy i s1 (ws.wa j) e'),⟨G1,e1,r1,.uw _,h⟩,?_,?_,?_⟩
 .rintro j aP H' _ ⟨G',e',r',s',_⟩;exact rN G' H' s' r'.ri
 .rintro j x aP H' hx ⟨G',e',r',s',h⟩;let⟨w,hw,pw⟩:=rp.iM hx;rw[M6 hw]at h;exact zbF r' s' (p7.pg s' w pw) h λfQ fF kY tG mO iq qB=>⟨fQ,tG,mO,iq,qB⟩
 .rintro aP H' ⟨G',e',r',s',h⟩;rw[rp.aj,w3f]at h;exact h G' aP H' r' s'
def z9c(i:ar)(hN:X.N.x6)(hp:Ϲ (q_ X.jd X.w) X.A X.a7 X.xe)(hc:X.TR=true)(hl:DE Z X EE e d)(hb:mV Z X EE rK s1)
  (hi:autoParam (X.N[i]?=ab x) jJ)(hx:autoParam (Zq X.a7.d0 x) jM)(hf:autoParam (X.fn x=true\/X.a7.d0.pM.gr x=ab .local) jL)(hs:∀x,_g e X.a7 x=vo x:=by intro _;rfl):
  DS Z X EE (.For (.oL x YR) e rK [] gJ) (iI i d s1):=by
 refine PS.pg (Jy hp hc (CL hl) (ug i hN hi hx hf) hb hs) ?_;rintro D σ H ⟨G,e,nN,h⟩;refine⟨G,e,nN,(kR h).vW (λw e1 h G1 v1 H1 r1 q1 p1=>?_) λ_ _ h=>h⟩
 have Z8:=λws xs (rp:aq X.K G1 ws xs) (h:bC X.K Z EE D G (cy i s1 ws e1))=>OZ (i:=i) (D:=D) r1 rp (bC.ki q1 h)
 cases w with
 |gs ws=>
  let⟨a,xs,rfl,hq,rp⟩:=p1;refine⟨a,rfl,.mv ⟨⟨xs,r1.ri.gs hq⟩,?_⟩⟩;let⟨Pv,h0,h1,h2,h3⟩:=Z8 ws xs rp h (λH'=>c7 X.K H' a xs) (λG' H' s s'=>au.gs s' (au.gs s hq))
  exact z2z Pv h0 h1 h2 h3
 |dI ws=>
  let⟨a,xs,rfl,hq,rp⟩:=p1;refine⟨a,rfl,.j' ⟨⟨xs,r1.ri.pJ hq⟩,?_⟩⟩;let⟨Pv,h0,h1,h2,h3⟩:=Z8 ws xs rp h (λH'=>bJ X.K H' a xs) (λG' H' s s'=>au.pJ s' (au.pJ s hq))
  exact za3 Pv h0 h1 h2 h3
 |_=>exact h.oP
def Ms:aq K G (bK lo hi) ((ai.zd (hi-lo).t8).aT λk=>V.aO (lo+(k:ar))):=by
 unfold bK;generalize ai.zd (hi-lo).t8=l
 induction l with
 |rA=>rfl
 |qY k l ih=>exact⟨_,_,rfl,rfl,ih⟩
def z3m(r1:ro K Z G1 σ H1 e1)(h:bC K Z EE D G1 (cy i s1 (bK lo hi) e1)):
  ∃W:ar->ar->St->Hp->Prop,(∃m,W 0 m σ H1)/\∀j m σ H,W j m σ H ->
   ((oM lo (hi-lo).t8).stop j H/\D.nx σ H)\/((oM lo (hi-lo).t8).go j H/\∃N:St->Hp->Prop,(∀aP H',N aP H'->∃m',m'<m/\W (j+1) m' aP H')/\∀x H',(oM lo (hi-lo).t8).kT j H x H'->bM i x σ H' λkM H2=>e9 K Z EE s1 {D with nx:=N,ct:=N,bk:=D.nx} kM H2):=by
 let⟨Pv,h0,h1,h2,h3⟩:=OZ (i:=i) (D:=D) r1 (Ms (lo:=lo) (hi:=hi)) h (λ_=>kc) (λ_ _ _ _=>trivial)
 refine X3 Pv h0 (λj aP H' hj p=>h2 j _ aP H' ?_ p) (λaP H' p=>h3 aP H' (by simpa using p))
 simp[hj]
def z3n(i:ar){p p1 p2:vY}(hN:X.N.x6)(hp:Ϲ (q_ X.jd X.w) X.A X.a7 X.xe)(hc:X.TR=true)(hm:X.mg "range"=none)(ha:DA Z X EE [a] dA)(hb:mV Z X EE rK s1)
  (hi:autoParam (X.N[i]?=ab x) jJ)(hx:autoParam (Zq X.a7.d0 x) jM)(hf:autoParam (X.fn x=true\/X.a7.d0.pM.gr x=ab .local) jL)(hg:autoParam (Gl X "range") jJ)(m9:autoParam (p5 [a] X.a7=[(false,eval a X.a7)]) jJ)(hs:∀x,_g (.wc (.oL "range" p1) [a] [] p2) X.a7 x=vo x:=by intro _;rfl):
  DS Z X EE (.For (.oL x p) (.wc (.oL "range" p1) [a] [] p2) rK [] gJ) (eC i eV dA s1):=by
 refine PS.pg (Jy hp hc (G_ hg hm ha m9) (ug i hN hi hx hf) hb hs) ?_;rintro D σ H ⟨G,e,nN,h⟩;refine⟨G,e,nN,(kR h).vW (λws e1 h G1 vs H1 r1 q1 p1=>?_) λ_ _ h=>h⟩
 unfold eV at h;split at h
 .rename_i hh;split at hh
  .rename_i j;split at hh
   .rename_i hj;cases hh;let⟨y,r,rfl,e1,e2⟩:=p1;cases(show y=V.aO j from e1);cases(show r=[]from e2);refine⟨j,rfl,(vS hj).1,(vS hj).2,?_⟩;have z:=z3m (i:=i) (D:=D) r1 (bC.ki q1 h)
    rwa [a6.sub_zero]at z
   .cases hh
  .cases hh
 .exact h.oP
end
open PyProof.Rows (envOfC)
inductive FR where
 |ok (s:S)|ex (c:dS)|no
def oi(K:Fg)(F:ai W->FR):Sp:=λvs H Q E=>∃G ws,au G H/\aq K G ws vs/\match F ws with
 |.ok s=>∀G' H' v,aK G H G' H'->fi K ⟨H,G,[]⟩ G' H' s (ab v)->Q v H'
 |.ex c=>∀H',au H H'->E c none H'
 |.no=>vk
def SR.fn:SR->FR
 |.nx _=>.ok (.fr .aF)
 |.rt s _=>.ok s
 |.ex c _=>.ex c
 |_=>.no
def Z3(n:ar)(ws:ai W):ai S:=ws.aT .fr++ai.v5 (n-ws.aj) .no
def Ih{N:ai d3}{vs:ai V}(s:au G H)(r:aq K G ws vs):ro K ⟨H,G,[]⟩ G (L2.Z_ N vs) H (Z3 N.aj ws):=by
 have hl:=r.aj
 have nU:∀(i:ar)(s:S),(Z3 N.aj ws)[i]?=ab s->(s=.no)\/∃w,s=.fr w/\ws[i]?=ab w:=λi s h=>by
  unfold Z3 at h;rw[ai.getElem?_append]at h;split at h
  .rw[w0w]at h;let⟨w,h1,rfl⟩:=w0l.mp h;exact .mv ⟨w,rfl,h1⟩
  .rw[ai.getElem?_replicate]at h;split at h
   .cases h;exact .j' rfl
   .cases h
 refine⟨s,λi t h=>?_,?_,λi j b b' w1 w2 a h1 h2 _ _=>?_,λa o h _=>h,(λa h=>nomatch h),λa _=>rfl⟩
 .rcases nU i t h with rfl|⟨w,rfl,h1⟩
  .trivial
  .let⟨v,h2,h3⟩:=r.Df h1;refine⟨v,?_,h3⟩;have hi:i<vs.aj:=(w0c.mp h2).1;unfold L2.Z_;rw[w1g (by simpa using hi),w0w,h2];rfl
 .unfold Z3 L2.Z_;simp[hl]
 .rcases nU i _ h1 with z|⟨w,z,_⟩<;>cases z
theorem ro.gu(r:ro K ⟨H,G,[]⟩ G' σ H' e)(s:au G G'):aK G H G' H':=
 ⟨λa o h=>r.YY a o h (by simp),s,r.ri,λa h=>r.gen a h⟩
def P1(h:oi K F vs H Q E):∃G ws,F ws≠.no/\aq K G ws vs:=by
 let⟨G,ws,_,r,h⟩:=h
 grind
def z3o{F:ai W->FR}(he:r.fn=F ws)(h:match F ws with
  |.ok s=>∀G' H' v,aK G H G' H'->fi K ⟨H,G,[]⟩ G' H' s (ab v)->Q v H'
  |.ex c=>∀H',au H H'->E c none H'
  |.no=>vk):bC K ⟨H,G,[]⟩ (λ_=>E) {nx:=λ_ H'=>Q .aF H',rt:=Q} G r:=by
 rw[<- he]at h;cases r with
 |nx e=>exact λG' aP H' r s=>h G' H' .aF (r.gu s) ⟨.aF,rfl,rfl⟩
 |rt s e=>exact λG' aP v H' r q p=>h G' H' v (r.gu q) p
 |ex c e=>exact λG' aP H' r s=>h H' (r.gu s).hh
 |bk e=>exact h.oP
 |ct e=>exact h.oP
 |no=>exact h.oP
def ao(F:ai W->FR)(dA:ke (ai W)):ke W:=λe=>(dA e).r7 λws e1=>match F ws with
 |.ok (.fr w)=>.ok w e1
 |.ok (.ie none ws')=>.ok (.dI ws') e1
 |.ok (.ba kvs)=>.ok (.ba kvs) e1
 |.ex c=>.ex c e1
 |_=>.no
section
variable{X:Cx}{e:pN}{p:vY}{k:ar}{ps:ai d3}{F:ai W->FR}
def NK(r1:ro K Z G1 σ H1 e1)(g:aK G1 H1 G' H')(q:fi K ⟨H1,G1,[]⟩ G' H' s (ab v))(hs:s=.fr w\/∃ws,s=.ie none ws/\w=.dI ws):
  ∃fQ,ro K Z fQ σ H' e1/\au G1 fQ/\p7 K fQ w v:=by
 rcases hs with rfl|⟨ws,rfl,rfl⟩
 .let⟨u,h1,h2⟩:=q;cases h1;exact⟨G',r1.HF g,g.gg,h2⟩
 .let⟨a,xs,h1,h2,h3,h4,h5⟩:=q;cases h1;have hn:H1 a=none:=h4;let⟨sg,rg⟩:=(r1.HF g).seen h2 h3 (sF r1 hn) (zD r1 hn);exact⟨_,rg,g.gg.ki sg,⟨a,xs,rfl,bJ.of bT,aq.pg sg ws h5⟩⟩
def zaF(r1:ro K Z G1 σ H1 e1)(g:aK G1 H1 G' H')(q:fi K ⟨H1,G1,[]⟩ G' H' (.ba kvs) (ab v)):
  ∃fQ,ro K Z fQ σ H' e1/\au G1 fQ/\p7 K fQ (.ba kvs) v:=by
 let⟨a,h1,h2,h3,h4⟩:=q;cases h1;have hn:H1 a=none:=h4;have r:=r1.HF g;have sg:au G' (ot G' a (dO kvs)):=ua h3 _;refine⟨ot G' a (dO kvs),⟨λc o z=>?_,λj s z=>?_,r.vn,r.mf,r.YY,r.lC,λc z=>?_⟩,g.gg.ki sg,⟨a,rfl,bT⟩⟩
 .by_cases hc:c=a
  .grind [bT]
  .rw[bh hc]at z;exact r.ri c o z
 .have y:=r.yM j s z;have y1:=r1.yM j s z;cases s with
  |no=>trivial
  |fr w=>
   let⟨u,y1,y2⟩:=y;exact⟨u,y1,p7.pg sg w y2⟩
  |ie b2 w2=>
   let⟨c,ys,x1,x2,x3,x4,x5⟩:=y;refine⟨c,ys,x1,x2,?_,x4,aq.pg sg w2 x5⟩;rw[bh (kS x2 h2 (λz=>vU rfl z.symm))];exact x3
  |ba kv=>
   let⟨c,x1,x2,x3,x4⟩:=y;let⟨c',w1,w2,_⟩:=y1;rw[x1]at w1;cases w1;refine⟨c,x1,x2,?_,x4⟩;rw[bh (i3 w2 hn)];exact x3
  |dw sh ks ws=>
   let⟨c,kv,ka,x1,x2,x3,x4,x5,zeh,x7⟩:=y;let⟨c',kv',ka',w1,w2,_⟩:=y1;rw[x1]at w1;cases w1;refine⟨c,kv,ka,x1,x2,?_,x4,x5,zeh.pg sg,x7.Τ sg λ_ _ _ z=>z⟩
   rw[bh (i3 w2 hn)];exact x3
 .by_cases hc:c=a
  .grind [sF]
  .rw[bh hc];exact r.gen c z
theorem JQ(r1:ro K Z G1 σ H1 e1)(s1:au G G1)(h:XH K Z EE σ G c e1):∀H',au H1 H'->EE σ c none H':=λH' sh=>
 h G1 H' (r1.HF ⟨sh,.uw _,r1.ri.ki sh,λ_ _=>rfl⟩) s1
def z9d(C:qU X.jd X.w X.K X.mg X.j3 k x ps (oi X.K F))(hr:bp k X.A)(hx:eZ (eh X.jd X.w) X EE)(ha:DA Z X EE (e::es) dA)(hg:autoParam (Gl X x) jJ)
  (jH:autoParam ((x==("__debug__":d3))=false) jK)(he:autoParam (p5 (e::es) X.a7=(false,eval e X.a7)::p5 es X.a7) jJ)(d9:autoParam ((A4 gJ (p5 es X.a7)).vb (·.1)=false) jJ):
  DE Z X EE (.wc (.oL x p) (e::es) [] gJ) (ao F dA):=by
 refine PE.pg (z8t C hr hx ha hg jH he d9) ?_;rintro σ H Q ⟨G,e,nN,h⟩;simp only[ao,R.aw]at h;refine⟨G,e,nN,h.vW (λws e1 h G1 vs H1 r1 s1 p1=>?_) λ_ _ h=>h⟩
 refine⟨G1,ws,r1.ri,by grind,?_⟩;cases q:F ws with
 |ok s=>
  rw[q]at h;intro G' H' v g sl;cases s with
  |no=>exact h.oP
  |fr w=>
   let⟨fQ,r2,s2,p2⟩:=NK r1 g sl (.j' rfl);exact(show ∀G' v H',_->_->p7 X.K G' w v->Q v H' from h) fQ v H' r2 (s1.ki s2) p2
  |ie b ws'=>
   cases b with
   |ab _=>exact h.oP
   |none=>
    let⟨fQ,r2,s2,p2⟩:=NK r1 g sl (.mv ⟨ws',rfl,rfl⟩);exact(show ∀G' v H',_->_->p7 X.K G' (.dI ws') v->Q v H' from h) fQ v H' r2 (s1.ki s2) p2
  |ba kvs=>
   let⟨fQ,r2,s2,p2⟩:=zaF r1 g sl;exact(show ∀G' v H',_->_->p7 X.K G' (.ba kvs) v->Q v H' from h) fQ v H' r2 (s1.ki s2) p2
  |dw _ _ _=>exact h.oP
 |ex c=>
  rw[q]at h;exact JQ r1 s1 h
 |no=>rw[q]at h;exact h.oP
end
end D
namespace L2
open PySem PySem.Spec PyProof.Rows
section
variable{X:Cx}{K' UK xw:pN}{zb:ai pN}{d0:yz}{gJ:vY}{wi:TI}{g:TG}{tc:TT}{te:TE}
def zaT{Nl Nf:ai d3}{js:ai ar}{y:d3}{py lO:vY}{gy:TG}(hc:X.TR=true)(hi:PI X UK xw wi)
  (hk:d0.xx=.Z0)(dG:∀y∈d0.pM,y.2≠.t9)(mr:∀x∈d0.pM,x.2=.local->d0.pM.gr x.1=ab .local)
  (cV:∀x∈d0.pM,x.2=.rD->X.a7.yt x.1=ab .t9\/X.a7.yt x.1=ab .rD)
  (hj:∀(i j:ar) y,Nf[i]?=ab y->js[i]?=ab j->X.N[j]?=ab y)(v_:js.aj=Nf.aj)
  (mj:∀y∈Nf,(y,Vo.rD)∈d0.pM/\jS X.a7.d0 y/\X.a7.yt y≠ab .local)
  (gK:∀y∈Nf,(Χ d0 X.a7).pM.gr y=ab .t9\/(Χ d0 X.a7).pM.gr y=ab .rD)
  (hg:∀cl C aA aG ex,PG (X.cp (Nl++Nf) d0 cl C aA aG ex) UK g)(ht:∀cl C aA aG ex,qx (X.cp (Nl++Nf) d0 cl C aA aG ex) zb tc)(he:∀cl C aA aG ex,PE (X.cp (Nl++Nf) d0 cl C aA aG ex) K' te)
  (D3:PG X (.oL y py) gy)(r8:ZO (.ZC K' [⟨UK,xw,zb,0⟩] d0 gJ) (ab (.oL y py)) lO.Yq X.a7=vo true)
  (hs:∀x,_g xw X.a7 x=vo x:=by intro _;rfl):
  PS X (.ZR [.oL y py] (.ZC K' [⟨UK,xw,zb,0⟩] d0 gJ) lO) (ql (iF wi Nl.aj js g tc te) gy):=by
 intro cf s σ H D I h;let⟨cl,dH,eI,lZ⟩:=zr (d0:=d0) (a7:=X.a7) λx hx hf=>I.ok.yD x.1 (cV x hx hf)
 rw[exec_Assign_Name_used _ _ _ _ r8];refine lb (ă (lb ?_));show oS _ _ (do let _ <- comprehension _ _ _ _ _ _ _ _) _ _ _;refine lb (zd7 (Q:=λ_ iq=>oS (q_ X.jd X.w) X.A (vo ()) (λ_ s3=>oS (q_ X.jd X.w) X.A (vo Flow.next) (SP X cf D) X.xe s3) X.xe iq) (use:=ab (_r (.oL y py) X.a7)) rfl hs dH hk mr (bw (hi cf s σ H _ I h) λv s1 h1=>bw h1 λBs s2 h2=>?_))
 let⟨it,fp,tn,J,H2,e,I2,T,ir,f2,rd⟩:=h2;subst e;refine Ψ (Ÿ dG (by intro y hy;simp at hy) (λcL dP eR=>?_) hk)
 dsimp only at dP eR |-
 have uB:(s2.a5.si {oh:=.ny "list", we:=none,oo:=.pJ ([]:ai dS).k8}).fy.dt=s2.a5.fy.dt+1:=gw.Z4 ..;rw[uB]at dP eR |-
 have fD:H2 s2.a5.fy.dt=none:=I2.aL.xS (w0e _);let⟨W,⟨m0,w0⟩,Zi⟩:=rd s2.a5.fy.dt fD;have nZ:=T.Yc 0 s2.a5 ir;have IS:=NJ (Nl:=Nl) (Nf:=Nf) (js:=js) (cl:=cl) (tk:=s2.sP+([]:ai (d3×dS)).aj) I2 f2 nZ hk dG eI lZ hj v_ mj gK dP eR
 have HW:∀b u,s2.a5.g0 b=ab u->cL.g0 b=ab u:=λb u q=>by
  have bR:=gw.xq q;exact(eR.2 b (w0p (w1y bR))).ki (gw.v7 _ (gw.v7 _ q))
 have Ay:tn 0 cL:=T.wN 0 s2.a5 cL ir λb hb o q=>HW b o q
 have E3:∀b∈fp,ot H2 s2.a5.fy.dt (.dI []) b=none:=λb hb=>by
  let⟨o,q,_⟩:=nZ b hb;rw[bh (w0p (gw.xq q))];exact(f2 b hb).1
 have jw:∀{H':Hp},(∀b∈fp,H' b=none)->∀b∈fp,er (X.cp (Nl++Nf) d0 cl (s2.a5.fy.dt+1) {s2 with a5:=s2.a5.si {oh:=.ny "list", we:=none,oo:=.pJ ([]:ai dS).k8}} (ot H2 s2.a5.fy.dt (.dI [])) fp) [] H' b:=λhn b hb=>by
  refine⟨hn b hb,(IS.ok.Bc b hb).1,IS.ok.rH b hb,.j' hb,(IS.ok.Bc b hb).2,λp hp=>(by cases hp)⟩
 have Ò:∀s4:oU,s4={s2 with a5:=cL,sP:=s2.sP+([]:ai (d3×dS)).aj} ->
   Zv (q_ X.jd X.w) X.A (.Ŋ (.ZC K' [⟨UK,xw,zb,0⟩] d0 gJ) 0 (.bj it) (.bj s2.a5.fy.dt) (ď d0 cl (s2.a5.fy.dt+1) X.a7))
    (ŋ (q_ X.jd X.w) X.A X.xe (ab (_r (.oL y py) X.a7)) (λ_ iq=>oS (q_ X.jd X.w) X.A (vo ()) (λ_ s3=>oS (q_ X.jd X.w) X.A (vo Flow.next) (SP X cf D) X.xe s3) X.xe iq) (.bj s2.a5.fy.dt) (s2.a5.fy.dt+1)) s4:=by
  rintro s4 rfl;refine M3 (λn s'=>∃i H',je (X.cp (Nl++Nf) d0 cl (s2.a5.fy.dt+1) {s2 with a5:=s2.a5.si {oh:=.ny "list", we:=none,oo:=.pJ ([]:ai dS).k8}} (ot H2 s2.a5.fy.dt (.dI [])) fp) [] (ai.v5 Nl.aj none++pj js σ) H' s'/\tn i s'.a5/\(∀b∈fp,H' b=none)/\W i n H') ?_ m0 ⟨0,_,IS,Ay,E3,w0⟩
  rintro n s3 ⟨i,H3,I3,qP,tI,w3⟩;rcases Zi i n H3 w3 with⟨stop,qn⟩|⟨go,Zy⟩
  .refine bw (T.done (X.cp (Nl++Nf) d0 cl (s2.a5.fy.dt+1) {s2 with a5:=s2.a5.si {oh:=.ny "list", we:=none,oo:=.pJ ([]:ai dS).k8}} (ot H2 s2.a5.fy.dt (.dI [])) fp) rfl rfl rfl hc i [] s3 _ H3 _ I3 (jw tI) qP stop) λr s5 ⟨hr,I5⟩=>?_
   subst hr;let⟨m5,Ec,_⟩:=I5.Zw;let⟨o5,Tf,Td,KR,KC,T8,KG⟩:=id Ec;have J5:je X cf σ H3 s5:=PV I2 f2 I5 (h':=s5.a5) ⟨rfl,λ_ _=>rfl⟩
   have zcf:er X cf H3 (s2.a5.fy.dt+1):=I2.jg (w5h _) I5.rD;have f1:∀b∈[s2.a5.fy.dt+1],er X cf H3 b:=λb hb=>by grind
   have J6:=J5.ò f1 (λb hb=>by rw[w1e.mp hb];exact⟨o5,KR,λv z=>by rw[KC]at z;cases z⟩)
   refine bw (D3 _ s5 σ H3 (.bj s2.a5.fy.dt) _ _ J6 rfl qn) λ_ s6 ⟨J2,H6,I6,q6⟩=>?_
   have pC:=I6.Zh (s2.a5.fy.dt+1,o5) (w0h _ (w0h _ (vK (w1e.uR rfl) KR)));refine⟨m5,⟨o5,Tf,Td,pC.1,KC,T8,KG⟩,λh' g_=>tW (tW ⟨J2,H6,?_,q6⟩)⟩
   let⟨zfe,g1,g2,g3,g4,g5⟩:=zcf;exact I6.eF._k (t':=s6.sP) (λb o hb e=>(g_.2 b hb).ki e) pC.2.1 g1 g3 g4 g5
  .refine bw (T.Z7 (X.cp (Nl++Nf) d0 cl (s2.a5.fy.dt+1) {s2 with a5:=s2.a5.si {oh:=.ny "list", we:=none,oo:=.pJ ([]:ai dS).k8}} (ot H2 s2.a5.fy.dt (.dI [])) fp) rfl rfl rfl hc i [] s3 _ H3 _ I3 (jw tI) qP go) λr s5 ⟨u,hr,h5⟩=>?_
   subst hr;refine bw h5 λ_ s6 ⟨x,H6,I6,r6,y6,v9,DB⟩=>?_
   have C_:=I6.ò (jw DB) (T.Yc _ _ v9);refine bw (hg _ _ _ _ _ _ s6 _ H6 x u _ C_ r6 (Zy x H6 y6)) λ_ s7 ⟨kN,H7,I7,kp,q7⟩=>?_
   refine bw (ht _ _ _ _ _ _ s7 kN H7 _ I7 q7) λok s8 ⟨H8,I8,q8⟩=>?_
   have Μ:∀{wu:St}{H9:Hp}{s9:oU},je (X.cp (Nl++Nf) d0 cl (s2.a5.fy.dt+1) {s2 with a5:=s2.a5.si {oh:=.ny "list", we:=none,oo:=.pJ ([]:ai dS).k8}} (ot H2 s2.a5.fy.dt (.dI [])) fp) ([]++ip fp s6.a5) wu H9 s9 ->
     Kp (ai.v5 Nl.aj none++pj js σ) wu->(∃m',m'<n/\W (i+1) m' H9)->∃m,m<n/\∃i H',je (X.cp (Nl++Nf) d0 cl (s2.a5.fy.dt+1) {s2 with a5:=s2.a5.si {oh:=.ny "list", we:=none,oo:=.pJ ([]:ai dS).k8}} (ot H2 s2.a5.fy.dt (.dI [])) fp) [] (ai.v5 Nl.aj none++pj js σ) H' s9/\tn i s9.a5/\(∀b∈fp,H' b=none)/\W i m H':=λ{wu H9 s9} I9 hw ⟨m',hm,w9⟩=>by
    refine⟨m',hm,i+1,H9,I9.eF.weak (by rw[I9.vn,<- IS.vn]) hw,T.wN _ _ _ v9 λb hb o q=>(I9.Zh (b,o) (w0h _ (w0h _ (vK hb q)))).1,λb hb=>?_,w9⟩
    let⟨o,q,d⟩:=T.Yc _ _ v9 b hb;exact(I9.Zh (b,o) (w0h _ (w0h _ (vK hb q)))).2.1
   cases ok with
   |false=>exact Μ I8 kp (by simpa using q8)
   |true=>
    have GU:=by simpa only[Z2]using q8
    refine bw (he _ _ _ _ _ _ s8 kN H8 _ I8 GU) λy s9 ⟨yv,H9,I9,r9,ys,hD,hz,q9⟩=>?_
    refine bw (Hb _ s9 kN H9 (.bj s2.a5.fy.dt) [yv] (.bj s2.a5.fy.dt) [y] (λv H'=>v=.aF/\H'=ot H9 s2.a5.fy.dt (.dI (ys++[yv]))) I9 rfl (.qY r9 .rA) ⟨_,ys,yv,rfl,rfl,hD,hz,rfl,rfl⟩) λ_ Vc ⟨_,Ri,C9,_,_,Ds⟩=>?_
    subst Ds;exact Μ C9 kp q9
 exact zb0 (Ò _ rfl) (T.self X.A 0 _ _ _ Ay (Ò _ rfl))
end
def zaG{X:Cx}{y:d3}{py lO:vY}{gy:TG}{K' UK xw:pN}{zb:ai pN}{d0 sc:yz}{gJ:vY}{wi:TI}{g:TG}{tc:TT}{te:TE}{Nl Nf N:ai d3}{js:ai ar}(hc:X.TR=true)(hi:PI X UK xw wi)
  (ok:cD sc d0 N Nf js=true)
  (hg:∀cl C aA aG ex,PG (X.cp (Nl++Nf) d0 cl C aA aG ex) UK g)(ht:∀cl C aA aG ex,qx (X.cp (Nl++Nf) d0 cl C aA aG ex) zb tc)(he:∀cl C aA aG ex,PE (X.cp (Nl++Nf) d0 cl C aA aG ex) K' te)
  (D3:PG X (.oL y py) gy)(r8:ZO (.ZC K' [⟨UK,xw,zb,0⟩] d0 gJ) (ab (.oL y py)) lO.Yq X.a7=vo true)
  (hsc:autoParam (X.a7.d0=sc) jJ)(hN:autoParam (X.N=N) jJ)(hs:∀x,_g xw X.a7 x=vo x:=by intro _;rfl):
  PS X (.ZR [.oL y py] (.ZC K' [⟨UK,xw,zb,0⟩] d0 gJ) lO) (ql (iF wi Nl.aj js g tc te) gy):=by
 unfold cD at ok;simp only[w0t,w1c,_y,À,w1q,w0x]at ok;obtain⟨⟨⟨⟨⟨⟨k1,k2⟩,k3⟩,k4⟩,k5⟩,k6⟩,k7⟩:=ok;have xx:∀x,X.a7.yt x=sc.pM.gr x:=λx=>by rw[<- hsc];rfl
 refine zaT hc hi k1 k2 (λx hx hl=>(k3 x hx).ϟ λz=>z hl) (λx hx hf=>?_) (λi j y e1 e2=>?_) k5 (λy hy=>?_) (λy hy=>?_) hg ht he D3 r8 hs
 .rw[xx];rcases k4 x hx with(z|z)|z
  .exact uP hf z
  .exact .j' z
  .exact .mv z
 .have bR:i<js.aj:=(w0c.mp e2).1;have z:=k6 i bR;rw[e1,e2]at z;rw[hN]
  simpa using z
 .let⟨z1,z2⟩:=k7 y hy;refine⟨oa.ZL z1,?_,?_⟩
  .rw[hsc];rcases z2 with z|z
   .exact .mv (.j' z)
   .exact .mv (.mv z)
  .rw[xx];rcases z2 with z|z<;>(rw[z];decide)
 .exact FK (k7 y hy).1
def p_(K:Fg):R2:=λx y H Q=>∃l b xs zs,x=.bj l/\y=.bj b/\bJ K H l xs/\bJ K H b zs/\xs.aj+zs.aj<=vr/\∀p,H p=none->Q (.bj p) (ot H p (.dI (xs++zs)))
def z3p:fe X (ZX .Add) (p_ X.K):=by
 intro cf s σ H x y v u Q I rx ry h;let⟨l,b,xs,zs,rfl,rfl,h1,h2,hz,q⟩:=h;cases rx;cases ry;let⟨ax,r1,p1,_⟩:=I.xE h1;let⟨fu,r2,p2,_⟩:=I.xE h2;let⟨⟨oh,dd,oo,sl⟩,ho,hc,n,hd⟩:=id p1.yP;let⟨⟨xQ,tF,data2,xn⟩,qD,de,n2,Zo⟩:=id p2.yP;simp only at hc hd de Zo;subst hc hd de Zo;have l1:=r1.aj;have l2:=r2.aj;refine Đ ⟨_,ho,rfl⟩ ⟨_,qD,rfl⟩ noFill_list_add seq_list_add oa.F.slot_list_add oa.F.entry_list_add (oa.F.args_list_add_2 _ _) (list_addW l b ax.k8 fu.k8 n n2 dd tF sl xn (by grind)) ⟨ho,qD,?_⟩;have ea:ax.k8++fu.k8=(ax++fu).k8:=by simp
 rw[ea];exact⟨.bj _,_,I.yF (t':=s.sP) (r1.YX r2) (by grind),rfl,q _ I.xS⟩
end L2
namespace D
open PySem L2
variable{A:C7}{X:Cx}{dA:ke (ai W)}{c:ke fC}{d da db:ke W}{G H:Hp}{EE:L2.St->XK}{_B es:ai pN}{js:ai ar}{e pe:ai S}{ws:ai W}{i kt:ar}{YW bI p1 p2 pn gJ:vY}{K:Fg}{σ:St}{α:Type}{Z:Zt}
def ϫ:W->W->fv W
 |.aO i,.aO j=>ab (.aO (i+j))
 |.str x,.str y=>if x.aj+y.aj<=16777216 then ab (.str (x++y))else none
 |.gs xs,.gs ys=>if xs≠[]/\xs.aj+ys.aj<=16777216 then ab (.gs (xs++ys))else none
 |.dI xs,.dI ys=>if xs.aj+ys.aj<=16777216 then ab (.dI (xs++ys))else none
 |_,_=>none
def qk:W->W->fv W
 |.aO i,.aO j=>ab (.aO (i-j))
 |_,_=>none
def gR:W->W->fv W
 |.aO i,.aO j=>if(-(2^64)<i/\i<2^64)\/(-(2^64)<j/\j<2^64)then ab (.aO (i*j))else none
 |_,_=>none
def cx:W->W->fv W
 |.aO i,.aO j=>if 0<j/\j<1073741824 then ab (.aO (i / j))else none
 |_,_=>none
def bY:W->W->fv W
 |.aO i,.aO j=>if 0<j then ab (.aO (i%j))else none
 |_,_=>none
def pR:W->W->fv W
 |.aO i,.aO j=>if 0<=j/\j<=1000000/\i.ϱ<2^64 then ab (.aO (i^j.t8))else none
 |_,_=>none
def l4:W->W->fv W
 |.aO i,.aO j=>ab (.bl (decide (i<j)))
 |_,_=>none
def vm:W->W->fv W
 |.aO i,.aO j=>ab (.bl (decide (i<=j)))
 |_,_=>none
def kP:W->W->fv W
 |.aO i,.aO j=>ab (.bl (decide (j<i)))
 |_,_=>none
def wG:W->W->fv W
 |.aO i,.aO j=>ab (.bl (decide (j<=i)))
 |_,_=>none
def mF:W->fv W
 |.aO i=>ab (.aO (-i))
 |_=>none
def P2:g8 K (λx y H Q=>mP (λi j=>.aO (i+j)) x y H Q\/((∃i j,x=.str i/\y=.str j/\i.aj+j.aj<=vr/\Q (.str (i++j)) H)\/(qa K x y H Q\/p_ K x y H Q))) ϫ:=by
 intro G H x y wx wy w Q s px py hf h;unfold ϫ at hf;split at hf
 .cases hf;cases px;cases py;exact .j' ⟨_,_,rfl,rfl,h G _ H (.uw s) rfl⟩
 .split at hf
  .rename_i hl;cases hf;cases px;cases py;exact .mv (.j' ⟨_,_,rfl,rfl,by grind [Yf],h G _ H (.uw s) rfl⟩)
  .cases hf
 .rename_i us ws;split at hf
  .rename_i hl;cases hf;let⟨a,xs,rfl,ha,ra⟩:=px;let⟨b,ys,rfl,hb,rb⟩:=py;have l1:=ra.aj;have l2:=rb.aj;refine .mv (.mv (.j' ⟨a,b,xs,ys,rfl,rfl,s.gs ha,s.gs hb,λz=>hl.1 ?_,by rw[l1,l2,Yf];exact hl.2,λz=>?_,λz p hp=>?_⟩))
   .grind
   .subst z;have:ws=[]:=by grind
    subst this;exact h G _ H (.uw s) ⟨a,xs,rfl,ha,by simpa using ra⟩
   .have g:=aK.Lf s hp (.gs (xs++ys));exact h _ _ _ g ⟨p,_,rfl,c7.of bT,aq.YX (aq.pg g.gg _ ra) (aq.pg g.gg _ rb)⟩
  .cases hf
 .split at hf
  .rename_i hl;cases hf;let⟨a,xs,rfl,ha,ra⟩:=px;let⟨b,ys,rfl,hb,rb⟩:=py;have l1:=ra.aj;have l2:=rb.aj;refine .mv (.mv (.mv ⟨a,b,xs,ys,rfl,rfl,s.pJ ha,s.pJ hb,by grind [Yf],λp hp=>?_⟩))
   have g:=aK.Lf s hp (.dI (xs++ys));exact h _ _ _ g ⟨p,_,rfl,bJ.of bT,aq.YX (aq.pg g.gg _ ra) (aq.pg g.gg _ rb)⟩
  .cases hf
 .cases hf
def z9e:g8 K (mP λi j=>.aO (i-j)) qk:=by
 intro G H x y wx wy w Q s px py hf h;unfold qk at hf;split at hf
 .cases hf;cases px;cases py;exact⟨_,_,rfl,rfl,h G _ H (.uw s) rfl⟩
 .cases hf
def z9f:g8 K (rI qT λi j=>.aO (i*j)) gR:=by
 intro G H x y wx wy w Q s px py hf h;unfold gR at hf;split at hf
 .split at hf
  .rename_i hc;cases hf;cases px;cases py;exact⟨_,_,rfl,rfl,hc,h G _ H (.uw s) rfl⟩
  .cases hf
 .cases hf
def z3q:g8 K (rI xr λi j=>.aO (i / j)) cx:=by
 intro G H x y wx wy w Q s px py hf h;unfold cx at hf;split at hf
 .split at hf
  .rename_i hc;cases hf;cases px;cases py;exact⟨_,_,rfl,rfl,hc,h G _ H (.uw s) rfl⟩
  .cases hf
 .cases hf
def z9g:g8 K (rI (λ_ j=>0<j) λi j=>.aO (i%j)) bY:=by
 intro G H x y wx wy w Q s px py hf h;unfold bY at hf;split at hf
 .split at hf
  .rename_i hc;cases hf;cases px;cases py;exact⟨_,_,rfl,rfl,hc,h G _ H (.uw s) rfl⟩
  .cases hf
 .cases hf
def z9h:g8 K (rI xt λi j=>.aO (i^j.t8)) pR:=by
 intro G H x y wx wy w Q s px py hf h;unfold pR at hf;split at hf
 .split at hf
  .rename_i hc;cases hf;cases px;cases py;exact⟨_,_,rfl,rfl,hc,h G _ H (.uw s) rfl⟩
  .cases hf
 .cases hf
def QS:g8 K (mP λi j=>.bl (decide (i<j))) l4:=by
 intro G H x y wx wy w Q s px py hf h;unfold l4 at hf;split at hf
 .cases hf;cases px;cases py;exact⟨_,_,rfl,rfl,h G _ H (.uw s) rfl⟩
 .cases hf
def QT:g8 K (mP λi j=>.bl (decide (i<=j))) vm:=by
 intro G H x y wx wy w Q s px py hf h;unfold vm at hf;split at hf
 .cases hf;cases px;cases py;exact⟨_,_,rfl,rfl,h G _ H (.uw s) rfl⟩
 .cases hf
def QU:g8 K (mP λi j=>.bl (decide (j<i))) kP:=by
 intro G H x y wx wy w Q s px py hf h;unfold kP at hf;split at hf
 .cases hf;cases px;cases py;exact⟨_,_,rfl,rfl,h G _ H (.uw s) rfl⟩
 .cases hf
def Sx:g8 K (mP λi j=>.bl (decide (j<=i))) wG:=by
 intro G H x y wx wy w Q s px py hf h;unfold wG at hf;split at hf
 .cases hf;cases px;cases py;exact⟨_,_,rfl,rfl,h G _ H (.uw s) rfl⟩
 .cases hf
def z9i:A5 K (rU λi=>.aO (-i)) mF:=by
 intro G H x wx w Q s px hf h;unfold mF at hf;split at hf
 .cases hf;cases px;exact⟨_,rfl,h G _ H (.uw s) rfl⟩
 .cases hf
mutual
noncomputable def eO:W->W->Option Bool
 |.aF,.aF=>some true
 |.aF,.bl _=>some false|.aF,.int _=>some false|.aF,.str _=>some false|.aF,.tup _=>some false|.aF,.lst _=>some false
 |.bl a,.bl b=>some (a==b)
 |.bl a,.int b=>some ((if a then 1 else 0)==b)
 |.bl _,.aF=>some false|.bl _,.str _=>some false|.bl _,.tup _=>some false|.bl _,.lst _=>some false
 |.int a,.int b=>some (a==b)
 |.int a,.bl b=>some (a==(if b then 1 else 0))
 |.int _,.aF=>some false|.int _,.str _=>some false|.int _,.tup _=>some false|.int _,.lst _=>some false
 |.str a,.str b=>some (a==b)
 |.str _,.aF=>some false|.str _,.bl _=>some false|.str _,.int _=>some false|.str _,.tup _=>some false|.str _,.lst _=>some false
 |.tup _,.aF=>some false|.tup _,.bl _=>some false|.tup _,.int _=>some false|.tup _,.str _=>some false|.tup _,.lst _=>some false
 |.lst _,.aF=>some false|.lst _,.bl _=>some false|.lst _,.int _=>some false|.lst _,.str _=>some false|.lst _,.tup _=>some false
 |.tup xs,.tup ys=>bP xs ys
 |.lst xs,.lst ys=>bP xs ys
 |.exc _,_=>none
 |_,.exc _=>none
 |.ba _,_=>none
 |_,.ba _=>none
 |.dw _ _ _ _,_=>none
 |.fn _ _ _,_=>none
 |_,.dw _ _ _ _=>none
 |_,.fn _ _ _=>none
noncomputable def bP:List W->List W->Option Bool
 |[],[]=>some true
 |[],_::_=>some false
 |_::_,[]=>some false
 |x::xs,y::ys=>match eO x y,bP xs ys with
  |some a,some b=>some (a&&b)
  |_,_=>none
end
def aW:W->W->fv W
 |.gs ws,.aO i=>ee ws i
 |.dI ws,.aO i=>ee ws i
 |.str z,.aO i=>if z.aj<=16777216 then(ee z.Yl.vZ i).aT λc=>.str ⟨#[c]⟩else none
 |_,_=>none
def aq.ee{i:a6}(r:aq K G ws xs)(h:L2.ee ws i=ab w):∃x,L2.ee xs i=ab x/\p7 K G w x:=by
 unfold L2.ee at h |-
 rw[r.aj];cases q:nh ws.aj i with
 |none=>rw[q]at h;cases h
 |ab j=>
  rw[q]at h;exact r.Df h
def QV:g8 K (LY K) aW:=by
 intro G H x y wx wy w Q s px py hf h;unfold aW at hf;split at hf
 .let⟨a,xs,rfl,ha,ra⟩:=px;cases py;let⟨v,hv,rv⟩:=ra.ee hf;exact .mv (.j' ⟨a,xs,_,v,rfl,rfl,s.gs ha,hv,h G v H (.uw s) rv⟩)
 .let⟨a,xs,rfl,ha,ra⟩:=px;cases py;let⟨v,hv,rv⟩:=ra.ee hf;exact .j' ⟨a,xs,_,v,rfl,rfl,s.pJ ha,hv,h G v H (.uw s) rv⟩
 .cases px;cases py;split at hf
  .rename_i hl;let⟨c,hc,rfl⟩:=w0l.mp hf;exact .mv (.mv ⟨_,_,c,rfl,rfl,by grind [Yf],hc,h G _ H (.uw s) rfl⟩)
  .cases hf
 .cases hf
def S.YZ:S->fv W
 |.fr w=>ab w
 |.ie _ ws=>ab (.dI ws)
 |.no=>none
 |.ba _=>none
 |.dw _ _ _=>none
def iJ(i:ar)(d:ke W):ke W:=λe=>match e[i]?.r7 S.YZ with
 |none=>.no
 |ab _=>(d e).r7 λk e1=>match e1[i]?.r7 S.YZ with
  |none=>.no
  |ab w=>bq (aW w k) e1
def yE:W->fv W
 |.str z=>if z.aj<=16777216 then ab (.aO z.aj)else none
 |.gs ws=>ab (.aO ws.aj)
 |.dI ws=>ab (.aO ws.aj)
 |_=>none
def bG:ai W->fv W
 |[w]=>yE w
 |_=>none
def P4:oQ K (λxs H Q=>∃x n,xs=[x]/\xC K x H n/\Q (.aO n) H) bG:=by
 intro G H xs ws w Q s pr hf h;unfold bG at hf;split at hf
 .let⟨x,r,rfl,px,pr⟩:=pr;cases(show r=[]from pr);unfold yE at hf;split at hf
  .split at hf
   .rename_i hl;cases hf;cases px;exact⟨_,_,rfl,⟨by grind [Yf],rfl⟩,h G _ H (.uw s) rfl⟩
   .cases hf
  .cases hf;let⟨a,xs,rfl,ha,ra⟩:=px;exact⟨_,_,rfl,.mv ⟨xs,s.gs ha,rfl⟩,h G _ H (.uw s) (by rw[ra.aj];rfl)⟩
  .cases hf;let⟨a,xs,rfl,ha,ra⟩:=px;exact⟨_,_,rfl,.j' ⟨xs,s.pJ ha,rfl⟩,h G _ H (.uw s) (by rw[ra.aj];rfl)⟩
  .cases hf
 .cases hf
def a_:W->fC
 |.aF=>true|.bl _=>true|.aO _=>true|.str _=>true|_=>false
def zaU(h:a_ w=true)(p:p7 K G w v):p7 K G' w v:=by
 cases w with
 |aF=>exact p
 |bl b=>exact p
 |aO i=>exact p
 |str x=>exact p
 |_=>cases h
def fO(i:ar)(f:ai W->fv W):ke W:=λe=>match e[i]?.r7 S.YZ with
 |none=>.no
 |ab w=>match f [w]with
  |none=>.no
  |ab v=>match e[i]? with
   |ab (.fr _)=>.ok v e
   |_=>if a_ v=true then .ok v e else .no
section
variable{a b e:pN}{p:vY}{x:d3}
theorem Q3w(ha:DE Z X EE a d)(hb:DE Z X EE b db)(hs:iU b:=by intro _ _;rfl):DE Z X EE (.Yw a b gJ) (ak aW d db):=PE.pg (JN PQ ha hb hs) (ue QV)
def ro.YZ{e:ai S}(r:ro K Z G σ H e){w:W}(h:e[i]?.r7 S.YZ=ab w):∃v,σ[i]?=ab (ab v) /\
  (p7 K G w v\/∃ws a xs u,(∀z,e[i]?≠ab (.fr z))/\w=.dI ws/\v=.bj a/\H a=ab u/\(u=.dI xs\/∃o,u=.eG o (.dI xs))/\G a=none/\aq K G ws xs):=by
 let⟨s,h1,h2⟩:=w1x.mp h;cases s with
 |no=>cases h2
 |ba _=>cases h2
 |dw _ _ _=>cases h2
 |fr w'=>
  cases h2;let⟨v,h3,h4⟩:=r.fr h1;exact⟨v,h3,.j' h4⟩
 |ie b ws=>
  cases h2;let⟨a,xs,h3,h4,h5,h6,h7⟩:=r.ie h1;exact⟨.bj a,h3,.mv ⟨ws,a,xs,_,(λz y=>by rw[h1]at y;cases y),rfl,rfl,h4,.j' rfl,h5,h7⟩⟩
theorem zaH{K:Fg}{a:f'}{u:HO}(s:au G H)(h:H a=ab u)(hg:G a=none):au G (ot G a u)/\au (ot G a u) H:=
 ⟨ua hg _,λc o z=>by
  by_cases hc:c=a
  .subst hc;rw[bT]at z;cases z;exact h
  .rw[bh hc]at z;exact s c o z⟩
def z9j(i:ar)(hb:DE Z X EE b d)(hN:autoParam (X.N[i]?=ab x) jJ)(hv:autoParam (jS X.a7.d0 x) jN)(hd:autoParam ((x==("__debug__":d3))=false) jK)
  (eE:autoParam ((x==("__classdict__":d3))=false) jK)(hs:iU b:=by intro _ _;rfl):DE Z X EE (.Yw (.oL x p) b gJ) (iJ i d):=by
 refine PE.pg (JN PQ (pv i hN hv hd eE) hb hs) ?_;rintro σ H Q ⟨G,e,nN,h⟩;unfold iJ at h;split at h
 .exact h.oP
 .rename_i w0 Ut;let⟨v,hv,_⟩:=nN.YZ Ut;refine⟨v,hv,G,e,nN,(R.aw.mp h).vW (λk e1 h G1 u H1 r1 s1 p1=>?_) λ_ _ h=>h⟩
  split at h
  .exact h.oP
  .rename_i w hw;let⟨w',hf,h2⟩:=aY.mp h;let⟨v',r_,q⟩:=r1.YZ hw;rw[hv]at r_;cases r_;rcases q with q|⟨ws,a,xs,u,he,rfl,rfl,q1,qu,q2,q3⟩
   .exact QV G1 H1 v u w k w' Q r1.ri q p1 hf λG' v H' g p=>h2 G' v H' (r1.HF g) (s1.ki g.gg) p
   ·-- an Z7 of zeW ie xE
    unfold aW at hf;split at hf
    .rename_i heq;cases heq
    .rename_i heq;cases heq;cases p1;let⟨y,hy,ry⟩:=q3.ee hf;refine .j' ⟨a,xs,_,y,rfl,rfl,?_,hy,h2 G1 y H1 r1 s1 ry⟩;rcases qu with rfl|⟨o,rfl⟩
     .exact bJ.of q1
     .exact .j' (.mv ⟨o,q1⟩)
    all_goals grind
def z9k{r:ai V->Hp->VK->Prop}{f:ai W->fv W}(i:ar){id:Yv}{fn:d3}(hc:dg X (.yR id) r)(hf:oQ X.K r f)(hv:ζ fn=ab (.yR id))(hm:X.mg fn=none)
  (hN:autoParam (X.N[i]?=ab x) jJ)(gK:autoParam (jS X.a7.d0 x) jN)(hd:autoParam ((x==("__debug__":d3))=false) jK)(eE:autoParam ((x==("__classdict__":d3))=false) jK)
  (hg:autoParam (Gl X fn) jJ)(hn:autoParam (fn≠"__name__") jK)(jH:autoParam ((fn==("__debug__":d3))=false) jK)(hs:autoParam (p5 [.oL x p] X.a7=(false,eval (.oL x p) X.a7)::p5 [] X.a7) jJ)(d9:autoParam ((A4 gJ (p5 [] X.a7)).vb (·.1)=false) jJ):
  DE Z X EE (.wc (.oL fn pn) [.oL x p] [] gJ) (fO i f):=by
 refine PE.pg (NI hc hg hm hv (Cy (pv i hN gK hd eE) Jv hs) hn jH hs d9) ?_;rintro σ H Q ⟨G,e,nN,h⟩;unfold fO at h;split at h
 .exact h.oP
 .rename_i w hw;split at h
  .exact h.oP
  .rename_i y hy;let⟨v,hv,q⟩:=nN.YZ hw;refine⟨v,hv,?_⟩;rcases q with q|⟨ws,a,xs,u,he,rfl,rfl,q1,qu,q2,q3⟩
   .refine hf G H [v] [w] y Q nN.ri (.Zg q) hy λG' v H' g p=>?_
    split at h
    .exact h G' v H' (nN.HF g) g.gg p
    .split at h
     .exact h G' v H' (nN.HF g) g.gg p
     .exact h.oP
   .split at h
    .rename_i hz;exact uP hz (he _)
    split at h
    .rename_i hsc;let⟨s1,s2⟩:=zaH (K:=X.K) nN.ri q1 q2
     have Ep:bJ X.K (ot G a u) a xs:=by
      rcases qu with rfl|⟨o,rfl⟩
      .exact bJ.of bT
      .exact .j' (.mv ⟨o,bT⟩)
     refine hf (ot G a u) H [.bj a] [.dI ws] y Q s2 (.Zg ⟨a,xs,rfl,Ep,aq.pg s1 ws q3⟩) hy λG' v H' g p=>?_
     have g':aK G H G H':=⟨g.hh,.uw _,nN.ri.ki g.hh,λ_ _=>rfl⟩
     exact(show ∀G' v H',_->_->p7 X.K G' y v->Q v H' from h) G v H' (nN.HF g') (.uw _) (zaU hsc p)
    .exact h.oP
def dZ(i:ar)(d:ke (ai W)):ai S->SR:=λe=>match e[i]? with
 |ab (.ie _ _)=>(d e).dr λws e1=>match ws,e1[i]? with
  |[w],ab (.ie b xs)=>if xs.aj<16777216 then .nx (e1.sx i (.ie b (xs++[w])))else .no
  |_,_=>.no
 |_=>.no
def z9l(i:ar)(ha:DA Z X EE (e::es) dA)(hN:autoParam (X.N[i]?=ab x) jJ)(hv:autoParam (jS X.a7.d0 x) jN)(hd:autoParam ((x==("__debug__":d3))=false) jK)(eE:autoParam ((x==("__classdict__":d3))=false) jK)
  (dF:autoParam (Ϗ (.oL x p) "append" X.a7 (eval (.oL x p) X.a7)=eval (.oL x p) X.a7) jJ)
  (dJ:autoParam (((A4 bI (p5 (e::es) X.a7)).tB (λx=>!x.1)&&(ϐ bI (ϝ [] X.a7)).tB (λx=>x.1.Bt)&&decide ((e::es).aj+([]:ai ZI).aj+(if([]:ai ZI).UD then 0 else 1)<30))=true) jJ)
  (dN:autoParam ((YW.ϖ==bI.Yq)=true) jJ)(hs:autoParam (p5 (e::es) X.a7=(false,eval e X.a7)::p5 es X.a7) jJ)(cK:autoParam ((A4 bI (p5 es X.a7)).vb (·.1)=false) jJ)
  (r8:autoParam (ZO (.wc (.Δ (.oL x p) "append" YW) (e::es) [] bI) none gJ.Yq X.a7=vo false) jJ):
  DS Z X EE (.pN (.wc (.Δ (.oL x p) "append" YW) (e::es) [] bI) gJ) (dZ i dA):=by
 refine PS.pg (IM (z8u (pv i hN hv hd eE) ha dF dJ dN hs cK) r8) ?_;rintro D σ H ⟨G,e,nN,h⟩;unfold dZ at h;split at h
 .rename_i b0 HY rQ;let⟨a,xs,h1,h2,h3,h4,h5⟩:=nN.ie rQ;refine⟨.bj a,h1,.j' ⟨rfl,xs,bJ.of h2⟩,G,e,nN,(kR h).vW (λws e1 h G1 vs H1 r1 s1 p1=>?_) λ_ _ h=>h⟩
  split at h
  .rename_i w b ys yh;let⟨a',zs,g1,g2,g3,g4,g5⟩:=r1.ie yh;rw[h1]at g1;cases g1;let⟨y,r,rfl,py,pr⟩:=p1;cases(show r=[]from pr);split at h
   .rename_i hl;refine⟨a,zs,y,rfl,rfl,g2,by rw[g5.aj,Yf];exact hl,?_⟩;exact h G1 σ _ (r1.mut yh h1 (g5.YX (.Zg py))) s1
   .exact h.oP
  .exact h.oP
 .exact h.oP
end
def cC(c:ke fC)(d:ke W)(pe:ai S):ai W->fv (ai W)
 |[]=>ab []
 |w::ws=>match c (.fr w::pe)with
  |.ok true e1=>match d e1 with
   |.ok y _=>(cC c d pe ws).aT (y::·)
   |_=>none
  |.ok false _=>cC c d pe ws
  |_=>none
def cJ(e:ai S)(j:ar):ai S:=match e[j]? with
 |ab (.ie none ws)=>e.sx j (.fr (.dI ws))
 |_=>e
def bo(js:ai ar)(e:ai S):ai S:=js.ym cJ e
def gS(e:ai S)(j:ar):S:=match e[j]? with
 |ab (.fr w)=>.fr w
 |_=>.no
def gm(js:ai ar)(e:ai S):ai S:=js.aT (gS e)
def iA(js:ai ar)(c:ke fC)(d:ke W)(ws:ai W)(e1:ai S):R (ai W):=
 if ws.aj<=16777216 then(match cC c d (gm js (bo js e1)) ws with
  |ab wj=>.ok wj (bo js e1)
  |none=>.no)else .no
def bx(js:ai ar)(di:ke W)(c:ke fC)(d:ke W):ke (ai W):=λe=>(di e).r7 λw e1=>match eX w with
 |ab ws=>iA js c d ws e1
 |none=>.no
def cX(g:ai W->fv (ai W))(js:ai ar)(di:ke (ai W))(c:ke fC)(d:ke W):ke (ai W):=λe=>(di e).r7 λw e1=>match g w with
 |ab ws=>iA js c d ws e1
 |none=>.no
def bB:ke fC:=λe=>.ok true e
def ro.bo(r:ro K Z G σ H e):∀(js:ai ar),∃G',au G G'/\ro K Z G' σ H (bo js e):=by
 intro js
 induction js generalizing G e with
 |rA=>exact⟨G,.uw _,r⟩
 |qY j js ih=>
  have Zg:∃G',au G G'/\ro K Z G' σ H (cJ e j):=by
   unfold cJ;split
   .rename_i ws hw;let⟨v,G',_,s,_,r'⟩:=r.œ hw;exact⟨G',s,r'⟩
   .exact⟨G,.uw _,r⟩
  let⟨G1,s1,r1⟩:=Zg;let⟨G2,s2,r2⟩:=ih r1;exact⟨G2,s1.ki s2,r2⟩
def ro.block(r:ro K Z G σ H e)(js:ai ar){w:W}{x:V}(p:p7 K G w x):ro K ⟨H,G,[]⟩ G (ab x::pj js σ) H (.fr w::gm js e):=by
 have nU:∀(i:ar)(s:S),(S.fr w::gm js e)[i]?=ab s->s=.no\/∃u,s=.fr u/\((i=0/\u=w)\/∃k j,i=k+1/\js[k]?=ab j/\e[j]?=ab (.fr u)):=λi s h=>by
  cases i with
  |UQ=>cases h;exact .mv ⟨w,rfl,.j' ⟨rfl,rfl⟩⟩
  |UI k=>
   rw[w0d]at h;unfold gm at h;rw[w0w]at h;let⟨j,h1,h2⟩:=w0l.mp h;unfold gS at h2;split at h2
   .rename_i u hu;subst h2;exact .mv ⟨u,rfl,.mv ⟨k,j,rfl,h1,hu⟩⟩
   .subst h2;exact .j' rfl
 refine⟨r.ri,λi s h=>?_,?_,λi j b b' w1 w2 a h1 h2 _ _=>?_,λa o h _=>h,(λa h=>nomatch h),λa _=>rfl⟩
 .rcases nU i s h with rfl|⟨u,rfl,⟨rfl,rfl⟩|⟨k,j,rfl,h1,h2⟩⟩
  .trivial
  .exact⟨x,rfl,p⟩
  .let⟨v,h3,h4⟩:=r.fr h2;refine⟨v,?_,h4⟩;rw[w0d];unfold pj;rw[w0w,h1];simp[h3]
 .simp[gm,pj]
 .rcases nU i _ h1 with z|⟨u,z,_⟩<;>cases z
def ro.nq(r:ro K Z G σ H e)(hg:G a=none)(hz:Z.H a=none)(hi:a∉Z.io)(hf:jD σ e a)(Bj:H a=ab (.dI ls)):ro K Z G σ (ot H a o) e:=by
 refine⟨λc u z=>?_,λj s z=>?_,r.vn,r.mf,λc u z n=>?_,λc z=>?_,r.gen⟩
 .rw[bh (i3 z hg)];exact r.ri c u z
 .have y:=r.yM j s z;cases s with
  |no=>trivial
  |fr w=>exact y
  |ie b2 w2=>
   let⟨c,ys,y1,y2,y3,y4,y5⟩:=y;refine⟨c,ys,y1,?_,y3,y4,y5⟩;rw[bh];exact y2;rintro rfl;let⟨c',_,z1,_⟩:=r.ie z;rw[z1]at y1;cases y1;exact hf j b2 w2 z z1
  |ba kvs=>
   let⟨c,y1,y2,y3,y4⟩:=y;refine⟨c,y1,?_,y3,y4⟩;rw[bh (kS y2 Bj (vU rfl))];exact y2
  |dw sh ks ws=>exact i6.Τ y (.uw _) λl o ys k1 k2 k3=>⟨by rw[bh (kS k1 Bj (vQ rfl))];exact k1,k2,k3⟩
 .rw[bh (i3 z hz)];exact r.YY c u z n
 .by_cases hc:c=a
  .grind
  .rw[bh hc];exact r.lC c z
structure ϻ(J:It)(xs:ai V)(SQ:Hp->Prop):Prop where
 go:∀i H,SQ H->i<xs.aj->J.go i H
 kT:∀i H x H',SQ H->J.kT i H x H'->i<xs.aj->H'=H/\xs[i]?=ab x
 stop:∀i H,SQ H->xs.aj<=i->J.stop i H
theorem P5:ϻ (wz K a) xs (λH=>bJ K H a xs):=
 ⟨λi H q h=>⟨xs,xs[i],q,by simp[h]⟩,λi H x H' q ⟨e,y⟩ h=>⟨e,y xs q⟩,λi H q h=>⟨xs,q,h⟩⟩
theorem P6:ϻ (wA K a) xs (λH=>c7 K H a xs):=
 ⟨λi H q h=>⟨xs,xs[i],q,by simp[h]⟩,λi H x H' q ⟨e,y⟩ h=>⟨e,y xs q⟩,λi H q h=>⟨xs,q,h⟩⟩
theorem z9m:ϻ (oM lo n) ((ai.zd n).aT λk=>V.aO (lo+(k:ar))) (λ_=>kc):=
 ⟨λi H q h=>show i<n by simpa using h,λi H x H' q ⟨e,y⟩ h=>⟨e,by simp at h;simp[h,y]⟩,λi H q h=>show n<=i by simpa using h⟩
def IT{J:It}{xs:ai V}{SQ:Hp->Prop}{wj:ai W}{Q:VK}{G0:Hp}(W0:ϻ J xs SQ)(r1:ro K Z G1 σ H1 e1)(s1:au G0 G1)(rp:aq K G1 ws xs)(rN:∀G' H',au G1 G'->au G' H'->SQ H')(hl:ws.aj<=16777216)
  (hz:∀p,H1 p=none->p∉Z.io)(hc:cC c d (gm js e1) ws=ab wj)
  (h:∀G' a xs H',ro K Z G' σ H' e1->au G0 G'->H' a=ab (.dI xs)->G' a=none->Z.H a=none->jD σ e1 a->aq K G' wj xs->Q (.bj a) H'):
  ∀D,H1 D=none->∃W:ar->ar->Hp->Prop,(∃m,W 0 m (ot H1 D (.dI [])))/\∀i m H2,W i m H2 ->
   (J.stop i H2/\Q (.bj D) H2)\/(J.go i H2/\∀x H3,J.kT i H2 x H3->bM 0 x (ai.v5 1 none++pj js σ) H3 λqw H4=>Kp (ai.v5 1 none++pj js σ) qw/\(λσ H Q=>∃Z',_h K Z' (λ_=>E0) c σ H Q) qw H4 λb H5=>
    if b=true then(λσ H Q=>∃Z',qS K Z' σ H λG e=>(d e).Uh (λw e'=>∀G' v H',ro K Z' G' σ H' e'->au G G'->p7 K G' w v->Q v H') (XH K Z' (λ_=>E0) σ G)) qw H5 λy H6=>∃ys,H6 D=ab (.dI ys)/\ys.aj<vr/\∃m',m'<m/\W (i+1) m' (ot H6 D (.dI (ys++[y])))else ∃m',m'<m/\W (i+1) m' H5):=by
 intro D hD;have v_:=rp.aj
 refine⟨λi m H2=>m=ws.aj-i/\i<=ws.aj/\∃G2 ys done wb,ro K Z G2 σ H2 e1/\au G1 G2/\H2 D=ab (.dI ys)/\G2 D=none/\aq K G2 done ys/\done.aj<=i/\cC c d (gm js e1) (ws.wa i)=ab wb/\done++wb=wj,
  ⟨ws.aj,by omega,w1b _,G1,[],[],wj,r1.HF (aK.l3 r1.ri hD _),.uw _,bT,r1.ri.rD hD,rfl,w0e _,hc,rfl⟩,?_⟩
 rintro i m H2 ⟨rfl,hi,G2,ys,done,wb,r2,s2,Zo,pf,qf,KD,de,ho⟩;have cV:jD σ e1 D:=zD r1 hD;have yw:Z.H D=none:=sF r1 hD
 by_cases bR:i<ws.aj
 .refine .mv ⟨W0.go i H2 (rN G2 H2 s2 r2.ri) (by omega),λx H3 hy=>?_⟩
  let⟨rfl,hx⟩:=W0.kT i H2 x H3 (rN G2 H2 s2 r2.ri) hy (by omega);let⟨w,hw,pw⟩:=rp.iM hx;rw[M6 hw]at de;refine⟨Kp.Zg,⟨H3,G2,[]⟩,G2,.fr w::gm js e1,r2.block js (p7.pg s2 w pw),?_⟩;unfold cC at de;cases qc:c (.fr w::gm js e1)with
  |no=>rw[qc]at de;cases de
  |ex _ _=>rw[qc]at de;cases de
  |ok k e2=>
   rw[qc]at de;intro G3 H5 r3 s3;have g3:=r3.gu s3;cases k with
   |false=>
    exact⟨ws.aj-(i+1),by omega,rfl,bR,G3,ys,done,wb,r2.HF g3,s2.ki s3,g3.hh _ _ Zo,by rw[g3.yL D (by rw[Zo];simp)];exact pf,aq.pg s3 _ qf,by omega,de,ho⟩
   |true=>
    refine⟨⟨H3,G2,[]⟩,G3,e2,r3,?_⟩;dsimp only at de;cases qd:d e2 with
    |no=>rw[qd]at de;cases de
    |ex _ _=>rw[qd]at de;cases de
    |ok y e3=>
     rw[qd]at de;intro G4 v H6 r4 s4 p4;have g4:=r4.gu (s3.ki s4);let⟨qe,hr,rfl⟩:=w0l.mp de;have yf:H6 D=ab (.dI ys):=g4.hh _ _ Zo;have yj:G4 D=none:=by rw[g4.yL D (by rw[Zo];simp)];exact pf
     refine⟨ys,yf,?_,ws.aj-(i+1),by omega,rfl,bR,G4,ys++[v],done++[y],qe,(r2.HF g4).nq yj yw (hz D hD) cV yf,s2.ki (s3.ki s4),bT,yj,(aq.pg (s3.ki s4) _ qf).YX (.Zg p4),by simp;omega,hr,by rw[w2h];exact ho⟩;rw[qf.aj,Yf];omega
 .have:i=ws.aj:=by omega
  subst this;rw[w3f]at de;cases de;rw[w1k]at ho;subst ho;exact .j' ⟨W0.stop _ H2 (rN G2 H2 s2 r2.ri) (by omega),h G2 D ys H2 r2 (s1.ki s2) Zo pf yw cV qf⟩
section
variable{K' xw a b:pN}{zb:ai pN}{d0 sc:yz}{pt:vY}{x:d3}{Nf N:ai d3}{di:ke W}
def qW(Z:Zt)(X:Cx)(EE:L2.St->XK)(zb:ai pN)(c:ke fC):Prop:=qx X zb (_h X.K Z EE c)
theorem z3r:qW Z X EE [] bB:=λcf s σ H Q I ⟨G,e,r,h⟩=>z28 cf s σ H Q I (h G H r (.uw _))
theorem z3s(h:DT Z X EE a c):qW Z X EE [a] c:=z29 h
def cT(K:Fg)(c:ke fC):TT:=λσ H Q=>∃Z',_h K Z' (λ_=>E0) c σ H Q
def cE(K:Fg)(d:ke W):TE:=λσ H Q=>∃Z',qS K Z' σ H λG e=>(d e).Uh (λw e'=>∀G' v H',ro K Z' G' σ H' e'->au G G'->p7 K G' w v->Q v H') (XH K Z' (λ_=>E0) σ G)
def zaI{D:Θ}{r:R (ai W)}{k:W->ai S->SR}(h:bC K Z EE D G ((r.r7 λws e'=>.ok (.dI ws) e').dr k)):r.Uh (λws e'=>bC K Z EE D G (k (.dI ws) e')) (XH K Z EE σ G):=by
 cases r with
 |ok a e=>exact h
 |ex c e=>exact λG' H' r q=>h G' σ H' r q
 |no=>exact h
theorem AX(ht:∀Z' cl C aA aG ex,qW Z' (X.cp Y d0 cl C aA aG ex) (λ_=>E0) zb c):∀cl C aA aG ex,qx (X.cp Y d0 cl C aA aG ex) zb (cT X.K c):=λcl C aA aG ex cf s σ H Q I ⟨Z',h⟩=>ht Z' cl C aA aG ex cf s σ H Q I h
theorem AY(he:∀Z' cl C aA aG ex,DE Z' (X.cp Y d0 cl C aA aG ex) (λ_=>E0) K' d):∀cl C aA aG ex,PE (X.cp Y d0 cl C aA aG ex) K' (cE X.K d):=λcl C aA aG ex cf s σ H Q I ⟨Z',h⟩=>he Z' cl C aA aG ex cf s σ H Q I h
theorem mD(r:ro K Z G σ H e):∀p,H p=none->p∉Z.io:=λp hp hi=>r.lC p hi hp
def M7:∀σ H Q,ni K Z EE (bx js di c d) σ H Q->iF (yy K (fY K Z EE di)) 1 js (bM 0) (cT K c) (cE K d) σ H Q:=by
 rintro σ H Q ⟨G,e,nN,h⟩;simp only[bx,R.aw]at h;refine⟨G,e,nN,h.vW (λw e1 h G1 v1 H1 r1 s1 p1=>?_) λ_ _ h=>h⟩
 split at h
 .rename_i ws hw;unfold iA at h;split at h
  .rename_i hl;split at h
   .rename_i wj ho;let⟨G2,s2,r2⟩:=r1.bo js;have p2:=p7.pg s2 w p1;have io:=mD r2;cases w with
    |gs us=>
     cases hw;let⟨a,xs,rfl,hq,rp⟩:=p2;exact⟨a,rfl,.mv ⟨⟨xs,r2.ri.gs hq⟩,IT P6 r2 (s1.ki s2) rp (λG' H' s s'=>au.gs s' (au.gs s hq)) hl io ho h⟩⟩
    |dI us=>
     cases hw;let⟨a,xs,rfl,hq,rp⟩:=p2;exact⟨a,rfl,.j' ⟨⟨xs,r2.ri.pJ hq⟩,IT P5 r2 (s1.ki s2) rp (λG' H' s s'=>au.pJ s' (au.pJ s hq)) hl io ho h⟩⟩
    |_=>cases hw
   .exact h.oP
  .exact h.oP
 .exact h.oP
def z3t(hc:X.TR=true)(hi:DE Z X EE xw di)(ok:cD sc d0 N Nf js=true)
  (ht:∀Z' cl C aA aG ex,qW Z' (X.cp ([x]++Nf) d0 cl C aA aG ex) (λ_=>E0) zb c)(he:∀Z' cl C aA aG ex,DE Z' (X.cp ([x]++Nf) d0 cl C aA aG ex) (λ_=>E0) K' d)
  (hg:∀cl C aA aG ex,PG (X.cp ([x]++Nf) d0 cl C aA aG ex) (.oL x pt) (bM 0))
  (hsc:autoParam (X.a7.d0=sc) jJ)(hN:autoParam (X.N=N) jJ)(hs:∀x,_g xw X.a7 x=vo x:=by intro _;rfl):
  DF Z X EE (.ZC K' [⟨.oL x pt,xw,zb,0⟩] d0 gJ) (bx js di c d):=by
 exact PE.pg (Ig (Nl:=[x]) (tc:=cT X.K c) (te:=cE X.K d) hc (CL hi) ok hg (AX ht) (AY he) hsc hN hs) M7
def y2a(i:ar){y:d3}{py lO:vY}(Tv:X.N.x6)(hc:X.TR=true)(hi:DE Z X EE xw di)(ok:cD sc d0 N Nf js=true)
  (ht:∀Z' cl C aA aG ex,qW Z' (X.cp ([x]++Nf) d0 cl C aA aG ex) (λ_=>E0) zb c)(he:∀Z' cl C aA aG ex,DE Z' (X.cp ([x]++Nf) d0 cl C aA aG ex) (λ_=>E0) K' d)
  (hg:∀cl C aA aG ex,PG (X.cp ([x]++Nf) d0 cl C aA aG ex) (.oL x pt) (bM 0))
  (hsc:autoParam (X.a7.d0=sc) jJ)(hN:autoParam (X.N=N) jJ)(hs:∀x,_g xw X.a7 x=vo x:=by intro _;rfl)(T6:autoParam (X.N[i]?=ab y) jJ)(Uv:autoParam (Zq X.a7.d0 y) jM)(TZ:autoParam (X.fn y=true\/X.a7.d0.pM.gr y=ab .local) jL)(r8:autoParam (ZO (.ZC K' [⟨.oL x pt,xw,zb,0⟩] d0 gJ) (ab (.oL y py)) lO.Yq X.a7=vo true) jJ):
  DS Z X EE (.ZR [.oL y py] (.ZC K' [⟨.oL x pt,xw,zb,0⟩] d0 gJ) lO) (aD i (eN (bx js di c d))):=by
 refine PS.pg (zaG (Nl:=[x]) (tc:=cT X.K c) (te:=cE X.K d) hc (CL hi) ok hg (AX ht) (AY he) (ug i Tv T6 Uv TZ) r8 hsc hN hs) ?_;rintro D σ H ⟨G,e,nN,h⟩;refine M7 σ H _ ⟨G,e,nN,?_⟩;refine(zaI h).vW (λw e1 h G1 a xs H1 r1 s1 q1 q2 q3 q4 p1=>?_) λ_ _ h=>h
 let⟨sg,rg⟩:=r1.seen q1 q2 q3 q4;exact h _ _ H1 (rg.sx (v:=.bj a) ⟨a,xs,rfl,bJ.of bT,aq.pg sg w p1⟩) (s1.ki sg)
def Mt:∀σ H Q,ni K Z EE (cX eV js dA c d) σ H Q->iF (tS (pF K Z EE dA)) 1 js (bM 0) (cT K c) (cE K d) σ H Q:=by
 rintro σ H Q ⟨G,e,nN,h⟩;simp only[cX,R.aw]at h;refine⟨G,e,nN,h.vW (λws e1 h G1 vs H1 r1 s1 p1=>?_) λ_ _ h=>h⟩
 unfold eV at h;split at h
 .rename_i us hh;split at hh
  .rename_i j;split at hh
   .rename_i hj;cases hh;let⟨y,r,rfl,e1,e2⟩:=p1;cases(show y=V.aO j from e1);cases(show r=[]from e2);refine⟨j,rfl,(vS hj).1,(vS hj).2,?_⟩;unfold iA at h;split at h
    .rename_i hl;split at h
     .rename_i wj ho;let⟨G2,s2,r2⟩:=r1.bo js;have z:=IT (J:=oM 0 (j-0).t8) z9m r2 (s1.ki s2) (Ms (lo:=0) (hi:=j)) (λ_ _ _ _=>trivial) hl (mD r2) ho h
      rwa [a6.sub_zero]at z
     .exact h.oP
    .exact h.oP
   .cases hh
  .cases hh
 .exact h.oP
def y83(hc:X.TR=true)(hm:X.mg "range"=none)(ha:DA Z X EE [a] dA)(ok:cD sc d0 N Nf js=true)
  (ht:∀Z' cl C aA aG ex,qW Z' (X.cp ([x]++Nf) d0 cl C aA aG ex) (λ_=>E0) zb c)(he:∀Z' cl C aA aG ex,DE Z' (X.cp ([x]++Nf) d0 cl C aA aG ex) (λ_=>E0) K' d)
  (hg:∀cl C aA aG ex,PG (X.cp ([x]++Nf) d0 cl C aA aG ex) (.oL x pt) (bM 0))
  (D1:autoParam (Gl X "range") jJ)(m9:autoParam (p5 [a] X.a7=[(false,eval a X.a7)]) jJ)(hsc:autoParam (X.a7.d0=sc) jJ)(hN:autoParam (X.N=N) jJ)(hs:∀x,_g (.wc (.oL "range" p1) [a] [] p2) X.a7 x=vo x:=by intro _;rfl):
  DF Z X EE (.ZC K' [⟨.oL x pt,.wc (.oL "range" p1) [a] [] p2,zb,0⟩] d0 gJ) (cX eV js dA c d):=by
 exact PE.pg (Ig (Nl:=[x]) (tc:=cT X.K c) (te:=cE X.K d) hc (G_ D1 hm ha m9) ok hg (AX ht) (AY he) hsc hN hs) Mt
end
mutual
noncomputable def bN:W->Nat
 |.tup ws=>bE ws+1
 |.lst ws=>bE ws+1
 |_=>0
noncomputable def bE:List W->Nat
 |[]=>0
 |w::ws=>max (bN w) (bE ws)
end
section
variable{cf:ai (f'×sy)}{s:oU}
mutual
theorem zW(I:Inv X pins σ H s)(sg:au G H):∀(w:W){w':W}{v:V}{k:Bool},Rep X.K G w v->Rep X.K G w' v->eO w w'=some k->k=true
 |.aF,w',v,k,h,h',e=>by
  cases(show v=.aF from h);cases w'<;>first|(cases e;done)|(cases h';cases e;rfl)|(exfalso;let⟨_,_,z,_⟩:=h';first|done|cases z)|(exfalso;let⟨_,z,_⟩:=h';first|done|cases z)
 |.bl b,w',v,k,h,h',e=>by
  cases(show v=.bl b from h);cases w'<;>first|(cases e;done)|(cases h';cases e;exact beq_self_eq_true _)|(exfalso;let⟨_,_,z,_⟩:=h';first|done|cases z)|(exfalso;let⟨_,z,_⟩:=h';first|done|cases z)
 |.int b,w',v,k,h,h',e=>by
  cases(show v=.int b from h);cases w'<;>first|(cases e;done)|(cases h';cases e;exact beq_self_eq_true _)|(exfalso;let⟨_,_,z,_⟩:=h';first|done|cases z)|(exfalso;let⟨_,z,_⟩:=h';first|done|cases z)
 |.str b,w',v,k,h,h',e=>by
  cases(show v=.str b from h);cases w'<;>first|(cases e;done)|(cases h';cases e;exact beq_self_eq_true _)|(exfalso;let⟨_,_,z,_⟩:=h';first|done|cases z)|(exfalso;let⟨_,z,_⟩:=h';first|done|cases z)
 |.tup ws,w',v,k,h,h',e=>by
  let⟨a,xs,rfl,q,r⟩:=h;cases w' with
  |tup ws'=>
   let⟨a',iS,z,q',r'⟩:=h';cases z;have:=I.fN (sg.tup q) (sg.tup q');subst this;exact Ik I sg ws r r' (e)
  |lst ws'=>
   let⟨a',iS,z,q',r'⟩:=h';cases z;let⟨ax,_,p1,_⟩:=I.tuple (sg.tup q);let⟨fu,_,p2,_⟩:=I.list (sg.seq q');exact absurd rfl (SeqAt.ne_of_list_tuple p2.isList (show s.heap.IsTuple a _ from p1))
  |aF=>cases h'
  |bl _=>cases h'
  |int _=>cases h'
  |str _=>cases h'
  |exc _=>cases e
  |ba _=>cases e
  |dw _ _ _ _=>cases e
  |fn _ _ _=>cases e
 |.lst ws,w',v,k,h,h',e=>by
  let⟨a,xs,rfl,q,r⟩:=h;cases w' with
  |lst ws'=>
   let⟨a',iS,z,q',r'⟩:=h';cases z;have:=I.gQ (sg.seq q) (sg.seq q');subst this;exact Ik I sg ws r r' (e)
  |tup ws'=>
   let⟨a',iS,z,q',r'⟩:=h';cases z;let⟨ax,_,p1,_⟩:=I.tuple (sg.tup q');let⟨fu,_,p2,_⟩:=I.list (sg.seq q);exact absurd rfl (SeqAt.ne_of_list_tuple p2.isList (show s.heap.IsTuple a _ from p1))
  |aF=>cases h'
  |bl _=>cases h'
  |int _=>cases h'
  |str _=>cases h'
  |exc _=>cases e
  |ba _=>cases e
  |dw _ _ _ _=>cases e
  |fn _ _ _=>cases e
 |.exc c,w',v,k,h,h',e=>by cases w'<;>cases e
 |.ba c,w',v,k,h,h',e=>by cases w'<;>cases e
 |.dw _ _ _ _,w',v,k,h,h',e=>by cases w'<;>cases e
 |.fn _ _ _,w',v,k,h,h',e=>by cases w'<;>cases e
theorem Ik(I:Inv X pins σ H s)(sg:au G H):∀(ws:List W){ws':List W}{vs:List V}{k:Bool},aq X.K G ws vs->aq X.K G ws' vs->bP ws ws'=some k->k=true
 |[],ws',vs,k,h,h',e=>by
  cases h;cases ws' with
  |nil=>cases e;rfl
  |cons _ _=>let⟨_,_,z,_⟩:=h';cases z
 |w::ws,ws',vs,k,h,h',e=>by
  let⟨x,r,rfl,h1,h2⟩:=h;cases ws' with
  |nil=>cases h'
  |cons w' ws'=>
   let⟨x',r',z,Tn,Bd⟩:=h';cases z;have e:(match eO w w',bP ws ws' with|some a,some b=>some (a&&b)|_,_=>none)=some k:=e;cases q1:eO w w' with
   |none=>rw[q1]at e;cases e
   |some b1=>
    cases q2:bP ws ws' with
    |none=>rw[q1,q2]at e;cases e
    |some b2=>
     rw[q1,q2]at e;rw[zW I sg w h1 Tn q1,Ik I sg ws h2 Bd q2]at e;cases e;rfl
end
def w8:∀{xs ys:ai W}{b:fC},bP xs ys=ab b->(∀(j:ar) x y,xs[j]?=ab x->ys[j]?=ab y->∃k,eO x y=ab k)/\b=((ai.zd (min xs.aj ys.aj)).tB (λj=>((eO (xs.g6 j .aF) (ys.g6 j .aF)).g6 false))&&xs.aj==ys.aj):=by
 intro xs
 induction xs with
 |rA=>
  intro ys b h;refine⟨λj x y hx=>by simp at hx,?_⟩
  cases ys<;>(cases h;simp)
 |qY x xs ih=>
  intro ys b h;cases ys with
  |rA=>refine⟨λj x y hx hy=>by simp at hy,?_⟩;cases h;simp
  |qY y ys=>
   have h:(match eO x y,bP xs ys with|ab a,ab b=>ab (a&&b)|_,_=>none)=ab b:=h;cases q1:eO x y with
   |none=>rw[q1]at h;cases h
   |ab b1=>
    cases q2:bP xs ys with
    |none=>grind
    |ab b2=>
     rw[q1,q2]at h;cases h;let⟨h1,h2⟩:=ih q2;refine⟨λj x' y' hx hy=>?_,?_⟩
     .cases j with
      |UQ=>grind
      |UI j=>exact h1 j x' y' (by simpa using hx) (by simpa using hy)
     .rw[h2];simp only[w0v,ar.succ_min_succ,ai.range_succ_eq_map,w2w,w4v]
      have e0:(eO ((x::xs).g6 0 .aF) ((y::ys).g6 0 .aF)).g6 false=b1:=by
       grind
      rw[e0,fC.and_assoc];congr 1;congr 1;simp
theorem Hf:∀{xs:ai W}{j:ar}{x:W},xs[j]?=ab x->bN x<=bE xs
 |[],_,_,h=>by simp at h
 |y::ys,0,x,h=>by grind [bE]
 |y::ys,j+1,x,h=>by
  have:=Hf (xs:=ys) (j:=j) (by simpa using h);simp only[bE];omega
def Cz{xs:ai α}{x d:α}(h:xs[j]?=ab x):xs.g6 j d=x:=by
 simp[ai.g6,h]
def Jw(I:je X cf σ H s)(sg:au G H)(hu:A.xT<xH)(n1:∀ws,w=.gs ws->∀ws',w'≠.gs ws')(n2:∀ws,w=.dI ws->∀ws',w'≠.dI ws')(h:p7 X.K G w v)(h':p7 X.K G w' v')(r:uu v u)(r':uu v' u')(e:eO w w'=ab b):w7.ϊ A s u u' b:=by
 have tl:∀{ws:ai W}{v:V}{u:dS},p7 X.K G (.dI ws) v->uu v u->∃l p9,u=.bj l/\s.a5._M l p9:=λh r=>by
  let⟨a,xs,rfl,q,_⟩:=h;cases r;let⟨ax,_,p,_⟩:=I.xE (sg.pJ q);exact⟨a,_,rfl,p.yP⟩
 have tt:∀{ws:ai W}{v:V}{u:dS},p7 X.K G (.gs ws) v->uu v u->∃l p9,u=.bj l/\s.a5.YV l p9:=λh r=>by
  let⟨a,xs,rfl,q,_⟩:=h;cases r;let⟨ax,_,p,_⟩:=I.UH (sg.gs q);exact⟨a,_,rfl,p⟩
 have tn:∀{v:V}{u:dS},p7 X.K G .aF v->uu v u->u=.none:=λh r=>by cases h;exact r
 have tb:∀{k:fC}{v:V}{u:dS},p7 X.K G (.bl k) v->uu v u->u=.wF k:=λh r=>by cases h;exact r
 have ti:∀{k:a6}{v:V}{u:dS},p7 X.K G (.aO k) v->uu v u->∃t,u=.aO k t:=λh r=>by cases h;exact r
 have ts:∀{k:d3}{v:V}{u:dS},p7 X.K G (.str k) v->uu v u->∃t,u=.str k t:=λh r=>by cases h;exact r
 cases w with
 |aF=>
  obtain rfl:=tn h r;cases w' with
  |aF=>obtain rfl:=tn h' r';cases e;exact .none_none
  |bl k=>obtain rfl:=tb h' r';cases e;exact .ñ k
  |aO k=>let⟨t,rfl⟩:=ti h' r';cases e;exact .ŝ k t
  |str k=>let⟨t,rfl⟩:=ts h' r';cases e;exact .Ş k t
  |gs k=>let⟨l,it,rfl,p⟩:=tt h' r';cases e;exact .none_tuple p hu
  |dI k=>let⟨l,it,rfl,p⟩:=tl h' r';cases e;exact .none_list p hu
  |Zf k=>cases e
  |ba k=>cases e
  |dw _ _ _ _=>cases e
  |fn _ _ _=>cases e
 |bl j=>
  obtain rfl:=tb h r;cases w' with
  |aF=>obtain rfl:=tn h' r';cases e;exact .ç j
  |bl k=>obtain rfl:=tb h' r';cases e;exact .Á j k
  |aO k=>let⟨t,rfl⟩:=ti h' r';cases e;exact .Ń j k t
  |str k=>let⟨t,rfl⟩:=ts h' r';cases e;exact .ń j k t
  |gs k=>let⟨l,it,rfl,p⟩:=tt h' r';cases e;exact .bool_tuple j p hu
  |dI k=>let⟨l,it,rfl,p⟩:=tl h' r';cases e;exact .bool_list j p hu
  |Zf k=>cases e
  |ba k=>cases e
  |dw _ _ _ _=>cases e
  |fn _ _ _=>cases e
 |aO j=>
  let⟨t1,rfl⟩:=ti h r;cases w' with
  |aF=>obtain rfl:=tn h' r';cases e;exact .ŗ j t1
  |bl k=>obtain rfl:=tb h' r';cases e;exact .Ŗ j t1 k
  |aO k=>let⟨t,rfl⟩:=ti h' r';cases e;exact .î j t1 k t
  |str k=>let⟨t,rfl⟩:=ts h' r';cases e;exact .đ j t1 k t
  |gs k=>let⟨l,it,rfl,p⟩:=tt h' r';cases e;exact .int_tuple j t1 p hu
  |dI k=>let⟨l,it,rfl,p⟩:=tl h' r';cases e;exact .int_list j t1 p hu
  |Zf k=>cases e
  |ba k=>cases e
  |dw _ _ _ _=>cases e
  |fn _ _ _=>cases e
 |str j=>
  let⟨t1,rfl⟩:=ts h r;cases w' with
  |aF=>obtain rfl:=tn h' r';cases e;exact .ū j t1
  |bl k=>obtain rfl:=tb h' r';cases e;exact .Ū j t1 k
  |aO k=>let⟨t,rfl⟩:=ti h' r';cases e;exact .Ħ j t1 k t
  |str k=>let⟨t,rfl⟩:=ts h' r';cases e;exact .ħ j t1 k t
  |gs k=>let⟨l,it,rfl,p⟩:=tt h' r';cases e;exact .str_tuple j t1 p hu
  |dI k=>let⟨l,it,rfl,p⟩:=tl h' r';cases e;exact .str_list j t1 p hu
  |Zf k=>cases e
  |ba k=>cases e
  |dw _ _ _ _=>cases e
  |fn _ _ _=>cases e
 |gs j=>
  let⟨l1,EJ,rfl,p1⟩:=tt h r;cases w' with
  |aF=>obtain rfl:=tn h' r';cases e;exact .tuple_none p1 hu
  |bl k=>obtain rfl:=tb h' r';cases e;exact .tuple_bool k p1 hu
  |aO k=>let⟨t,rfl⟩:=ti h' r';cases e;exact .tuple_int k t p1 hu
  |str k=>let⟨t,rfl⟩:=ts h' r';cases e;exact .tuple_str k t p1 hu
  |gs k=>grind
  |dI k=>let⟨l,it,rfl,p⟩:=tl h' r';cases e;exact .tuple_list p1 p hu
  |Zf k=>cases e
  |ba k=>cases e
  |dw _ _ _ _=>cases e
  |fn _ _ _=>cases e
 |dI j=>
  let⟨l1,EJ,rfl,p1⟩:=tl h r;cases w' with
  |aF=>obtain rfl:=tn h' r';cases e;exact .list_none p1 hu
  |bl k=>obtain rfl:=tb h' r';cases e;exact .list_bool k p1 hu
  |aO k=>let⟨t,rfl⟩:=ti h' r';cases e;exact .list_int k t p1 hu
  |str k=>let⟨t,rfl⟩:=ts h' r';cases e;exact .list_str k t p1 hu
  |dI k=>grind
  |gs k=>let⟨l,it,rfl,p⟩:=tt h' r';cases e;exact .list_tuple p1 p hu
  |Zf k=>cases e
  |ba k=>cases e
  |dw _ _ _ _=>cases e
  |fn _ _ _=>cases e
 |Zf j=>cases w'<;>cases e
 |ba j=>cases w'<;>cases e
 |dw _ _ _ _=>cases w'<;>cases e
 |fn _ _ _=>cases w'<;>cases e
theorem O0(I:je X cf σ H s)(sg:au G H)(hd:bN w<=0)(hu:A.xT<xH)(h:p7 X.K G w v)(h':p7 X.K G w' v')(r:uu v u)(r':uu v' u')(e:eO w w'=ab b):w7.ϊ A s u u' b:=
 Jw I sg hu (λws z=>by grind [bN]) (λws z=>by grind [bN]) h h' r r' e
theorem Il(h:p7 K G w v):∀x,v≠.tH x:=λx z=>by
 subst z;cases w with
 |gs ws=>let⟨_,_,z,_⟩:=h;cases z
 |dI ws=>let⟨_,_,z,_⟩:=h;cases z
 |Zf c=>let⟨_,z,_⟩:=h;cases z
 |ba c=>let⟨_,z,_⟩:=h;cases z
 |dw _ _ _ _=>let⟨_,_,_,z,_⟩:=h;cases z
 |fn _ _ _=>let⟨_,_,_,_,z,_⟩:=h;cases z
 |_=>cases h
theorem Im(rv:uu v u)(hf:∀x,v≠.tH x)(h:w7.ϊ A s u u' b)(hs:u=u'->b=true):w7.Rh A s u u' b:=λjd w E Q hq=>by
 unfold ì;refine _I ?_;refine Ā (λtK=>?_) (λ_=>?_)
 .have hb:=hs (ŏ tK)
  grind [lb,Ă,tW]
 .have z:=lb (h jd w E (λa s'=>oS (q_ jd w) A (truthOfDropped a) Q E s') (Ω hq))
  cases v with
  |tH x=>exact uP rfl (hf x)
  |aF=>cases rv;exact z
  |bl _=>cases rv;exact z
  |aO _=>let⟨t,rfl⟩:=rv;exact z
  |str _=>let⟨t,rfl⟩:=rv;exact z
  |tq _=>let⟨t,rfl⟩:=rv;exact z
  |bj _=>cases rv;exact z
  |ty _=>cases rv;exact z
def JS(I:je X cf σ H s)(sg:au G H):∀(n:ar){w w':W}{v v':V}{u u':dS}{b:fC}{A:C7},bN w<=n->A.xT+n<xH->p7 X.K G w v->p7 X.K G w' v'->uu v u->uu v' u'->eO w w'=ab b->w7.ϊ A s u u' b:=by
 intro n
 induction n with
 |UQ=>
  grind [O0]
 |UI n ih=>
  intro w w' v v' u u' b A hd hu h h' r r' e
  have p9:∀{ws ws':ai W}{xs iS:ai V}{ax its':ai dS}{k:fC},bE ws<=n->aq X.K G ws xs->aq X.K G ws' iS->sS xs ax->sS iS its'->bP ws ws'=ab k ->
    ∀j (h1:j<ax.k8.dt) (h2:j<its'.k8.dt),w7.Rh A.Ko s ax.k8[j] its'.k8[j] ((eO (ws.g6 j .aF) (ws'.g6 j .aF)).g6 false):=by
   intro ws ws' xs iS ax its' k hd r1 r2 v1 v2 he j h1 h2;have l1:=r1.aj;have l2:=r2.aj;have m1:=v1.aj;have m2:=v2.aj;have i1:j<xs.aj:=by rw[m1];simpa using h1
   have i2:j<iS.aj:=by rw[m2];simpa using h2
   let⟨u1,e1,uq⟩:=v1.Df (w0b i1);let⟨u2,e2,As⟩:=v2.Df (w0b i2);let⟨w1,f1,p1⟩:=r1.iM (w0b i1);let⟨w2,f2,p2⟩:=r2.iM (w0b i2);let⟨b',mn⟩:=(w8 he).1 j w1 w2 f1 f2;rw[Cz f1,Cz f2,mn]
   have g1:ax.k8[j]=u1:=by
    grind
   have g2:its'.k8[j]=u2:=by
    grind
   rw[g1,g2];have DR:bN w1<=n:=w0r (Hf f1) hd
   have Ew:A.Ko.xT+n<xH:=by
    grind
   refine Im uq (Il p1) (ih DR Ew p1 p2 uq As mn) λz=>?_
   subst z;have:=uq.La As
   grind [zW]
  cases w with
  |gs ws=>
   cases w' with
   |gs ws'=>
    let⟨a,xs,rfl,q1,r1⟩:=h;let⟨a',iS,rfl,q2,r2⟩:=h';cases r;cases r';let⟨ax,v1,p1,_⟩:=I.UH (sg.gs q1);let⟨its',v2,p2,_⟩:=I.UH (sg.gs q2);have e:bP ws ws'=ab b:=e;have z:=w7.ϊ.Ų (show s.a5.YV a _ from p1) (show s.a5.YV a' _ from p2) (show A.xT<xH by omega) (p9 (by grind [bN]) r1 r2 v1 v2 e);have l1:=r1.aj;have l2:=r2.aj;have m1:=v1.aj;have m2:=v2.aj;have eb:=(w8 e).2
    grind
   |_=>exact Jw I sg (by omega) (by intro ws';simp) (by intro ws';simp) h h' r r' e
  |dI ws=>
   cases w' with
   |dI ws'=>
    let⟨a,xs,rfl,q1,r1⟩:=h;let⟨a',iS,rfl,q2,r2⟩:=h';cases r;cases r';let⟨ax,v1,p1,_⟩:=I.xE (sg.pJ q1);let⟨its',v2,p2,_⟩:=I.xE (sg.pJ q2);have e:bP ws ws'=ab b:=e;have l1:=r1.aj;have l2:=r2.aj;have m1:=v1.aj;have m2:=v2.aj;have eb:=(w8 e).2;have n1:ax.aj=ws.aj:=by omega
    have n2:its'.aj=ws'.aj:=by omega
    by_cases hl:ws.aj=ws'.aj
    .have z:=w7.ϊ.lists p1.yP p2.yP (by grind) (show A.xT<xH by omega) (p9 (by grind [bN]) r1 r2 v1 v2 e)
     grind
    .have z:=w7.ϊ.zcI (A:=A) p1.yP p2.yP (by grind) (show A.xT<xH by omega)
     grind
   |_=>exact Jw I sg (by omega) (by intro ws';simp) (by intro ws';simp) h h' r r' e
  |_=>exact O0 I sg (by simp[bN]) (by omega) h h' r r' e
def Io(I:je X cf σ H s)(sg:au G H)(hu:A.xT<xH)(n1:∀ws,w=.gs ws->∀ws',w'≠.gs ws')(n2:∀ws,w=.dI ws->∀ws',w'≠.dI ws')(h:p7 X.K G w v)(h':p7 X.K G w' v')(r:uu v u)(r':uu v' u')(e:eO w w'=ab b):w7.Ϻ A s u u' (!b):=by
 have tl:∀{ws:ai W}{v:V}{u:dS},p7 X.K G (.dI ws) v->uu v u->∃l p9,u=.bj l/\s.a5._M l p9:=λh r=>by
  let⟨a,xs,rfl,q,_⟩:=h;cases r;let⟨ax,_,p,_⟩:=I.xE (sg.pJ q);exact⟨a,_,rfl,p.yP⟩
 have tt:∀{ws:ai W}{v:V}{u:dS},p7 X.K G (.gs ws) v->uu v u->∃l p9,u=.bj l/\s.a5.YV l p9:=λh r=>by
  let⟨a,xs,rfl,q,_⟩:=h;cases r;let⟨ax,_,p,_⟩:=I.UH (sg.gs q);exact⟨a,_,rfl,p⟩
 have tn:∀{v:V}{u:dS},p7 X.K G .aF v->uu v u->u=.none:=λh r=>by cases h;exact r
 have tb:∀{k:fC}{v:V}{u:dS},p7 X.K G (.bl k) v->uu v u->u=.wF k:=λh r=>by cases h;exact r
 have ti:∀{k:a6}{v:V}{u:dS},p7 X.K G (.aO k) v->uu v u->∃t,u=.aO k t:=λh r=>by cases h;exact r
 have ts:∀{k:d3}{v:V}{u:dS},p7 X.K G (.str k) v->uu v u->∃t,u=.str k t:=λh r=>by cases h;exact r
 cases w with
 |aF=>
  obtain rfl:=tn h r;cases w' with
  |aF=>obtain rfl:=tn h' r';cases e;exact .none_none
  |bl k=>obtain rfl:=tb h' r';cases e;exact .ñ k
  |aO k=>let⟨t,rfl⟩:=ti h' r';cases e;exact .ŝ k t
  |str k=>let⟨t,rfl⟩:=ts h' r';cases e;exact .Ş k t
  |gs k=>let⟨l,it,rfl,p⟩:=tt h' r';cases e;exact .none_tuple p hu
  |dI k=>let⟨l,it,rfl,p⟩:=tl h' r';cases e;exact .none_list p hu
  |Zf k=>cases e
  |ba k=>cases e
  |dw _ _ _ _=>cases e
  |fn _ _ _=>cases e
 |bl j=>
  obtain rfl:=tb h r;cases w' with
  |aF=>obtain rfl:=tn h' r';cases e;exact .ç j
  |bl k=>obtain rfl:=tb h' r';cases e;exact .Á j k
  |aO k=>let⟨t,rfl⟩:=ti h' r';cases e;exact .Ń j k t
  |str k=>let⟨t,rfl⟩:=ts h' r';cases e;exact .ń j k t
  |gs k=>let⟨l,it,rfl,p⟩:=tt h' r';cases e;exact .bool_tuple j p hu
  |dI k=>let⟨l,it,rfl,p⟩:=tl h' r';cases e;exact .bool_list j p hu
  |Zf k=>cases e
  |ba k=>cases e
  |dw _ _ _ _=>cases e
  |fn _ _ _=>cases e
 |aO j=>
  let⟨t1,rfl⟩:=ti h r;cases w' with
  |aF=>obtain rfl:=tn h' r';cases e;exact .ŗ j t1
  |bl k=>obtain rfl:=tb h' r';cases e;exact .Ŗ j t1 k
  |aO k=>let⟨t,rfl⟩:=ti h' r';cases e;exact .î j t1 k t
  |str k=>let⟨t,rfl⟩:=ts h' r';cases e;exact .đ j t1 k t
  |gs k=>let⟨l,it,rfl,p⟩:=tt h' r';cases e;exact .int_tuple j t1 p hu
  |dI k=>let⟨l,it,rfl,p⟩:=tl h' r';cases e;exact .int_list j t1 p hu
  |Zf k=>cases e
  |ba k=>cases e
  |dw _ _ _ _=>cases e
  |fn _ _ _=>cases e
 |str j=>
  let⟨t1,rfl⟩:=ts h r;cases w' with
  |aF=>obtain rfl:=tn h' r';cases e;exact .ū j t1
  |bl k=>obtain rfl:=tb h' r';cases e;exact .Ū j t1 k
  |aO k=>let⟨t,rfl⟩:=ti h' r';cases e;exact .Ħ j t1 k t
  |str k=>let⟨t,rfl⟩:=ts h' r';cases e;exact .ħ j t1 k t
  |gs k=>let⟨l,it,rfl,p⟩:=tt h' r';cases e;exact .str_tuple j t1 p hu
  |dI k=>let⟨l,it,rfl,p⟩:=tl h' r';cases e;exact .str_list j t1 p hu
  |Zf k=>cases e
  |ba k=>cases e
  |dw _ _ _ _=>cases e
  |fn _ _ _=>cases e
 |gs j=>
  let⟨l1,EJ,rfl,p1⟩:=tt h r;cases w' with
  |aF=>obtain rfl:=tn h' r';cases e;exact .tuple_none p1 hu
  |bl k=>obtain rfl:=tb h' r';cases e;exact .tuple_bool k p1 hu
  |aO k=>let⟨t,rfl⟩:=ti h' r';cases e;exact .tuple_int k t p1 hu
  |str k=>let⟨t,rfl⟩:=ts h' r';cases e;exact .tuple_str k t p1 hu
  |gs k=>grind
  |dI k=>let⟨l,it,rfl,p⟩:=tl h' r';cases e;exact .tuple_list p1 p hu
  |Zf k=>cases e
  |ba k=>cases e
  |dw _ _ _ _=>cases e
  |fn _ _ _=>cases e
 |dI j=>
  let⟨l1,EJ,rfl,p1⟩:=tl h r;cases w' with
  |aF=>obtain rfl:=tn h' r';cases e;exact .list_none p1 hu
  |bl k=>obtain rfl:=tb h' r';cases e;exact .list_bool k p1 hu
  |aO k=>let⟨t,rfl⟩:=ti h' r';cases e;exact .list_int k t p1 hu
  |str k=>let⟨t,rfl⟩:=ts h' r';cases e;exact .list_str k t p1 hu
  |dI k=>grind
  |gs k=>let⟨l,it,rfl,p⟩:=tt h' r';cases e;exact .list_tuple p1 p hu
  |Zf k=>cases e
  |ba k=>cases e
  |dw _ _ _ _=>cases e
  |fn _ _ _=>cases e
 |Zf j=>cases w'<;>cases e
 |ba j=>cases w'<;>cases e
 |dw _ _ _ _=>cases w'<;>cases e
 |fn _ _ _=>cases w'<;>cases e
theorem zaJ(I:je X cf σ H s)(sg:au G H)(hd:bN w<=0)(hu:A.xT<xH)(h:p7 X.K G w v)(h':p7 X.K G w' v')(r:uu v u)(r':uu v' u')(e:eO w w'=ab b):w7.Ϻ A s u u' (!b):=
 Io I sg hu (λws z=>by grind [bN]) (λws z=>by grind [bN]) h h' r r' e
def NL(I:je X cf σ H s)(sg:au G H)(hu:A.xT+(n+1)<xH)(hd:bE ws<=n)(r1:aq X.K G ws xs)(r2:aq X.K G ws' iS)(v1:sS xs ax)(v2:sS iS its')(he:bP ws ws'=ab k):
  ∀j (h1:j<ax.k8.dt) (h2:j<its'.k8.dt),w7.Rh A.Ko s ax.k8[j] its'.k8[j] ((eO (ws.g6 j .aF) (ws'.g6 j .aF)).g6 false):=by
 intro j h1 h2;have l1:=r1.aj;have l2:=r2.aj;have m1:=v1.aj;have m2:=v2.aj;have i1:j<xs.aj:=by rw[m1];simpa using h1
 have i2:j<iS.aj:=by rw[m2];simpa using h2
 let⟨u1,e1,uq⟩:=v1.Df (w0b i1);let⟨u2,e2,As⟩:=v2.Df (w0b i2);let⟨w1,f1,p1⟩:=r1.iM (w0b i1);let⟨w2,f2,p2⟩:=r2.iM (w0b i2);let⟨b',mn⟩:=(w8 he).1 j w1 w2 f1 f2;rw[Cz f1,Cz f2,mn]
 have g1:ax.k8[j]=u1:=by
  grind
 have g2:its'.k8[j]=u2:=by
  grind
 rw[g1,g2];have DR:bN w1<=n:=w0r (Hf f1) hd
 have Ew:A.Ko.xT+n<xH:=by
  grind
 refine Im uq (Il p1) (JS I sg n DR Ew p1 p2 uq As mn) λz=>?_
 subst z;have:=uq.La As
 grind [zW]
def z3u(I:je X cf σ H s)(sg:au G H)(n)(hd:bN w<=n+1)(hu:A.xT+(n+1)<xH)(h:p7 X.K G w v)(h':p7 X.K G w' v')(r:uu v u)(r':uu v' u')(e:eO w w'=ab b):w7.Ϻ A s u u' (!b):=by
 cases w with
 |gs ws=>
  cases w' with
  |gs ws'=>
   let⟨a,xs,rfl,q1,r1⟩:=h;let⟨a',iS,rfl,q2,r2⟩:=h';cases r;cases r';let⟨ax,v1,p1,_⟩:=I.UH (sg.gs q1);let⟨its',v2,p2,_⟩:=I.UH (sg.gs q2);have e:bP ws ws'=ab b:=e;have z:=w7.Ϻ.Ų (show s.a5.YV a _ from p1) (show s.a5.YV a' _ from p2) (show A.xT<xH by omega) (NL I sg hu (by grind [bN]) r1 r2 v1 v2 e);have l1:=r1.aj;have l2:=r2.aj;have m1:=v1.aj;have m2:=v2.aj;have eb:=(w8 e).2
   grind
  |_=>exact Io I sg (by omega) (by intro ws';simp) (by intro ws';simp) h h' r r' e
 |dI ws=>
  cases w' with
  |dI ws'=>
   let⟨a,xs,rfl,q1,r1⟩:=h;let⟨a',iS,rfl,q2,r2⟩:=h';cases r;cases r';let⟨ax,v1,p1,_⟩:=I.xE (sg.pJ q1);let⟨its',v2,p2,_⟩:=I.xE (sg.pJ q2);have e:bP ws ws'=ab b:=e;have l1:=r1.aj;have l2:=r2.aj;have m1:=v1.aj;have m2:=v2.aj;have eb:=(w8 e).2;have n1:ax.aj=ws.aj:=by omega
   have n2:its'.aj=ws'.aj:=by omega
   by_cases hl:ws.aj=ws'.aj
   .have z:=w7.Ϻ.lists p1.yP p2.yP (by grind) (show A.xT<xH by omega) (NL I sg hu (by grind [bN]) r1 r2 v1 v2 e)
    grind
   .have z:=w7.Ϻ.zcI (A:=A) p1.yP p2.yP (by grind) (show A.xT<xH by omega)
    grind
  |_=>exact Io I sg (by omega) (by intro ws';simp) (by intro ws';simp) h h' r r' e
 |_=>exact zaJ I sg (by simp[bN]) (by omega) h h' r r' e
def yN(x y:W):fv W:=if bN x<=150 then(eO x y).aT .bl else none
def Af(K:Fg):R2:=λx y H Q=>∃G wx wy b,au G H/\bN wx<=150/\p7 K G wx x/\p7 K G wy y/\eO wx wy=ab b/\Q (.bl b) H
def P7(hu:X.A.xT+150<xH):fe X (ZY .Eq) (Af X.K):=by
 intro cf s σ H x y v u Q I rx ry h;let⟨G,wx,wy,b,sg,hd,hx,hy,e,q⟩:=h;exact JS I sg 150 hd hu hx hy rx ry e _ _ _ _ ⟨.bl b,H,I,rfl,q⟩
def QW:g8 K (Af K) yN:=by
 intro G H x y wx wy w Q s px py hf h;unfold yN at hf;split at hf
 .rename_i hd;let⟨b,hb,rfl⟩:=w0l.mp hf;exact⟨G,wx,wy,b,s,hd,px,py,hb,h G _ H (.uw s) rfl⟩
 .cases hf
def Zx(x y:W):fv W:=if bN x<=150 then(eO x y).aT λb=>.bl (!b)else none
def An(K:Fg):R2:=λx y H Q=>∃G wx wy b,au G H/\bN wx<=150/\p7 K G wx x/\p7 K G wy y/\eO wx wy=ab b/\Q (.bl (!b)) H
def P8(hu:X.A.xT+150<xH):fe X (ZY .NotEq) (An X.K):=by
 intro cf s σ H x y v u Q I rx ry h;let⟨G,wx,wy,b,sg,hd,hx,hy,e,q⟩:=h;exact z3u I sg 149 hd hu hx hy rx ry e _ _ _ _ ⟨.bl (!b),H,I,rfl,q⟩
def QX:g8 K (An K) Zx:=by
 intro G H x y wx wy w Q s px py hf h;unfold Zx at hf;split at hf
 .rename_i hd;let⟨b,hb,rfl⟩:=w0l.mp hf;exact⟨G,wx,wy,b,s,hd,px,py,hb,h G _ H (.uw s) rfl⟩
 .cases hf
end
def j0:W->W->fv W
 |.aF,.aF=>ab (.bl true)
 |_,.aF=>ab (.bl false)
 |.bl a,.bl b=>ab (.bl (a==b))
 |_,.bl _=>ab (.bl false)
 |_,_=>none
def gh:W->W->fv W
 |.aF,.aF=>ab (.bl false)
 |_,.aF=>ab (.bl true)
 |.bl a,.bl b=>ab (.bl (!(a==b)))
 |_,.bl _=>ab (.bl true)
 |_,_=>none
def LX:R2:=λx y H Q=>(y=.aF\/∃b,y=.bl b)/\Q (.bl (decide (x=y))) H
def Ao:R2:=λx y H Q=>(y=.aF\/∃b,y=.bl b)/\Q (.bl (!decide (x=y))) H
def NV{x y:V}{v u:dS}(rx:uu x v)(ry:uu y u)(h:y=.aF\/∃b,y=.bl b):plainIs v u=true/\(v==u)=decide (x=y):=by
 rcases h with rfl|⟨b,rfl⟩
 .cases ry
  cases x<;>first
   |(cases rx;exact⟨rfl,by first|rfl|(rw[w1w];simp)⟩)
   |(let⟨t,rfl⟩:=rx;exact⟨rfl,by rw[w1w];simp⟩)
 .cases ry
  cases x<;>first
   |(cases rx;exact⟨rfl,by first|rfl|(rw[w1w];simp)⟩)
   |(let⟨t,rfl⟩:=rx;exact⟨rfl,by rw[w1w];simp⟩)
def P9:fe X (ZY .Is) LX:=by
 intro cf s σ H x y v u Q I rx ry h;let⟨hy,q⟩:=h;let⟨h1,h2⟩:=NV rx ry hy;exact wpAny_is_plain h1 (PN I q h2.symm)
def O1:fe X (ZY .IsNot) Ao:=by
 intro cf s σ H x y v u Q I rx ry h;let⟨hy,q⟩:=h;let⟨h1,h2⟩:=NV rx ry hy;exact wpAny_isNot_plain h1 (PN I q (by rw[h2]))
def Sy{x y:V}{wx wy w:W}(px:p7 K G wx x)(py:p7 K G wy y)(h:j0 wx wy=ab w):(y=.aF\/∃b,y=.bl b)/\w=.bl (decide (x=y)):=by
 cases wy with
 |aF=>
  cases(show y=.aF from py);refine⟨.j' rfl,?_⟩;cases wx with
  |gs ws=>let⟨_,_,rfl,_⟩:=px;cases h;simp
  |dI ws=>let⟨_,_,rfl,_⟩:=px;cases h;simp
  |Zf c=>let⟨_,rfl,_⟩:=px;cases h;simp
  |ba c=>let⟨_,rfl,_⟩:=px;cases h;simp
  |dw _ _ _ _=>let⟨_,_,_,rfl,_⟩:=px;cases h;simp
  |fn _ _ _=>let⟨_,_,_,_,rfl,_⟩:=px;cases h;simp
  |_=>cases px;cases h;simp
 |bl b=>
  cases(show y=.bl b from py);refine⟨.mv ⟨b,rfl⟩,?_⟩;cases wx with
  |gs ws=>let⟨_,_,rfl,_⟩:=px;cases h;simp
  |dI ws=>let⟨_,_,rfl,_⟩:=px;cases h;simp
  |Zf c=>let⟨_,rfl,_⟩:=px;cases h;simp
  |ba c=>let⟨_,rfl,_⟩:=px;cases h;simp
  |dw _ _ _ _=>let⟨_,_,_,rfl,_⟩:=px;cases h;simp
  |fn _ _ _=>let⟨_,_,_,_,rfl,_⟩:=px;cases h;simp
  |bl k=>cases px;cases h;cases k<;>cases b<;>rfl
  |_=>cases px;cases h;simp
 |_=>cases wx<;>cases h
def z9n{x y:V}{wx wy w:W}(px:p7 K G wx x)(py:p7 K G wy y)(h:gh wx wy=ab w):(y=.aF\/∃b,y=.bl b)/\w=.bl (!decide (x=y)):=by
 cases wy with
 |aF=>
  cases(show y=.aF from py);refine⟨.j' rfl,?_⟩;cases wx with
  |gs ws=>let⟨_,_,rfl,_⟩:=px;cases h;simp
  |dI ws=>let⟨_,_,rfl,_⟩:=px;cases h;simp
  |Zf c=>let⟨_,rfl,_⟩:=px;cases h;simp
  |ba c=>let⟨_,rfl,_⟩:=px;cases h;simp
  |dw _ _ _ _=>let⟨_,_,_,rfl,_⟩:=px;cases h;simp
  |fn _ _ _=>let⟨_,_,_,_,rfl,_⟩:=px;cases h;simp
  |_=>cases px;cases h;simp
 |bl b=>
  cases(show y=.bl b from py);refine⟨.mv ⟨b,rfl⟩,?_⟩;cases wx with
  |gs ws=>let⟨_,_,rfl,_⟩:=px;cases h;simp
  |dI ws=>let⟨_,_,rfl,_⟩:=px;cases h;simp
  |Zf c=>let⟨_,rfl,_⟩:=px;cases h;simp
  |ba c=>let⟨_,rfl,_⟩:=px;cases h;simp
  |dw _ _ _ _=>let⟨_,_,_,rfl,_⟩:=px;cases h;simp
  |fn _ _ _=>let⟨_,_,_,_,rfl,_⟩:=px;cases h;simp
  |bl k=>cases px;cases h;cases k<;>cases b<;>rfl
  |_=>cases px;cases h;simp
 |_=>cases wx<;>cases h
def QY:g8 K LX j0:=by
 intro G H x y wx wy w Q s px py hf h;let⟨h1,rfl⟩:=Sy px py hf;exact⟨h1,h G _ H (.uw s) rfl⟩
def P_:g8 K Ao gh:=by
 intro G H x y wx wy w Q s px py hf h;let⟨h1,rfl⟩:=z9n px py hf;exact⟨h1,h G _ H (.uw s) rfl⟩
section
variable{a b c e:pN}{p:vY}{x:d3}
theorem z9o(ha:DE Z X EE a da)(hb:DE Z X EE b db):DE Z X EE (._K a .Sub b gJ) (ak qk da db):=uh z8f z9e ha hb
theorem z9p(ha:DE Z X EE a da)(hb:DE Z X EE b db):DE Z X EE (._K a .ω b gJ) (ak gR da db):=uh z8g z9f ha hb
theorem z3v(ha:DE Z X EE a da)(hb:DE Z X EE b db):DE Z X EE (._K a .FloorDiv b gJ) (ak cx da db):=uh z20 z3q ha hb
theorem z9q(ha:DE Z X EE a da)(hb:DE Z X EE b db):DE Z X EE (._K a .ψ b gJ) (ak bY da db):=uh z8h z9g ha hb
theorem z9r(ha:DE Z X EE a da)(hb:DE Z X EE b db):DE Z X EE (._K a .Pow b gJ) (ak pR da db):=uh z8i z9h ha hb
theorem z9s(ha:DE Z X EE a da):DE Z X EE (.ό .USub a gJ) (me mF da):=Sw z8j z9i ha
theorem Q3y(ha:DE Z X EE a da)(hb:DE Z X EE b db):DE Z X EE (.YT a [.Lt] [b] gJ) (ak l4 da db):=vR QP QS ha hb (cb _)
theorem Q3z(ha:DE Z X EE a da)(hb:DE Z X EE b db):DE Z X EE (.YT a [.LtE] [b] gJ) (ak vm da db):=vR QQ QT ha hb (cb _)
theorem Q30(ha:DE Z X EE a da)(hb:DE Z X EE b db):DE Z X EE (.YT a [.Gt] [b] gJ) (ak kP da db):=vR QR QU ha hb (cb _)
theorem Q31(hu:X.A.xT+150<xH)(ha:DE Z X EE a da)(hb:DE Z X EE b db):DE Z X EE (.YT a [.Eq] [b] gJ) (ak yN da db):=vR (P7 hu) QW ha hb (cb _)
theorem Q32(hu:X.A.xT+150<xH)(ha:DE Z X EE a da)(hb:DE Z X EE b db):DE Z X EE (.YT a [.NotEq] [b] gJ) (ak Zx da db):=vR (P8 hu) QX ha hb (cb _)
theorem Q33(ha:DE Z X EE a da)(hb:DE Z X EE b db):DE Z X EE (.YT a [.Is] [b] gJ) (ak j0 da db):=vR P9 QY ha hb (cb _)
theorem z9t(ha:DE Z X EE a da)(hb:DE Z X EE b db):DE Z X EE (.YT a [.IsNot] [b] gJ) (ak gh da db):=vR O1 P_ ha hb (cb _)
theorem Q34(ha:DE Z X EE a da)(hb:DE Z X EE b db):DT Z X EE (.YT a [.Lt] [b] gJ) (ay (ak l4 da db)):=qN QP QS ha hb (cb _)
theorem Q35(ha:DE Z X EE a da)(hb:DE Z X EE b db):DT Z X EE (.YT a [.LtE] [b] gJ) (ay (ak vm da db)):=qN QQ QT ha hb (cb _)
theorem Q36(ha:DE Z X EE a da)(hb:DE Z X EE b db):DT Z X EE (.YT a [.Gt] [b] gJ) (ay (ak kP da db)):=qN QR QU ha hb (cb _)
theorem Q37(ha:DE Z X EE a da)(hb:DE Z X EE b db):DT Z X EE (.YT a [.GtE] [b] gJ) (ay (ak wG da db)):=qN Ss Sx ha hb (cb _)
theorem Q38(hu:X.A.xT+150<xH)(ha:DE Z X EE a da)(hb:DE Z X EE b db):DT Z X EE (.YT a [.Eq] [b] gJ) (ay (ak yN da db)):=qN (P7 hu) QW ha hb (cb _)
theorem Q39(hu:X.A.xT+150<xH)(ha:DE Z X EE a da)(hb:DE Z X EE b db):DT Z X EE (.YT a [.NotEq] [b] gJ) (ay (ak Zx da db)):=qN (P8 hu) QX ha hb (cb _)
theorem Q4a(ha:DE Z X EE a da)(hb:DE Z X EE b db):DT Z X EE (.YT a [.Is] [b] gJ) (ay (ak j0 da db)):=qN P9 QY ha hb (cb _)
theorem z9u(ha:DE Z X EE a da)(hb:DE Z X EE b db):DT Z X EE (.YT a [.IsNot] [b] gJ) (ay (ak gh da db)):=qN O1 P_ ha hb (cb _)
def Lh{k:ar}(h:bp k A):A.xT+150<xH:=by have:=h.un;omega
def fm(xs:ai W)(lo hi:fv a6):ai W:=(xs.wa (HT.cz xs.aj 0 lo)).vA (HT.cz xs.aj xs.aj hi-HT.cz xs.aj 0 lo)
def aq.cut{xs:ai V}(r:aq K G ws xs)(lo hi:fv a6):aq K G (fm ws lo hi) (jG xs lo hi):=by
 unfold fm jG;rw[r.aj];exact(r.wa _).vA _
def DO(Z:Zt)(X:Cx)(EE:L2.St->XK)(e:fv pN)(d:ke (fv a6)):Prop:=PO X e (λσ H Q=>∃G e,ro X.K Z G σ H e/\(d e).Uh (λo e'=>∀G' H',ro X.K Z G' σ H' e'->au G G'->Q o H') (XH X.K Z EE σ G))
def c0:ke (fv a6):=λe=>.ok none e
def eD(d:ke W):ke (fv a6):=λe=>(d e).r7 λw e1=>match w with
 |.aO i=>.ok (ab i) e1
 |_=>.no
theorem PO.pg{e:fv pN}{t t':TO}(h:PO X e t)(i:∀σ H Q,t' σ H Q->t σ H Q):PO X e t':=λcf s σ H Q I q=>h cf s σ H Q I (i σ H Q q)
theorem z3w:DO Z X EE none c0:=PO.pg z23 λσ H Q ⟨G,e,r,h⟩=>h G H r (.uw _)
def z3x(h:DE Z X EE e da):DO Z X EE (ab e) (eD da):=by
 refine PO.pg (z24 h) ?_;rintro σ H Q ⟨G,e,nN,h⟩;simp only[eD,R.aw]at h;refine⟨G,e,nN,h.vW (λx e1 h G1 v1 H1 r1 s1 p1=>?_) λ_ _ h=>h⟩
 cases x with
 |aO i=>cases(show v1=V.aO i from p1);exact⟨i,rfl,h G1 H1 r1 s1⟩
 |_=>exact h.oP
def xo:W->fv a6->fv a6->fv W
 |.dI ws,lo,hi=>ab (.dI (fm ws lo hi))
 |.gs ws,lo,hi=>if ¬(HT.cz ws.aj 0 lo=0/\HT.cz ws.aj ws.aj hi=ws.aj)then ab (.gs (fm ws lo hi))else none
 |_,_,_=>none
def ou(d:ke W)(dl dh:ke (fv a6)):ke W:=λe=>(d e).r7 λw e1=>(dl e1).r7 λlo e2=>(dh e2).r7 λhi e3=>bq (xo w lo hi) e3
def y84{lo hi:fv pN}{dl dh:ke (fv a6)}(he:DE Z X EE e da)(hl:DO Z X EE lo dl)(hh:DO Z X EE hi dh):DE Z X EE (.Yw e (._O lo hi none p2) gJ) (ou da dl dh):=by
 refine PE.pg (za6 (zdg.or z8o) he hl hh) ?_;rintro σ H Q ⟨G,e,nN,h⟩;simp only[ou,R.aw,aY]at h;refine⟨G,e,nN,h.vW (λw e1 h G1 v1 H1 r1 s1 p1=>?_) λ_ _ h=>h⟩
 refine⟨G1,e1,r1,h.vW (λlo e2 h G2 H2 r2 s2=>?_) λ_ _ h=>XH.ki s1 h⟩
 refine⟨G2,e2,r2,h.vW (λhi e3 h G3 H3 r3 s3=>?_) λ_ _ h=>XH.ki (s1.ki s2) h⟩
 let⟨y,hf,h⟩:=h;have p3:=p7.pg (s2.ki s3) w p1;have LZ:=(s1.ki s2).ki s3;cases w with
 |dI ws=>
  cases hf;let⟨a,xs,rfl,q,r⟩:=p3;refine .j' ⟨a,xs,rfl,r3.ri.pJ q,λp hp=>?_⟩
  have g:=aK.Lf r3.ri hp (.dI (jG xs lo hi));exact h _ _ _ (r3.HF g) (LZ.ki g.gg) ⟨p,_,rfl,bJ.of bT,aq.pg g.gg _ (r.cut lo hi)⟩
 |gs ws=>
  simp only[xo]at hf;split at hf
  .rename_i hw;cases hf;let⟨a,xs,rfl,q,r⟩:=p3;refine .mv ⟨a,xs,rfl,r3.ri.gs q,by rw[r.aj];exact hw,λp hp=>?_⟩
   have g:=aK.Lf r3.ri hp (.gs (jG xs lo hi));exact h _ _ _ (r3.HF g) (LZ.ki g.gg) ⟨p,_,rfl,c7.of bT,aq.pg g.gg _ (r.cut lo hi)⟩
  .cases hf
 |_=>cases hf
def iw:ai W->fv W
 |[.dI ws]=>ab (.gs ws)
 |[.gs ws]=>ab (.gs ws)
 |_=>none
def z9v:oQ K (λxs H Q=>∃p ys,xs=[.bj p]/\((bJ K H p ys/\∀l,H l=none->Q (.bj l) (ot H l (.gs ys)))\/(c7 K H p ys/\Q (.bj p) H))) iw:=by
 intro G H xs ws w Q s pr hf h;unfold iw at hf;split at hf
 .cases hf;let⟨x,r,rfl,px,pr⟩:=pr;cases(show r=[]from pr);let⟨a,ys,rfl,ha,ra⟩:=px;refine⟨a,ys,rfl,.j' ⟨s.pJ ha,λl hl=>?_⟩⟩
  have g:=aK.Lf s hl (.gs ys);exact h _ _ _ g ⟨l,ys,rfl,c7.of bT,aq.pg g.gg _ ra⟩
 .cases hf;let⟨x,r,rfl,px,pr⟩:=pr;cases(show r=[]from pr);let⟨a,ys,rfl,ha,ra⟩:=px;exact⟨a,ys,rfl,.mv ⟨s.gs ha,h G _ H (.uw s) ⟨a,ys,rfl,ha,ra⟩⟩⟩
 .cases hf
theorem y85(hm:X.mg "tuple"=none)(ha:DA Z X EE [e] dA)(hg:autoParam (Gl X "tuple") jJ)(he:autoParam (p5 [e] X.a7=(false,eval e X.a7)::p5 [] X.a7) jJ)(d9:autoParam ((A4 gJ (p5 [] X.a7)).vb (·.1)=false) jJ):DE Z X EE (.wc (.oL "tuple" p) [e] [] gJ) (cw iw dA):=
 P0 Wl z9v L1.Mk.Ε.«tuple» hm ha hg (by decide) (by decide) he d9
theorem z9w(hm:X.mg "len"=none)(ha:DA Z X EE [e] dA)(hg:autoParam (Gl X "len") jJ)(he:autoParam (p5 [e] X.a7=(false,eval e X.a7)::p5 [] X.a7) jJ)(d9:autoParam ((A4 gJ (p5 [] X.a7)).vb (·.1)=false) jJ):DE Z X EE (.wc (.oL "len" p) [e] [] gJ) (cw bG dA):=
 z_ NQ P4 oa.Ņ hm ha hg (by decide) (by decide) he d9
theorem z3y(i:ar)(hm:X.mg "len"=none)(hN:autoParam (X.N[i]?=ab x) jJ)(gK:autoParam (jS X.a7.d0 x) jN)(hd:autoParam ((x==("__debug__":d3))=false) jK)(eE:autoParam ((x==("__classdict__":d3))=false) jK)
  (hg:autoParam (Gl X "len") jJ)(hs:autoParam (p5 [.oL x p] X.a7=(false,eval (.oL x p) X.a7)::p5 [] X.a7) jJ)(d9:autoParam ((A4 gJ (p5 [] X.a7)).vb (·.1)=false) jJ):DE Z X EE (.wc (.oL "len" pn) [.oL x p] [] gJ) (fO i bG):=
 z9k i NQ P4 oa.Ņ hm hN gK hd eE hg (by decide) (by decide) hs d9
def pG:ai W->fv (ai W)
 |[.dI ws]=>ab ws
 |[.gs ws]=>ab ws
 |_=>none
def Å(dA:ke (ai W)):ke (ai W):=λe=>(dA e).r7 λws e1=>bq (pG ws) e1
def z3z(hm:X.mg "list"=none)(ha:DA Z X EE [e] dA)(hg:autoParam (Gl X "list") jJ)(he:autoParam (p5 [e] X.a7=(false,eval e X.a7)::p5 [] X.a7) jJ)(d9:autoParam ((A4 gJ (p5 [] X.a7)).vb (·.1)=false) jJ):DF Z X EE (.wc (.oL "list" p) [e] [] gJ) (Å dA):=by
 refine PE.pg (MZ Wo hg hm L1.Mk.Ε.«list» ha (by decide) (by decide) he d9) ?_;rintro σ H Q ⟨G,e,nN,h⟩;simp only[Å,R.aw,aY]at h;refine⟨G,e,nN,h.vW (λws e1 h G1 vs H1 r1 s1 p1=>?_) λ_ _ h=>h⟩
 let⟨wj,hf,h⟩:=h;unfold pG at hf;split at hf
 .cases hf;let⟨y,r,rfl,py,pr⟩:=p1;cases(show r=[]from pr);let⟨a,ys,rfl,hq,rq⟩:=py;exact⟨a,ys,rfl,.j' (r1.ri.pJ hq),Ck r1 s1 rq h⟩
 .cases hf;let⟨y,r,rfl,py,pr⟩:=p1;cases(show r=[]from pr);let⟨a,ys,rfl,hq,rq⟩:=py;exact⟨a,ys,rfl,.mv (r1.ri.gs hq),Ck r1 s1 rq h⟩
 .cases hf
def mZ:ai S->SR:=λ_=>.no
theorem y86{st:Rl}:DS Z X EE st mZ:=λcf s σ H D I ⟨G,e,r,h⟩=>h.oP
end
section
variable{P:wO}{w:vq}{mg:d3->fv dS}{j3:gw}
def Qa(hF:∀ws,F ws=.no)(h:oi K F vs H Q E):vk:=by
 grind [P1]
theorem M8:∀(ns:ai a6),aq K G (ns.aT W.aO) (ns.aT V.aO)
 |[]=>rfl
 |n::ns=>⟨_,_,rfl,rfl,M8 ns⟩
def z9x{e:dS}(z:eh P w [] H s (λ_ _ _=>vk) e s'):vk:=by
 let⟨_,_,_,_,_,_,_,_,_,_,h⟩:=z;exact h
end
section
variable{e:pN}{d:ke d3}{n:ar}
def Rf(Z:Zt)(X:Cx)(EE:L2.St->XK)(n:ar)(es:ai pN)(d:ke d3):Prop:=PF X es (λsT σ H Q=>sT.aj+n*1000001<=16777216/\∃G e,ro X.K Z G σ H e/\(d e).Uh (λy e'=>∀G' H',ro X.K Z G' σ H' e'->au G G'->Q (sT++y) H') (XH X.K Z EE σ G))
end
section
variable{β:Type}{c:Prop} [ß c]{a:α}{e':ai S}{k:α->ai S->R β}{ks:α->ai S->SR}{x y:R α}{s t:SR}{w:W}{v:dS}{st:S}
theorem z30:(R.ok a e).r7 k=k a e:=rfl
theorem z31:(R.ex v e:R α).r7 k=.ex v e:=rfl
theorem z32:(R.no:R α).r7 k=.no:=rfl
def y87:(if c then x else y).r7 k=if c then x.r7 k else y.r7 k:=by split<;>rfl
theorem YA:(R.ok a e).dr ks=ks a e:=rfl
theorem z9y:(R.ex v e:R α).dr ks=.ex v e:=rfl
theorem z9z:(R.no:R α).dr ks=.no:=rfl
def z33:(if c then x else y).dr ks=if c then x.dr ks else y.dr ks:=by split<;>rfl
def SR.pJ:SR->(ai S->SR)->SR
 |.nx e,b=>b e
 |r,_=>r
def z90{p q:ai S->SR}:ah p q e=(p e).pJ q:=by
 unfold ah SR.pJ;cases p e<;>rfl
theorem z91{q:ai S->SR}:(SR.nx e).pJ q=q e:=rfl
theorem z92{q:ai S->SR}:(SR.rt st e).pJ q=.rt st e:=rfl
theorem z93{q:ai S->SR}:(SR.ex v e).pJ q=.ex v e:=rfl
theorem z94{q:ai S->SR}:(SR.bk e).pJ q=.bk e:=rfl
theorem z95{q:ai S->SR}:(SR.ct e).pJ q=.ct e:=rfl
theorem z96{q:ai S->SR}:(SR.no).pJ q=.no:=rfl
def z34{q:ai S->SR}:(if c then s else t).pJ q=if c then s.pJ q else t.pJ q:=by split<;>rfl
theorem Q4b:(SR.nx e).fn=.ok (.fr .aF):=rfl
theorem Q4c:(SR.rt st e).fn=.ok st:=rfl
theorem Q4d:(SR.ex v e).fn=.ex v:=rfl
theorem Q4e:(SR.no).fn=.no:=rfl
def z97:(if c then s else t).fn=if c then s.fn else t.fn:=by split<;>rfl
theorem y2c:bq (ab a) e=.ok a e:=rfl
theorem y2d:bq (none:fv α) e=.no:=rfl
def y4t{o p:fv α}:bq (if c then o else p) e=if c then bq o e else bq p e:=by split<;>rfl
def sW(i:ar)(e:ai S):fv S->R W
 |ab (.fr w)=>.ok w e
 |ab (.ie none ws)=>.ok (.dI ws) (e.sx i (.fr (.dI ws)))
 |_=>.no
def z98:af i e=sW i e e[i]?:=by
 grind [af,sW]
theorem z99:sW i e (ab (.fr w))=.ok w e:=rfl
theorem z35:sW i e (ab (.ie none ws))=.ok (.dI ws) (e.sx i (.fr (.dI ws))):=rfl
theorem S6:dC w e=.ok w e:=rfl
theorem Q4f{f:W->W->fv W}:ak f da db e=(da e).r7 λx e1=>(db e1).r7 λy e2=>bq (f x y) e2:=rfl
theorem Q4g{f:W->fv W}:me f da e=(da e).r7 λx e1=>bq (f x) e1:=rfl
def uC(e:ai S):W->R fC
 |.bl k=>.ok k e
 |_=>.no
theorem z36:ay da e=(da e).r7 λx e1=>uC e1 x:=rfl
theorem z37{b:fC}:uC e (.bl b)=.ok b e:=rfl
theorem Q0a:f_ da e=(da e).r7 λx e1=>bq (kL x) e1:=rfl
theorem Q0b{p q:ke fC}:iH p q e=(p e).r7 λx e1=>if x=true then q e1 else .ok false e1:=rfl
theorem Q4h{p q:ke fC}:qy p q e=(p e).r7 λx e1=>if x=true then .ok true e1 else q e1:=rfl
theorem Q0c{p:ke fC}:ko p e=(p e).r7 λx e1=>.ok (!x) e1:=rfl
def xK(q:ke W)(e:ai S):W->R W
 |.bl true=>q e
 |.bl false=>.ok (.bl false) e
 |_=>.no
theorem z38{p q:ke W}:jc p q e=(p e).r7 λx e1=>xK q e1 x:=rfl
def Q0d{q:ke W}{b:fC}:xK q e (.bl b)=if b=true then q e else .ok (.bl false) e:=by cases b<;>rfl
def Lg(q:ke W)(e:ai S):W->R W
 |.bl true=>.ok (.bl true) e
 |.bl false=>q e
 |_=>.no
theorem Q0e{p q:ke W}:md p q e=(p e).r7 λx e1=>Lg q e1 x:=rfl
def Q4i{q:ke W}{b:fC}:Lg q e (.bl b)=if b=true then .ok (.bl true) e else q e:=by cases b<;>rfl
def yS(e:ai S):W->R W
 |.bl k=>.ok (.bl (!k)) e
 |_=>.no
theorem z39{p:ke W}:gH p e=(p e).r7 λx e1=>yS e1 x:=rfl
theorem Q0f{b:fC}:yS e (.bl b)=.ok (.bl (!b)) e:=rfl
theorem Q4j{p:ke fC}{q q':ke W}:tD p q q' e=(p e).r7 λx e1=>if x=true then q e1 else q' e1:=rfl
theorem Q0g:ag e=.ok [] e:=rfl
theorem z4a{p:ke W}{q:ke (ai W)}:ae p q e=(p e).r7 λx e1=>(q e1).r7 λxs e2=>.ok (x::xs) e2:=rfl
theorem Q0h{p:ke (ai W)}:aV p e=(p e).r7 λxs e1=>if xs.aj<=16777216 then .ok (.gs xs) e1 else .no:=rfl
theorem Q0i{p:ke (ai W)}:cQ p e=(p e).r7 λxs e1=>if xs.aj<=16777216 then .ok xs e1 else .no:=rfl
theorem Q4k{p:ke (ai W)}:eN p e=(p e).r7 λxs e1=>.ok (.dI xs) e1:=rfl
theorem Q4l{f:ai W->fv W}{p:ke (ai W)}:cw f p e=(p e).r7 λxs e1=>bq (f xs) e1:=rfl
theorem z4b{p:ke (ai W)}:Å p e=(p e).r7 λxs e1=>bq (pG xs) e1:=rfl
theorem Q4m:c_ e=.nx e:=rfl
theorem Q4n:mZ e=.no:=rfl
theorem z4c:jf d e=(d e).dr λ_ e'=>.nx e':=rfl
theorem Q0j:aJ d e=(d e).dr λw e'=>.rt (.fr w) e':=rfl
theorem z4d{d:ke (ai W)}:dD d e=(d e).dr λw e'=>.rt (.ie none w) e':=rfl
def õ(e:ai S):fv S->SR
 |ab (.ie none ws)=>.rt (.ie none ws) e
 |ab (.fr w)=>.rt (.fr w) e
 |_=>.no
def z4e:fU i e=õ e e[i]?:=by
 grind [fU,õ]
theorem z4f:õ e (ab (.ie none ws))=.rt (.ie none ws) e:=rfl
theorem Q0k:õ e (ab (.fr w))=.rt (.fr w) e:=rfl
theorem Q0l{p:ke fC}{q q':ai S->SR}:a9 p q q' e=(p e).dr λx e1=>if x=true then q e1 else q' e1:=rfl
theorem Q0m:aD i d e=(d e).dr λw e'=>.nx (e'.sx i (.fr w)):=rfl
theorem z4g{d:ke (ai W)}:b7 i d e=(d e).dr λw e'=>.nx (e'.sx i (.ie none w)):=rfl
def gE(e:ai S):FR->R W
 |.ok (.fr w)=>.ok w e
 |.ok (.ie none ws)=>.ok (.dI ws) e
 |.ok (.ba kvs)=>.ok (.ba kvs) e
 |.ex c=>.ex c e
 |_=>.no
theorem y88{kvs:Dd}:gE e (.ok (.ba kvs))=.ok (.ba kvs) e:=rfl
def z4h{F:ai W->FR}{d:ke (ai W)}:ao F d e=(d e).r7 λws e1=>gE e1 (F ws):=by
 unfold ao;congr 1
theorem z4i:gE e (.ok (.fr w))=.ok w e:=rfl
theorem y89:gE e (.ok (.ie none ws))=.ok (.dI ws) e:=rfl
theorem z4j:gE e (.ex v)=.ex v e:=rfl
theorem z4k:gE e .no=.no:=rfl
def y9a{f g:FR}:gE e (if c then f else g)=if c then gE e f else gE e g:=by split<;>rfl
def k9(e:ai S):FR->R (ai W)
 |.ok (.ie none ws)=>.ok ws e
 |.ex c=>.ex c e
 |_=>.no
theorem y4u:k9 e (.ok (.ie none ws))=.ok ws e:=rfl
theorem y9b:k9 e (.ex v)=.ex v e:=rfl
def y4v{f g:FR}:k9 e (if c then f else g)=if c then k9 e f else k9 e g:=by split<;>rfl
def uV(i:ar)(b:ai S->SR)(e:ai S):fv (ai W)->SR
 |ab ws=>cy i b ws e
 |none=>.no
def Q0n{b:ai S->SR}:iI i d b e=(d e).dr λw e1=>uV i b e1 (eX w):=by
 unfold iI;congr 1
def z4l{g:ai W->fv (ai W)}{d:ke (ai W)}{b:ai S->SR}:eC i g d b e=(d e).dr λw e1=>uV i b e1 (g w):=by
 unfold eC;congr 1
theorem y4w{b:ai S->SR}:uV i b e (ab ws)=cy i b ws e:=rfl
def SR.Zi:SR->(ai S->SR)->SR
 |.nx e,k=>k e
 |.ct e,k=>k e
 |.bk e,_=>.nx e
 |.rt s e,_=>.rt s e
 |.ex c e,_=>.ex c e
 |.no,_=>.no
def ub{b:ai S->SR}:cy i b (w::ws) e=(b (e.sx i (.fr w))).Zi (cy i b ws):=by
 show(match b (e.sx i (.fr w))with|.nx e'=>cy i b ws e'|.ct e'=>cy i b ws e'|.bk e'=>.nx e'|.rt s e'=>.rt s e'|.ex c e'=>.ex c e'|.no=>.no)=_;cases b (e.sx i (.fr w))<;>rfl
theorem w_{q:ai S->SR}:(SR.nx e).Zi q=q e:=rfl
theorem z4m{q:ai S->SR}:(SR.ct e).Zi q=q e:=rfl
theorem z4n{q:ai S->SR}:(SR.bk e).Zi q=.nx e:=rfl
theorem Xu{q:ai S->SR}:(SR.rt st e).Zi q=.rt st e:=rfl
theorem z4o{q:ai S->SR}:(SR.ex v e).Zi q=.ex v e:=rfl
theorem z4p{q:ai S->SR}:(SR.no).Zi q=.no:=rfl
def y9c{q:ai S->SR}:(if c then s else t).Zi q=if c then s.Zi q else t.Zi q:=by split<;>rfl
def sE{p:ke fC}{b:ai S->SR}{n:ar}:bg p b (n+1) e=(p e).dr λx e1=>if x=true then(b e1).Zi (bg p b n)else .nx e1:=by
 show(p e).dr _=_;congr 1;funext x e1
 split
 .cases b e1<;>rfl
 .rfl
def j8(k:W->R W):fv W->R W
 |none=>.no
 |ab w=>k w
def Q0o:iJ i d e=j8 (λ_=>(d e).r7 λk e1=>j8 (λw=>bq (aW w k) e1) (e1[i]?.r7 S.YZ)) (e[i]?.r7 S.YZ):=by
 grind [iJ,j8]
theorem y4x{k:W->R W}:j8 k (ab w)=k w:=rfl
theorem Q4o:S.YZ (.fr w)=ab w:=rfl
theorem Q0p{b:fv ar}:S.YZ (.ie b ws)=ab (.dI ws):=rfl
def o4(e:ai S)(y:fv W):fv S->R W
 |ab (.fr _)=>bq y e
 |_=>match y with
  |none=>.no
  |ab v=>if a_ v=true then .ok v e else .no
def Q0q{f:ai W->fv W}:fO i f e=j8 (λw=>o4 e (f [w]) e[i]?) (e[i]?.r7 S.YZ):=by
 unfold fO j8;cases q:e[i]? with
 |none=>rfl
 |ab s=>
  cases s with
  |no=>rfl
  |ba _=>rfl
  |dw _ _ _=>rfl
  |fr w=>
   show(match f [w]with|none=>R.no|ab v=>R.ok v e)=o4 e (f [w]) (ab (.fr w));generalize f [w]=y;cases y<;>rfl
  |ie b ws=>
   grind [o4]
theorem Q0r{y:fv W}:o4 e y (ab (.fr w))=bq y e:=rfl
theorem z4q{b:fv ar}{v:W}:o4 e (ab v) (ab (.ie b ws))=if a_ v=true then .ok v e else .no:=rfl
def xM(i:ar)(e:ai S):ai W->fv S->SR
 |[w],ab (.ie b xs)=>if xs.aj<16777216 then .nx (e.sx i (.ie b (xs++[w])))else .no
 |_,_=>.no
def vD(k:SR):fv S->SR
 |ab (.ie _ _)=>k
 |_=>.no
def Q0s{d:ke (ai W)}:dZ i d e=vD ((d e).dr λws e1=>xM i e1 ws e1[i]?) e[i]?:=by
 unfold dZ vD;cases e[i]? with
 |none=>rfl
 |ab s=>cases s with
  |ie b xs=>
   dsimp only;try congr 1
  |_=>rfl
theorem Q4p{k:SR}{b:fv ar}:vD k (ab (.ie b ws))=k:=rfl
theorem Q4q{b:fv ar}{xs:ai W}:xM i e [w] (ab (.ie b xs))=if xs.aj<16777216 then .nx (e.sx i (.ie b (xs++[w])))else .no:=rfl
theorem Q4r{dl dh:ke (fv a6)}:ou d dl dh e=(d e).r7 λw e1=>(dl e1).r7 λlo e2=>(dh e2).r7 λhi e3=>bq (xo w lo hi) e3:=rfl
theorem y4y:c0 e=.ok none e:=rfl
def t4(e:ai S):W->R (fv a6)
 |.aO i=>.ok (ab i) e
 |_=>.no
theorem z4r:eD d e=(d e).r7 λw e1=>t4 e1 w:=rfl
theorem y9d{i:a6}:t4 e (.aO i)=.ok (ab i) e:=rfl
def k_(e:ai S):fv (ai W)->R (ai W)
 |ab wj=>.ok wj e
 |none=>.no
def z4s{cc:ke fC}:iA js cc d ws e=if ws.aj<=16777216 then k_ (bo js e) (cC cc d (gm js (bo js e)) ws)else .no:=by
 grind [iA,k_]
def oW(js:ai ar)(cc:ke fC)(d:ke W)(e:ai S):fv (ai W)->R (ai W)
 |ab ws=>iA js cc d ws e
 |none=>.no
def z4t{di:ke W}{cc:ke fC}:bx js di cc d e=(di e).r7 λw e1=>oW js cc d e1 (eX w):=by
 unfold bx;congr 1
def y9e{g:ai W->fv (ai W)}{di:ke (ai W)}{cc:ke fC}:cX g js di cc d e=(di e).r7 λw e1=>oW js cc d e1 (g w):=by
 unfold cX;congr 1
theorem y2e{cc:ke fC}:oW js cc d e (ab ws)=iA js cc d ws e:=rfl
theorem y2f{wj:ai W}:k_ e (ab wj)=.ok wj e:=rfl
theorem Q0t:bB e=.ok true e:=rfl
theorem y9f:bo [] e=e:=rfl
theorem y4z{j:ar}:bo (j::js) e=bo js (cJ e j):=rfl
theorem z4u:gm [] e=[]:=rfl
theorem y9g{j:ar}:gm (j::js) e=gS e j::gm js e:=rfl
theorem Ip{g:W->W}:∀(ws:ai W),(∀w∈ws,∃e',d (.fr w::pe)=.ok (g w) e')->cC bB d pe ws=ab (ws.aT g)
 |[],_=>rfl
 |w::ws,h=>by
  let⟨e',he⟩:=h w (by simp);show(match d (.fr w::pe)with|.ok y _=>(cC bB d pe ws).aT (y::·)|_=>none)=_;rw[he,Ip ws λu hu=>h u (by simp[hu])]
  rfl
theorem B6{cc:ke fC}:cC cc d pe (w::ws)=(match cc (.fr w::pe)with
  |.ok true e1=>(match d e1 with|.ok y _=>(cC cc d pe ws).aT (y::·)|_=>none)
  |.ok false _=>cC cc d pe ws
  |_=>none):=rfl
end
section
variable{i j:a6}{x y:d3}{b c:fC}{us:ai W}{w:W}
theorem Q0u:ϫ (.aO i) (.aO j)=ab (.aO (i+j)):=rfl
theorem Q0v:ϫ (.str x) (.str y)=if x.aj+y.aj<=16777216 then ab (.str (x++y))else none:=rfl
theorem Q0w:ϫ (.dI ws) (.dI us)=if ws.aj+us.aj<=16777216 then ab (.dI (ws++us))else none:=rfl
theorem Q0x:qk (.aO i) (.aO j)=ab (.aO (i-j)):=rfl
theorem Q0y:gR (.aO i) (.aO j)=if(-18446744073709551616<i/\i<18446744073709551616)\/(-18446744073709551616<j/\j<18446744073709551616)then ab (.aO (i*j))else none:=rfl
theorem z4v:cx (.aO i) (.aO j)=if 0<j/\j<1073741824 then ab (.aO (i / j))else none:=rfl
theorem Q0z:bY (.aO i) (.aO j)=if 0<j then ab (.aO (i%j))else none:=rfl
def Q00:pR (.aO i) (.aO j)=if 0<=j/\j<=1000000/\-18446744073709551616<i/\i<18446744073709551616 then ab (.aO (i^j.t8))else none:=by
 show(if 0<=j/\j<=1000000/\i.ϱ<2^64 then _ else _)=_
 grind
theorem Q4s:l4 (.aO i) (.aO j)=ab (.bl (decide (i<j))):=rfl
theorem Q4t:vm (.aO i) (.aO j)=ab (.bl (decide (i<=j))):=rfl
theorem Q4u:kP (.aO i) (.aO j)=ab (.bl (decide (j<i))):=rfl
theorem Q4v:wG (.aO i) (.aO j)=ab (.bl (decide (j<=i))):=rfl
theorem Q4w:mF (.aO i)=ab (.aO (-i)):=rfl
def Q4x:yN (.aO i) (.aO j)=ab (.bl (decide (i=j))):=by
 show ab (W.bl (i==j))=_;congr 2
def Q4y:yN (.str x) (.str y)=ab (.bl (decide (x=y))):=by
 show ab (W.bl (x==y))=_;congr 2
def Q4z:yN (.bl b) (.bl c)=ab (.bl (decide (b=c))):=by
 show ab (W.bl (b==c))=_;congr 2
def Q40:Zx (.aO i) (.aO j)=ab (.bl (!decide (i=j))):=by
 show ab (W.bl (!(i==j)))=_;congr 2
def Q41:Zx (.str x) (.str y)=ab (.bl (!decide (x=y))):=by
 show ab (W.bl (!(x==y)))=_;congr 2
def Q42:Zx (.bl b) (.bl c)=ab (.bl (!decide (b=c))):=by
 show ab (W.bl (!(b==c)))=_;congr 2
def Q43:j0 (.bl b) (.bl c)=ab (.bl (decide (b=c))):=by
 show ab (W.bl (b==c))=_;congr 2
theorem Q44:j0 .aF .aF=ab (.bl true):=rfl
theorem Q45:j0 (.bl b) .aF=ab (.bl false):=rfl
theorem Q46:j0 (.aO i) .aF=ab (.bl false):=rfl
theorem Q47:j0 (.str x) .aF=ab (.bl false):=rfl
theorem Q48:j0 (.gs ws) .aF=ab (.bl false):=rfl
theorem Q49:j0 (.dI ws) .aF=ab (.bl false):=rfl
def Q01:gh (.bl b) (.bl c)=ab (.bl (!decide (b=c))):=by
 show ab (W.bl (!(b==c)))=_;congr 2
theorem Q02:gh .aF .aF=ab (.bl false):=rfl
theorem Q03:gh (.bl b) .aF=ab (.bl true):=rfl
theorem Q04:gh (.aO i) .aF=ab (.bl true):=rfl
theorem Q05:gh (.str x) .aF=ab (.bl true):=rfl
theorem Q06:gh (.gs ws) .aF=ab (.bl true):=rfl
theorem Q07:gh (.dI ws) .aF=ab (.bl true):=rfl
theorem UC:aW (.gs ws) (.aO i)=ee ws i:=rfl
theorem UB:aW (.dI ws) (.aO i)=ee ws i:=rfl
theorem Q5a:bG [.gs ws]=ab (.aO ws.aj):=rfl
theorem Q5b:bG [.dI ws]=ab (.aO ws.aj):=rfl
theorem Q5c:iw [.dI ws]=ab (.gs ws):=rfl
theorem Q5d:iw [.gs ws]=ab (.gs ws):=rfl
theorem Q5e:pG [.dI ws]=ab ws:=rfl
theorem Q5f:pG [.gs ws]=ab ws:=rfl
theorem Q5g:kL (.bl b)=ab b:=rfl
theorem Q5h:kL (.aO i)=ab (i != 0):=rfl
theorem Q5i:kL .aF=ab false:=rfl
theorem Q5j:kL (.gs ws)=ab (!ws.UD):=rfl
theorem Q5k:kL (.dI ws)=ab (!ws.UD):=rfl
theorem Q5l:eX (.gs ws)=ab ws:=rfl
theorem Q5m:eX (.dI ws)=ab ws:=rfl
theorem Vf:a_ (.aO i)=true:=rfl
theorem Ve:a_ (.bl b)=true:=rfl
theorem Vh:a_ (.str x)=true:=rfl
theorem Vg:a_ .aF=true:=rfl
theorem Vj{lo hi:fv a6}:xo (.dI ws) lo hi=ab (.dI (fm ws lo hi)):=rfl
def at0{xs:ai α}:ee xs 0=xs[0]?:=by
 cases xs with
 |rA=>rfl
 |qY a l=>exact oC (j:=0) rfl
def A'{xs:ai α}:ee xs 1=xs[1]?:=by
 cases xs with
 |rA=>rfl
 |qY a l=>
  cases l with
  |rA=>rfl
  |qY b l=>exact oC (j:=1) rfl
def at2{xs:ai α}:ee xs 2=xs[2]?:=by
 cases xs with
 |rA=>rfl
 |qY a l=>
  cases l with
  |rA=>rfl
  |qY b l=>
   cases l with
   |rA=>rfl
   |qY c l=>exact oC (j:=2) rfl
def Rn{xs:ai α}{k:a6}(h0:0<=k):ee xs k=xs[k.t8]?:=by
 unfold ee nh
 grind
def WL{a b:Yv}(h:d3.Zk a=d3.Zk b):a=b:=by
 rw[d3.zcX,d3.zcX]at h;have h1:(a.vZ.aT ϶.t8).k8=(b.vZ.aT ϶.t8).k8:=_d d3.Yl h;have h2:a.vZ.aT ϶.t8=b.vZ.aT ϶.t8:=by simpa using _d yx.vZ h1
 have h3:a.vZ=b.vZ:=by
  have La:∀c d:϶,c.t8=d.t8->c=d:=λc d e=>by
   apply ϶.ext;exact UInt32.toNat_inj.mp e
  exact(w4g La).mp h2
 exact Yv.ů.mp h3
theorem Q09{a b:Yv}:(d3.Zk a=d3.Zk b)=(a=b):=propext ⟨WL,λh=>by rw[h]⟩
end
def gY:W->fv W
 |.dI ws=>ab (.gs ws.UE)
 |_=>none
def eM:ai W->fv (ai fC)
 |[]=>ab []
 |.bl b::ws=>(eM ws).aT (b::·)
 |_=>none
def ύ:ai W->fv W
 |[.dI ws]=>(eM ws).aT λbs=>.bl (bs.tB id)
 |_=>none
def jk:ai W->fv W
 |[.aO i]=>ab (.aO i)
 |[.bl b]=>ab (.aO (if b then 1 else 0))
 |_=>none
def lX(y x:W):fC:=(eO y x).g6 false
def vd:W->W->fv W
 |x,.gs ws=>if a_ x=true/\ws.tB a_=true then ab (.bl (ws.vb λy=>lX y x))else none
 |x,.dI ws=>if a_ x=true/\ws.tB a_=true then ab (.bl (ws.vb λy=>lX y x))else none
 |_,_=>none
def kF:W->W->fv W
 |x,.gs ws=>if a_ x=true/\ws.tB a_=true then ab (.bl (!ws.vb λy=>lX y x))else none
 |x,.dI ws=>if a_ x=true/\ws.tB a_=true then ab (.bl (!ws.vb λy=>lX y x))else none
 |_,_=>none
def zE(h:a_ w=true)(p:p7 K G w v):fV v=true:=by
 cases w with
 |aF=>cases p;rfl
 |bl b=>cases p;rfl
 |aO b=>cases p;rfl
 |str b=>cases p;rfl
 |_=>cases h
def z4w(h:a_ w=true)(h':a_ u=true)(p:p7 K G w v)(q:p7 K G u x):qz v x=lX w u:=by
 cases w<;>cases u<;>first|(cases p;cases q;rfl)|exact uP (show false=true from h') w1m|exact uP (show false=true from h) w1m
theorem zO{u:W}{x:V}(hu:a_ u=true)(q:p7 K G u x):∀{ws:ai W}{xs:ai V},ws.tB a_=true->aq K G ws xs->xs.tB fV=true/\Br x xs=ws.vb λy=>lX y u
 |[],xs,_,r=>by cases r;exact⟨rfl,rfl⟩
 |w::ws,xs,h,r=>by
  let⟨y,r',rfl,p,r⟩:=r;rw[w2w,w0t]at h;let⟨i1,i2⟩:=zO hu q h.2 r;refine⟨by rw[w2w,zE h.1 p,i1];rfl,?_⟩;show(qz y x||Br x r')=(lX w u||ws.vb _);rw[z4w h.1 hu p q,i2]
def SN:g8 K (CC K false) vd:=by
 intro G H x y wx wy w Q s px py hf h;cases wy with
 |gs ws=>
  simp only[vd]at hf;split at hf
  .rename_i hc;cases hf;let⟨a,xs,rfl,ha,ra⟩:=py;let⟨i1,i2⟩:=zO hc.1 px hc.2 ra;refine⟨a,xs,rfl,.mv (s.gs ha),zE hc.1 px,i1,?_⟩;rw[i2];exact h G _ H (.uw s) rfl
  .cases hf
 |dI ws=>
  simp only[vd]at hf;split at hf
  .rename_i hc;cases hf;let⟨a,xs,rfl,ha,ra⟩:=py;let⟨i1,i2⟩:=zO hc.1 px hc.2 ra;refine⟨a,xs,rfl,.j' (s.pJ ha),zE hc.1 px,i1,?_⟩;rw[i2];exact h G _ H (.uw s) rfl
  .cases hf
 |_=>simp[vd]at hf
def Rv:g8 K (CC K true) kF:=by
 intro G H x y wx wy w Q s px py hf h;cases wy with
 |gs ws=>
  simp only[kF]at hf;split at hf
  .rename_i hc;cases hf;let⟨a,xs,rfl,ha,ra⟩:=py;let⟨i1,i2⟩:=zO hc.1 px hc.2 ra;refine⟨a,xs,rfl,.mv (s.gs ha),zE hc.1 px,i1,?_⟩;rw[i2];exact h G _ H (.uw s) rfl
  .cases hf
 |dI ws=>
  simp only[kF]at hf;split at hf
  .rename_i hc;cases hf;let⟨a,xs,rfl,ha,ra⟩:=py;let⟨i1,i2⟩:=zO hc.1 px hc.2 ra;refine⟨a,xs,rfl,.j' (s.pJ ha),zE hc.1 px,i1,?_⟩;rw[i2];exact h G _ H (.uw s) rfl
  .cases hf
 |_=>simp[kF]at hf
def zaz:A5 K (λx H1 Q=>∃p ys,x=.bj p/\bJ K H1 p ys/\∀l,H1 l=none->Q (.bj l) (ot H1 l (.gs ys.UE))) gY:=by
 intro G H x wx w Q s px hf h;unfold gY at hf;split at hf
 .cases hf;let⟨a,xs,rfl,ha,ra⟩:=px;refine⟨a,xs,rfl,s.pJ ha,λl hl=>?_⟩
  have g:=aK.Lf s hl (.gs xs.UE);exact h _ _ _ g ⟨l,_,rfl,c7.of bT,aq.pg g.gg _ ra.UE⟩
 .cases hf
def Mu:∀{bs:ai fC},eM ws=ab bs->ws=bs.aT .bl:=by
 induction ws with
 |rA=>intro bs h;cases h;rfl
 |qY w ws ih=>
  intro bs h;cases w with
  |bl b=>
   let⟨cs,h1,rfl⟩:=w0l.mp (show(eM ws).aT (b::·)=ab bs from h);exact _d _ (ih h1)
  |_=>cases h
theorem Hg:∀(bs:ai fC),eM (bs.aT .bl)=ab bs
 |[]=>rfl
 |b::bs=>by
  show(eM (bs.aT W.bl)).aT (b::·)=_;rw[Hg bs];rfl
theorem GF:∀{bs:ai fC}{xs:ai V},aq K G (bs.aT W.bl) xs->xs=bs.aT V.bl
 |[],xs,h=>h
 |b::bs,xs,h=>by
  let⟨x,r,rfl,h1,h2⟩:=h;rw[GF h2,show x=V.bl b from h1];rfl
def Rw:oQ K (λxs H Q=>∃p ys,xs=[.bj p]/\bJ K H p ys/\(∀y∈ys,∃b,y=.bl b)/\Q (.bl (ys.tB λy=>decide (y=.bl true))) H) ύ:=by
 intro G H xs ws w Q s pr hf h;unfold ύ at hf;split at hf
 .let⟨bs,hb,rfl⟩:=w0l.mp hf;have:=Mu hb;subst this;let⟨x,r,rfl,px,pr⟩:=pr;cases(show r=[]from pr);let⟨a,ys,rfl,ha,ra⟩:=px;have:=GF ra;subst this;refine⟨a,_,rfl,s.pJ ha,λy hy=>?_,h G _ H (.uw s) ?_⟩
  .let⟨b,_,rfl⟩:=w0o.mp hy;exact⟨b,rfl⟩
  .show V.bl _=V.bl _;congr 1;rw[w4v];congr 1;funext b
   cases b<;>rfl
 .cases hf
def Rx:oQ K (λxs H Q=>(∃i,xs=[.aO i]/\Q (.aO i) H)\/∃k,xs=[.bl k]/\Q (.aO (if k then 1 else 0)) H) jk:=by
 intro G H xs ws w Q s pr hf h;unfold jk at hf;split at hf
 .cases hf;let⟨x,r,rfl,px,pr⟩:=pr;cases(show r=[]from pr);cases px;exact .j' ⟨_,rfl,h G _ H (.uw s) rfl⟩
 .cases hf;let⟨x,r,rfl,px,pr⟩:=pr;cases(show r=[]from pr);cases px;exact .mv ⟨_,rfl,h G _ H (.uw s) rfl⟩
 .cases hf
section
variable{a b c e:pN}{p sC kG:vY}{x:d3}
theorem Q5o(hu:X.A.xT+150<xH)(ha:DE Z X EE a da)(hb:DE Z X EE b db)(hm:_t .In b=false:=by with_unfolding_all rfl):DT Z X EE (.YT a [.In] [b] gJ) (ay (ak vd da db)):=qN X6 SN ha hb hm
theorem Q1d(hu:X.A.xT+150<xH)(ha:DE Z X EE a da)(hb:DE Z X EE b db)(hm:_t ._o b=false:=by with_unfolding_all rfl):DT Z X EE (.YT a [._o] [b] gJ) (ay (ak kF da db)):=qN Wn Rv ha hb hm
theorem y41(hc:X.TR=true)(Eb:X.mg "tuple"=none)(u9:X.mg "reversed"=none)(he:DE Z X EE e da)(DZ:autoParam (Gl X "tuple") jJ)(pf:autoParam (Gl X "reversed") jJ)
  (m9:autoParam (p5 [.wc (.oL "reversed" p2) [e] [] kG] X.a7=(false,eval (.wc (.oL "reversed" p2) [e] [] kG) X.a7)::p5 [] X.a7) jJ)(iW:autoParam (p5 [e] X.a7=(false,eval e X.a7)::p5 [] X.a7) jJ):
  DE Z X EE (.wc (.oL "tuple" p1) [.wc (.oL "reversed" p2) [e] [] kG] [] sC) (me gY da):=PE.pg (X7 hc Eb u9 he DZ pf m9 iW) (OX zaz)
theorem Q1e(hc:X.TR=true)(hm:X.mg "all"=none)(ha:DA Z X EE [e] dA)(hg:autoParam (Gl X "all") jJ)(he:autoParam (p5 [e] X.a7=(false,eval e X.a7)::p5 [] X.a7) jJ)(d9:autoParam ((A4 gJ (p5 [] X.a7)).vb (·.1)=false) jJ):DE Z X EE (.wc (.oL "all" p) [e] [] gJ) (cw ύ dA):=
 z_ (za_ hc) Rw L1.Mk.Ε.«all» hm ha hg (by decide) (by decide) he d9
theorem z4x(hm:X.mg "int"=none)(ha:DA Z X EE [e] dA)(hg:autoParam (Gl X "int") jJ)(he:autoParam (p5 [e] X.a7=(false,eval e X.a7)::p5 [] X.a7) jJ)(d9:autoParam ((A4 gJ (p5 [] X.a7)).vb (·.1)=false) jJ):DE Z X EE (.wc (.oL "int" p) [e] [] gJ) (cw jk dA):=
 P0 X4 Rx L1.Mk.Ε.«int» hm ha hg (by decide) (by decide) he d9
end
theorem y9h:gY (.dI ws)=ab (.gs ws.UE):=rfl
def JT{bs:ai fC}:ύ [.dI (bs.aT .bl)]=ab (.bl (bs.tB id)):=by
 show(eM (bs.aT W.bl)).aT _=_;rw[Hg];rfl
theorem Q5p{i:a6}:jk [.aO i]=ab (.aO i):=rfl
theorem Q5q:jk [.bl b]=ab (.aO (if b then 1 else 0)):=rfl
theorem Kd:((0:ar):a6)=0:=rfl
theorem Ke:((1:ar):a6)=1:=rfl
theorem Jz{b:ai S->SR}(I:ar->ai S->Prop):∀(ws:ai W)(k:ar)(e:ai S),I k e->(∀(j:ar)(w:W)(e:ai S),ws[j]?=ab w->I (k+j) e->∃e',b (e.sx i (.fr w))=.nx e'/\I (k+j+1) e')->∃e',cy i b ws e=.nx e'/\I (k+ws.aj) e'
 |[],k,e,h0,_=>⟨e,rfl,h0⟩
 |w::ws,k,e,h0,h=>by
  let⟨e1,h1,h2⟩:=h 0 w e rfl h0
  let⟨e2,h3,h4⟩:=Jz I ws (k+1) e1 h2 λj u e hu hI=>by
   have z:=h (j+1) u e (by simpa using hu) (by grind);rw[show k+(j+1)+1=k+1+j+1 by omega]at z;exact z
  grind [ub,w_]
def Hh:(bK lo hi).aj=(hi-lo).t8:=by simp[bK]
def zaA(h:(bK lo hi)[j]?=ab w):w=.aO (lo+j)/\j<(hi-lo).t8:=by
 grind [bK]
def vL(n)(hn:(hi-lo).t8=n)(I:ar->ai S->Prop)(e)(h0:I 0 e)(h:∀(j:ar)(e:ai S),j<n->I j e->∃e',b (e.sx i (.fr (.aO (lo+j))))=.nx e'/\I (j+1) e'):∃e',cy i b (bK lo hi) e=.nx e'/\I n e':=by
 let⟨e',h1,h2⟩:=Jz (b:=b) (i:=i) I (bK lo hi) 0 e h0 λj w e hw hI=>by
  let⟨rfl,hj⟩:=zaA hw
  grind
 rw[Hh,hn,w1p]at h2;exact⟨e',h1,h2⟩
def tE(F:ai W->FR)(i:ar)(dA:ke (ai W)):ke W:=λe=>match e[i]? with
 |ab (.ie _ _)=>(dA e).r7 λus e1=>match e1[i]? with
  |ab (.ie _ ws)=>match F (.dI ws::us)with
   |.ok (.fr w)=>if a_ w=true then .ok w e1 else .no
   |_=>.no
  |_=>.no
 |_=>.no
mutual
noncomputable def cU(K:Fg):W->Value->Bool
 |.aF,u=>match u with|.none=>true|_=>false
 |.bl b,u=>match u with|.bool c=>b==c|_=>false
 |.int i,u=>match u with|.int j _=>decide (i=j)|_=>false
 |.str x,u=>match u with|.str y _=>decide (x=y)|_=>false
 |.tup ws,u=>match u with
  |.ref a=>match K.lookup a with
   |some o=>(o.cls==.type "tuple"&&o.dict.isNone)&&(match o.data with|.seq ax _=>Nat.ble ax.size 1000000&&jb K ws ax.toList|_=>false)
   |none=>false
  |_=>false
 |.lst _,_=>false
 |.exc _,_=>false
 |.ba _,_=>false
 |.dw _ _ _ _,_=>false
 |.fn _ _ _,_=>false
noncomputable def jb(K:Fg):List W->List Value->Bool
 |[],us=>us.isEmpty
 |w::ws,us=>match us with
  |u::us=>cU K w u&&jb K ws us
  |[]=>false
end
mutual
theorem O2{K:Fg}:∀(w:W){u:Value},cU K w u=true->∃v,RelV v u/\∀G,Rep K G w v
 |.aF,u,h=>by
  unfold cU at h;split at h
  .exact⟨.aF,rfl,λ_=>rfl⟩
  .cases h
 |.bl b,u,h=>by
  unfold cU at h;split at h
  .rename_i c;have:b=c:=by simpa using h
   exact⟨.bl b,by rw[this];rfl,λ_=>rfl⟩
  .cases h
 |.int i,u,h=>by
  unfold cU at h;split at h
  .rename_i j t;have:i=j:=by simpa using h
   exact⟨.int i,⟨t,by rw[this]⟩,λ_=>rfl⟩
  .cases h
 |.str x,u,h=>by
  unfold cU at h;split at h
  .rename_i y t;have:x=y:=by simpa using h
   exact⟨.str x,⟨t,by rw[this]⟩,λ_=>rfl⟩
  .cases h
 |.tup ws,u,h=>by
  unfold cU at h;split at h
  .rename_i a;split at h
   .rename_i o ho;rw[w0t]at h;let⟨h1,h2⟩:=h;split at h2
    .rename_i ax n hd;rw[w0t]at h2;let⟨h3,h4⟩:=h2;let⟨xs,r,q⟩:=NW ws h4;exact⟨.ref a,rfl,λG=>⟨a,xs,rfl,.inr ⟨o,ax,n,ho,by grind,Option.isNone_iff_eq_none.mp ((w0t _ _).mp h1).2,hd,by rw[sizeLine_eq];have:=w3r h3;omega,r⟩,q G⟩⟩
    .cases h2
   .cases h
  .cases h
 |.lst _,u,h=>by grind [cU]
 |.exc _,u,h=>by grind [cU]
 |.ba _,u,h=>by grind [cU]
 |.dw _ _ _ _,u,h=>by grind [cU]
 |.fn _ _ _,u,h=>by grind [cU]
theorem NW{K:Fg}:∀(ws:List W){us:List Value},jb K ws us=true->∃xs,Vals xs us/\∀G,aq K G ws xs
 |[],us,h=>by
  unfold jb at h;cases us with
  |nil=>exact⟨[],.nil,λ_=>rfl⟩
  |cons _ _=>cases h
 |w::ws,us,h=>by
  unfold jb at h;cases us with
  |nil=>cases h
  |cons u us=>
   rw[w0t]at h;let⟨v,r,q⟩:=O2 w h.1;let⟨xs,r',q'⟩:=NW ws h.2;exact⟨v::xs,.cons r r',λG=>⟨v,xs,rfl,q G,q' G⟩⟩
end
def q8v{x:d3}{w:W}{u:dS}(hm:X.mg x=ab u)(hc:cU X.K w u=true)(hg:autoParam (Gl X x) jJ)(hd:autoParam ((x==("__debug__":d3))=false) jK):DE Z X EE (.oL x gJ) (dC w):=by
 let⟨v,r,q⟩:=O2 w hc;exact PE.pg (OH hg hm r hd) λσ H Q ⟨G,e,nN,h⟩=>h G v H nN (.uw _) (q G)
def VH(l)(p9)(n)(b)(ky)(n2)(T)(hT : T = "list" \/ T = "tuple")(Uj : ¬(!p9.UD && u5.ai.Ñ (p9.dt + ky.dt)) = true)(m9 : p9.dt <= vr)(iW : p9.dt + ky.dt <= vr + 1) :
  _N (u5.«list.extend» { gJ := [dS.bj l, dS.bj b] }) fun _ R s =>
     s.a5.g0 l = ab { oh := dS.ny "list", oo := Þ.pJ p9 n } /\
      (∃ o, s.a5.g0 b = ab o /\ o.oh = .ny T /\ o.oo = Þ.pJ ky n2) /\
       R (Except.ok (Flow.KJ dS.none)) { s with a5 := s.a5.Yk l (sy.Ys λx => x ++ ky) } := by
 refine _N._Y λjd w A R s h => ?_
 let⟨hl, ⟨o, hb, hc, hd⟩, h⟩:= h;let⟨oh, we, oo, Zd⟩:= o;simp only at hc hd;subst hc hd;refine lb (lb (zea rfl (tW (tW ?_))));refine lb (lb (AutoSeq1.ā hb (tW (zea ?_ ?_))))
 .grind
 refine lb (lb (lb (wpAny_load' hb (tW (tW ?_)))));refine lb (lb (lb (wpAny_load' hl (tW (tW ?_)))));refine zd' (by simpa using Uj) ?_;exact lb (Ķ hl rfl (tW ⟨_, rfl, h⟩) m9 (by grind))
def Ag(K:Fg):V->ai V->Hp->VK->Prop:=λx vs H Q=>∃l b xs zs,x=.bj l/\vs=[.bj b]/\H l=ab (.dI xs)/\(bJ K H b zs\/c7 K H b zs)/\xs.aj+zs.aj<=vr/\Q .aF (ot H l (.dI (xs++zs)))
def Ry:Di X "list.extend" (Ag X.K):=by
 intro cf s σ H x vs v us Q I rx rv h;let⟨l,b,xs,zs,rfl,rfl,hH,hB,hz,q⟩:=h;cases rx;let⟨u,rfl,ru⟩:=rv.Zg;cases ru;let⟨z,ax,n,r,hl,e⟩:=I.yH hH
 have ye:∀(T:Yv)(fu:ai dS)(n2:ar)(o:sy),T="list"\/T="tuple"->sS zs fu->s.a5.g0 b=ab o->o.oh=.ny T->o.oo=.pJ fu.k8 n2->oS (q_ X.jd X.w) X.A (yd (.yR "list.extend") [.bj l,.bj b]) (EP X cf σ Q) X.xe s:=λT fu n2 o hT r2 e2 hc hd=>by
  have yn:=r2.aj;have hsz:ax.k8.dt+fu.k8.dt<=vr:=by grind
  have pk:¬(!ax.k8.UD&&u5.ai.Ñ (ax.k8.dt+fu.k8.dt))=true:=by
   simp_all [lJ]
  refine Ξ F.zds ⟨_,e,rfl⟩ F.entry_list_extend (F.args_list_extend_2 _ _)
   (VH l ax.k8 n b fu.k8 n2 T hT pk (by grind) (by omega)) ⟨e,⟨o,e2,hc,hd⟩,?_⟩
  refine⟨.aF,_,I.yG (its':=ax++fu) hH e (by simp) (r.YX r2) ?_,rfl,q⟩
  grind
 rcases hB with hB|hB
 .let⟨fu,r2,pl,_⟩:=I.xE hB;let⟨o,e2,hc,n2,hd⟩:=pl.yP
  grind
 .let⟨fu,r2,⟨o,e2,hc,n2,hd⟩,_⟩:=I.UH hB
  grind
def ma(i:ar)(d:ke (ai W)):ai S->SR:=λe=>match e[i]? with
 |ab (.ie _ _)=>(d e).dr λws e1=>match ws,e1[i]? with
  |[w],ab (.ie b xs)=>match eX w with
   |ab ys=>if xs.aj+ys.aj<=16777216 then .nx (e1.sx i (.ie b (xs++ys)))else .no
   |none=>.no
  |_,_=>.no
 |_=>.no
section
variable{e:pN}{p:vY}{x:d3}
def Q1g(i:ar)(ha:DA Z X EE (e::es) dA)(hN:autoParam (X.N[i]?=ab x) jJ)(hv:autoParam (jS X.a7.d0 x) jN)(hd:autoParam ((x==("__debug__":d3))=false) jK)(eE:autoParam ((x==("__classdict__":d3))=false) jK)
  (dF:autoParam (Ϗ (.oL x p) "extend" X.a7 (eval (.oL x p) X.a7)=eval (.oL x p) X.a7) jJ)
  (dJ:autoParam (((A4 bI (p5 (e::es) X.a7)).tB (λx=>!x.1)&&(ϐ bI (ϝ [] X.a7)).tB (λx=>x.1.Bt)&&decide ((e::es).aj+([]:ai ZI).aj+(if([]:ai ZI).UD then 0 else 1)<30))=true) jJ)
  (dN:autoParam ((YW.ϖ==bI.Yq)=true) jJ)(hs:autoParam (p5 (e::es) X.a7=(false,eval e X.a7)::p5 es X.a7) jJ)(cK:autoParam ((A4 bI (p5 es X.a7)).vb (·.1)=false) jJ)
  (r8:autoParam (ZO (.wc (.Δ (.oL x p) "extend" YW) (e::es) [] bI) none gJ.Yq X.a7=vo false) jJ):
  DS Z X EE (.pN (.wc (.Δ (.oL x p) "extend" YW) (e::es) [] bI) gJ) (ma i dA):=by
 refine PS.pg (IM (JO oa.F.ę oa.F.zds oa.F.type_list_extend Ry (pv i hN hv hd eE) ha dF dJ dN hs cK) r8) ?_;rintro D σ H ⟨G,e,nN,h⟩;unfold ma at h;split at h
 .rename_i b0 HY rQ;let⟨a,xs,h1,h2,h3,h4,h5⟩:=nN.ie rQ;refine⟨.bj a,h1,.j' ⟨rfl,xs,bJ.of h2⟩,G,e,nN,(kR h).vW (λws e1 h G1 vs H1 r1 s1 p1=>?_) λ_ _ h=>h⟩
  split at h
  .rename_i w b ys yh;let⟨a',zs,g1,g2,g3,g4,g5⟩:=r1.ie yh;rw[h1]at g1;cases g1;let⟨y,r,rfl,py,pr⟩:=p1;cases(show r=[]from pr);split at h
   .rename_i us hu;split at h
    .rename_i hl
     have Zy:∀c cs,y=.bj c->(bJ X.K G1 c cs\/c7 X.K G1 c cs)->aq X.K G1 us cs->Ag X.K (.bj a) [y] H1 (λv H'=>D.nx σ H'):=λc cs hy hq hr=>by
      subst hy;refine⟨a,c,zs,cs,rfl,rfl,g2,?_,by rw[g5.aj,hr.aj,Yf];exact hl,?_⟩
      .rcases hq with q|q
       .exact .j' (r1.ri.pJ q)
       .exact .mv (r1.ri.gs q)
      .exact h G1 σ _ (r1.mut yh h1 (g5.YX hr)) s1
     unfold eX at hu;split at hu
     .cases hu;let⟨c,cs,hy,q,hr⟩:=py;exact Zy c cs hy (.mv q) hr
     .cases hu;let⟨c,cs,hy,q,hr⟩:=py;exact Zy c cs hy (.j' q) hr
     .cases hu
    .exact h.oP
   .exact h.oP
  .exact h.oP
 .exact h.oP
end
def nQ(i:ar)(dv dk:ke W):ai S->SR:=λe=>(dv e).dr λw e1=>match e1[i]? with
 |ab (.ie _ _)=>(dk e1).dr λk e2=>match k,e2[i]? with
  |.aO k,ab (.ie b ws)=>match nh ws.aj k with
   |ab j=>.nx (e2.sx i (.ie b (ws.sx j w)))
   |none=>.no
  |_,_=>.no
 |_=>.no
section
variable{e k:pN}{dk:ke W}{p iu:vY}{x:d3}
def Q1h(i:ar)(he:DE Z X EE e d)(hk:DE Z X EE k dk)(hN:autoParam (X.N[i]?=ab x) jJ)(hv:autoParam (jS X.a7.d0 x) jN)(hd:autoParam ((x==("__debug__":d3))=false) jK)(eE:autoParam ((x==("__classdict__":d3))=false) jK)
  (ha:∀v,_r (.Yw (.oL x p) k iu) X.a7 v=(do
   let ov <- _U [v] (eval (.oL x p) X.a7)
   let iv <- _U [v,ov] (eval k X.a7)
   Ú iu
   _U [v,ov,iv] (Ğ ov iv v)
   release [v,ov,iv] []):=by intro _;rfl)
  (hs:autoParam (zdx [.Yw (.oL x p) k iu] e gJ.Yq X.a7=vo false) jJ)(hw:autoParam (zdw [.Yw (.oL x p) k iu] e X.a7=vo none) jJ)
  (h1:autoParam ((Zs [.Yw (.oL x p) k iu] X.a7).aT (·.2)=[_r (.Yw (.oL x p) k iu) X.a7]) jJ):
  DS Z X EE (.ZR [.Yw (.oL x p) k iu] e gJ) (nQ i d dk):=by
 refine PS.pg (z8d he (z8c (pv i hN hv hd eE) hk za7 ha) hs hw h1) ?_;rintro D σ H ⟨G,e,nN,h⟩;refine⟨G,e,nN,(kR h).vW (λw e1 h G1 v1 H1 r1 s1 p1=>?_) λ_ _ h=>h⟩
 split at h
 .rename_i b0 HY rQ;let⟨a,xs,q1,q2,q3,q4,q5⟩:=r1.ie rQ;refine⟨.bj a,q1,G1,e1,r1,(kR (σ:=σ) h).vW (λkw e2 h G2 v2 H2 r2 s2 p2=>?_) λ_ _ h G' H' r s=>h G' H' r (s1.ki s)⟩
  .split at h
   .rename_i kk b ws ox;let⟨a',zs,g1,g2,g3,g4,g5⟩:=r2.ie ox;rw[q1]at g1;cases g1;cases p2;split at h
    .rename_i j hj;refine⟨a,zs,_,j,rfl,rfl,g2,by rw[g5.aj];exact hj,?_⟩;exact h G2 σ _ (r2.mut ox q1 (g5.sx j (p7.pg s2 w p1))) (s1.ki s2)
    .exact h.oP
   .exact h.oP
 .exact h.oP
end
def UJ:W->W->fv W
 |.str i,.str j=>ab (.bl (decide (i.Yl.vZ<j.Yl.vZ)))
 |_,_=>none
def A6(K:Fg)(r:V->ai V->Hp->VK->Prop)(f:W->ai W->fv W):Prop:=∀(G H:Hp)(x:V)(xs:ai V)(wx:W)(ws:ai W)(w:W)(Q:VK),au G H->p7 K G wx x->aq K G ws xs->f wx ws=ab w->(∀G' v H',aK G H G' H'->p7 K G' w v->Q v H')->r x xs H Q
def j7(T:Yv):W->fC
 |.str _=>T=="str"
 |.dI _=>T=="list"
 |_=>false
def e5(T:Yv)(f:W->ai W->fv W)(d:ke W)(dA:ke (ai W)):ke W:=λe=>(d e).r7 λx e1=>if j7 T x=true then(dA e1).r7 λws e2=>bq (f x ws) e2 else .no
section
variable{o e:pN}{p:vY}{x:d3}
def Jd{T id:Yv}{name:d3}{r:V->ai V->Hp->VK->Prop}{f:W->ai W->fv W}(pa:ſ T)(yM:Slot T name id)(Et:typeOf (.yR id)=vo (.ny "method_descriptor"))(hm:uF X id r)(hf:A6 X.K r f)(ho:DE Z X EE o d)(ha:DA Z X EE (e::es) dA)
  (dF:autoParam (Ϗ o name X.a7 (eval o X.a7)=eval o X.a7) jJ)
  (dJ:autoParam (((A4 bI (p5 (e::es) X.a7)).tB (λx=>!x.1)&&(ϐ bI (ϝ [] X.a7)).tB (λx=>x.1.Bt)&&decide ((e::es).aj+([]:ai ZI).aj+(if([]:ai ZI).UD then 0 else 1)<30))=true) jJ)
  (dN:autoParam ((YW.ϖ==bI.Yq)=true) jJ)(hs:autoParam (p5 (e::es) X.a7=(false,eval e X.a7)::p5 es X.a7) jJ)(cK:autoParam ((A4 bI (p5 es X.a7)).vb (·.1)=false) jJ):
  DE Z X EE (.wc (.Δ o name YW) (e::es) [] bI) (e5 T f d dA):=by
 refine PE.pg (JO pa yM Et hm ho ha dF dJ dN hs cK) ?_;rintro σ H Q ⟨G,e,nN,h⟩;simp only[e5,R.aw]at h;refine⟨G,e,nN,h.vW (λwx e1 h G1 v1 H1 r1 s1 p1=>?_) λ_ _ h=>h⟩
 split at h
 .rename_i hk;refine⟨?_,G1,e1,r1,(R.aw.mp h).vW (λws e2 h G2 vs H2 r2 s2 p2=>?_) λ_ _ h=>XH.ki s1 h⟩
  .cases wx with
   |str z=>cases p1;exact(by simpa [j7]using hk:T="str")
   |dI ws=>
    let⟨a,xs,rfl,q,_⟩:=p1;exact .j' ⟨by simpa [j7]using hk,xs,r1.ri.pJ q⟩
   |_=>cases hk
  .let⟨w,hw,h⟩:=aY.mp h;exact hf G2 H2 v1 vs wx ws w Q r2.ri (p7.pg s2 wx p1) p2 hw λG' v H' g p=>h G' v H' (r2.HF g) ((s1.ki s2).ki g.gg) p
 .exact h.oP
end
def iE:ai W->fv (ai d3)
 |[]=>ab []
 |.str x::r=>(iE r).aT (x::·)
 |_=>none
def jl(_i:d3)(ys:ai d3):fC:=ar.ble ((ys.aT λx=>x.aj).sum+ys.aj*_i.aj) 16777216
def lD:W->ai W->fv W
 |.str _i,[w]=>match eX w with
  |ab ws=>match iE ws with
   |ab ys=>if jl _i ys=true then ab (.str (_q._D _i ys))else none
   |none=>none
  |none=>none
 |_,_=>none
def Ĝ(K:Fg):V->ai V->Hp->VK->Prop:=λx vs H Q=>∃_i b zs ys,x=.str _i/\vs=[.bj b]/\(bJ K H b zs\/c7 K H b zs)/\zs=ys.aT V.str/\jl _i ys=true/\Q (.str (_q._D _i ys)) H
theorem Iq:∀{ys:ai d3}{ax:ai dS},sS (ys.aT V.str) ax->L1.Mk.ļ ax ys
 |[],ax,h=>by cases h;exact .rA
 |y::ys,ax,h=>by
  cases h with
  |qY r t=>
   let⟨k,rfl⟩:=r;exact .qY y k (Iq t)
def z4y:uF X "str.join" (Ĝ X.K):=by
 intro cf s σ H x vs v us Q I rx rv h;let⟨_i,b,zs,ys,rfl,rfl,hB,rfl,hz,q⟩:=h;let⟨t,rfl⟩:=rx;let⟨u,rfl,ru⟩:=rv.Zg;cases ru;have K4:=w3r hz;have ye:∀(t':ε)(k:ar),EP X cf σ Q (dS.str (_q._D _i ys) t') {s with sP:=k}:=λt' k=>⟨.str _,H,I.Yn k,⟨t',rfl⟩,q⟩
 rcases hB with hB|hB
 .let⟨ax,r,pl,_⟩:=I.xE hB;exact L1.Mk.ē pl.yP (by simpa using Iq r) K4 ye
 .let⟨ax,r,pl,_⟩:=I.UH hB;exact L1.Mk.join_tuple pl (by simpa using Iq r) K4 ye
def zaM:∀{ys:ai d3}{xs:ai V},iE ws=ab ys->aq K G ws xs->xs=ys.aT V.str:=by
 induction ws with
 |rA=>intro ys xs h r;cases h;exact r
 |qY w ws ih=>
  intro ys xs h r;cases w with
  |str x=>
   let⟨zs,h1,rfl⟩:=w0l.mp (show(iE ws).aT (x::·)=ab ys from h);let⟨v,t,rfl,p,q⟩:=r;cases p;exact _d _ (ih h1 q)
  |_=>cases h
def z4z:A6 K (Ĝ K) lD:=by
 intro G H x xs wx ws w Q s px pr hf h;unfold lD at hf;split at hf
 .rename_i _i w0;let⟨y,r,rfl,py,pr⟩:=pr;cases(show r=[]from pr);cases px;split at hf
  .rename_i us hu;split at hf
   .rename_i ys hy;split at hf
    .rename_i ho;cases hf
     have Zy:∀c cs,y=.bj c->(bJ K G c cs\/c7 K G c cs)->aq K G us cs->Ĝ K (.str _i) [y] H Q:=λc cs hc hq hr=>by
      subst hc;refine⟨_i,c,cs,ys,rfl,rfl,?_,zaM hy hr,ho,h G _ H (.uw s) rfl⟩;rcases hq with q|q
      .exact .j' (s.pJ q)
      .exact .mv (s.gs q)
     unfold eX at hu;split at hu
     .cases hu;let⟨c,cs,hc,q,hr⟩:=py
      grind
     .cases hu;let⟨c,cs,hc,q,hr⟩:=py
      grind
     .cases hu
    .cases hf
   .cases hf
  .cases hf
 .cases hf
section
variable{o e:pN}
theorem z40(ho:DE Z X EE o d)(ha:DA Z X EE [e] dA)
  (dF:autoParam (Ϗ o "join" X.a7 (eval o X.a7)=eval o X.a7) jJ)
  (dJ:autoParam (((A4 bI (p5 [e] X.a7)).tB (λx=>!x.1)&&(ϐ bI (ϝ [] X.a7)).tB (λx=>x.1.Bt)&&decide ([e].aj+([]:ai ZI).aj+(if([]:ai ZI).UD then 0 else 1)<30))=true) jJ)
  (dN:autoParam ((YW.ϖ==bI.Yq)=true) jJ)(hs:autoParam (p5 [e] X.a7=(false,eval e X.a7)::p5 [] X.a7) jJ)(cK:autoParam ((A4 bI (p5 [] X.a7)).vb (·.1)=false) jJ):
  DE Z X EE (.wc (.Δ o "join" YW) [e] [] bI) (e5 "str" lD d dA):=
 Jd oa.F.plainAttrs_str oa.F.slot_str_join oa.F.type_str_join z4y z4z ho ha dF dJ dN hs cK
end
def SR.dU(r:SR)(k:ai S->SR):SR:=match r with
 |.nx e'=>k e'
 |.ct e'=>k e'
 |.bk e'=>.nx e'
 |.rt s e'=>.rt s e'
 |.ex c e'=>.ex c e'
 |.no=>.no
structure ze3(P:wO)(w:vq)(K:Fg)(d:f')(tb:ai (d3×a6)):Prop where
 _a:∀h,K.In h->L1.Mk.StrTab P w h d (oa.W.kdpD tb)
 Yc:∃o,K.gr d=ab o/\o.oh=.ny "dict" /\ o.we=none
section
variable{w:W}
def vF(i:ar)(e:ai S)(b:fv ar)(ws:ai W)(w:W):fv ar->SR
 |ab j=>.nx (e.sx i (.ie b (ws.sx j w)))
 |none=>.no
def vE(i:ar)(e:ai S)(w:W):W->fv S->SR
 |.aO k,ab (.ie b ws)=>vF i e b ws w (nh ws.aj k)
 |_,_=>.no
def yY(i:ar)(dk:ke W)(w:W)(e:ai S):fv S->SR
 |ab (.ie _ _)=>(dk e).dr λk e2=>vE i e2 w k e2[i]?
 |_=>.no
def Q1i{dv:ke W}:nQ i dv dk e=(dv e).dr λw e1=>yY i dk w e1 e1[i]?:=by
 unfold nQ;congr 1
theorem y9j:yY i dk w e (ab (.ie b ws))=(dk e).dr λk e2=>vE i e2 w k e2[i]?:=rfl
theorem y9k:vE i e w (.aO k) (ab (.ie b ws))=vF i e b ws w (nh ws.aj k):=rfl
theorem y43:vF i e b ws w (ab j)=.nx (e.sx i (.ie b (ws.sx j w))):=rfl
def pE(e:ai S):FR->R W
 |.ok (.fr w)=>if a_ w=true then .ok w e else .no
 |_=>.no
def pD(F:ai W->FR)(us:ai W)(e:ai S):fv S->R W
 |ab (.ie _ ws)=>pE e (F (.dI ws::us))
 |_=>.no
def pB(F:ai W->FR)(i:ar)(dA:ke (ai W))(e:ai S):fv S->R W
 |ab (.ie _ _)=>(dA e).r7 λus e1=>pD F us e1 e1[i]?
 |_=>.no
def z41:tE F i dA e=pB F i dA e e[i]?:=by
 unfold tE pB;cases e[i]? with
 |none=>rfl
 |ab s=>cases s with
  |ie b ws=>
   dsimp only;congr 1
  |_=>rfl
theorem y44:pB F i dA e (ab (.ie b ws))=(dA e).r7 λus e1=>pD F us e1 e1[i]?:=rfl
theorem y45:pD F us e (ab (.ie b ws))=pE e (F (.dI ws::us)):=rfl
theorem y9l:pE e (.ok (.fr w))=if a_ w=true then .ok w e else .no:=rfl
def uU(i:ar)(e:ai S)(b:fv ar)(xs:ai W):fv (ai W)->SR
 |ab ys=>if xs.aj+ys.aj<=16777216 then .nx (e.sx i (.ie b (xs++ys)))else .no
 |none=>.no
def uT(i:ar)(e:ai S):ai W->fv S->SR
 |[w],ab (.ie b xs)=>uU i e b xs (eX w)
 |_,_=>.no
def uS(i:ar)(d:ke (ai W))(e:ai S):fv S->SR
 |ab (.ie _ _)=>(d e).dr λws e1=>uT i e1 ws e1[i]?
 |_=>.no
def Q1j{d:ke (ai W)}:ma i d e=uS i d e e[i]?:=by
 unfold ma uS;cases e[i]? with
 |none=>rfl
 |ab s=>cases s with
  |ie b ws=>
   dsimp only;congr 1
  |_=>rfl
theorem y9m{d:ke (ai W)}:uS i d e (ab (.ie b xs))=(d e).dr λws e1=>uT i e1 ws e1[i]?:=rfl
theorem y9n:uT i e [w] (ab (.ie b xs))=uU i e b xs (eX w):=rfl
theorem y46:uU i e b xs (ab ys)=if xs.aj+ys.aj<=16777216 then .nx (e.sx i (.ie b (xs++ys)))else .no:=rfl
theorem z42:e5 T f d dA e=(d e).r7 λx e1=>if j7 T x=true then(dA e1).r7 λws e2=>bq (f x ws) e2 else .no:=rfl
theorem Q1k:j7 "str" (.str z)=true:=rfl
theorem Q1l:j7 "list" (.dI ws)=true:=rfl
theorem Q1m{i:d3}:UJ (.str i) (.str j)=ab (.bl (decide (i.Yl.vZ<j.Yl.vZ))):=rfl
end
def dn(i j:ar)(b:ai S->SR):ai (W×W)->ai S->SR
 |[],e=>.nx e
 |p::ps,e=>(b ((e.sx i (.fr p.1)).sx j (.fr p.2))).dU (dn i j b ps)
def gG(i j:ar)(d:ke (ai (W×W)))(b:ai S->SR):ai S->SR:=λe=>(d e).dr λps e1=>dn i j b ps e1
def eB(c:ke fC)(d:ke W)(pe:ai S):ai (W×W)->fv (ai W)
 |[]=>ab []
 |p::ps=>match c (.fr p.1::.fr p.2::pe)with
  |.ok true e1=>match d e1 with
   |.ok y _=>(eB c d pe ps).aT (y::·)
   |_=>none
  |.ok false _=>eB c d pe ps
  |_=>none
def ja(js:ai ar)(c:ke fC)(d:ke W)(ps:ai (W×W))(e1:ai S):R (ai W):=
 if ps.aj<=16777216 then(match eB c d (gm js (bo js e1)) ps with
  |ab wj=>.ok wj (bo js e1)
  |none=>.no)else .no
def cW(js:ai ar)(di:ke (ai (W×W)))(c:ke fC)(d:ke W):ke (ai W):=λe=>(di e).r7 λps e1=>ja js c d ps e1
structure i_(K:Fg)(G1:Hp)(J:It)(ps:ai (W×W)):Prop where
 go:∀(i:ar)(G H:Hp),au G1 G->au G H->i<ps.aj->J.go i H
 kT:∀(i:ar)(G H:Hp)(x:V)(H':Hp),au G1 G->au G H->J.kT i H x H'->∀u v,ps[i]?=ab (u,v) ->
  aK G H G H'/\∀(m n:ar)(σ:St)(Q:St->Hp->Prop),(∀y z,p7 K G u y->p7 K G v z->Q ((σ.sx m (ab y)).sx n (ab z)) H')->nS K 2 (ft (bM m) (ft (bM n) nR)) x σ H' Q
 stop:∀(i:ar)(G H:Hp),au G1 G->au G H->ps.aj<=i->J.stop i H
def tV(K:Fg)(Z:Zt)(EE:L2.St->XK)(d:ke (ai (W×W))):TI:=λσ H R=>qS K Z σ H λG e=>(d e).Uh (λps e1=>∀G1 H1 J,ro K Z G1 σ H1 e1->au G G1->i_ K G1 J ps->R J H1) (XH K Z EE σ G)
def DI(Z:Zt)(X:Cx)(EE:L2.St->XK)(tg xw:pN)(d:ke (ai (W×W))):Prop:=PI X tg xw (tV X.K Z EE d)
theorem PI.pg(h:PI X tg xw wi)(m:∀σ H R,Vt σ H R->wi σ H R):PI X tg xw Vt:=λcf s σ H R I q=>h cf s σ H R I (m σ H R q)
def zaB(r:ro K Z G' σ H e)(s:au G1 G')(pu:p7 K G' p.1 x)(pv:p7 K G' p.2 y)
  (h:bC K Z EE D G1 (dn i j s1 (p::ps) e))(hP:∀fQ fF kY tG,ro K Z fQ fF kY tG->au G1 fQ->bC K Z EE D G1 (dn i j s1 ps tG)->Pv fF kY):
  e9 K Z EE s1 {D with nx:=Pv,ct:=Pv,bk:=D.nx} ((σ.sx i (ab x)).sx j (ab y)) H:=by
 refine⟨G',_,(r.sx pu).sx pv,?_⟩;unfold dn at h;cases q:s1 ((e.sx i (.fr p.1)).sx j (.fr p.2))with
 |nx e'=>rw[q]at h;exact λfQ fF kY mO iq=>hP fQ fF kY e' mO (s.ki iq) h
 |ct e'=>rw[q]at h;exact λfQ fF kY mO iq=>hP fQ fF kY e' mO (s.ki iq) h
 |bk e'=>rw[q]at h;exact λfQ fF kY mO iq=>h fQ fF kY mO (s.ki iq)
 |rt t e'=>rw[q]at h;exact λfQ fF v kY mO iq p=>h fQ fF v kY mO (s.ki iq) p
 |ex c e'=>rw[q]at h;exact λfQ fF kY mO iq=>h fQ fF kY mO (s.ki iq)
 |no=>rw[q]at h;exact h
def Mv{ps:ai (W×W)}{k:ar}{p:W×W}(h:ps[k]?=ab p):ps.wa k=p::ps.wa (k+1):=by
 let⟨h1,h2⟩:=w0c.mp h;rw[w3c h1,h2]
def ro.zdG(r:ro K Z G σ H e)(js)(q:p7 K G u y)(p:p7 K G w x):ro K ⟨H,G,[]⟩ G (ab y::ab x::pj js σ) H (.fr u::.fr w::gm js e):=by
 have b:=r.block js p
 have nU:∀(i:ar)(s:S),(S.fr w::gm js e)[i]?=ab s->s=.no\/∃u,s=.fr u:=λi s h=>by
  grind [gm,gS]
 refine⟨b.ri,λi s h=>?_,?_,λi j b1 b2 w1 w2 a h1 h2 _ _=>?_,b.YY,b.lC,b.gen⟩
 .cases i with
  |UQ=>cases h;exact⟨y,rfl,q⟩
  |UI i=>
   rw[w0d]at h;have z:=b.yM i s h
   grind
 all_goals grind [vn]
def zaN{J:It}{ps:ai (W×W)}{wj:ai W}{Q:VK}{G0 G1 H1:Hp}{e1:ai S}(W0:i_ K G1 J ps)(r1:ro K Z G1 σ H1 e1)(s1:au G0 G1)(hl:ps.aj<=16777216)
  (hz:∀p,H1 p=none->p∉Z.io)(hc:eB c d (gm js e1) ps=ab wj)
  (h:∀G' a xs H',ro K Z G' σ H' e1->au G0 G'->H' a=ab (.dI xs)->G' a=none->Z.H a=none->jD σ e1 a->aq K G' wj xs->Q (.bj a) H'):
  ∀D,H1 D=none->∃W:ar->ar->Hp->Prop,(∃m,W 0 m (ot H1 D (.dI [])))/\∀i m H2,W i m H2 ->
   (J.stop i H2/\Q (.bj D) H2)\/(J.go i H2/\∀x H3,J.kT i H2 x H3->nS K 2 (ft (bM 0) (ft (bM 1) nR)) x (ai.v5 2 none++pj js σ) H3 λqw H4=>Kp (ai.v5 2 none++pj js σ) qw/\cT K c qw H4 λb H5=>
    if b=true then cE K d qw H5 λy H6=>∃ys,H6 D=ab (.dI ys)/\ys.aj<vr/\∃m',m'<m/\W (i+1) m' (ot H6 D (.dI (ys++[y])))else ∃m',m'<m/\W (i+1) m' H5):=by
 intro D hD
 refine⟨λi m H2=>m=ps.aj-i/\i<=ps.aj/\∃G2 ys done wb,ro K Z G2 σ H2 e1/\au G1 G2/\H2 D=ab (.dI ys)/\G2 D=none/\aq K G2 done ys/\done.aj<=i/\eB c d (gm js e1) (ps.wa i)=ab wb/\done++wb=wj,
  ⟨ps.aj,by omega,w1b _,G1,[],[],wj,r1.HF (aK.l3 r1.ri hD _),.uw _,bT,r1.ri.rD hD,rfl,w0e _,hc,rfl⟩,?_⟩
 rintro i m H2 ⟨rfl,hi,G2,ys,done,wb,r2,s2,Zo,pf,qf,KD,de,ho⟩;have cV:jD σ e1 D:=zD r1 hD;have yw:Z.H D=none:=sF r1 hD
 by_cases bR:i<ps.aj
 .refine .mv ⟨W0.go i G2 H2 s2 r2.ri bR,λx H3 hy=>?_⟩
  have hp:ps[i]?=ab ((ps[i]).1,(ps[i]).2):=by rw[w0b bR]
  let⟨g3,D0⟩:=W0.kT i G2 H2 x H3 s2 r2.ri hy _ _ hp;have Hy:=r2.HF g3;have Bh:H3 D=ab (.dI ys):=g3.hh _ _ Zo;rw[Mv hp]at de;refine D0 0 1 _ _ λyv zv py pz=>⟨Kp.two,⟨H3,G2,[]⟩,G2,.fr (ps[i]).1::.fr (ps[i]).2::gm js e1,Hy.zdG js py pz,?_⟩
  unfold eB at de;cases qc:c (.fr (ps[i]).1::.fr (ps[i]).2::gm js e1)with
  |no=>rw[qc]at de;cases de
  |ex _ _=>rw[qc]at de;cases de
  |ok k e2=>
   rw[qc]at de;intro G3 H5 r3 s3;have g3:=r3.gu s3;cases k with
   |false=>
    exact⟨ps.aj-(i+1),by omega,rfl,bR,G3,ys,done,wb,Hy.HF g3,s2.ki s3,g3.hh _ _ Bh,by rw[g3.yL D (by rw[Bh];simp)];exact pf,aq.pg s3 _ qf,by omega,de,ho⟩
   |true=>
    refine⟨⟨H3,G2,[]⟩,G3,e2,r3,?_⟩;dsimp only at de;cases qd:d e2 with
    |no=>rw[qd]at de;cases de
    |ex _ _=>rw[qd]at de;cases de
    |ok y e3=>
     rw[qd]at de;intro G4 v H6 r4 s4 p4;have g4:=r4.gu (s3.ki s4);let⟨qe,hr,rfl⟩:=w0l.mp de;have yf:H6 D=ab (.dI ys):=g4.hh _ _ Bh;have yj:G4 D=none:=by rw[g4.yL D (by rw[Bh];simp)];exact pf
     refine⟨ys,yf,?_,ps.aj-(i+1),by omega,rfl,bR,G4,ys++[v],done++[y],qe,(Hy.HF g4).nq yj yw (hz D hD) cV yf,s2.ki (s3.ki s4),bT,yj,(aq.pg (s3.ki s4) _ qf).YX (.Zg p4),by simp;omega,hr,by rw[w2h];exact ho⟩;rw[qf.aj,Yf];omega
 .have:i=ps.aj:=by omega
  subst this;rw[w3f]at de;cases de;rw[w1k]at ho;subst ho;exact .j' ⟨W0.stop _ G2 H2 s2 r2.ri (by omega),h G2 D ys H2 r2 (s1.ki s2) Zo pf yw cV qf⟩
section
variable{K' xw e a:pN}{rK:ai Rl}{zb:ai pN}{d0 sc:yz}{pt p3:vY}{x y:d3}{Nf N:ai d3}{di:ke (ai (W×W))}{s1:ai S->SR}
def z43(i j:ar)(hN:X.N.x6)(hp:Ϲ (q_ X.jd X.w) X.A X.a7 X.xe)(hc:X.TR=true)(hl:DI Z X EE (.Yo [.oL x p1,.oL y p2] kt p3) e di)(hb:mV Z X EE rK s1)
  (hi:autoParam (X.N[i]?=ab x) jJ)(hx:autoParam (Zq X.a7.d0 x) jM)(hf:autoParam (X.fn x=true\/X.a7.d0.pM.gr x=ab .local) jL)
  (hj:autoParam (X.N[j]?=ab y) jJ)(hy:autoParam (Zq X.a7.d0 y) jM)(DX:autoParam (X.fn y=true\/X.a7.d0.pM.gr y=ab .local) jL)
  (hn:autoParam ((Zs [.oL x p1,.oL y p2] X.a7).aj=2) jJ)(jI:autoParam ((Zs [.oL x p1,.oL y p2] X.a7).ő (·.1)=none) jJ)
  (g1:autoParam ((Zs [.oL x p1,.oL y p2] X.a7).aT (·.2)=_r (.oL x p1) X.a7::(Zs [.oL y p2] X.a7).aT (·.2)) jJ)(g2:autoParam ((Zs [.oL y p2] X.a7).aT (·.2)=_r (.oL y p2) X.a7::(Zs [] X.a7).aT (·.2)) jJ)
  (hs:∀x,_g e X.a7 x=vo x:=by intro _;rfl):
  DS Z X EE (.For (.Yo [.oL x p1,.oL y p2] kt p3) e rK [] gJ) (gG i j di s1):=by
 refine PS.pg (Jy hp hc hl (PY hc (Cj (ug i hN hi hx hf) (Cj (ug j hN hj hy DX) OT g2) g1) hn jI) hb hs) ?_;rintro D σ H ⟨G,e,nN,h⟩;refine⟨G,e,nN,(kR h).vW (λps e1 h G1 H1 J r1 q1 W0=>?_) λ_ _ h=>h⟩
 have h:=bC.ki q1 h;refine⟨λk m aP H'=>m=ps.aj-k/\k<=ps.aj/\∃G' e',ro X.K Z G' aP H' e'/\au G1 G'/\bC X.K Z EE D G1 (dn i j s1 (ps.wa k) e'),⟨ps.aj,by omega,w1b _,G1,e1,r1,.uw _,h⟩,?_⟩
 rintro k m aP H' ⟨rfl,hk,G',e',r',s',h'⟩
 by_cases bR:k<ps.aj
 .refine .mv ⟨W0.go k G' H' s' r'.ri bR,λfF kY=>∃G' e',ro X.K Z G' fF kY e'/\au G1 G'/\bC X.K Z EE D G1 (dn i j s1 (ps.wa (k+1)) e'),?_,λv H2 hy=>?_⟩
  .rintro fF kY ⟨fQ,tG,mO,iq,qB⟩;exact⟨ps.aj-(k+1),by omega,rfl,bR,fQ,tG,mO,iq,qB⟩
  .have hp:ps[k]?=ab ((ps[k]).1,(ps[k]).2):=by rw[w0b bR]
   let⟨g3,D0⟩:=W0.kT k G' H' v H2 s' r'.ri hy _ _ hp;rw[Mv hp]at h';exact D0 i j aP _ λy z py pz=>zaB (p:=((ps[k]).1,(ps[k]).2)) (r'.HF g3) s' py pz h' λfQ fF kY tG mO iq qB=>⟨fQ,tG,mO,iq,qB⟩
 .have:k=ps.aj:=by omega
  subst this;rw[w3f]at h';exact .j' ⟨W0.stop _ G' H' s' r'.ri (by omega),h' G' aP H' r' s'⟩
def XS:∀σ H Q,ni K Z EE (cW js di c d) σ H Q->iF (tV K Z EE di) 2 js (nS K 2 (ft (bM 0) (ft (bM 1) nR))) (cT K c) (cE K d) σ H Q:=by
 rintro σ H Q ⟨G,e,nN,h⟩;simp only[cW,R.aw]at h;refine⟨G,e,nN,h.vW (λps e1 h G1 H1 J r1 s1 W0=>?_) λ_ _ h=>h⟩
 unfold ja at h;split at h
 .rename_i hl;split at h
  .rename_i wj ho;let⟨G2,s2,r2⟩:=r1.bo js;have W1:i_ K G2 J ps:=⟨λi G H a=>W0.go i G H (s2.ki a),λi G H x H' a=>W0.kT i G H x H' (s2.ki a),λi G H a=>W0.stop i G H (s2.ki a)⟩
   exact zaN W1 r2 (s1.ki s2) hl (mD r2) ho h
  .exact h.oP
 .exact h.oP
def y9p(hc:X.TR=true)(hi:DI Z X EE (.Yo [.oL x p1,.oL y p2] kt p3) xw di)(ok:cD sc d0 N Nf js=true)
  (ht:∀Z' cl C aA aG ex,qW Z' (X.cp ([x,y]++Nf) d0 cl C aA aG ex) (λ_=>E0) zb c)(he:∀Z' cl C aA aG ex,DE Z' (X.cp ([x,y]++Nf) d0 cl C aA aG ex) (λ_=>E0) K' d)
  (hg:∀cl C aA aG ex,PG (X.cp ([x,y]++Nf) d0 cl C aA aG ex) (.Yo [.oL x p1,.oL y p2] kt p3) (nS X.K 2 (ft (bM 0) (ft (bM 1) nR))))
  (hsc:autoParam (X.a7.d0=sc) jJ)(hN:autoParam (X.N=N) jJ)(hs:∀x,_g xw X.a7 x=vo x:=by intro _;rfl):
  DF Z X EE (.ZC K' [⟨.Yo [.oL x p1,.oL y p2] kt p3,xw,zb,0⟩] d0 gJ) (cW js di c d):=by
 exact PE.pg (Ig (Nl:=[x,y]) (tc:=cT X.K c) (te:=cE X.K d) hc hi ok hg (AX ht) (AY he) hsc hN hs) XS
def cj:ai W->fv (ai (W×W))
 |[]=>ab []
 |.gs [u,v]::ws=>(cj ws).aT ((u,v)::·)
 |_=>none
def gU(d:ke W):ke (ai (W×W)):=λe=>(d e).r7 λw e1=>match eX w with
 |ab ws=>bq (cj ws) e1
 |none=>.no
theorem M9:∀{ws:ai W}{ps:ai (W×W)},cj ws=ab ps->ws.aj=ps.aj/\∀(i:ar) u v,ps[i]?=ab (u,v)->ws[i]?=ab (.gs [u,v])
 |[],ps,h=>by cases h;exact⟨rfl,λi u v z=>by simp at z⟩
 |w::ws,ps,h=>by
  unfold cj at h;split at h
  .rename_i z;cases z
  .rename_i u v ws' z;cases z;let⟨q,hq,rfl⟩:=w0l.mp h;let⟨h1,h2⟩:=M9 hq;refine⟨by simp[h1],λi u' v' z=>?_⟩
   cases i with
   |UQ=>simp at z;simp[z.1,z.2]
   |UI i=>simp only[w0d]at z |-;exact h2 i _ _ z
  .cases h
def M_(W0:ϻ J xs SQ)(rp:aq K G1 ws xs)(hp:cj ws=ab ps)(rN:∀G' H',au G1 G'->au G' H'->SQ H'):i_ K G1 J ps:=by
 let⟨hl,hg⟩:=M9 hp;have hx:=rp.aj;refine⟨λi G H a b h=>W0.go i H (rN G H a b) (by omega),λi G H x H' a b hy u v h=>?_,λi G H a b h=>W0.stop i H (rN G H a b) (by omega)⟩
 have bR:i<ps.aj:=(w0c.mp h).1;let⟨rfl,tR⟩:=W0.kT i H x H' (rN G H a b) hy (by omega);refine⟨aK.uw b,λm n σ Q hQ=>?_⟩
 let⟨w,hw,pw⟩:=rp.iM tR;rw[hg i u v h]at hw;cases hw;have pw:=p7.pg a _ pw;let⟨c,ys,rfl,hq,y1,q1,rfl,p1,y2,q2,rfl,p2,rfl⟩:=pw;exact⟨c,[y1,y2],rfl,b.gs hq,rfl,y1,[y2],rfl,y2,[],rfl,rfl,hQ y1 y2 p1 p2⟩
def y9q(hl:DE Z X EE l zb1):DI Z X EE tg l (gU zb1):=by
 refine PI.pg (CL hl) ?_;rintro σ H RR ⟨G,e,nN,h⟩;simp only[gU,R.aw]at h;refine⟨G,e,nN,h.vW (λw e1 h G1 v1 H1 r1 s1 p1=>?_) λ_ _ h=>h⟩
 split at h
 .rename_i ws hw;let⟨ps,hp,h⟩:=aY.mp h;cases w with
  |gs us=>
   cases (hw);let⟨a,xs,rfl,hq,rp⟩:=p1;exact⟨a,rfl,.mv ⟨⟨xs,r1.ri.gs hq⟩,h _ _ _ r1 s1 (M_ P6 rp hp λG' H' s s'=>au.gs s' (au.gs s hq))⟩⟩
  |dI us=>
   cases (hw);let⟨a,xs,rfl,hq,rp⟩:=p1;exact⟨a,rfl,.j' ⟨⟨xs,r1.ri.pJ hq⟩,h _ _ _ r1 s1 (M_ P5 rp hp λG' H' s s'=>au.pJ s' (au.pJ s hq))⟩⟩
  |_=>cases hw
 .exact h.oP
def b8:ar->ai W->ai (W×W)
 |_,[]=>[]
 |k,w::ws=>(.aO k,w)::b8 (k+1) ws
def lP(dA:ke (ai W)):ke (ai (W×W)):=λe=>(dA e).r7 λws e1=>match ws with
 |[.dI us]=>.ok (b8 0 us) e1
 |_=>.no
theorem Hi:∀(k:ar)(ws:ai W),(b8 k ws).aj=ws.aj
 |_,[]=>rfl
 |k,w::ws=>by simp[b8,Hi (k+1) ws]
theorem Hj:∀(k:ar)(ws:ai W)(i:ar)(u v:W),(b8 k ws)[i]?=ab (u,v)->u=.aO ((k+i:ar):a6)/\ws[i]?=ab v
 |_,[],i,u,v,h=>by simp[b8]at h
 |k,w::ws,i,u,v,h=>by
  cases i with
  |UQ=>
   have e:(W.aO k,w)=(u,v):=fv.ab.La h;cases e;exact⟨rfl,rfl⟩
  |UI i=>
   have h:(b8 (k+1) ws)[i]?=ab (u,v):=h;let⟨h1,h2⟩:=Hj (k+1) ws i u v h;exact⟨by rw[h1];congr 2;omega,h2⟩
def Dc(K:Fg)(a:f'):It:=
 ⟨λi H=>∃xs x,bJ K H a xs/\xs[i]?=ab x,λi H x H'=>∃b y,x=.bj b/\H b=none/\(∀xs,bJ K H a xs->xs[i]?=ab y)/\H'=ot H b (.gs [.aO i,y]),λi H=>∃xs,bJ K H a xs/\xs.aj<=i⟩
def Hk{fp:ai f'}{b:f'}(I:je X cf σ H s)(k:∀b o,b∉fp->s.a5.g0 b=ab o->h'.g0 b=ab o)(hf:∀b∈fp,er X cf H b)(hp:s.a5.fy.dt<=b)(yL:aS X.jd X.w (ot H b o) h' b o):je X cf σ (ot H b o) {s with a5:=h',sP:=t'}:=by
 have hn:H b=none:=I.aL.xS hp;have ne:∀c u,H c=ab u->c≠b:=λc u e=>i3 e hn
 have UL:∀c u,H c=ab u->c∉fp:=λc u e z=>by rw[(hf c z).1]at e;cases e
 have lt:∀c o,s.a5.g0 c=ab o->c≠b:=λc o e=>w0p (w0y (gw.xq e) hp)
 refine I.Zy (g':=s.Za) (d':=s.ϕ) (ch:=fp) (λc hc=>?_) (λc o _ _ hc e _=>k c o hc e) (λc o _ _ hc e _=>⟨o.Zd,k c o hc e⟩) (λc o _ e n=>by grind [bh])
  (λc o hc e=>⟨o,k c o hc e⟩) (λc xs e=>by grind [bh]) (λc o u e=>by grind [bh]) (λc ps e=>⟨#[],by grind [bh]⟩) (λm hm=>?_) (λc u e=>?_) I.QN
 .let⟨f0,f1,f2,f3,f4,f5⟩:=hf c hc
  grind
 .let⟨o,es,ep,ho,r⟩:=hm;exact⟨o,es,ep,k _ o (λz=>(hf _ z).2.1 rfl) ho,r⟩
 .by_cases hb:c=b
  .grind [bT]
  .rw[bh hb]at e;refine(I.aL c u e).fE (λd v hd q=>k d v ?_ q) (λd q=>by grind [bh]) λd xs _ q=>by grind [bh]
   grind
theorem zaC(a e it)(iN:e≠it):ϋ P w K (.Yo _B kt pt) (Dc K a) [e,it] e (λi h=>∃yc,oa.Ĉ h e it (i:ar) yc/\h.ϧ it a i) where
 Ye:=by simp
 Yc:=λi h ⟨yc,i4,ir⟩ b hb=>by
  simp only[w0g,w1d,ZM]at hb;rcases hb with rfl|rfl
  .grind
  .let⟨o,e,c,d⟩:=ir
   grind
 wN:=λi h h' ⟨yc,i4,ir⟩ k=>⟨yc,k e (by simp) _ i4,ir.at λo e=>k it (by simp) o e⟩
 Z7:=by
  intro X hP hw hK hc i cf s σ H E I hf st hg;subst hP hw hK;let⟨yc,i4,ir⟩:=st;let⟨xs,x,hq,hx⟩:=hg;let⟨ax,rv,p,hz⟩:=I.xE hq;let⟨u,hu,ru⟩:=rv.Df hx;refine wpAny_pyNext_enum_item i4 ir p.yP (x:=u) (by simpa using hu) iN λh1 rR u6 Es K5 ph=>⟨_,rfl,?_⟩
  refine zec rR λh2 ox iW=>?_
  have iW:gw._p e h1 h2:=iW;have bR:e<s.a5.fy.dt:=gw.xq i4;have nU:H s.a5.fy.dt=none:=I.aL.xS (w0e _);have u_:h2.g0 s.a5.fy.dt=ab {oh:=.ny "tuple", oo:=.pJ #[.aO i s.sP,u]}:=(iW.2 _ (w2r bR)).ki Es;refine⟨.bj s.a5.fy.dt,ot H s.a5.fy.dt (.gs [.aO i,x]),?_,rfl,⟨_,x,rfl,nU,λys hy=>by rw[I.gQ hy hq];exact hx,rfl⟩,⟨u,ox,?_⟩,λb hb=>?_⟩
  .show L2.je X cf σ _ {s with a5:=h2,sP:=s.sP+1};refine Hk (fp:=[e,it]) I (λb o hb q=>?_) hf (w0e _) ⟨?_,[.aO i s.sP,u],.qY ⟨_,rfl⟩ (.qY ru .rA),⟨_,u_,rfl,?_⟩,⟨_,u_,rfl⟩⟩
   .simp only[w0g,w1d,ZM,ş]at hb;exact(iW.2 b hb.1).ki (ph b o hb.1 hb.2 q)
   all_goals grind [Yf]
  .exact u6.at λo q=>(iW.2 it (Ne.symm iN)).ki q
  .have:b≠s.a5.fy.dt:=by
    obtain⟨o,q,_⟩:∃o,s.a5.g0 b=ab o/\kc:=by
     simp only[w0g,w1d,ZM]at hb;rcases hb with rfl|rfl
     .grind
     .let⟨o,e,_⟩:=ir;grind
    exact w0p (gw.xq q)
   rw[bh this];exact(hf b hb).1
 done:=by
  intro X hP hw hK hc i cf s σ H E I hf st hg;subst hP hw hK;let⟨yc,i4,ir⟩:=st;let⟨xs,hq,hx⟩:=hg;let⟨ax,rv,p,hz⟩:=I.xE hq;let⟨f0,f1,f2,f3,f4,f5⟩:=hf it (by simp);have hl:=rv.aj;exact wpAny_pyNext_enum_end (I.ok.hd hc) i4 ir p.yP (by simp;omega) λh' eb=>⟨rfl,I._k (t':=s.sP) (λb o hb e=>eb b o hb e) f0 f1 f3 f4 f5⟩
 self:=λ_ _ _ _ _ ⟨yc,i4,_⟩ h=>ĳ i4 h
def zeF(K:Fg)(ta:TA):TI:=λσ H R=>ta σ H λvs H1=>∃a,vs=[.bj a]/\(∃xs,bJ K H1 a xs)/\R (Dc K a) H1
def z44{ta:TA}{p:vY}(hg:Gl X "enumerate")(hm:X.mg "enumerate"=none)(ha:PA X [a] ta)(hs:autoParam (p5 [a] X.a7=[(false,eval a X.a7)]) jJ):PI X (.Yo _B kt pt) (.wc (.oL "enumerate" p) [a] [] gJ) (zeF X.K ta):=by
 intro cf s σ H R I h;refine L1.Mk.Ą (qM I hg hm L1.Mk.zbW (L1.Mk.ϭ (bw (ha gJ cf s σ H _ I h) λus s1 ⟨vs,H1,I1,r1,q1⟩=>?_) hs rfl))
 let⟨l,e,⟨xs,hq⟩,q⟩:=q1;subst e;cases r1 with
 |qY r rr=>
  cases rr;cases r;let⟨ax,rv,p,hz⟩:=I1.xE hq;refine call_enumerate_list p.yP λh' he Z1 hsz hk=>?_
  refine ĳ he ?_;refine⟨s1.a5.fy.dt+1,[s1.a5.fy.dt+1,s1.a5.fy.dt],_,_,H1,rfl,I1.Ya (t':=s1.sP) hk,zaC l _ _ (w4q _),⟨_,he,Z1⟩,λb hb=>?_,q⟩
  simp only[w0g,w1d,ZM]at hb;rcases hb with rfl|rfl
  .exact I1.jg (by omega) (I1.aL.xS (by omega))
  .exact I1.jg (w0e _) (I1.aL.xS (w0e _))
def XT(rp:aq K G1 ws xs)(hq:bJ K G1 b xs):i_ K G1 (Dc K b) (b8 0 ws):=by
 have hx:=rp.aj;have hl:=Hi 0 ws;refine⟨λi G H s s' h=>⟨xs,xs[i]'(by omega),au.pJ s' (au.pJ s hq),by simp⟩,λi G H x H' s s' hy u v h=>?_,λi G H s s' h=>⟨xs,au.pJ s' (au.pJ s hq),by omega⟩⟩
 let⟨c,y,rfl,hn,tR,rfl⟩:=hy;let⟨hu,hv⟩:=Hj 0 ws i u v h;let⟨w,hw,pw⟩:=rp.iM (tR xs (au.pJ s' (au.pJ s hq)));rw[hv]at hw;cases hw;refine⟨aK.l3 s' hn _,λm n σ Q hQ=>⟨c,[.aO i,y],rfl,c7.of bT,rfl,.aO i,[y],rfl,y,[],rfl,rfl,hQ _ _ ?_ (p7.pg s _ pw)⟩⟩
 rw[hu,w1p];exact rfl
def z45{p:vY}(hm:X.mg "enumerate"=none)(ha:DA Z X EE [a] dA)(hg:autoParam (Gl X "enumerate") jJ)(hs:autoParam (p5 [a] X.a7=[(false,eval a X.a7)]) jJ):DI Z X EE (.Yo _B kt pt) (.wc (.oL "enumerate" p) [a] [] gJ) (lP dA):=by
 refine PI.pg (z44 hg hm ha hs) ?_;rintro σ H RR ⟨G,e,nN,h⟩;simp only[lP,R.aw]at h;refine⟨G,e,nN,h.vW (λws e1 h G1 vs H1 r1 s1 p1=>?_) λ_ _ h=>h⟩
 split at h
 .rename_i us;let⟨y,r,rfl,e1,e2⟩:=p1;cases(show r=[]from e2);let⟨b,xs,rfl,hq,rp⟩:=e1;exact⟨b,rfl,⟨xs,r1.ri.pJ hq⟩,h _ _ _ r1 s1 (XT rp hq)⟩
 .exact h.oP
end
theorem Rz{x y:d3}{p3:vY}(hN:X.N.x6)(hc:X.TR=true)
  (hi:autoParam (X.N[0]?=ab x) jJ)(hx:autoParam (Zq X.a7.d0 x) jM)(hf:autoParam (X.fn x=true\/X.a7.d0.pM.gr x=ab .local) jL)
  (hj:autoParam (X.N[1]?=ab y) jJ)(hy:autoParam (Zq X.a7.d0 y) jM)(DX:autoParam (X.fn y=true\/X.a7.d0.pM.gr y=ab .local) jL)
  (hn:autoParam ((Zs [.oL x p1,.oL y p2] X.a7).aj=2) jJ)(jI:autoParam ((Zs [.oL x p1,.oL y p2] X.a7).ő (·.1)=none) jJ)
  (g1:autoParam ((Zs [.oL x p1,.oL y p2] X.a7).aT (·.2)=_r (.oL x p1) X.a7::(Zs [.oL y p2] X.a7).aT (·.2)) jJ)(g2:autoParam ((Zs [.oL y p2] X.a7).aT (·.2)=_r (.oL y p2) X.a7::(Zs [] X.a7).aT (·.2)) jJ):
  PG X (.Yo [.oL x p1,.oL y p2] kt p3) (nS X.K 2 (ft (bM 0) (ft (bM 1) nR))):=
 PY hc (Cj (ug 0 hN hi hx hf) (Cj (ug 1 hN hj hy DX) OT g2) g1) hn jI
section
variable{w:W}{ps:ai (W×W)}{c:Prop} [ß c]{s t:SR}{k:ai S->SR}{st:S}
theorem z46:gG i j di b e=(di e).dr λps e1=>dn i j b ps e1:=rfl
theorem zaD:dn i j b (p::ps) e=(b ((e.sx i (.fr p.1)).sx j (.fr p.2))).dU (dn i j b ps):=rfl
theorem y9r:(SR.nx e).dU k=k e:=rfl
theorem y9s:(SR.ct e).dU k=k e:=rfl
theorem y9t:(SR.bk e).dU k=.nx e:=rfl
theorem y9u:(SR.rt st e).dU k=.rt st e:=rfl
theorem y9v:(SR.ex v e).dU k=.ex v e:=rfl
theorem y9w:(SR.no).dU k=.no:=rfl
def y5a:(if c then s else t).dU k=if c then s.dU k else t.dU k:=by split<;>rfl
def uv(e:ai S):ai W->R (ai (W×W))
 |[.dI us]=>.ok (b8 0 us) e
 |_=>.no
def Q1o:lP dA e=(dA e).r7 λws e1=>uv e1 ws:=by
 unfold lP;congr 1
theorem z47:uv e [.dI ws]=.ok (b8 0 ws) e:=rfl
def uA(e:ai S):fv (ai W)->R (ai (W×W))
 |ab ws=>bq (cj ws) e
 |none=>.no
def Q1p:gU d e=(d e).r7 λw e1=>uA e1 (eX w):=by
 unfold gU;congr 1
theorem y2j:uA e (ab ws)=bq (cj ws) e:=rfl
def y9x:ja js cc d ps e=if ps.aj<=16777216 then k_ (bo js e) (eB cc d (gm js (bo js e)) ps)else .no:=by
 grind [ja,k_]
theorem y9y:cW js di cc d e=(di e).r7 λps e1=>ja js cc d ps e1:=rfl
theorem GG{cc:ke fC}{p:W×W}:eB cc d pe (p::ps)=(match cc (.fr p.1::.fr p.2::pe)with
  |.ok true e1=>(match d e1 with|.ok y _=>(eB cc d pe ps).aT (y::·)|_=>none)
  |.ok false _=>eB cc d pe ps
  |_=>none):=rfl
theorem zF:∀(ps:ai (W×W)),(∀p∈ps,∃e1,cc (.fr p.1::.fr p.2::pe)=.ok (q p) e1/\(q p=true->∃e2,d e1=.ok (g p) e2))->eB cc d pe ps=ab ((ps.TV q).aT g)
 |[],_=>rfl
 |p::ps,h=>by
  let⟨e1,h1,h2⟩:=h p (by simp);have ih:=zF ps λu hu=>h u (by simp[hu])
  rw[GG,h1,ih]
  grind
end
theorem YH(l)(p9)(n)(x)(u)(dd)(sl)(Kw:¬(!u5.ai.zcF x)=true)(Bg:¬p9.dt*x.t8>(2^63-1) / 8)(de:¬u5.ai.Ñ (p9.dt*x.t8)=true):
  _N (u5.«list.__mul__» ⟨[.bj l,.aO x u],[]⟩) (λ_ R s=>s.a5.g0 l=ab {oh:=.ny "list", we:=dd,oo:=.pJ p9 n,Zd:=sl}/\R (.ok (.KJ (dS.bj s.a5.fy.dt))) {s with a5:=s.a5.si {oh:=dS.ny "list", oo:=Þ.pJ (ai.ym (λx1 x2=>x1++x2) #[] (ai.v5 (if p9.UD=true then 0 else x.t8) p9))},sP:=s.sP}):=
 ._Y λjd w A R s h=>by
  let⟨hp,g,d,tk,os⟩:=s;let⟨hl,h⟩:=h;have hsz:=oa.AutoListH.joined_fits de
  wp_walk;refine zd' (ZZ (w2z.uR hsz)) ?_;wp_walk;exact⟨_,rfl,h⟩
theorem YI(a)(t)(l)(p9)(n)(dd)(sl):
  _N (u5.«int.__rmul__» ⟨[.aO a t,.bj l],[]⟩) (λ_ R s=>s.a5.g0 l=ab {oh:=.ny "list", we:=dd,oo:=.pJ p9 n,Zd:=sl}/\R (.ok (.KJ dS.zcR)) s):=
 ._Y λjd w A R s h=>by let⟨hp,g,d,tk,os⟩:=s;let⟨hl,h⟩:=h;wp_walk;exact⟨_,rfl,h⟩
def uk(K:Fg):R2:=λx y H Q=>∃l k xs,x=.bj l/\y=.aO k/\bJ K H l xs/\-(2^63)<=k/\k<2^63/\xs.aj*k.t8<=vr /\
 ∀p,H p=none->Q (.bj p) (ot H p (.dI (ai.v5 k.t8 xs).Ym))
def O4:fe X (ZX .ω) (uk X.K):=by
 intro cf s σ H x y v u Q I rx ry h;let⟨l,k,xs,rfl,rfl,hH,h1,h2,hz,q⟩:=h;cases rx;let⟨t,rfl⟩:=ry;let⟨ax,r,p1,_⟩:=I.xE hH;let⟨⟨oh,dd,oo,sl⟩,ho,hc,n,hd⟩:=id p1.yP;simp only at hc hd;subst hc hd;have hl:=r.aj;have v_:ax.k8.dt*k.t8<=vr:=by grind
 have h9:¬ax.k8.dt*k.t8>(2^63-1) / 8:=by
  grind [vr]
 have pd:¬(!u5.ai.zcF k)=true:=by
  simp_all [fitsIndex_both]
 have pk:¬u5.ai.Ñ (ax.k8.dt*k.t8)=true:=by
  simp_all [lJ]
 have rX:ai.ym (λx1 x2=>x1++x2) #[] (ai.v5 (if ax.k8.UD=true then 0 else k.t8) ax.k8)=(ai.v5 k.t8 ax).Ym.k8:=by
  have f0:∀m:ar,ai.ym (λx1 x2=>x1++x2) #[] (ai.v5 m ax.k8)=(ai.v5 m ax).Ym.k8:=λm=>by
   grind [Ha]
  rw[f0];cases ax with
  |rA=>simp
  |qY a r'=>rw[sU (by simp)]
 refine zd6 (T:="list") (U:="int") (by decide) ⟨_,ho,rfl⟩ (λs'=>û s' k t) noFill_list_mul F.zcg F.ğ repeat_list F.zdq.gr
  (oa.Ξ F.ğ (û s k t) F.zb8 (F.zbO _ _) (YI k t l ax.k8 n dd sl)
   ⟨ho,rfl,⟨_,ho,rfl⟩,oa.Ξ F.slot_list_mul ⟨_,ho,rfl⟩ F.entry_list_mul (F.args_list_mul_2 _ _) (YH l ax.k8 n k t dd sl pd h9 pk) ⟨ho,?_⟩⟩)
 rw[rX];exact⟨.bj _,_,I.yF (t':=s.sP) (r.yB k.t8) (by grind [IQ]),rfl,q _ I.xS⟩
def n_:W->W->fv W
 |.dI ws,.aO k=>if n0 k=true/\ws.aj*k.t8<=16777216 then ab (.dI (ai.v5 k.t8 ws).Ym)else none
 |_,_=>none
theorem Cm(r:aq K G ws xs):∀k:ar,aq K G (ai.v5 k ws).Ym (ai.v5 k xs).Ym
 |0=>rfl
 |k+1=>by
  rw[w2l,w2l,w3n,w3n];exact r.YX (Cm r k)
def RA:g8 K (uk K) n_:=by
 intro G H x y wx wy w Q s px py hf h;unfold n_ at hf;split at hf
 .rename_i ws k;split at hf
  .rename_i hc;cases hf;cases(show y=V.aO k from py);let⟨l,xs,rfl,hq,rp⟩:=px;have hb:=vS hc.1;refine⟨l,k,xs,rfl,rfl,s.pJ hq,by omega,by omega,by rw[Yf,rp.aj];exact hc.2,λp hp=>?_⟩
   have g:aK G H (ot G p (.dI (ai.v5 k.t8 xs).Ym)) (ot H p (.dI (ai.v5 k.t8 xs).Ym)):=aK.Lf s hp _;exact h _ _ _ g ⟨p,_,rfl,bJ.of bT,aq.pg g.gg _ (Cm rp _)⟩
  .cases hf
 .cases hf
theorem Q1r(ha:DE Z X EE a da)(hb:DE Z X EE b db):DE Z X EE (._K a .ω b gJ) (ak n_ da db):=uh O4 RA ha hb
theorem RB:n_ (.dI ws) (.aO k)=if n0 k=true/\ws.aj*k.t8<=16777216 then ab (.dI (ai.v5 k.t8 ws).Ym)else none:=rfl
def lB(x:a6):ai a6->fv ar
 |[]=>none
 |y::ys=>if y=x then ab 0 else(lB x ys).aT (·+1)
theorem NX{x:a6}:∀{ys:ai a6}{j:ar},lB x ys=ab j->ys[j]?=ab x/\∀(m:ar)(y:a6),m<j->ys[m]?=ab y->y≠x
 |[],j,h=>by cases h
 |y::ys,j,h=>by
  unfold lB at h;split at h
  .rename_i hy;cases h;exact⟨by rw[hy];rfl,λm y hm _=>by omega⟩
  .rename_i hy;let⟨k,h1,rfl⟩:=w0l.mp h;let⟨h2,h3⟩:=NX h1;refine⟨by simpa using h2,λm z hm hz=>?_⟩
   cases m with
   |UQ=>simp at hz;rw[<- hz];exact hy
   |UI m=>exact h3 m z (by omega) (by simpa using hz)
def dQ:ai W->fv (ai a6)
 |[]=>ab []
 |.aO x::r=>(dQ r).aT (x::·)
 |_=>none
theorem Cn:∀{ws:ai W}{ys:ai a6}{xs:ai V},dQ ws=ab ys->aq K G ws xs->xs=ys.aT V.aO
 |[],ys,xs,h,r=>by cases h;cases(show xs=[]from r);rfl
 |w::ws,ys,xs,h,r=>by
  unfold dQ at h;split at h
  .rename_i z;cases z
  .rename_i y r' z;cases z;let⟨zaP,h1,rfl⟩:=w0l.mp h;let⟨v,vs,rfl,p1,p2⟩:=r;cases(show v=V.aO y from p1);rw[Cn h1 p2];rfl
  .cases h
def h_:W->ai W->fv W
 |.dI ws,[.aO x]=>match dQ ws with
  |ab ys=>match lB x ys with
   |ab j=>ab (.aO j)
   |none=>none
  |none=>none
 |_,_=>none
def nC(K:Fg):V->ai V->Hp->VK->Prop:=λv vs H Q=>∃b ys x j,v=.bj b/\vs=[.aO x]/\bJ K H b (ys.aT V.aO)/\lB x ys=ab j/\Q (.aO (j:ar)) H
theorem O5:∀{ys:ai a6}{ax:ai dS},sS (ys.aT V.aO) ax->∀(m:ar)(u:dS),ax[m]?=ab u->∃y t,ys[m]?=ab y/\u=.aO y t
 |[],ax,h,m,u,hu=>by cases h;simp at hu
 |y::ys,ax,h,m,u,hu=>by
  cases h with
  |qY r t=>
   let⟨k,rfl⟩:=r;cases m with
   |UQ=>simp at hu;exact⟨y,k,rfl,hu.symm⟩
   |UI m=>simpa using O5 t m u (by simpa using hu)
def YJ:uF X "list.index" (nC X.K):=by
 intro cf s σ H x vs v us Q I rx rv h;let⟨b,ys,x0,j,rfl,rfl,hB,hj,q⟩:=h;cases rx;let⟨u,rfl,ru⟩:=rv.Zg;let⟨t,rfl⟩:=ru;let⟨ax,r,pl,hz⟩:=I.xE hB;let⟨⟨oh,dd,oo,sl⟩,ho,hc,n,hd⟩:=pl.yP;simp only at hc hd;subst hc hd;let⟨h1,h2⟩:=NX hj;have v_:=r.aj;rw[w0a]at v_ hz;have yl:j<ys.aj:=(w0c.mp h1).1;have D_:=fw
 let e:dS->fC:=λu=>match u with|.aO y _=>y==x0|_=>false
 have _s:∀(m:ar)(hm:m<ax.k8.dt),∃y k,ys[m]?=ab y/\ax.k8[m]=.aO y k:=λm hm=>by
  have Ea:m<ax.aj:=by simpa using hm
  let⟨y,k,z1,z2⟩:=O5 r m ax[m] (w0b Ea);exact⟨y,k,z1,by simpa using z2⟩
 refine Ξ F.Ġ ⟨_,ho,rfl⟩ F.zb9 (F.zbP _ _) (w7.zcH b ax.k8 n dd sl (.aO x0 t) e j (by simp only[w1j];omega) (by omega) ?_ ?_) ⟨ho,?_,?_⟩
 .let⟨y,k,z1,z2⟩:=_s j (by simp only[w1j];omega);rw[h1]at z1;cases z1;rw[z2];simp[e]
 .intro m hm bR;let⟨y,k,z1,z2⟩:=_s m hm;rw[z2]
  simpa [e]using h2 m y bR z1
 .intro y hy;let⟨m,hm,rfl⟩:=yx.mem_iff_getElem.mp hy;let⟨y,k,z1,z2⟩:=_s m hm;rw[z2];exact w7.Rh.î y k x0 t
 .exact⟨.aO j,H,I.Yn _,⟨_,rfl⟩,q⟩
def YK:A6 K (nC K) h_:=by
 intro G H x xs wx ws w Q s px pr hf h;unfold h_ at hf;split at hf
 .rename_i us x0;let⟨y,r,rfl,py,pr⟩:=pr;cases(show r=[]from pr);cases py;split at hf
  .rename_i ys hy;split at hf
   .rename_i j hj;cases hf;let⟨a,cs,rfl,hq,rp⟩:=px;have:=Cn hy rp;subst this;exact⟨a,ys,x0,j,rfl,rfl,s.pJ hq,hj,h G _ H (.uw s) rfl⟩
   .cases hf
  .cases hf
 .cases hf
section
variable{o e:pN}
theorem y5f(ho:DE Z X EE o d)(ha:DA Z X EE [e] dA)
  (dF:autoParam (Ϗ o "index" X.a7 (eval o X.a7)=eval o X.a7) jJ)
  (dJ:autoParam (((A4 bI (p5 [e] X.a7)).tB (λx=>!x.1)&&(ϐ bI (ϝ [] X.a7)).tB (λx=>x.1.Bt)&&decide ([e].aj+([]:ai ZI).aj+(if([]:ai ZI).UD then 0 else 1)<30))=true) jJ)
  (dN:autoParam ((YW.ϖ==bI.Yq)=true) jJ)(hs:autoParam (p5 [e] X.a7=(false,eval e X.a7)::p5 [] X.a7) jJ)(cK:autoParam ((A4 bI (p5 [] X.a7)).vb (·.1)=false) jJ):
  DE Z X EE (.wc (.Δ o "index" YW) [e] [] bI) (e5 "list" h_ d dA):=
 Jd oa.F.ę oa.F.Ġ oa.F.zdE YJ YK ho ha dF dJ dN hs cK
end
section
variable{w:vq}{s:oU}
def LR{j b:f'}{k:ar}{vs:yx dS}{x:dS}{Q:dS->oU->Prop}(gi:s.a5._x j b k)(gt:s.a5.YV b vs)(gx:vs[k]?=ab x)
  (hQ:∀h',h'._x j b (k+1)->gw._p j s.a5 h'->Q x {s with a5:=h'}):oS (q_ jd w) A (u5.ZV.Υ (.bj j)) Q E s:=by
 let⟨o,ho,hc,hd⟩:=id gi;let⟨zcZ,Ej,_,m,yg⟩:=gt;unfold u5.ZV.Υ;refine lb (Ü (name:=d3.Zk "__next__") gi.ZH F.Ģ (ÿ F.Ģ gi.ZH F.zb' ?_ (F.zbR _)));show oS _ _ (Ϙ (.bj j) 0 >>= _) _ _ s;refine lb (_b ho hd (x:=.bj b) rfl ?_);show oS _ _ (if(dS.bj b==dS.none)=true then _ else _) _ _ s;rw[sU (show ¬((dS.bj b==dS.none)=true)from w1m)];show oS _ _ (Ϙ (.bj j) 1 >>= _) _ _ s;refine lb (_b ho hd (x:=.aO k 0) rfl ?_);show oS _ _ (ĝ (.bj b) >>= _) _ _ s;refine lb (Β Ej yg ?_);simp only[w1s,gx];refine lb (zef ho hd (by simp) (tW ⟨x,rfl,tW (hQ _ ⟨_,gw.zcn _ ho (sy.isFreed_of_fields (sy.zb5 hd _)),(sy.cls_mapFields ..).ki hc,by rw[sy.zb5 hd];simp[_F]⟩ (gw._p.Yk ..))⟩))
def Gm(hh:A.Zj=none)(gi:s.a5._x j b k)(gt:s.a5.YV b vs)(gx:vs[k]?=none)
  (hE:∀h' e,gw.ExtBut j s.a5 h'->(∃o,h'.g0 e=ab o/\o.oh=.ny "StopIteration")->E (.bj e) {s with a5:=h'}):oS (q_ jd w) A (u5.ZV.Υ (.bj j)) Q E s:=by
 let⟨o,ho,hc,hd⟩:=id gi;let⟨zcZ,Ej,_,m,yg⟩:=gt;unfold u5.ZV.Υ;refine lb (Ü (name:=d3.Zk "__next__") gi.ZH F.Ģ (ÿ F.Ģ gi.ZH F.zb' ?_ (F.zbR _)));show oS _ _ (Ϙ (.bj j) 0 >>= _) _ _ s;refine lb (_b ho hd (x:=.bj b) rfl ?_);show oS _ _ (if(dS.bj b==dS.none)=true then _ else _) _ _ s;rw[sU (show ¬((dS.bj b==dS.none)=true)from w1m)];show oS _ _ (Ϙ (.bj j) 1 >>= _) _ _ s;refine lb (_b ho hd (x:=.aO k 0) rfl ?_);show oS _ _ (ĝ (.bj b) >>= _) _ _ s;refine lb (Β Ej yg ?_);simp only[w1s,gx];refine lb (Ă (lb (zef ho hd (by simp) ?_)));show oS _ _ (newExc (.ny "StopIteration") [] >>= _) _ _ _;refine lb ?_;simp only[newExc,newTuple];refine lb (Ψ ?_ (by size_fits));refine lb (m:=zch _ _) (wpAny_of_eq (a:=dS.none) (by first|rfl|(simp only[zch];rfl)) (Ψ ?_ (by size_fits)));simp only[raiseNew];refine lb (wpAny_handled ?_)
 first|rw[show A.Ko.Zj=none from hh]|rw[hh]
 refine lb (tW (wpAny_throw (hE _ _ (((gw._p.Yk ..).xu.si _).si _) ⟨_,gw.A9 _ rfl,rfl⟩)))
def cA(t:fC)(j b:f')(k:ar)(h:gw):Prop:=if t=true then h._x j b k else h.ϧ j b k
def ed(t:fC)(b:f')(vs:yx dS)(h:gw):Prop:=if t=true then h.YV b vs else h._M b vs
def cA.wN(x:cA t j b k h)(e:∀o,h.g0 j=ab o->h'.g0 j=ab o):cA t j b k h':=by
 cases t with
 |true=>let⟨o,ho,r⟩:=(show h._x j b k from x);exact⟨o,e o ho,r⟩
 |false=>let⟨o,ho,r⟩:=(show h.ϧ j b k from x);exact⟨o,e o ho,r⟩
def cA.Yc(x:cA t j b k h):∃o,h.g0 j=ab o/\∀v,o.oo≠.t9 v:=by
 cases t with
 |true=>let⟨o,ho,c,d⟩:=(show h._x j b k from x);grind
 |false=>let⟨o,ho,c,d⟩:=(show h.ϧ j b k from x);grind
def ed.wN(x:ed t b vs h)(e:∀o,h.g0 b=ab o->h'.g0 b=ab o):ed t b vs h':=by
 cases t with
 |true=>let⟨o,ho,r⟩:=(show h.YV b vs from x);exact⟨o,e o ho,r⟩
 |false=>let⟨o,ho,r⟩:=(show h._M b vs from x);exact⟨o,e o ho,r⟩
def Je(gi:cA t j b k s.a5)(gt:ed t b vs s.a5)(gx:vs[k]?=ab x)
  (hQ:∀h',cA t j b (k+1) h'->gw._p j s.a5 h'->Q x {s with a5:=h'}):oS (q_ jd w) A (u5.ZV.Υ (.bj j)) Q E s:=by
 cases t with
 |true=>exact LR gi gt gx hQ
 |false=>exact wpAny_nextOf_list_item gi gt gx hQ
def Qe(hh:A.Zj=none)(gi:cA t j b k s.a5)(gt:ed t b vs s.a5)(gx:vs[k]?=none)
  (hE:∀h' e,gw.ExtBut j s.a5 h'->(∃o,h'.g0 e=ab o/\o.oh=.ny "StopIteration")->E (.bj e) {s with a5:=h'}):oS (q_ jd w) A (u5.ZV.Υ (.bj j)) Q E s:=by
 cases t with
 |true=>exact Gm hh gi gt gx hE
 |false=>exact wpAny_nextOf_list_end hh gi gt gx hE
structure ς(z I O i j a b:f'):Prop where
 Iz:I≠z
 Oz:O≠z
 iz:i≠z
 jz:j≠z
 IO:I≠O
 Ii:I≠i
 Ij:I≠j
 Oi:O≠i
 Oj:O≠j
 ij:i≠j
 az:a≠z
 zbJ:a≠O
 zbL:a≠i
 zbM:a≠j
 bz:b≠z
 bO:b≠O
 bi:b≠i
 zbV:b≠j
def z48{i:f'}{Q:dS->oU->Prop}(D:ς z I O i j a b)
  (gz:ZU s.a5 z I O .none)(gI:YU s.a5 I (.bj i) (.bj j))(gO:YU s.a5 O p q)
  (g1:cA t i a k s.a5)(g2:cA u j b k s.a5)(l1:ed t a xs s.a5)(l2:ed u b ys s.a5)(hx:xs[k]?=ab x)(hy:ys[k]?=ab y)
  (hQ:∀h',ZU h' z I O (_F s.a5.fy.dt)->YU h' O x y->cA t i a (k+1) h'->cA u j b (k+1) h'->YU h' s.a5.fy.dt x y->h'.fy.dt=s.a5.fy.dt+1 ->
   (∀c o,c≠z->c≠O->c≠i->c≠j->s.a5.g0 c=ab o->h'.g0 c=ab o)->Q (.bj s.a5.fy.dt) {s with a5:=h'}):
  oS (q_ jd w) A (u5.«zip.__next__» ⟨[.bj z],[]⟩) (λye s'=>∃v,ye=.done (.KJ v)/\Q v s') E s:=by
 show oS _ _ (Ϙ (.bj z) 2 >>= _) _ _ _;refine lb (_b gz rfl (x:=.wF false) rfl ?_);show oS _ _ (Ϙ (.bj z) 3 >>= _) _ _ _;refine lb (_b gz rfl (x:=.bj I) rfl (lb (Β gI rfl ?_)));show oS _ _ (u5.ZV.Ę (.bj z) >>= _) _ _ _;refine lb ?_;unfold u5.ZV.Ę;refine lb (_b gz rfl (x:=.none) rfl (tW ?_));simp only[Z2];refine lb (Ă (lb (_b gz rfl (x:=.bj O) rfl (lb (Ý gz (by simp) λha za sa=>?_)))))
 replace za:ZU ha z I O .É:=za
 refine lb ?_;simp only[ai.zipIdx_cons,ai.zipIdx_nil,w2g,w3b];refine lb (lb (Ĳ ?_));show oS _ _ (u5.ZV.Υ (.bj i) >>= _) _ _ _;refine lb (Je (s:={s with a5:=ha}) (g1.wN λo e=>sa.xu _ _ D.iz e) (l1.wN λo e=>sa.xu _ _ D.az e) hx λhb ib sb=>tW ?_)
 have Ob:YU hb O p q:=sb.xu _ _ D.Oi (sa.xu _ _ D.Oz gO);refine lb (Β Ob rfl (lb (Ż Ob λhc Oc sc=>?_)))
 replace Oc:YU hc O x q:=Oc
 refine lb (π (tW (lb (lb (Ĳ ?_)))));show oS _ _ (u5.ZV.Υ (.bj j) >>= _) _ _ _;refine lb (Je (s:={s with a5:=hc}) (g2.wN λo e=>sc.xu _ _ D.Oj.symm (sb.xu _ _ D.ij.symm (sa.xu _ _ D.jz e))) (l2.wN λo e=>sc.xu _ _ D.bO (sb.xu _ _ D.bi (sa.xu _ _ D.bz e))) hy λhd zcu sd=>tW ?_)
 have Od:YU hd O x q:=sd.xu _ _ D.Oj Oc;refine lb (Β Od rfl (lb (Ż Od λhe Oe se=>?_)))
 replace Oe:YU he O x y:=Oe
 refine lb (π (tW (tW (lb (Β Oe rfl (lb (zed ?_)))))));have sz:he.fy.dt=s.a5.fy.dt:=by rw[se.1,sd.1,sc.1,sb.1,sa.1]
 have ze:ZU he z I O .É:=se.xu _ _ D.Oz.symm (sd.xu _ _ D.jz.symm (sc.xu _ _ D.Oz.symm (sb.xu _ _ D.iz.symm za)));have zcy:∀c o,c≠z->c≠O->c≠i->c≠j->s.a5.g0 c=ab o->he.g0 c=ab o:=λc o c1 c2 c3 c4 e=>se.xu _ _ c2 (sd.xu _ _ c4 (sc.xu _ _ c2 (sb.xu _ _ c3 (sa.xu _ _ c1 e))))
 have zcq:cA t i a (k+1) he:=ib.wN λo e=>se.xu _ _ D.Oi.symm (sd.xu _ _ D.ij (sc.xu _ _ D.Oi.symm e))
 have zcv:cA u j b (k+1) he:=zcu.wN λo e=>se.xu _ _ D.Oj.symm e
 have C2:z<he.fy.dt:=gw.xq ze;show oS _ _ (u5.ZV.zc0 (.bj z) (.bj he.fy.dt) >>= _) _ _ _;refine lb ?_;unfold u5.ZV.zc0;have zeJ:ZU (he.si {oh:=.ny "tuple", oo:=.pJ #[x,y]}) z I O .É:=gw.v7 _ ze;refine lb (Ý zeJ (by simp) λhg zg sg=>?_)
 replace zg:ZU hg z I O (_F he.fy.dt):=zg
 refine Ý zg (by simp) λhk zk sk=>?_
 replace zk:ZU hk z I O (_F he.fy.dt):=zk
 have up:∀c o,c≠z->he.g0 c=ab o->hk.g0 c=ab o:=λc o c1 e=>sk.xu _ _ c1 (sg.xu _ _ c1 (gw.v7 _ e))
 have Tk:YU hk he.fy.dt x y:=sk.xu _ _ (w2r C2) (sg.xu _ _ (w2r C2) (gw.A9 _ rfl));have nk:hk.fy.dt=he.fy.dt+1:=by rw[sk.1,sg.1,gw.Z4]
 rw[sz]at zk Tk nk;refine tW ⟨_,rfl,?_⟩;show Q (.bj he.fy.dt) _;rw[sz];exact hQ hk zk (up _ _ D.Oz Oe) (zcq.wN λo e=>up _ o D.iz e) (zcv.wN λo e=>up _ o D.jz e) Tk nk λc o c1 c2 c3 c4 e=>up c o c1 (zcy c o c1 c2 c3 c4 e)
def RC{i:f'}(hh:A.Zj=none)(D:ς z I O i j a b)
  (gz:ZU s.a5 z I O .none)(gI:YU s.a5 I (.bj i) (.bj j))(gO:YU s.a5 O p q)
  (g1:cA t i a k s.a5)(g2:cA u j b k s.a5)(l1:ed t a xs s.a5)(l2:ed u b ys s.a5)(yi:xs[k]?=none\/ys[k]?=none)
  (hE:∀h' e,(∀c o,c≠z->c≠O->c≠i->c≠j->s.a5.g0 c=ab o->h'.g0 c=ab o)->(∃o,h'.g0 e=ab o/\o.oh=.ny "StopIteration")->E (.bj e) {s with a5:=h'}):
  oS (q_ jd w) A (u5.«zip.__next__» ⟨[.bj z],[]⟩) Q E s:=by
 show oS _ _ (Ϙ (.bj z) 2 >>= _) _ _ _;refine lb (_b gz rfl (x:=.wF false) rfl ?_);show oS _ _ (Ϙ (.bj z) 3 >>= _) _ _ _;refine lb (_b gz rfl (x:=.bj I) rfl (lb (Β gI rfl ?_)));show oS _ _ (u5.ZV.Ę (.bj z) >>= _) _ _ _;refine lb ?_;unfold u5.ZV.Ę;refine lb (_b gz rfl (x:=.none) rfl (tW ?_));simp only[Z2];refine lb (Ă (lb (_b gz rfl (x:=.bj O) rfl (lb (Ý gz (by simp) λha za sa=>?_)))))
 replace za:ZU ha z I O .É:=za
 refine lb ?_;simp only[ai.zipIdx_cons,ai.zipIdx_nil,w2g,w3b];refine lb (lb (Ĳ ?_));show oS _ _ (u5.ZV.Υ (.bj i) >>= _) _ _ _;cases hx:xs[k]? with
 |none=>
  refine lb (Qe (s:={s with a5:=ha}) hh (g1.wN λo e=>sa.xu _ _ D.iz e) (l1.wN λo e=>sa.xu _ _ D.az e) hx λhb e sb ge=>?_)
  let⟨oe,Ef,DN⟩:=ge;have zeH:ZU hb z I O .É:=sb _ _ D.iz.symm za;have nz:e≠z:=λx=>by grind
  refine Ý zeH (by simp) λhc _ sc=>hE hc e (λc o c1 _ c3 _ x=>sc.xu _ _ c1 (sb _ _ c3 (sa.xu _ _ c1 x))) ⟨oe,sc.xu _ _ nz Ef,DN⟩
 |ab x=>
  have hy:ys[k]?=none:=by grind
  refine lb (Je (s:={s with a5:=ha}) (g1.wN λo e=>sa.xu _ _ D.iz e) (l1.wN λo e=>sa.xu _ _ D.az e) hx λhb ib sb=>tW ?_)
  have Ob:YU hb O p q:=sb.xu _ _ D.Oi (sa.xu _ _ D.Oz gO);refine lb (Β Ob rfl (lb (Ż Ob λhc Oc sc=>?_)))
  refine lb (π (tW (lb (lb (Ĳ ?_)))));show oS _ _ (u5.ZV.Υ (.bj j) >>= _) _ _ _;refine lb (Qe (s:={s with a5:=hc}) hh (g2.wN λo e=>sc.xu _ _ D.Oj.symm (sb.xu _ _ D.ij.symm (sa.xu _ _ D.jz e))) (l2.wN λo e=>sc.xu _ _ D.bO (sb.xu _ _ D.bi (sa.xu _ _ D.bz e))) hy λhd e sd ge=>?_)
  let⟨oe,Ef,DN⟩:=ge;have zeI:ZU hd z I O .É:=sd _ _ D.jz.symm (sc.xu _ _ D.Oz.symm (sb.xu _ _ D.iz.symm za));have nz:e≠z:=λx=>by grind
  refine Ý zeI (by simp) λhe _ se=>hE he e (λc o c1 c2 c3 c4 x=>se.xu _ _ c1 (sd _ _ c4 (sc.xu _ _ c2 (sb.xu _ _ c3 (sa.xu _ _ c1 x))))) ⟨oe,se.xu _ _ nz Ef,DN⟩
def z49{i:f'}(D:ς z I O i j a b)
  (gz:ZU s.a5 z I O .none)(gI:YU s.a5 I (.bj i) (.bj j))(gO:YU s.a5 O p q)
  (g1:cA t i a k s.a5)(g2:cA u j b k s.a5)(l1:ed t a xs s.a5)(l2:ed u b ys s.a5)(hx:xs[k]?=ab x)(hy:ys[k]?=ab y)
  (hQ:∀h',ZU h' z I O (_F s.a5.fy.dt)->YU h' O x y->cA t i a (k+1) h'->cA u j b (k+1) h'->YU h' s.a5.fy.dt x y->h'.fy.dt=s.a5.fy.dt+1 ->
   (∀c o,c≠z->c≠O->c≠i->c≠j->s.a5.g0 c=ab o->h'.g0 c=ab o)->Q (ab (.bj s.a5.fy.dt)) {s with a5:=h'}):oS (q_ jd w) A (ι (.bj z)) Q E s:=by
 have hT:s.Κ (.bj z) "zip":=⟨_,gz,rfl⟩;unfold ι;exact lb (Ŷ (Ü (name:=d3.Zk "__next__") hT F.ģ (ÿ F.ģ hT F.zca (z48 D gz gI gO g1 g2 l1 l2 hx hy λh' a1 a2 a3 a4 zbG zbH zbI=>tW (hQ h' a1 a2 a3 a4 zbG zbH zbI)) (F.zbS _))))
def z5a{i:f'}(hh:A.Zj=none)(D:ς z I O i j a b)
  (gz:ZU s.a5 z I O .none)(gI:YU s.a5 I (.bj i) (.bj j))(gO:YU s.a5 O p q)
  (g1:cA t i a k s.a5)(g2:cA u j b k s.a5)(l1:ed t a xs s.a5)(l2:ed u b ys s.a5)(yi:xs[k]?=none\/ys[k]?=none)
  (hQ:∀h',(∀c o,c≠z->c≠O->c≠i->c≠j->s.a5.g0 c=ab o->h'.g0 c=ab o)->Q none {s with a5:=h'}):oS (q_ jd w) A (ι (.bj z)) Q E s:=by
 have hT:s.Κ (.bj z) "zip":=⟨_,gz,rfl⟩;unfold ι;refine lb (Ŷ (Ü (name:=d3.Zk "__next__") hT F.ģ (ÿ F.ģ hT F.zca (RC hh D gz gI gO g1 g2 l1 l2 yi λh' e hk he=>?_) (F.zbS _))))
 let⟨o,ho,hc⟩:=he;exact lb (ŷ (T:="StopIteration") (b:=true) ⟨o,ho,hc⟩ isSubtype_stop (tW (hQ _ hk)))
end
def EK(t:fC):Yv:=if t=true then "tuple_iterator" else "list_iterator"
abbrev A2(t:fC)(h:gw)(a:f'):gw:=h.si {oh:=.ny (EK t),oo:=.Rm #[.bj a,.aO 0 0]}
abbrev C3(t u:fC)(h:gw)(a b:f'):gw:=(A2 t h a).si {oh:=.ny (EK u),oo:=.Rm #[.bj b,.aO 0 0]}
abbrev C4(t u:fC)(h:gw)(a b:f'):gw:=(C3 t u h a b).si {oh:=.ny "tuple", oo:=.pJ #[.bj h.fy.dt,.bj (A2 t h a).fy.dt]}
abbrev C5(t u:fC)(h:gw)(a b:f'):gw:=(C4 t u h a b).si {oh:=.ny "tuple", oo:=.pJ #[.none,.none]}
abbrev wq(t u:fC)(h:gw)(a b:f'):gw:=(C5 t u h a b).si {oh:=.ny "zip", oo:=.Rm #[.none,.wF false,.wF false,.bj (C3 t u h a b).fy.dt,.bj (C4 t u h a b).fy.dt]}
theorem RD(t u)(a b)(xs ys):
  _N (u5.«zip.__new__» ⟨[.ny "zip", .bj a,.bj b],[]⟩) (λ_ R s=>ed t a xs s.a5/\ed u b ys s.a5/\R (.ok (.KJ (.bj (C5 t u s.a5 a b).fy.dt))) {s with a5:=wq t u s.a5 a b}):=
 ._Y λjd w A R s hyp=>by
  let⟨hp,g,d,tk,os⟩:=s;let⟨g1,g2,h⟩:=hyp;have pA:=sub_zip;have q2:ed u b ys (A2 t hp a):=g2.wN λo e=>gw.v7 _ e
  cases t with
  |false=>
   have p1:gw._M (oU.a5 ⟨hp,g,d,tk,os⟩) a xs:=g1;cases u with
   |false=>
    have p2:gw._M (oU.a5 ⟨hp.si {oh:=.ny "list_iterator", oo:=.Rm #[.bj a,.aO 0 0]},g,d,tk,os⟩) b ys:=q2
    wp_walk using ρ p1,ρ p2
    exact⟨_,rfl,h⟩
   |true=>
    have p2:gw.YV (oU.a5 ⟨hp.si {oh:=.ny "list_iterator", oo:=.Rm #[.bj a,.aO 0 0]},g,d,tk,os⟩) b ys:=q2
    wp_walk using ρ p1,Ϣ p2
    exact⟨_,rfl,h⟩
  |true=>
   have p1:gw.YV (oU.a5 ⟨hp,g,d,tk,os⟩) a xs:=g1;cases u with
   |false=>
    have p2:gw._M (oU.a5 ⟨hp.si {oh:=.ny "tuple_iterator", oo:=.Rm #[.bj a,.aO 0 0]},g,d,tk,os⟩) b ys:=q2
    wp_walk using Ϣ p1,ρ p2
    exact⟨_,rfl,h⟩
   |true=>
    have p2:gw.YV (oU.a5 ⟨hp.si {oh:=.ny "tuple_iterator", oo:=.Rm #[.bj a,.aO 0 0]},g,d,tk,os⟩) b ys:=q2
    wp_walk using Ϣ p1,Ϣ p2
    exact⟨_,rfl,h⟩
section
variable{s:oU}
def NY(e:h.g0 j=ab o)(c:o.oh=.ny (EK t))(d:o.oo=.Rm #[.bj a,.aO 0 0]):cA t j a 0 h:=by
 cases t with
 |true=>exact(show h._x j a 0 from⟨o,e,c,d⟩)
 |false=>exact(show h.ϧ j a 0 from⟨o,e,c,d⟩)
def YL(g1:ed t a xs s.a5)(g2:ed u b ys s.a5)
  (h:∀h',ZU h' (s.a5.fy.dt+4) (s.a5.fy.dt+2) (s.a5.fy.dt+3) .none->YU h' (s.a5.fy.dt+2) (.bj s.a5.fy.dt) (.bj (s.a5.fy.dt+1)) ->
   YU h' (s.a5.fy.dt+3) .none .none->cA t s.a5.fy.dt a 0 h'->cA u (s.a5.fy.dt+1) b 0 h'->(∀c o,s.a5.g0 c=ab o->h'.g0 c=ab o)->Q (.bj (s.a5.fy.dt+4)) {s with a5:=h'}):
  oS (q_ jd w) A (yd (.ny "zip") [.bj a,.bj b]) Q E s:=by
 refine ņ F.called_zip (by decide) (F.typeCall_zip_2 _ _) (F.newCall_zip_2 _ _) (λYc=>F.args_object_init_3 Yc _ _) F.entry_zip_new (RD t u a b xs ys) ⟨g1,g2,?_⟩
 have n1:(A2 t s.a5 a).fy.dt=s.a5.fy.dt+1:=gw.Z4 ..;have n2:(C3 t u s.a5 a b).fy.dt=s.a5.fy.dt+2:=by rw[gw.Z4,n1]
 have n3:(C4 t u s.a5 a b).fy.dt=s.a5.fy.dt+3:=by rw[gw.Z4,n2]
 have n4:(C5 t u s.a5 a b).fy.dt=s.a5.fy.dt+4:=by rw[gw.Z4,n3]
 have k5:(wq t u s.a5 a b).g0 (C5 t u s.a5 a b).fy.dt=ab _:=gw.A9 _ rfl;have k4:(wq t u s.a5 a b).g0 (C4 t u s.a5 a b).fy.dt=ab _:=gw.v7 _ (gw.A9 _ rfl);have k3:(wq t u s.a5 a b).g0 (C3 t u s.a5 a b).fy.dt=ab _:=gw.v7 _ (gw.v7 _ (gw.A9 _ rfl));have k2:(wq t u s.a5 a b).g0 (A2 t s.a5 a).fy.dt=ab _:=gw.v7 _ (gw.v7 _ (gw.v7 _ (gw.A9 _ rfl)));have k1:(wq t u s.a5 a b).g0 s.a5.fy.dt=ab _:=gw.v7 _ (gw.v7 _ (gw.v7 _ (gw.v7 _ (gw.A9 _ rfl))));have up:∀c o,s.a5.g0 c=ab o->(wq t u s.a5 a b).g0 c=ab o:=λc o e=>gw.v7 _ (gw.v7 _ (gw.v7 _ (gw.v7 _ (gw.v7 _ e))))
 show _/\_;rw[n2,n3,n4]at k5;rw[n1,n2]at k3;rw[n3]at k4;rw[n1]at k2;rw[n4];exact⟨⟨_,k5,rfl⟩,h _ k5 k3 k4 (NY k1 rfl rfl) (NY k2 rfl rfl) up⟩
end
def lW(K:Fg)(t:fC)(H:Hp)(a:f')(xs:ai V):Prop:=if t=true then c7 K H a xs else bJ K H a xs
def xf(I:je X cf σ H s)(h:lW X.K t H a xs):∃ax:ai dS,sS xs ax/\ed t a ax.k8 s.a5:=by
 cases t with
 |true=>
  let⟨ax,r,p,_⟩:=I.UH h;exact⟨ax,r,(show s.a5.YV a ax.k8 from p)⟩
 |false=>
  let⟨ax,r,p,_⟩:=I.xE h;exact⟨ax,r,p.yP⟩
def Qf(I:je X cf σ H s)(h:lW X.K t H a xs)(h':lW X.K t H a ys):xs=ys:=by
 cases t with
 |true=>exact I.fN h h'
 |false=>exact I.gQ h h'
def ed.Yc(x:ed t a vs h):∃o,h.g0 a=ab o/\o.oh=.ny (if t=true then "tuple" else "list"):=by
 cases t with
 |true=>let⟨o,ho,c,_⟩:=(show h.YV a vs from x);exact⟨o,ho,c⟩
 |false=>let⟨o,ho,c,_⟩:=(show h._M a vs from x);exact⟨o,ho,c⟩
def W8{fp:ai f'}(I:je X cf σ H s)(k:∀b o,b∉fp->s.a5.g0 b=ab o->h'.g0 b=ab o)(hf:∀b∈fp,er X cf H b):je X cf σ H {s with a5:=h',sP:=t'}:=by
 have UL:∀c u,H c=ab u->c∉fp:=λc u e z=>by rw[(hf c z).1]at e;cases e
 refine I.Zy (g':=s.Za) (d':=s.ϕ) (ch:=fp) (λc hc=>?_) (λc o _ _ hc e _=>k c o hc e) (λc o _ _ hc e _=>⟨o.Zd,k c o hc e⟩) (λc o _ e n=>n)
  (λc o hc e=>⟨o,k c o hc e⟩) (λc xs e=>e) (λc o u e=>e) (λc ps e=>⟨#[],by rw[e];simp⟩) (λm hm=>?_) (λc u e=>?_) I.QN
 .let⟨f0,f1,f2,f3,f4,f5⟩:=hf c hc
  grind
 .let⟨o,es,ep,ho,r⟩:=hm;exact⟨o,es,ep,k _ o (λz=>(hf _ z).2.1 rfl) ho,r⟩
 .refine(I.aL c u e).fE (λd v hd q=>k d v ?_ q) (λd q=>q) λd xs _ q=>q
  grind
def De(K:Fg)(t u:fC)(a b:f'):It:=
  ⟨λi H=>∃xs ys x y,lW K t H a xs/\lW K u H b ys/\xs[i]?=ab x/\ys[i]?=ab y,
   λi H v H'=>∃c x y,v=.bj c/\H c=none/\(∀xs,lW K t H a xs->xs[i]?=ab x)/\(∀ys,lW K u H b ys->ys[i]?=ab y)/\H'=ot H c (.gs [x,y]),
   λi H=>∃xs ys,lW K t H a xs/\lW K u H b ys/\(xs.aj<=i\/ys.aj<=i)⟩
def zaO(t u)(a b z I O i j)(D:ς z I O i j a b):
  ϋ P w K (.Yo _B kt pt) (De K t u a b) [z,I,O,i,j] z (λk h=>ZU h z I O .none/\YU h I (.bj i) (.bj j)/\(∃p q,YU h O p q)/\cA t i a k h/\cA u j b k h) where
 Ye:=by simp
 Yc:=λk h ⟨s1,s2,⟨p,q,s3⟩,s4,s5⟩ c hc=>by
  simp only[w0g,w1d,ZM]at hc
  grind [cA.Yc]
 wN:=λk h h' ⟨s1,s2,⟨p,q,s3⟩,s4,s5⟩ f=>⟨f z (by simp) _ s1,f I (by simp) _ s2,⟨p,q,f O (by simp) _ s3⟩,s4.wN λo e=>f i (by simp) o e,s5.wN λo e=>f j (by simp) o e⟩
 Z7:=by
  intro X hP hw hK hc k cf s σ H E Iv hf st hg;subst hP hw hK;let⟨s1,s2,⟨p,q,s3⟩,s4,s5⟩:=st;let⟨xs,ys,x,y,q1,q2,hx,hy⟩:=hg;let⟨K8,r1,p1⟩:=xf Iv q1;let⟨K9,r2,p2⟩:=xf Iv q2;let⟨ux,Up,U'⟩:=r1.Df hx;let⟨uy,Uq,Va⟩:=r2.Df hy;refine z49 D s1 s2 s3 s4 s5 p1 p2 (x:=ux) (y:=uy) (by simpa using Up) (by simpa using Uq) λh1 z1 o1 i1 j1 t1 n1 k1=>⟨_,rfl,?_⟩
  refine wpAny_letOwnedTupleGo_zip z1 λh2 z2 b2=>?_
  have b2:gw._p z h1 h2:=b2;have C2:z<s.a5.fy.dt:=gw.xq s1;have nU:H s.a5.fy.dt=none:=Iv.aL.xS (w0e _);have t2:YU h2 s.a5.fy.dt ux uy:=(b2.2 _ (w2r C2)).ki t1;have I1:YU h1 I (.bj i) (.bj j):=k1 I _ D.Iz D.IO D.Ii D.Ij s2;refine⟨.bj s.a5.fy.dt,ot H s.a5.fy.dt (.gs [x,y]),?_,rfl,⟨_,x,y,rfl,nU,λiS h'=>by grind [Qf],λzaP h'=>by grind [Qf],rfl⟩,⟨z2,(b2.2 _ D.Iz).ki I1,⟨ux,uy,(b2.2 _ D.Oz).ki o1⟩,i1.wN λo e=>(b2.2 _ D.iz).ki e,j1.wN λo e=>(b2.2 _ D.jz).ki e⟩,λc hc=>?_⟩
  .show L2.je X cf σ _ {s with a5:=h2,sP:=s.sP};refine Hk (fp:=[z,I,O,i,j]) Iv (λc o hc q=>?_) hf (w0e _) ⟨?_,[ux,uy],.qY U' (.qY Va .rA),⟨_,t2,rfl,?_⟩,⟨_,t2,rfl⟩⟩
   .simp only[w0g,w1d,ZM,ş]at hc;exact(b2.2 c hc.1).ki (k1 c o hc.1 hc.2.2.1 hc.2.2.2.1 hc.2.2.2.2 q)
   all_goals grind [Yf]
  .have:c≠s.a5.fy.dt:=by
    obtain⟨o,q,_⟩:∃o,s.a5.g0 c=ab o/\kc:=by
     simp only[w0g,w1d,ZM]at hc
     grind [cA.Yc]
    exact w0p (gw.xq q)
   rw[bh this];exact(hf c hc).1
 done:=by
  intro X hP hw hK hc k cf s σ H E Iv hf st hg;subst hP hw hK;let⟨s1,s2,⟨p,q,s3⟩,s4,s5⟩:=st;let⟨xs,ys,q1,q2,v_⟩:=hg;let⟨K8,r1,p1⟩:=xf Iv q1;let⟨K9,r2,p2⟩:=xf Iv q2;have l1:=r1.aj;have l2:=r2.aj;refine z5a (Iv.ok.hd hc) D s1 s2 s3 s4 s5 p1 p2 (by grind) λh' k1=>⟨rfl,?_⟩
  have oy:∀c∈[z,I,O,i,j],er X cf H c:=hf;refine W8 (fp:=[z,I,O,i,j]) (t':=s.sP) Iv (λc o hc q=>?_) oy
  grind
 self:=λ_ _ _ _ _ ⟨s1,_⟩ h=>zee s1 h
theorem YM(n a b:ar)(ha:a<n)(hb:b<n):ς (n+4) (n+2) (n+3) n (n+1) a b where
 Iz:=by grind
 Oz:=by grind
 iz:=by grind
 jz:=by grind
 IO:=by grind
 Ii:=by grind
 Ij:=by grind
 Oi:=by grind
 Oj:=by grind
 ij:=by grind
 az:=by grind
 zbJ:=by grind
 zbL:=by grind
 zbM:=by grind
 bz:=by grind
 bO:=by grind
 bi:=by grind
 zbV:=by grind
section
variable{a1 a2:pN}{pt:vY}
def EC(K:Fg)(ta:TA):TI:=λσ H R=>ta σ H λvs H1=>∃t u a b,vs=[.bj a,.bj b]/\(∃xs,lW K t H1 a xs)/\(∃ys,lW K u H1 b ys)/\R (De K t u a b) H1
def RE{ta:TA}{p:vY}(hg:Gl X "zip")(hm:X.mg "zip"=none)(ha:PA X [a1,a2] ta)(hs:autoParam (p5 [a1,a2] X.a7=[(false,eval a1 X.a7),(false,eval a2 X.a7)]) jJ)(iW:autoParam (p5 [a2] X.a7=[(false,eval a2 X.a7)]) jJ):
  PI X (.Yo _B kt pt) (.wc (.oL "zip" p) [a1,a2] [] gJ) (EC X.K ta):=by
 intro cf s σ H R I h;refine L1.Mk.Ą (qM I hg hm L1.Mk.boot_zip (L1.Mk.ϭ (bw (ha gJ cf s σ H _ I h) λus s1 ⟨vs,H1,I1,r1,q1⟩=>?_) (by rw[hs,iW]) (by rw[iW];rfl)))
 let⟨t,u,a,b,e,⟨xs,hx⟩,⟨ys,hy⟩,q⟩:=q1;subst e;cases r1 with
 |qY r rr=>
  cases rr with
  |qY r' rr=>
   cases rr;cases r;cases r';let⟨K8,v1,p1⟩:=xf I1 hx;let⟨K9,v2,p2⟩:=xf I1 hy;let⟨zfh,ea,_⟩:=p1.Yc;let⟨ob,eb,_⟩:=p2.Yc;have la:=gw.xq ea;have zfg:=gw.xq eb;refine YL p1 p2 λh' z1 i1 o1 k1 k2 up=>?_
   refine zee z1 ?_
   have D:ς (s1.a5.fy.dt+4) (s1.a5.fy.dt+2) (s1.a5.fy.dt+3) s1.a5.fy.dt (s1.a5.fy.dt+1) a b:=by
    grind [YM]
   refine⟨s1.a5.fy.dt+4,[s1.a5.fy.dt+4,s1.a5.fy.dt+2,s1.a5.fy.dt+3,s1.a5.fy.dt,s1.a5.fy.dt+1],_,_,H1,rfl,I1.Ya (t':=s1.sP) up,zaO t u a b _ _ _ _ _ D,⟨z1,i1,⟨_,_,o1⟩,k1,k2⟩,λc hc=>?_,q⟩
   simp only[w0g,w1d,ZM]at hc;rcases hc with rfl|rfl|rfl|rfl|rfl<;>exact I1.jg (by omega) (I1.aL.xS (by omega))
def mR(dA:ke (ai W)):ke (ai (W×W)):=λe=>(dA e).r7 λws e1=>match ws with
 |[x,y]=>match eX x,eX y with
  |ab us,ab vs=>.ok (us.wk vs) e1
  |_,_=>.no
 |_=>.no
def O6(h:eX w=ab us)(p:p7 K G w v):∃t a xs,v=.bj a/\lW K t G a xs/\aq K G us xs:=by
 cases w with
 |gs l=>
  cases h;let⟨a,xs,rfl,hq,rp⟩:=p;exact⟨true,a,xs,rfl,hq,rp⟩
 |dI l=>
  cases h;let⟨a,xs,rfl,hq,rp⟩:=p;exact⟨false,a,xs,rfl,hq,rp⟩
 |_=>cases h
def nA(s:au G H)(h:lW K t G a xs):lW K t H a xs:=by
 cases t with
 |true=>exact s.gs h
 |false=>exact s.pJ h
def YN(r1:aq K G1 us xs)(r2:aq K G1 vs ys)(h1:lW K t G1 a xs)(h2:lW K u G1 b ys):i_ K G1 (De K t u a b) (us.wk vs):=by
 have l1:=r1.aj;have l2:=r2.aj;have lz:(us.wk vs).aj=min us.aj vs.aj:=ai.length_zip ..;refine⟨λi G H s s' h=>⟨xs,ys,xs[i]'(by omega),ys[i]'(by omega),nA s' (nA s h1),nA s' (nA s h2),by simp,by simp⟩,λi G H x H' s s' hy p q h=>?_,λi G H s s' h=>⟨xs,ys,nA s' (nA s h1),nA s' (nA s h2),by omega⟩⟩
 let⟨c,x1,y1,rfl,hn,Uu,Uw,rfl⟩:=hy;let⟨hu,hv⟩:=ai.getElem?_zip_eq_some.mp h;let⟨w1,K0,UW⟩:=r1.iM (Uu xs (nA s' (nA s h1)));let⟨w2,K1,UX⟩:=r2.iM (Uw ys (nA s' (nA s h2)));rw[hu]at K0;rw[hv]at K1;cases K0;cases K1;exact⟨aK.l3 s' hn _,λm n σ Q hQ=>⟨c,[x1,y1],rfl,c7.of bT,rfl,x1,[y1],rfl,y1,[],rfl,rfl,hQ _ _ (p7.pg s _ UW) (p7.pg s _ UX)⟩⟩
def Q1w{p:vY}(hm:X.mg "zip"=none)(ha:DA Z X EE [a1,a2] dA)(hg:autoParam (Gl X "zip") jJ)(hs:autoParam (p5 [a1,a2] X.a7=[(false,eval a1 X.a7),(false,eval a2 X.a7)]) jJ)(iW:autoParam (p5 [a2] X.a7=[(false,eval a2 X.a7)]) jJ):
  DI Z X EE (.Yo _B kt pt) (.wc (.oL "zip" p) [a1,a2] [] gJ) (mR dA):=by
 refine PI.pg (RE hg hm ha hs iW) ?_;rintro σ H RR ⟨G,e,nN,h⟩;simp only[mR,R.aw]at h;refine⟨G,e,nN,h.vW (λws e1 h G1 vs H1 r1 s1 p1=>?_) λ_ _ h=>h⟩
 split at h
 .rename_i w1 w2;split at h
  .rename_i us ws hu hw;let⟨y1,r,rfl,q1,y2,r',rfl,q2,q3⟩:=p1;cases(show r'=[]from q3);let⟨t,a,xs,rfl,hx,rx⟩:=O6 hu q1;let⟨u,b,ys,rfl,hy,ry⟩:=O6 hw q2;exact⟨t,u,a,b,rfl,⟨xs,nA r1.ri hx⟩,⟨ys,nA r1.ri hy⟩,h _ _ _ r1 s1 (YN rx ry hx hy)⟩
  .exact h.oP
 .exact h.oP
end
def lQ(e:ai S):ai W->R (ai (W×W))
 |[x,y]=>match eX x,eX y with
  |ab us,ab vs=>.ok (us.wk vs) e
  |_,_=>.no
 |_=>.no
def Q1x:mR dA e=(dA e).r7 λws e1=>lQ e1 ws:=by
 unfold mR;congr 1
theorem y90:lQ e [.gs us,.gs vs]=.ok (us.wk vs) e:=rfl
theorem y91:lQ e [.dI us,.dI vs]=.ok (us.wk vs) e:=rfl
theorem y92:lQ e [.gs us,.dI vs]=.ok (us.wk vs) e:=rfl
theorem y93:lQ e [.dI us,.gs vs]=.ok (us.wk vs) e:=rfl
theorem O7:∀ns:ai a6,dQ (ns.aT .aO)=ab ns
 |[]=>rfl
 |n::ns=>by rw[w0k];show(dQ (ns.aT .aO)).aT (n::·)=_;rw[O7 ns];rfl
def iB:S->S
 |.ie _ ws=>.fr (.dI ws)
 |.ba kvs=>.fr (.ba kvs)
 |.dw sh ks ws=>.fr (.dw false sh ks ws)
 |s=>s
def dM(e:ai S):ai S:=e.aT iB
def d6(e:ai S):R W->R W
 |.ok w _=>if a_ w=true then .ok w e else .no
 |.ex c _=>.ex c e
 |.no=>.no
def cZ(d:ke W):ke W:=λe=>d6 e (d (dM e))
def d7(e:ai S):R fC->R fC
 |.ok b _=>.ok b e
 |.ex c _=>.ex c e
 |.no=>.no
def cF(d:ke fC):ke fC:=λe=>d7 e (d (dM e))
def ro.hide(r:ro K Z G σ H e):ro K ⟨H,H,[]⟩ H σ H (dM e):=by
 have g:∀(i:ar)(s:S),(dM e)[i]?=ab s->∃s0,e[i]?=ab s0/\s=iB s0:=λi s h=>by
  unfold dM at h
  grind
 refine⟨.uw _,λi s h=>?_,by grind [dM,vn],λi j b b' ws ws' a h1 _ _ _=>?_,λa o h _=>h,(λa h=>nomatch h),λa _=>rfl⟩
 .let⟨s0,h0,rfl⟩:=g i s h;have q:=r.yM i s0 h0;cases s0 with
  |no=>trivial
  |fr w=>
   let⟨u,q1,q2⟩:=q;exact⟨u,q1,p7.pg r.ri w q2⟩
  |ie b ws=>
   let⟨a,xs,q1,q2,q3,q4,q5⟩:=q;exact⟨.bj a,q1,a,xs,rfl,bJ.of q2,aq.pg r.ri ws q5⟩
  |ba kvs=>
   let⟨a,q1,q2,_⟩:=q;exact⟨.bj a,q1,a,rfl,q2⟩
  |dw sh ks ws=>
   let⟨a,kvs,bt,q1,q2,_,_,q5,q6,q7⟩:=q;exact⟨.bj a,q1,a,kvs,bt,rfl,q2,q5,q6.pg r.ri,aq.pg r.ri ws q7.Aq⟩
 .let⟨s0,_,h2⟩:=g i _ h1;cases s0 with
  |_=>cases h2
def ro.æ(r:ro K Z G σ H e)(r2:ro K ⟨H,H,[]⟩ G2 σ H2 e2):ro K Z G σ H2 e:=by
 have hh:au H H2:=λa o h=>r2.YY a o h (λz=>nomatch z)
 exact r.HF ⟨hh,.uw _,λa o h=>hh a o (r.ri a o h),λ_ _=>rfl⟩
def zbf(h:a_ w=true)(p:p7 K G w v):p7 K G' w v:=by
 cases w with
 |aF=>exact p
 |bl b=>exact p
 |aO b=>exact p
 |str b=>exact p
 |_=>cases h
def y5l{e:oa.pN}(he:∀Z',DE Z' X EE e d):DE Z X EE e (cZ d):=by
 intro cf s σ H Q I hq;let⟨G,e0,nN,h⟩:=hq;refine he ⟨H,H,[]⟩ cf s σ H Q I ⟨H,dM e0,nN.hide,?_⟩;unfold cZ d6 at h;cases q:d (dM e0)with
 |ok w e2=>
  rw[q]at h;dsimp only at h;split at h
  .rename_i hs;intro G2 v H2 r2 s2 p;exact h G v H2 (nN.æ r2) (.uw _) (zbf hs p)
  .exact h.oP
 |ex k e2=>
  rw[q]at h;intro G2 H2 r2 s2;exact h G H2 (nN.æ r2) (.uw _)
 |no=>rw[q]at h;exact h.oP
def y5m{e:oa.pN}(he:∀Z',DT Z' X EE e c):DT Z X EE e (cF c):=by
 intro cf s σ H Q I hq;let⟨G,e0,nN,h⟩:=hq;refine he ⟨H,H,[]⟩ cf s σ H Q I ⟨H,dM e0,nN.hide,?_⟩;unfold cF d7 at h;cases q:c (dM e0)with
 |ok w e2=>
  rw[q]at h;intro G2 H2 r2 s2;exact h G H2 (nN.æ r2) (.uw _)
 |ex k e2=>
  rw[q]at h;intro G2 H2 r2 s2;exact h G H2 (nN.æ r2) (.uw _)
 |no=>rw[q]at h;exact h.oP
section
variable [ß p]
theorem y5n:cZ d e=d6 e (d (dM e)):=rfl
theorem y2k{d:ke fC}:cF d e=d7 e (d (dM e)):=rfl
theorem y5o:d6 e (.ok w e')=if a_ w=true then .ok w e else .no:=rfl
theorem y5p:d6 e (.ex v e')=.ex v e:=rfl
theorem y2l:d7 e (.ok k e')=.ok k e:=rfl
theorem y2m:d7 e (.ex v e')=.ex v e:=rfl
def y2n:d6 e (if p then x else y)=if p then d6 e x else d6 e y:=by split<;>rfl
def x9b:d7 e (if p then x else y)=if p then d7 e x else d7 e y:=by split<;>rfl
theorem y95:dM []=[]:=rfl
theorem y5q:dM (s::e)=iB s::dM e:=rfl
theorem y96:iB (.ie b ws)=.fr (.dI ws):=rfl
theorem z5b:iB (.fr w)=.fr w:=rfl
theorem z5c:iB .no=.no:=rfl
end
end D
namespace L2
open PySem PySem.Spec PyProof.Rows
structure ze0(qp:ai Rb)(H H':Hp)(h h':gw)(e:f')(oh:dS)(B:gw):Prop where
 fE:B.StaysIn h'
 QN:B.g0 e=none
 ff:h'.ϥ B qp
 tr:∃a0 fl,h'.TracedAtW B e oh a0 fl
 yc:∀b o,h.g0 b=ab o->H b=none->b∉fW qp->B.g0 b=ab o
 oF:∀b u o,H' b=ab u->h'.g0 b=ab o->B.g0 b=ab o
 tB:∀b o,h.g0 b=ab o->b∈fW qp\/∃o',B.g0 b=ab o'
 yL:h.g0 e=none
end L2
namespace D
open PySem L2
def jT(c:ke fC)(d:ke W)(pe:ai S):ai W->fv (dS ⊕ ai W)
 |[]=>ab (.mv [])
 |w::ws=>match c (.fr w::pe)with
  |.ok true e1=>match d e1 with
   |.ok y _=>(jT c d pe ws).aT (ZW.aT id (y::·))
   |.ex k _=>ab (.j' k)
   |.no=>none
  |.ok false _=>jT c d pe ws
  |.ex k _=>ab (.j' k)
  |.no=>none
def kn(e:ai S):fv (dS ⊕ ai W)->R (ai W)
 |ab (.mv wj)=>.ok wj e
 |ab (.j' k)=>.ex k e
 |none=>.no
def l'(js:ai ar)(c:ke fC)(d:ke W)(ws:ai W)(e1:ai S):R (ai W):=
 if ws.aj<=16777216 then kn (bo js e1) (jT c d (gm js (bo js e1)) ws)else .no
theorem y97:l' js cc d ws e=if ws.aj<=16777216 then kn (bo js e) (jT cc d (gm js (bo js e)) ws)else .no:=rfl
theorem y5r:kn e (ab (.mv wj))=.ok wj e:=rfl
theorem y5s:kn e (ab (.j' k))=.ex k e:=rfl
section
variable{X:Cx}{Z:Zt}{EE:L2.St->XK}{K' xw a b:pN}{zb:ai pN}{d0 sc:yz}{gJ pt:vY}{x:d3}{Nf N:ai d3}{js:ai ar}{di:ke W}{dA:ke (ai W)}{c:ke fC}{d:ke W}
def Q1y(h:(l' js c d ws e1).Uh P Ex):ws.aj<=16777216/\∃wj,jT c d (gm js (bo js e1)) ws=ab wj/\ZW.oP (λk=>Ex k (bo js e1)) (λo=>P o (bo js e1)) wj:=by
 unfold l' at h;split at h
 .rename_i hl;cases ho:jT c d (gm js (bo js e1)) ws with
  |none=>rw[ho]at h;exact h.oP
  |ab wj=>rw[ho]at h;exact⟨hl,wj,rfl,by cases wj<;>exact h⟩
 .exact h.oP
end
end D
namespace L2
open PySem PySem.Spec PyProof.Rows
def Dk(t:SetTable):Prop:=t.place.vZ.Zl (·<·)/\t.dummies=#[]
def HX:dS->a6
 |.aO n _=>n
 |_=>0
structure zeL(jd:wO)(w:vq)(es:yx (a6×dS))(t:SetTable)(S:ai a6):Prop where
 el:ElemsOf (intKind jd w) es.vZ
 sz:es.dt<scanBound
 fit:t.Z6 es.dt=true
 rise:Dk t
 led:t.led=!w.r5.followText "set-order"
 ξ:∀e∈es.vZ,∃n k,e.2=dS.aO n k
 perm:(es.vZ.aT λe=>HX e.2).ZD S
def qj(S:ai a6)(k:a6):ai a6:=if k∈S then S else S++[k]
theorem fq:∀(ns S:ai a6),(ns.ym qj S).aj<=S.aj+ns.aj
 |[],S=>by simp
 |n::ns,S=>by
  have:=fq ns (qj S n)
  grind [qj]
namespace SI
def ie:Manifest.owners.gr (Yv.ofList ['r','o','t','a','r','e','t','i','_','t','e','s'].UE)=ab Manifest.sig_set_iterator:=by kernel_rfl
theorem next:Slot "set_iterator" "__next__" "set_iterator.__next__":=.of (owner:="set_iterator") (n:="__next__") (by rw[Į,Č];kernel_rfl) (by decide +kernel) (by decide +kernel) (by decide +kernel) (by first|exact .j' (by decide +kernel)|exact .mv (by decide +kernel)) (by rw[Ř];kernel_rfl)
theorem xw:Slot "set_iterator" "__iter__" "set_iterator.__iter__":=.of (owner:="set_iterator") (n:="__iter__") (by rw[Į,Č];kernel_rfl) (by decide +kernel) (by decide +kernel) (by decide +kernel) (by first|exact .j' (by decide +kernel)|exact .mv (by decide +kernel)) (by rw[Ř];kernel_rfl)
end SI
open PySem PySem.Spec PyProof.Rows
end L2
namespace D
open PySem L2
section
variable(l:f')(p9:yx dS)(n:ar)(k:a6)(u:ε)(dd:fv f')(sl:yx (fv dS))
theorem zaK(h1:¬(k < -(2^63)||k>=2^63)=true)(h2:¬(p9.UD||k==1)=true)(h3:¬(k<=0||p9.UD)=true)(h4:¬p9.dt*k>(2^63-1) / 8)(h5:¬u5.Yo.zdD (p9.dt*k)=true)(h6:(ai.ym (λx1 x2=>x1++x2) #[] (ai.v5 k.t8 p9)).dt<=vr):
  _N (u5.«tuple.__mul__» ⟨[.bj l,.aO k u],[]⟩) (λ_ R s=>s.a5.g0 l=ab {oh:=.ny "tuple", we:=dd,oo:=.pJ p9 n,Zd:=sl}/\R (.ok (.KJ (dS.bj s.a5.fy.dt))) {s with a5:=s.a5.si {oh:=dS.ny "tuple", oo:=Þ.pJ (ai.ym (λx1 x2=>x1++x2) #[] (ai.v5 k.t8 p9))}}):=
 ._Y λjd w A R s h=>by
  let⟨hp,g,d,tk,os⟩:=s;let⟨hl,h⟩:=h
  wp_walk
  refine Ā (λz=>uP z h1) λ_=>?_
  wp_walk
  refine Ā (λz=>uP z h4) λ_=>?_
  wp_walk
  exact⟨_,rfl,h⟩
theorem zaL(h1:¬(k < -(2^63)||k>=2^63)=true)(h2:¬(p9.UD||k==1)=true)(h3:(k<=0||p9.UD)=true):
  _N (u5.«tuple.__mul__» ⟨[.bj l,.aO k u],[]⟩) (λ_ R s=>s.a5.g0 l=ab {oh:=.ny "tuple", we:=dd,oo:=.pJ p9 n,Zd:=sl}/\R (.ok (.KJ (dS.bj s.a5.fy.dt))) {s with a5:=s.a5.si {oh:=dS.ny "tuple", oo:=Þ.pJ #[]}}):=
 ._Y λjd w A R s h=>by
  let⟨hp,g,d,tk,os⟩:=s;let⟨hl,h⟩:=h
  wp_walk
  refine Ā (λz=>uP z h1) λ_=>?_
  wp_walk
  exact⟨_,rfl,h⟩
theorem z0a(h1:¬(k < -(2^63)||k>=2^63)=true)(h2:(p9.UD||k==1)=true):
  _N (u5.«tuple.__mul__» ⟨[.bj l,.aO k u],[]⟩) (λ_ R s=>s.a5.g0 l=ab {oh:=.ny "tuple", we:=dd,oo:=.pJ p9 n,Zd:=sl}/\R (.ok (.KJ (dS.bj l))) s):=
 ._Y λjd w A R s h=>by
  let⟨hp,g,d,tk,os⟩:=s;let⟨hl,h⟩:=h
  wp_walk
  refine Ā (λz=>uP z h1) λ_=>?_
  wp_walk
  exact⟨_,rfl,h⟩
theorem YO:_N (u5.«int.__rmul__» ⟨[.aO k u,.bj l],[]⟩) (λ_ R s=>s.a5.g0 l=ab {oh:=.ny "tuple", we:=dd,oo:=.pJ p9 n,Zd:=sl}/\R (.ok (.KJ dS.zcR)) s):=
 ._Y λjd w A R s h=>by let⟨hp,g,d,tk,os⟩:=s;let⟨hl,h⟩:=h;wp_walk;exact⟨_,rfl,h⟩
end
variable{X:Cx}{dA:ke (ai W)}{e:pN}{p:vY}{Z:Zt}
theorem XU:fillsNumberSlot (.ny "tuple") "mul"=vo false:=
 fillsNumberSlot_seq (id:="tuple.__mul__") (r:=ab (.yR "tuple.__rmul__")) oa.F.ø.gr (by decide +kernel) oa.F.zdu.gr (by decide +kernel)
def XW:seqRepeat? (.ny "tuple")=vo (ab (.yR "tuple.__mul__")):=by
 unfold seqRepeat?;rw[seqSlot_of (T:="tuple") (name:="__mul__") (id:="tuple.__mul__") oa.F.ø.gr (by decide +kernel),seqSlot_of (T:="tuple") (name:="__rmul__") (id:="tuple.__rmul__") oa.F.zdu.gr (by decide +kernel)];rfl
def um(K:Fg):R2:=λx y H Q=>∃l k xs,x=.bj l/\y=.aO k/\c7 K H l xs/\xs≠[]/\-(2^63)<=k/\k<2^63/\xs.aj*k.t8<=vr /\
 (k=1->Q (.bj l) H)/\(k≠1->∀p,H p=none->Q (.bj p) (ot H p (.gs (ai.v5 k.t8 xs).Ym)))
def Mi(ax:ai dS)(m):ai.ym (λx1 x2=>x1++x2) #[] (ai.v5 m ax.k8)=(ai.v5 m ax).Ym.k8:=by
 grind [Ha]
def z5d:fe X (ZX .ω) (um X.K):=by
 intro cf s σ H x y v u Q I rx ry h;let⟨l,k,xs,rfl,rfl,hH,iN,h1,h2,hz,q1,q2⟩:=h;cases rx;let⟨t,rfl⟩:=ry;let⟨ax,r,p1,_⟩:=I.UH hH;let⟨⟨oh,dd,oo,sl⟩,ho,hc,n,hd⟩:=id p1;simp only at hc hd;subst hc hd;have hl:=r.aj;have pd:¬(k < -(2^63)||k>=2^63)=true:=by simp;omega
 have ze5:ax.k8.UD=false:=by
  grind
 have ZG:∀{Q':dS->oU->Prop},(oS (q_ X.jd X.w) X.A (yd (.yR "tuple.__mul__") [.bj l,.aO k t]) Q' X.xe s)->oS (q_ X.jd X.w) X.A (ZX .ω (.bj l) (.aO k t)) Q' X.xe s:=λ{Q'} hq=>by
  refine zd6 (T:="tuple") (U:="int") (by decide) ⟨_,ho,rfl⟩ (λs'=>û s' k t) XU oa.F.zcg oa.F.ğ XW oa.F.zdq.gr
   (oa.Ξ oa.F.ğ (û s k t) oa.F.zb8 (oa.F.zbO _ _) (YO l ax.k8 n k t dd sl) ⟨ho,rfl,⟨_,ho,rfl⟩,hq⟩)
 by_cases ph:k=1
 .subst ph;exact ZG (oa.Ξ oa.F.ø ⟨_,ho,rfl⟩ oa.F.Ŏ (oa.F.Ł _ _) (z0a l ax.k8 n 1 t dd sl pd (by simp)) ⟨ho,.bj l,H,I,rfl,q1 rfl⟩)
 .have Bd:¬(ax.k8.UD||k==1)=true:=by grind
  have fr:=I.aL.xS (w0e s.a5.fy.dt)
  by_cases wI:k<=0
  .refine ZG (oa.Ξ oa.F.ø ⟨_,ho,rfl⟩ oa.F.Ŏ (oa.F.Ł _ _) (zaL l ax.k8 n k t dd sl pd Bd (by simp[wI])) ⟨ho,?_⟩);have e:k.t8=0:=by omega
   have z:=q2 ph _ fr;rw[e]at z;exact⟨.bj s.a5.fy.dt,_,I.Lf (t':=s.sP) (λb o e=>gw.v7 _ e) (w0e _) (show aS X.jd X.w _ _ _ (.gs (ai.v5 0 xs).Ym)from⟨w1b _,[],.rA,L1.Mk._n.yL _ _,_,gw.A9 _ rfl,rfl⟩),rfl,z⟩
  .have v_:ax.aj*k.t8<=vr:=by rw[<- hl];exact hz
   have tL:((ax.k8.dt:ar):a6)*k=((ax.aj*k.t8:ar):a6):=by
    grind
   have sl8:(vr:a6)<=(2^63-1) / 8:=by decide
   have hfl:(ai.v5 k.t8 ax).Ym.aj=k.t8*ax.aj:=IQ ..;refine ZG (oa.Ξ oa.F.ø ⟨_,ho,rfl⟩ oa.F.Ŏ (oa.F.Ł _ _) (zaK l ax.k8 n k t dd sl pd Bd (by grind) (by rw[tL];omega) (by rw[tL];unfold u5.Yo.zdD;grind) (by grind [Mi])) ⟨ho,?_⟩);rw[Mi];exact⟨.bj s.a5.fy.dt,_,I.Lf (t':=s.sP) (λb o e=>gw.v7 _ e) (w0e _) (show aS X.jd X.w _ _ _ (.gs (ai.v5 k.t8 xs).Ym)from⟨by grind [IQ],_,r.yB k.t8,L1.Mk._n.yL _ _,_,gw.A9 _ rfl,rfl⟩),rfl,q2 ph _ fr⟩
def mQ:W->W->fv W
 |.gs ws,.aO k=>if n0 k=true/\ws≠[]/\ws.aj*k.t8<=16777216 then ab (.gs (ai.v5 k.t8 ws).Ym)else none
 |_,_=>none
def z5e:g8 K (um K) mQ:=by
 intro G H x y wx wy w Q s px py hf h;unfold mQ at hf;split at hf
 .rename_i ws k;split at hf
  .rename_i hc;cases hf;cases(show y=V.aO k from py);let⟨l,xs,rfl,hq,rp⟩:=px;have hb:=vS hc.1;refine⟨l,k,xs,rfl,rfl,s.gs hq,λz=>hc.2.1 (by subst z;exact w4o.mp rp.aj.symm),by omega,by omega,by rw[Yf,rp.aj];exact hc.2.2,λhk=>?_,λhk p hp=>?_⟩
   .subst hk;have e:(ai.v5 (1:a6).t8 ws).Ym=ws:=by simp
    rw[e]at h;exact h G _ H (.uw s) ⟨l,xs,rfl,hq,rp⟩
   .have g:aK G H (ot G p (.gs (ai.v5 k.t8 xs).Ym)) (ot H p (.gs (ai.v5 k.t8 xs).Ym)):=aK.Lf s hp _;exact h _ _ _ g ⟨p,_,rfl,c7.of bT,aq.pg g.gg _ (Cm rp _)⟩
  .cases hf
 .cases hf
theorem z5f{Z:Zt}(ha:DE Z X EE a da)(hb:DE Z X EE b db):DE Z X EE (._K a .ω b gJ) (ak mQ da db):=uh z5d z5e ha hb
def z0b(hc:X.TR=true):dg X (.yR "any") (λxs H Q=>∃p ys,xs=[.bj p]/\bJ X.K H p ys/\(∀y∈ys,∃b,y=.bl b)/\Q (.bl (ys.vb λy=>decide (y=.bl true))) H):=by
 intro cf s σ H xs us Q I r h;let⟨p,ys,rfl,hq,hb,q⟩:=h;let⟨u,rfl,rx⟩:=_H r;cases rx;let⟨ax,r',pl,hz⟩:=I.xE hq;have hl:=pl.yP;have bR:p<s.a5.fy.dt:=by let⟨_,e,_⟩:=hl;exact gw.xq e
 have hh:X.A.Ko.Zj=none:=I.ok.hd hc;refine call_any_walk (ρ hl ⟨s.a5.fy.dt,[s.a5.fy.dt,p],[s.a5.fy.dt],_,_,_,λi=>decide (ys[i]?=ab (.bl true)),rfl,Ϫ.xE hh s.a5.fy.dt p (w0p bR) ax.k8,⟨⟨_,gw.A9 _ rfl,rfl,rfl⟩,hl.si _⟩,?_,λh' tk kp=>?_⟩)
 .intro i v s1 Q1 E1 hv hQ;have r_:ax[i]?=ab v:=by simpa using hv
  have hi:i<ys.aj:=by grind [sS.aj]
  let⟨u,hu,ru⟩:=r'.Df (w0b hi);rw[r_]at hu;cases hu;let⟨b,eb⟩:=hb ys[i] (w1o hi);rw[eb]at ru;cases ru;refine Ω ?_
  simp_all
 .have e:(ai.zd ax.k8.dt).vb (λi=>decide (ys[i]?=ab (V.bl true)))=ys.vb λy=>decide (y=.bl true):=by
   rw[w1w,w2q,w2q];constructor
   .grind
   .rintro⟨y,hy,z⟩;let⟨i,hi,rfl⟩:=w3g hy;exact⟨i,by grind [sS.aj],by grind⟩
  refine⟨.bl _,H,I.Ya (t':=tk) λb o pb=>kp b o (λz=>?_) (gw.v7 _ pb),rfl,e ▸ q⟩
  rw[w1e]at z;exact uP (gw.xq pb) (by grind)
def l9:ai W->fv W
 |[.dI ws]=>(eM ws).aT λbs=>.bl (bs.vb id)
 |_=>none
def RF{K:Fg}:oQ K (λxs H Q=>∃p ys,xs=[.bj p]/\bJ K H p ys/\(∀y∈ys,∃b,y=.bl b)/\Q (.bl (ys.vb λy=>decide (y=.bl true))) H) l9:=by
 intro G H xs ws w Q s pr hf h;unfold l9 at hf;split at hf
 .let⟨bs,hb,rfl⟩:=w0l.mp hf;have:=Mu hb;subst this;let⟨x,r,rfl,px,pr⟩:=pr;cases(show r=[]from pr);let⟨a,ys,rfl,ha,ra⟩:=px;have:=GF ra;subst this;refine⟨a,_,rfl,s.pJ ha,λy hy=>?_,h G _ H (.uw s) ?_⟩
  .let⟨b,_,rfl⟩:=w0o.mp hy;exact⟨b,rfl⟩
  .show V.bl _=V.bl _;congr 1;rw[w4w];congr 1;funext b
   cases b<;>rfl
 .cases hf
section
variable{EE:L2.St->XK}{gJ:vY}
theorem Q10(hc:X.TR=true)(hm:X.mg "any"=none)(ha:DA Z X EE [e] dA)(hg:autoParam (Gl X "any") jJ)(he:autoParam (p5 [e] X.a7=(false,eval e X.a7)::p5 [] X.a7) jJ)(d9:autoParam ((A4 gJ (p5 [] X.a7)).vb (·.1)=false) jJ):DE Z X EE (.wc (.oL "any" p) [e] [] gJ) (cw l9 dA):=
 z_ (z0b hc) RF L1.Mk.Ε.«any» hm ha hg (by decide) (by decide) he d9
end
def SO{bs:ai fC}:l9 [.dI (bs.aT .bl)]=ab (.bl (bs.vb id)):=by
 show(eM (bs.aT .bl)).aT _=_;rw[Hg];rfl
def ui(K:Fg):R2:=λx y H Q=>∃a b ys,x=.bj a/\y=.bj b/\c7 K H a []/\c7 K H b ys/\Q (.bj b) H
open PyProof.Rows in
def zdy:fe X (ZX .Add) (ui X.K):=by
 intro cf s σ H x y v u Q I rx ry h;let⟨a,b,ys,rfl,rfl,ha,hb,q⟩:=h;cases rx;cases ry;let⟨ax,r1,p1,_⟩:=I.UH ha;let⟨fu,r2,p2,_⟩:=I.UH hb;cases r1;let⟨⟨oh,dd,oo,sl⟩,ho,hc,n,hd⟩:=id p1;let⟨⟨xQ,tF,data2,xn⟩,qD,de,n2,Zo⟩:=id p2;simp only at hc hd de Zo;subst hc hd de Zo;exact Đ ⟨_,ho,rfl⟩ ⟨_,qD,rfl⟩ Ŝ Ŧ oa.F.ŧ oa.F.ō (oa.F.ŀ _ _) (tuple_addW0 a b _ _ n n2 dd tF sl xn rfl) ⟨ho,qD,.bj b,H,I,rfl,q⟩
def bA:W->W->fv W
 |.gs xs,.gs ys=>if xs.aj+ys.aj<=16777216 then ab (.gs (xs++ys))else none
 |x,y=>ϫ x y
theorem z5g:bA (.gs xs) (.gs ys)=if xs.aj+ys.aj<=16777216 then ab (.gs (xs++ys))else none:=rfl
theorem z5h:bA (.aO i) (.aO j)=ab (.aO (i+j)):=rfl
theorem z5i:bA (.dI xs) (.dI ys)=if xs.aj+ys.aj<=16777216 then ab (.dI (xs++ys))else none:=rfl
theorem z5j:bA (.str x) (.str y)=if x.aj+y.aj<=16777216 then ab (.str (x++y))else none:=rfl
def z5k:g8 K (λx y H Q=>ui K x y H Q\/(mP (λi j=>.aO (i+j)) x y H Q\/((∃i j,x=.str i/\y=.str j/\i.aj+j.aj<=vr/\Q (.str (i++j)) H)\/(qa K x y H Q\/p_ K x y H Q)))) bA:=by
 intro G H x y wx wy w Q s px py hf h;unfold bA at hf;split at hf
 .rename_i xs ys;split at hf
  .rename_i hl
   by_cases h0:xs=[]
   .subst h0;cases hf;let⟨a,vs,rfl,hq,rp⟩:=px;let⟨b,us,rfl,Bn,qf⟩:=py;cases(show vs=[]from rp);exact .j' ⟨a,b,us,rfl,rfl,s.gs hq,s.gs Bn,h G _ H (.uw s) ⟨b,us,rfl,Bn,qf⟩⟩
   .exact .mv (P2 G H x y (.gs xs) (.gs ys) w Q s px py (by show(if xs≠[]/\xs.aj+ys.aj<=16777216 then ab (W.gs (xs++ys))else none)=ab w;grind) h)
  .cases hf
 .exact .mv (P2 G H x y _ _ w Q s px py hf h)
theorem z5l{Z:Zt}(ha:DE Z X EE a da)(hb:DE Z X EE b db):DE Z X EE (._K a .Add b gJ) (ak bA da db):=uh (zdy.or (zdO.or (zcK.or (zdz.or z3p)))) z5k ha hb
def O8{l:ai a6}(h):l.g6 i 0=l[i]:=by
 grind
open PySem L2 PySem.Spec PyProof.Rows
end D
namespace L2
open PySem PySem.Spec PyProof.Rows
section
variable{κ:Type} [ϣ κ]
def fb(kvs:ai (κ×V))(k:κ):fv V:=(kvs.Ë λkv=>decide (kv.1=k)).aT (·.2)
def ZN(kvs:ai (κ×V))(k:κ)(v:V):ai (κ×V):=
 if(kvs.vb λkv=>decide (kv.1=k))=true then kvs.aT (λkv=>if kv.1=k then(kv.1,v)else kv)else kvs++[(k,v)]
def zP{k:κ}(e:p.1=k):fb (p::r) k=ab p.2:=by simp[fb,w2c,e]
def zQ{k:κ}(e:¬p.1=k):fb (p::r) k=fb r k:=by simp[fb,w2c,e]
theorem Ir(k):∀kvs:ai (κ×V),(kvs.vb λkv=>decide (kv.1=k))=(fb kvs k).Bt
 |[]=>rfl
 |p::r=>by
  rw[w2x]
  by_cases e:p.1=k
  .simp_all [zP]
  .rw[zQ e,ZZ e,fC.false_or];exact Ir k r
def Mb(kvs)(k:κ)(v):(ZN kvs k v).aj<=kvs.aj+1:=by
 grind [ZN]
def z0c{k:κ}(v)(h:fb kvs k=none):ZN kvs k v=kvs++[(k,v)]:=by
 simp_all [ZN,Ir]
def jE.fK(r:jE o u):o.Bt=u.Bt:=by
 cases o with
 |none=>cases u with
  |none=>rfl
  |ab _=>exact(show vk from r).oP
 |ab _=>cases u with
  |none=>exact(show vk from r).oP
  |ab _=>rfl
def KV.uO(r:KV kvs vs)(k:κ):jE (fb kvs k) (ý vs k):=by
 unfold KV at r
 induction r with
 |rA=>exact kc.intro
 | @qY p q ps qs h t ih=>
  let⟨h1,h2⟩:=h
  by_cases e:p.1=k
  .have e':q.1=k:=h1.symm.ki e;have b:ý (q::qs) k=ab q.2:=by simp[ý,w2c,e']
   rw[zP e,b];exact h2
  simp_all [ý,zQ]
def KV.vb(r:KV kvs vs)(k:κ):(kvs.vb λkv=>decide (kv.1=k))=vs.vb λkv=>decide (kv.1=k):=by
 unfold KV at r
 induction r with
 |rA=>rfl
 |qY h t ih=>rw[w2x,w2x,ih,h.1]
def KV.vX(r:KV kvs vs)(k:κ)(ry:uu y u):
  KV (kvs.aT λkv=>if kv.1=k then(kv.1,y)else kv) (vs.aT λkv=>if kv.1=k then(kv.1,u)else kv):=by
 unfold KV at r |-
 induction r with
 |rA=>exact .rA
 | @qY p q ps qs h t ih=>
  rw[w0k,w0k];refine .qY ?_ ih
  grind
def KV.put(r:KV kvs vs)(k:κ)(ry:uu y u):KV (ZN kvs k y) (stored vs k u):=by
 unfold ZN stored;rw[r.vb k]
 by_cases e:(vs.vb λkv=>decide (kv.1=k))=true
 .rw[og e,og e];exact r.vX k ry
 .rw[sU e,sU e];exact ZJ.Ϡ r ⟨rfl,ry⟩
theorem KV.aj{kvs:ai (κ×V)}{vs:ai (κ×dS)}(r:KV kvs vs):kvs.aj=vs.aj:=ZJ.aj r
end
variable{a:f'}{H:Hp}{σ:St}
def CW(r:uu (kV k) u):(c5 P w).is k u=true:=by
 cases k with
 |j' i=>let⟨t,e⟩:=(show ∃t,u=dS.aO i t from r);grind [WX]
 |mv x=>let⟨t,e⟩:=(show ∃t,u=dS.str x t from r);grind [WY]
abbrev KT(sh:Sh)(H:Hp):ai (Kx×V)->ai (Kx×f'×dS)->Prop:=ZJ λp q=>p.1=q.1/\(bV H p.1 (.bj q.2.1)/\eK p.1 sh/\p.1.vg<=7)/\uu p.2 q.2.2
def KT.uO(r:KT sh H kvs xs)(k):jE (fb kvs k) ((ώ xs k).aT (·.2)):=by
 induction r with
 |rA=>exact kc.intro
 | @qY p q ps qs h t ih=>
  let⟨h1,_,h2⟩:=h
  by_cases e:p.1=k
  .have e':q.1=k:=h1.symm.ki e;have b:ώ (q::qs) k=ab q.2:=by simp[ώ,w2c,e']
   rw[zP e,b];exact h2
  simp_all [ώ,zQ]
def KT.vX(r:KT sh H kvs xs)(k)(ry:uu y u):
  KT sh H (kvs.aT λkv=>if kv.1=k then(kv.1,y)else kv) (xs.aT (Ě k u)):=by
 induction r with
 |rA=>exact .rA
 | @qY p q ps qs h t ih=>
  rw[w0k,w0k];refine .qY ?_ ih;let⟨h1,h2,h3⟩:=h;unfold Ě
  grind
def KT.put(r:KT sh H kvs xs)(k)(hb:bV H k (.bj b)/\eK k sh/\k.vg<=7)(ry:uu y u):
  KT sh H (ZN kvs k y) (Ĥ xs k b u):=by
 have e:(kvs.vb λkv=>decide (kv.1=k))=(ώ xs k).Bt:=by
  rw[Ir,(r.uO k).fK,w3o]
 unfold ZN Ĥ;rw[e]
 by_cases q:(ώ xs k).Bt=true
 .rw[og q,og q];exact r.vX k ry
 simp_all [ZJ.Ϡ]
def gT(kvs:ai (Kx×V))(bt:ai f')(k:Kx)(b:f'):ai f':=if(fb kvs k).Bt=true then bt else bt++[b]
def KT.gT(r:KT sh H kvs xs)(ka:xs.aT (·.2.1)=bt)(k):(Ĥ xs k b u).aT (·.2.1)=L2.gT kvs bt k b:=by
 unfold Ĥ L2.gT;rw[(r.uO k).fK,w3o]
 by_cases q:(ώ xs k).Bt=true
 .rw[og q,og q,w0i,<- ka];refine w1n λx _=>?_
  show(Ě k u x).2.1=x.2.1
  grind [Ě]
 grind
theorem KT.Yp(r:KT sh H kvs xs)(ht:∀b u,d5 u->H b=ab u->H' b=ab u):KT sh H' kvs xs:=
 ZJ.vp r λ_ _ z=>⟨z.1,⟨bV.Yp ht _ z.2.1.1,z.2.1.2⟩,z.2.2⟩
section
variable{P:wO}{w:vq}{h:gw}
theorem QZ(ok:dX P w H h)(e:Rd H a u):aS P w H h a u:=e.ok ok
theorem AU(ok:dX P w H h)(e:Rd H a (.dK kvs)):kvs.aj<=vr/\(a==_G)=false/\∃vs,KV kvs vs/\h.Ϥ (c5 P w) a vs:=
 show aS P w H h a (.dK kvs)from QZ ok e
theorem Q0(ok:dX P w H h)(e:H a=ab (.dK kvs)):kvs.aj<=vr/\(a==_G)=false/\∃vs,KV kvs vs/\h.Ϥ (c5 P w) a vs:=AU ok (.j' e)
def _n.pJ{ax:ai dS}(p:_n h a ax.k8):∃o n,h.g0 a=ab o/\o.oh=.ny "tuple" /\ o.oo=.pJ ax.k8 n:=by
 let⟨o,h1,h2,n,h3⟩:=p;exact⟨o,n,h1,h2,h3⟩
mutual
theorem bV.is(ok:dX P w H h):∀(k:Kx){x:V}{v:Value},bV H k x->RelV x v->nM h k v
 |.aF,x,v,e,r=>by cases(show x=.aF from e);exact r
 |.bl b,x,v,e,r=>by cases(show x=.bl b from e);exact r
 |.int b,x,v,e,r=>by cases(show x=.int b from e);exact r
 |.str b,x,v,e,r=>by cases(show x=.str b from e);exact r
 |.tup ks,x,v,e,r=>by
  let⟨a,xs,rfl,q,rs⟩:=e;cases(show v=Value.ref a from r);let⟨_,ax,rv,p,_⟩:=(show aS P w H h a (.tup xs)from Rd.ok q ok);let⟨o,n,h1,h2,h3⟩:=IsTup.seq p;exact⟨a,o,ax.toArray,n,rfl,h1,h2,h3,by simpa using eY.are ok ks rs rv⟩
theorem eY.are(ok:dX P w H h):∀(ks:List Kx){xs:List V}{vs:List Value},eY H ks xs->Vals xs vs->gA h ks vs
 |[],xs,vs,e,r=>by
  cases(show xs=[]from e);cases r;rfl
 |k::ks,xs,vs,e,r=>by
  let⟨x,r0,rfl,h1,h2⟩:=e;cases r with
  |cons q t=>exact⟨_,_,rfl,bV.is ok k h1 q,eY.are ok ks h2 t⟩
end
theorem zZ(ok:dX P w H h)(e:bV H k (.bj a)/\eK k sh/\k.vg<=7):(dR P w sh).is h k a:=⟨bV.is ok k e.1 rfl,e.2⟩
def AV(ok:dX P w H h)(e:Rd H a (.dT sh kvs bt)):kvs.aj<=vr/\(a==_G)=false /\
  ∃xs,KT sh H kvs xs/\xs.aT (·.2.1)=bt/\h.DictOfH (dR P w sh) a xs:=by
 let⟨z,y,xs,r,ka,o,es,ep,h1,h2,h3,h4,h5⟩:=(show aS P w H h a (.dT sh kvs bt)from QZ ok e);refine⟨z,y,xs,r,ka,o,es,ep,h1,h2,h3,h4,λx hx=>?_,h5⟩
 have tB:∀{l:ai (Kx×V)}{m:ai (Kx×f'×dS)},KT sh H l m->∀x∈m,(dR P w sh).is h x.1 x.2.1:=by
  intro l m q
  induction q with
  |rA=>grind
  | @qY p q ps qs hq t ih=>
   intro x hx;rcases w0g.mp hx with e|hx
   .subst e;exact zZ ok (by grind)
   .exact ih x hx
 exact tB r x hx
theorem Q2(ok:dX P w H h)(e:H a=ab (.dT sh kvs bt)):kvs.aj<=vr/\(a==_G)=false /\
  ∃xs,KT sh H kvs xs/\xs.aT (·.2.1)=bt/\h.DictOfH (dR P w sh) a xs:=AV ok (.j' e)
end
def fg(H:Hp)(a:f')(y:V)(r:fv V):Prop:=
 (∃kvs k,Rd H a (.dK kvs)/\y=kV k/\r=fb kvs k)\/∃sh kvs bt k b,Rd H a (.dT sh kvs bt)/\y=.bj b/\(bV H k (.bj b)/\eK k sh/\k.vg<=7)/\r=fb kvs k
def kX(H:Hp)(a:f')(y v:V)(H':Hp):Prop:=
 (∃kvs k,H a=ab (.dK kvs)/\y=kV k/\kvs.aj<vr/\H'=ot H a (.dK (ZN kvs k v))) \/
 ∃sh kvs bt k b,H a=ab (.dT sh kvs bt)/\y=.bj b/\(bV H k (.bj b)/\eK k sh/\k.vg<=7)/\kvs.aj<vr/\H'=ot H a (.dT sh (ZN kvs k v) (gT kvs bt k b))
theorem fg.k{kvs:ai (Yg×V)}{k:Yg}(e:H a=ab (.dK kvs)):fg H a (kV k) (fb kvs k):=.j' ⟨kvs,k,.j' e,rfl,rfl⟩
theorem fg.t{b:f'}{sh:Sh}{kvs:ai (Kx×V)}{bt:ai f'}{k:Kx}(e:Rd H a (.dT sh kvs bt))(eb:bV H k (.bj b)/\eK k sh/\k.vg<=7):fg H a (.bj b) (fb kvs k):=.mv ⟨sh,kvs,bt,k,b,e,rfl,eb,rfl⟩
theorem kX.k{kvs:ai (Yg×V)}{k:Yg}{v:V}(e:H a=ab (.dK kvs))(hl:kvs.aj<vr):kX H a (kV k) v (ot H a (.dK (ZN kvs k v))):=.j' ⟨kvs,k,e,rfl,hl,rfl⟩
theorem kX.t{b:f'}{sh:Sh}{kvs:ai (Kx×V)}{bt:ai f'}{k:Kx}{v:V}(e:H a=ab (.dT sh kvs bt))(eb:bV H k (.bj b)/\eK k sh/\k.vg<=7)(hl:kvs.aj<vr):
  kX H a (.bj b) v (ot H a (.dT sh (ZN kvs k v) (gT kvs bt k b))):=.mv ⟨sh,kvs,bt,k,b,e,rfl,eb,hl,rfl⟩
def je.big(I:je X cf σ H s):_G<s.a5.fy.dt:=by
 have h:Yr<s.a5.fy.dt:=(I.Yh._u.Yp I.bk).lt;exact ar.lt_trans (by decide) h
def Iu{A:C7}(hu:A.xT+20<xH):(dR P w sh).room A.Ko:=by
 show A.Ko.xT+8<xH
 grind
def YQ(hu:A.xT+20<xH)(I:je X cf σ H s)(g:fg H a y (ab v))(ry:uu y u)(h:∀w' s',je X cf σ H s'->uu v w'->Q w' s'):
  oS (q_ X.jd X.w) A (ϛ (.bj a) u) Q E s:=by
 rcases g with⟨kvs,k,e,ey,l⟩|⟨sh,kvs,bt,k,b,e,ey,eb,l⟩
 .subst ey;let⟨z,hd,vs,nN,dd⟩:=AU I.aL e;let⟨w',hw,sN⟩:=jE.Ũ (v:=v) (o:=ý vs k) (by rw[l];exact nN.uO k);exact zd9 (CW ry) dd.mapOf hw (h w' _ (I.Yn _) sN)
 .subst ey;cases(show u=dS.bj b from ry);let⟨z,hd,xs,nN,_,dd⟩:=AV I.aL e;let⟨w',hw,sN⟩:=jE.Ũ (v:=v) (o:=(ώ xs k).aT (·.2)) (by rw[l];exact nN.uO k);let⟨p,hp,Ek⟩:=w0l.mp hw;refine wpAny_getItem_heap (Iu hu) (zZ I.aL eb) dd hp ?_;rw[Ek];exact h w' _ (I.Yn _) sN
def z5m(hu:A.xT+20<xH)(I:je X cf σ H s)(g:fg H a y o)(ry:uu y u)(h:∀s',je X cf σ H s'->Q (.wF (!o.Bt)) s'):
  oS (q_ X.jd X.w) A (ZY ._o u (.bj a)) Q E s:=by
 rcases g with⟨kvs,k,e,ey,l⟩|⟨sh,kvs,bt,k,b,e,ey,eb,l⟩
 .subst ey;let⟨z,hd,vs,nN,dd⟩:=AU I.aL e;refine wpAny_notIn_of (CW ry) hd dd.mapOf ?_;rw[<- (nN.uO k).fK,<- l];exact h _ (I.Yn _)
 .subst ey;cases(show u=dS.bj b from ry);let⟨z,hd,xs,nN,_,dd⟩:=AV I.aL e;refine wpAny_notIn_heap (Iu hu) (zZ I.aL eb) hd dd ?_;have q:=(nN.uO k).fK;rw[w3o]at q;rw[<- q,<- l];exact h _ (I.Yn _)
theorem CA(I:je X cf σ H s)(mu:xD (H a))(hs:gw._p a s.a5 h')(he:∃q,h'.g0 a=ab q)(yL:aS X.jd X.w (ot H a ob) h' a ob):
  je X cf σ (ot H a ob) {s with a5:=h',sP:=t'}:=
 I.ZA (x:=a) (e:=a) mu (.j' rfl) (λb q hb z=>(hs.2 b hb).ki z) he yL
theorem Qg(z:kvs.aj<=vr)(hd:(a==_G)=false)(nN:KV kvs vs)(dd:h'.Ϥ (c5 P w) a vs):
  aS P w H' h' a (.dK kvs):=⟨z,hd,vs,nN,dd⟩
def zaa(hu:A.xT+20<xH)(I:je X cf σ H s)(g:kX H a y v H')(ry:uu y u)(rv:uu v r)(h:∀s',je X cf σ H' s'->Q () s'):
  oS (q_ X.jd X.w) A (Ğ (.bj a) u r) Q E s:=by
 rcases g with⟨kvs,k,e,ey,l,eH⟩|⟨sh,kvs,bt,k,b,e,ey,eb,l,eH⟩
 .subst ey eH;let⟨z,hd,vs,nN,dd⟩:=Q0 I.aL e;have hz:vs.aj<=vr:=by grind [KV.aj]
  have hl:(ZN kvs k v).aj<=vr:=by grind [Mb]
  refine wpAny_setItem_pairs (hsz:=hz) (CW ry) dd λh' rE hs=>h _ ?_
  have he:∃q,h'.g0 a=ab q:=let ⟨q,_,_,hq,_⟩:=rE;⟨q,hq⟩;exact CA I (by rw[e];exact kc.intro) hs he (Qg hl hd (nN.put k rv) rE)
 .subst ey eH;cases(show u=dS.bj b from ry);let⟨z,hd,xs,nN,ka,dd⟩:=Q2 I.aL e;have hz:xs.aj<=vr:=by grind [ZJ.aj]
  have hl:(ZN kvs k v).aj<=vr:=by grind [Mb]
  refine wpAny_setItem_heap (hsz:=hz) (Iu hu) (zZ I.aL eb) dd λh' rE hs=>h _ ?_
  let⟨q,es,ep,hq,h2,h3,h4,_,h5⟩:=rE;refine CA I (by rw[e];exact kc.intro) hs ⟨q,hq⟩ ⟨hl,hd,_,(nN.put k eb rv).Yp λc u ys ec=>?_,nN.gT ka k,q,es,ep,hq,h2,h3,h4,h5⟩
  rw[bh (kS ec e (λz=>by subst z;exact ys))]
  exact ec
def SS(I:je X cf σ H s)(e:Rd H a (.dK kvs))(h:∀t s',je X cf σ H s'->Q (.aO kvs.aj t) s'):oS (q_ X.jd X.w) A (yd (.yR "len") [.bj a]) Q E s:=by
 let⟨z,hd,vs,nN,dd⟩:=AU I.aL e;refine call_len_dict hd dd (by grind [KV.aj,Yf]) ?_;rw[<- nN.aj];exact h _ _ (I.Yn _)
def qZ(i:pN):Prop:=∀ov iv,Ĩ i false ov iv=Š [ov,iv] (ϛ ov iv)
def z5n{id:Yv}
  (hl:ĭ (.ny T) "__getitem__"=vo (ab (.yR id)))(hs:qZ _j)
  (h:oS (q_ jd w) A (eval ZQ a7) (λo aE=>oS (q_ jd w) A (eval _j a7) (λi lS=>lS.Κ o T/\oS (q_ jd w) A (ϛ o i) Q E lS) E aE) E s):
  oS (q_ jd w) A (eval (.Yw ZQ _j gJ) a7) Q E s:=by
 refine Ľ (Zz h (λo aE cL=>Zz cL (λi lS va=>?_) λ_ _ x=>x) λ_ _ x=>x)
 let⟨hT,va⟩:=va;unfold Ŭ;refine lb ?_;rw[getitemInPython_of_ne hT.not_modules];refine lb (Ĵ hT hl ?_)
 have ye:oS (q_ jd w) A (Ĩ _j false o i) (λr Az=>oS (q_ jd w) A (letTemporaryGo ZQ o r >>= λ_=>vo r) Q E Az) E lS:=by
  rw[hs o i];exact wpAny_operating (Zz va (λr Az EB=>lb (wpAny_letTemporaryGo (tW EB))) λ_ _ x=>x)
 grind [tW,lb]
def W9(I:je X cf σ H s)(g:fg H a y o):s.Κ (.bj a) "dict":=by
 rcases g with⟨kvs,k,e,_,_⟩|⟨sh,kvs,bt,k,b,e,_,_,_⟩
 .let⟨_,_,vs,_,dd⟩:=AU I.aL e;exact dd.ZH
 .let⟨_,_,xs,_,_,dd⟩:=AV I.aL e;exact dd.ZH
def AD(td ty:TE):TE:=λσ H Q=>td σ H λx H1=>ty σ H1 λy H2=>∃a v,x=.bj a/\fg H2 a y (ab v)/\Q v H2
def zdh(ty td:TE):TE:=λσ H Q=>ty σ H λy H1=>td σ H1 λx H2=>∃a o,x=.bj a/\fg H2 a y o/\Q (.bl (!o.Bt)) H2
def Av(td ty tv:TE):TS:=λD σ H=>tv σ H λv H1=>td σ H1 λx H2=>ty σ H2 λy H3=>∃a H4,x=.bj a/\kX H3 a y v H4/\D.nx σ H4
def O9(hu:X.A.xT+20<xH)(ho:PE X o td)(hi:PE X i ty)(hs:qZ i):PE X (.Yw o i gJ) (AD td ty):=by
 intro cf s σ H Q I h;refine z5n oa.F.zdo.gr hs (bw (ho cf s σ H _ I h) λu s1 ⟨x,H1,I1,rx,q1⟩=>bw (hi cf s1 σ H1 _ I1 q1) λiv s2 ⟨y,H2,I2,ry,a,v,ex,g,q2⟩=>?_)
 subst ex;obtain rfl:u=dS.bj a:=rx;exact⟨W9 I2 g,YQ hu I2 g ry λw' s3 I3 sN=>⟨v,H2,I3,sN,q2⟩⟩
def Na(hu:X.A.xT+20<xH)(hi:PE X i ty)(ho:PE X o td):PC X ._o i o (zdh ty td):=by
 intro cf s σ H Q I h;refine bw (hi cf s σ H _ I h) λiv s1 ⟨y,H1,I1,ry,q1⟩=>bw (ho cf s1 σ H1 _ I1 q1) λu s2 ⟨x,H2,I2,rx,a,ov,ex,g,q2⟩=>?_
 subst ex;obtain rfl:u=dS.bj a:=rx;exact z5m hu I2 g ry λs3 I3=>⟨.bl (!ov.Bt),H2,I3,rfl,q2⟩
def O_(hu:X.A.xT+20<xH)(ho:PE X o td)(hi:PE X i ty)(hv:PE X ZQ tv)(hs:ZO ZQ (ab (.Yw o i YR)) gJ.Yq X.a7=vo false):
  PS X (.ZR [.Yw o i YR] ZQ gJ) (Av td ty tv):=by
 intro cf s σ H D I h;refine wpAny_Assign_Subscript (bw (hv cf s σ H _ I h) λr s1 ⟨v,H1,I1,rv,q1⟩=>bw (ho cf s1 σ H1 _ I1 q1) λu s2 ⟨x,H2,I2,rx,q2⟩=>bw (hi cf s2 σ H2 _ I2 q2) λiv s3 ⟨y,H3,I3,ry,a,H4,ex,g,q3⟩=>?_) hs
 subst ex;obtain rfl:u=dS.bj a:=rx;exact zaa hu I3 g ry rv λs4 I4=>⟨σ,H4,I4,q3⟩
theorem z0d(h:gw)(hb:_G<h.fy.dt):aS P w H (h.si {oh:=.ny "dict", oo:=.we #[]}) h.fy.dt (.dK []):=
 ⟨w1b _,ł.uR (Ne.symm (w0p hb)),[],.rA,gw.Ϥ.yL h⟩
theorem NZ(h:gw)(hb:_G<h.fy.dt):aS P w H (h.si {oh:=.ny "dict", oo:=.we #[]}) h.fy.dt (.dT sh [] []):=
 ⟨w1b _,ł.uR (Ne.symm (w0p hb)),[],.rA,rfl,_,#[],0,gw.A9 _ rfl,⟨rfl,rfl,rfl⟩,rfl,rfl,ai.nodup_nil⟩
def zd0(sh:Sh):TE:=λ_ H Q=>∀p,H p=none->Q (.bj p) (ot H p (.dT sh [] []))
theorem z0e:PE X (.Η [] [] gJ) (zd0 sh):=λcf s σ H Q I h=>
 wpAny_Dict_empty ⟨.bj s.a5.fy.dt,_,I.Lf (a:=s.a5.fy.dt) (o:=.dT sh [] []) (t':=s.sP) (λ_ _ q=>gw.v7 _ q) (w0e _) (NZ s.a5 I.big),rfl,h _ (I.aL.xS (w0e _))⟩
def je.ŭ(I:je X cf σ H s)(e:H a=ab u)(ht:¬d5 u)(hb:∀ps,u≠.mT ps)(hf:∀o v,X.aG a≠ab (.eG o v))(hw:∀x,u≠.ie x)(ok:dX X.jd X.w H s.a5->aS X.jd X.w (ot H a u') s.a5 a u'):je X cf σ (ot H a u') s:=by
 have up:∀b,H b=none->ot H a u' b=none:=λb n=>by
  grind [bh]
 refine⟨I.ok,I.os,I.QN,⟨I.j3.wN,I.j3.yM,λb ob q n hx=>up b (I.j3.rD b ob q n hx),I.j3.ZP,λb xs q=>?_,λb ob v q=>?_,λb ps q=>?_⟩,I.Zw,I.t9,up _ I.rD,λx c q=>up c (I.e7 x c q),λp hp=>?_,λb v q=>?_,I.vn⟩
 .have z:=I.j3.gZ b xs q
  grind [d5,bh]
 .by_cases mn:b=a
  .grind
  .rw[bh mn];exact I.j3.bo b ob v q
 .let⟨_E,z⟩:=I.j3.fP b ps q
  grind [bh]
 .let⟨q1,q2,q3⟩:=I.Zh p hp
  grind
 .by_cases mn:b=a
  .grind [bT,aL]
  .rw[bh mn]at q;refine(I.aL b v q).fE (λ_ _ _ z=>z) (λc z=>?_) λc xs tl z=>?_
   all_goals grind [bh]
theorem je.zdc(I:je X cf σ H s)(e:H a=ab (.dI xs))(q:s.a5.g0 a=ab o):je X cf σ (ot H a (.eG o (.dI xs))) s:=
 I.ŭ e (λz=>z) (λ_ z=>nomatch z) (λob v z=>by have:=I.j3.bo a ob v z;grind) (λ_ z=>nomatch z) λok=>⟨q,(ok a _ e).fE (λ_ _ _ z=>z) (λc z=>by rw[bh (kS z e (λy=>nomatch y))];exact z) λc xs tl z=>by rw[bh (kS z e (λy=>by subst y;exact tl))];exact z⟩
theorem je.zew(I:je X cf σ H s)(e:H a=ab (.eG o (.dI xs)))(hf:∀o v,X.aG a≠ab (.eG o v)):je X cf σ (ot H a (.dI xs)) s:=
 I.ŭ e (λz=>z) (λ_ z=>nomatch z) hf (λ_ z=>nomatch z) λok=>(ok a _ e).2.fE (λ_ _ _ z=>z) (λc z=>by rw[bh (kS z e (λy=>nomatch y))];exact z) λc xs tl z=>by rw[bh (kS z e (λy=>by subst y;exact tl))];exact z
end L2
namespace D
open PySem L2 PySem.Spec PyProof.Rows
open PyProof.Rows (envOfC)
end D
namespace L2
open PySem PySem.Spec PyProof.Rows
end L2
namespace D
open PySem L2 PySem.Spec PyProof.Rows
end D
namespace L2
open PySem PySem.Spec PyProof.Rows
section
variable{σ:St}{H:Hp}{s:oU}{a:f'}{sh:Sh}{kvs:ai (Kx×V)}{bt:ai f'}
theorem XX(hd:(d==_G)=false):
  MeetsIn jd w (u5.«dict.__len__» ⟨[.bj d],[]⟩) (λ_ R s=>∃o es ep,s.a5.g0 d=ab o/\o.oo=.we es ep/\R (.ok (.KJ (.aO es.dt s.sP))) {s with sP:=s.sP+1}):=
 ._Y λA R s ⟨o,es,ep,ho,u3,h⟩=>by
  show oS _ _ (dictSize d >>= _) _ _ s;unfold dictSize;refine lb (lb (wpAny_dictEntries ho u3 (tW ?_)));show oS _ _ (u5.Η.pendingCount d >>= _) _ _ s;refine lb (wpAny_pendingCount_other hd ?_);refine wpAny_ret_mkInt ?_
  grind
def Ro(I:je X cf σ H s)(e:Rd H a (.dT sh kvs bt))(h:∀t s',je X cf σ H s'->Q (.aO kvs.aj t) s'):oS (q_ X.jd X.w) A (yd (.yR "len") [.bj a]) Q E s:=by
 let⟨z,hd,xs,nN,_,dd⟩:=AV I.aL e;have hT:=dd.ZH;let⟨o,es,ep,ho,_,u3,DV,_⟩:=dd;have hsz:es.dt=kvs.aj:=by rw[size_of_entries DV,ZJ.aj nN]
 rw[Yf]at z;refine Zp.call_function_entry kind_len plain_len entry_len (args_len1 _) ?_
 unfold u5.«len»;refine lb (m:=oneArg "len" _) (tW ?_)
 refine lb (m:=callSpecial? (.bj a) (d3.Zk "__len__")) (Ü (name:=d3.Zk "__len__") hT F.zdp
  (call_meetsIn F.zdp hT F.entry_dict_len (F.args_dict_len_1 _) (XX hd) ⟨o,es,ep,ho,u3,?_⟩))
 rw[hsz];show oS _ _ _ _ _ {s with sP:=s.sP+1};refine lb (_I (tW ?_));refine lb (π ?_);show oS _ _ (if((kvs.aj:ar):a6)<0 then _ else _) _ _ _;rw[sU (by omega)];show oS _ _ (if((kvs.aj:ar):a6)>=2^63 then _ else _) _ _ _;rw[sU (by omega)];exact lb (ı (tW ⟨_,rfl,h _ _ (I.Yn _)⟩))
def Am:ai V->Hp->VK->Prop:=λxs H Q=>∃a sh kvs bt,xs=[.bj a]/\Rd H a (.dT sh kvs bt)/\Q (.aO kvs.aj) H
def zab:dg X (.yR "len") Am:=by
 intro cf s σ H xs us Q I r h;let⟨a,sh,kvs,bt,rfl,e,q⟩:=h;let⟨u,rfl,rx⟩:=_H r;cases(show u=dS.bj a from rx);exact Ro I e λt s' I'=>⟨.aO kvs.aj,H,I',⟨t,rfl⟩,q⟩
end
def Ak:ai V->Hp->VK->Prop:=λxs H Q=>∃a kvs,xs=[.bj a]/\Rd H a (.dK kvs)/\Q (.aO kvs.aj) H
def zac:dg X (.yR "len") Ak:=by
 intro cf s σ H xs us Q I r h;let⟨a,kvs,rfl,e,q⟩:=h;let⟨u,rfl,rx⟩:=_H r;cases(show u=dS.bj a from rx);exact SS I e λt s' I'=>⟨.aO kvs.aj,H,I',⟨t,rfl⟩,q⟩
end L2
namespace D
open PySem L2 PySem.Spec PyProof.Rows
open Classical
variable{a b:f'}{fz:fC}{X:Cx}{d dk:ke W}{G H:Hp}{σ:L2.St}{EE:L2.St->XK}{ks:ai Kx}{e:ai S}{ws:ai W}{i:ar}{gJ:vY}{K:Fg}{sh:Sh}{x:d3}{v:V}{Z:Zt}
mutual
noncomputable def wM:W->Option Kx
 |.aF=>some .aF
 |.bl b=>some (.bl b)
 |.int i=>some (.int i)
 |.str x=>some (.str x)
 |.tup ws=>(gf ws).map .tup
 |_=>none
noncomputable def gf:List W->Option (List Kx)
 |[]=>some []
 |w::ws=>match wM w,gf ws with
  |some k,some ks=>some (k::ks)
  |_,_=>none
end
def d4(K:Fg):Prop:=∀a o,K.gr a=ab o->o.oh≠.ny "tuple"
def c7.rd{xs:ai V}(hK:d4 K)(q:c7 K G a xs):Rd G a (.gs xs):=by
 rcases q with q|⟨o,ax,n,h1,h2,_⟩
 .exact q
 .exact uP h2 (hK a o h1)
mutual
theorem Qh{K:Fg}{G H:Hp}(hK:d4 K)(s:au G H):∀(w:W){k:Kx}{v:V},wM w=some k->Rep K G w v->bV H k v
 |.bl b,k,v,e,r=>by cases e;exact r
 |.int b,k,v,e,r=>by cases e;exact r
 |.str b,k,v,e,r=>by cases e;exact r
 |.tup ws,k,v,e,r=>by
  have e:(gf ws).map Kx.tup=some k:=e;let⟨ks,h1,rfl⟩:=w0l.mp e;let⟨a,xs,rfl,q,rs⟩:=r;refine⟨a,xs,rfl,?_,O' hK s ws h1 rs⟩;rcases c7.rd hK q with z|⟨o,z⟩
  .exact .inl (s _ _ z)
  .exact .inr ⟨o,s _ _ z⟩
 |.aF,k,v,e,r=>by cases e;exact r
 |.lst _,k,v,e,r=>by cases e
 |.exc _,k,v,e,r=>by cases e
 |.ba _,k,v,e,r=>by cases e
 |.dw _ _ _ _,k,v,e,r=>by cases e
 |.fn _ _ _,k,v,e,r=>by cases e
theorem O'{K:Fg}{G H:Hp}(hK:d4 K)(s:au G H):∀(ws:List W){ks:List Kx}{vs:List V},gf ws=some ks->aq K G ws vs->eY H ks vs
 |[],ks,vs,e,r=>by cases e;exact r
 |w::ws,ks,vs,e,r=>by
  have e:(match wM w,gf ws with|some k,some ks=>some (k::ks)|_,_=>none)=some ks:=e;split at e
  .rename_i k0 UG h1 h2;cases e;let⟨x,xs,rfl,r1,r2⟩:=r;exact⟨x,xs,rfl,Qh hK s w h1 r1,O' hK s ws h2 r2⟩
  .cases e
end
def ig:W->fv Kx
 |.gs ws=>(gf ws).aT .gs
 |_=>none
def Co(hK:d4 K)(s:au G H){w:W}{k:Kx}(e:ig w=ab k)(r:p7 K G w v):∃b,v=.bj b/\bV H k (.bj b):=by
 cases w with
 |gs ws=>
  have z:=Qh hK s (.gs ws) e r;let⟨a,xs,rfl,q,rs⟩:=r;exact⟨a,rfl,z⟩
 |_=>cases e
def Z6(k:Kx)(sh:Sh):Prop:=eK k sh/\k.vg<=7
theorem c6.Ϡ{k:Kx}(hk:bV G k (.bj b)):∀{ks:ai Kx}{bs:ai f'},c6 G ks bs->c6 G (ks++[k]) (bs++[b])
 |[],[],_=>⟨hk,trivial⟩
 |_::_,_::_,h=>⟨h.1,c6.Ϡ hk h.2⟩
 |[],_::_,h=>h.oP
 |_::_,[],h=>h.oP
def jC:ai Kx->ai W->Kx->fv W
 |k::ks,w::ws,x=>if k=x then ab w else jC ks ws x
 |_,_,_=>none
theorem JA{K:Fg}{G:Hp}{x:Kx}:∀{kvs:ai (Kx×V)}{ws:ai W},aq K G ws (kvs.aT (·.2)) ->
  (∀w,jC (kvs.aT (·.1)) ws x=ab w->∃v,fb kvs x=ab v/\p7 K G w v)/\(jC (kvs.aT (·.1)) ws x=none->fb kvs x=none)
 |[],ws,r=>by
  cases ws with
  |rA=>exact⟨(λw z=>nomatch z),λ_=>rfl⟩
  |qY w ws=>let⟨_,_,z,_⟩:=r;cases z
 |p::kvs,[],r=>by cases(show _=[]from r)
 |p::kvs,w::ws,r=>by
  let⟨v,rr,z,h1,h2⟩:=r;cases z;have ih:=JA (x:=x) h2
  by_cases e:p.1=x
  all_goals simp_all [jC,zP,zQ]
def qV.rd{kvs:ai (Kx×V)}{bt:ai f'}(s:au G H)(h:qV fz G a sh kvs bt):Rd H a (m4 sh kvs bt):=by
 cases fz with
 |true=>let⟨o,h⟩:=h;exact .mv ⟨o,s _ _ h⟩
 |false=>exact .j' (s _ _ h)
def Bw{t:Kx}(kr:bV H t (.bj b))(hc:Z6 t sh):sh.qE=false:=by
 cases sh with
 |aO=>
  cases t with
  |aO i=>exact nomatch (show V.bj b=V.aO i from kr)
  |_=>exact hc.1.oP
 |str=>
  cases t with
  |str i=>exact nomatch (show V.bj b=V.str i from kr)
  |_=>exact hc.1.oP
 |_=>rfl
def Bq(w d:W):fv W:=match ig w,d with
 |ab k,.dw _ sh ks ws=>if Z6 k sh then ab (.bl (jC ks ws k).Bt)else none
 |_,_=>none
def mG(w d:W):fv W:=match ig w,d with
 |ab k,.dw _ sh ks ws=>if Z6 k sh then ab (.bl (!(jC ks ws k).Bt))else none
 |_,_=>none
def tT(d w:W):fv W:=match ig w,d with
 |ab k,.dw _ sh ks ws=>if Z6 k sh then jC ks ws k else none
 |_,_=>none
def lF:ai W->fv W
 |[.dw _ _ ks _]=>ab (.aO ks.aj)
 |_=>none
def Qb{k:Kx}(s:au G H)(p:p7 K G (.dw fz sh ks ws) v)(kr:bV H k (.bj b))(hc:Z6 k sh):
  ∃a o,v=.bj a/\fg H a (.bj b) o/\(∀w,jC ks ws k=ab w->∃u,o=ab u/\p7 K G w u)/\(jC ks ws k=none->o=none):=by
 let⟨a,kvs,bt,rfl,h1,rfl,h3,h4⟩:=p;refine⟨a,_,rfl,fg.t (by have:=h1.rd s;rwa [vV (Bw kr hc)]at this) ⟨kr,hc⟩,?_⟩;exact JA h4
def z5o(hK:d4 K):g8 K (λy x H Q=>∃a o,x=.bj a/\fg H a y o/\Q (.bl (!o.Bt)) H) mG:=by
 intro G H x y wx wy w Q s px py hf h;unfold mG at hf;split at hf
 .rename_i k fz sh ks ws hk;split at hf
  .rename_i hc;cases hf;let⟨b,rfl,kr⟩:=Co hK s hk px;let⟨a,o,rfl,g,g1,g2⟩:=Qb s py kr hc;refine⟨a,o,rfl,g,h G _ H (.uw s) ?_⟩;show V.bl (!o.Bt)=V.bl (!(jC ks ws k).Bt);cases q:jC ks ws k with
   |none=>rw[g2 q];rfl
   |ab w=>grind
  .cases hf
 .cases hf
def Rp(hK:d4 K):g8 K (λx y H Q=>∃a v,x=.bj a/\fg H a y (ab v)/\Q v H) tT:=by
 intro G H x y wx wy w Q s px py hf h;unfold tT at hf
 grind [Co,Qb,aK.uw]
def uj:ai V->Hp->VK->Prop:=λxs H Q=>∃a sh kvs bt,xs=[.bj a]/\Rd H a (m4 sh kvs bt)/\Q (.aO kvs.aj) H
def YB:dg X (.yR "len") uj:=by
 intro cf s σ H xs us Q I r h;let⟨a,sh,kvs,bt,e1,e2,q⟩:=h;cases hI:sh.qE with
 |false=>rw[vV hI]at e2;exact zab cf s σ H xs us Q I r ⟨a,sh,kvs,bt,e1,e2,q⟩
 |true=>
  rw[show m4 sh kvs bt=.dK (kvs.aT λp=>(K_ p.1,p.2))from og hI]at e2
  exact zac cf s σ H xs us Q I r ⟨a,_,e1,e2,by grind⟩
def z5p:oQ K uj lF:=by
 intro G H xs ws w Q s pr hf h;unfold lF at hf;split at hf
 .rename_i fz sh ks vs;cases hf;let⟨x,r,rfl,px,pr⟩:=pr;cases(show r=[]from pr);let⟨a,kvs,bt,rfl,h1,rfl,h3,h4⟩:=px;refine⟨a,sh,kvs,bt,rfl,h1.rd s,h G _ H (.uw s) ?_⟩;show V.aO _=V.aO _;rw[w0a]
 .cases hf
section
variable{a b e k o:pN}{es:ai pN}{da db:ke W}{dA:ke (ai W)}{p iu:vY}{rK:ai Rl}{s1:ai S->SR}
theorem z5q(hK:d4 X.K)(hu:X.A.xT+150<xH)(ha:DE Z X EE a da)(hb:DE Z X EE b db)(hm:autoParam (_t ._o b=false) jJ):DT Z X EE (.YT a [._o] [b] gJ) (ay (ak mG da db)):=
 PT.pg (PX (Na (by omega) ha hb) hm) λσ H Q h=>ue (z5o hK) σ H _ (He h)
theorem Q13(hK:d4 X.K)(hu:X.A.xT+150<xH)(ha:DE Z X EE a da)(hb:DE Z X EE b db)(hs:qZ b:=by intro _ _;rfl):DE Z X EE (.Yw a b gJ) (ak tT da db):=
 PE.pg (O9 (by omega) ha hb hs) (ue (Rp hK))
theorem z5r(hm:X.mg "len"=none)(ha:DA Z X EE [e] dA)(hg:autoParam (Gl X "len") jJ)(he:autoParam (p5 [e] X.a7=(false,eval e X.a7)::p5 [] X.a7) jJ)(d9:autoParam ((A4 gJ (p5 [] X.a7)).vb (·.1)=false) jJ):DE Z X EE (.wc (.oL "len" p) [e] [] gJ) (cw lF dA):=
 z_ YB z5p oa.Ņ hm ha hg (by decide) (by decide) he d9
def vf:S->fC
 |.dw _ _ _=>true
 |.ba _=>true
 |_=>false
def ro.S8{e:ai S}(r:ro K Z G σ H e)(h:e[i]?=ab (.dw sh ks ws)):∃a kvs bt,σ[i]?=ab (ab (.bj a))/\H a=ab (m4 sh kvs bt)/\G a=none/\Z.H a=none/\kvs.aT (·.1)=ks/\cq sh G ks bt/\eu K Z G sh ws (kvs.aT (·.2)):=by
 let⟨a,kvs,bt,h1,h2,h3,h4,h5,h6,h7⟩:=r.yM i _ h;refine⟨a,kvs,bt,?_,h2,h3,h4,h5,h6,h7⟩;cases q:σ[i]? with
 |none=>rw[q]at h1;cases h1
 |ab z=>rw[q]at h1;rw[show z=ab (V.bj a)from h1]
def ro.dw{e:ai S}(r:ro K Z G σ H e)(h:e[i]?=ab (.dw sh ks ws)):∃a kvs bt,σ[i]?=ab (ab (.bj a))/\H a=ab (m4 sh kvs bt)/\G a=none/\Z.H a=none/\kvs.aT (·.1)=ks/\cq sh G ks bt/\aq K G ws (kvs.aT (·.2)):=by
 let⟨a,kvs,bt,h1,h2,h3,h4,h5,h6,h7⟩:=r.S8 h;exact⟨a,kvs,bt,h1,h2,h3,h4,h5,h6,h7.Aq⟩
def ro.Aw{e:ai S}(r:ro K Z G σ H e){s:S}(hs:∀b ws,s≠.ie b ws)(q:fi K Z G H s (ab v)):ro K Z G (σ.sx i (ab v)) H (e.sx i s):=by
 refine⟨r.ri,λj t z=>?_,by simpa using r.vn,λj k b1 b2 w1 w2 c z1 z2 z3 z4=>?_,r.YY,r.lC,r.gen⟩
 .by_cases hj:j=i
  .subst hj
   have hi:j<e.aj:=by
    have:=(w0c.mp z).1;simpa using this
   rw[w0m hi]at z;cases z;rw[w0m (by rw[<- r.vn];exact hi)];exact q
  .rw[w0j (λz=>hj z.symm)]at z |-
   exact r.yM j t z
 .have yc:∀(k:ar)(bb:fv ar)(ww:ai W),(e.sx i s)[k]?=ab (.ie bb ww)->k≠i/\e[k]?=ab (.ie bb ww):=λk bb ww z=>by
   by_cases hk:k=i
   .subst hk
    have hi:k<e.aj:=by
     have:=(w0c.mp z).1;simpa using this
    rw[w0m hi]at z;cases z;exact uP rfl (hs _ _)
   .rw[w0j (λz=>hk z.symm)]at z;exact⟨hk,z⟩
  let⟨n1,q1⟩:=yc _ _ _ z1;let⟨n2,q2⟩:=yc _ _ _ z2;rw[w0j (λz=>n1 z.symm)]at z3
  rw[w0j (λz=>n2 z.symm)]at z4
  exact r.mf _ _ _ _ _ _ _ q1 q2 z3 z4
def ro.zex{e:ai S}(r:ro K Z G σ H e){ks':ai Kx}{ws':ai W}{a:f'}{kvs':ai (Kx×V)}{vh:ai f'}(h:e[i]?=ab (.dw sh ks ws))(ha:σ[i]?=ab (ab (.bj a)))(ho:∀s∈e.sx i .no,vf s=false)
  (h5:kvs'.aT (·.1)=ks')(h6:cq sh G ks' vh)(h7:eu K Z G sh ws' (kvs'.aT (·.2))):ro K Z G σ (ot H a (m4 sh kvs' vh)) (e.sx i (.dw sh ks' ws')):=by
 let⟨a',kvs,bt,h1,h2,h3,h4,_⟩:=r.dw h;rw[ha]at h1;cases h1;have hi:i<e.aj:=(w0c.mp h).1;refine⟨λc o z=>?_,λj s z=>?_,by simpa using r.vn,λj k b1 b2 w1 w2 c z1 z2 z3 z4=>?_,λc o z n=>?_,λc z=>?_,r.gen⟩
 .rw[bh (i3 z h3)];exact r.ri c o z
 .by_cases hj:j=i
  .subst hj;rw[w0m hi]at z;cases z;exact⟨a,kvs',vh,by rw[ha];rfl,bT,h3,h4,h5,h6,h7⟩
  .rw[w0j (λz=>hj z.symm)]at z
   have y:=r.yM j s z;cases s with
   |no=>trivial
   |fr w=>exact y
   |ie b2 w2=>
    let⟨c,ys,y1,y2,y3,y4,y5⟩:=y;refine⟨c,ys,y1,?_,y3,y4,y5⟩;rw[bh (kS y2 h2 (λz=>vQ rfl z.symm))];exact y2
   |ba _=>
    have:=ho _ (w0s (i:=j) (by rw[w0j (λz=>hj z.symm)];exact z))
    cases this
   |dw _ _ _=>
    have:=ho _ (w0s (i:=j) (by rw[w0j (λz=>hj z.symm)];exact z))
    cases this
 .have yc:∀(k:ar)(bb:fv ar)(ww:ai W),(e.sx i (S.dw sh ks' ws'))[k]?=ab (.ie bb ww)->e[k]?=ab (.ie bb ww):=λk bb ww z=>by
   by_cases hk:k=i
   .subst hk;rw[w0m hi]at z;cases z
   .rw[w0j (λz=>hk z.symm)]at z;exact z
  exact r.mf _ _ _ _ _ _ _ (yc _ _ _ z1) (yc _ _ _ z2) z3 z4
 .rw[bh (i3 z h4)];exact r.YY c o z n
 .by_cases hc:c=a
  .subst hc;rw[bT];exact λz=>nomatch z
  .rw[bh hc];exact r.lC c z
def lh(i:ar)(sh:Sh):ai S->SR:=λe=>.nx (e.sx i (.dw sh [] []))
def z5s(i:ar)(sh:Sh){YR lj:vY}(hN:X.N.x6)(hI:autoParam (sh.qE=false) jJ)(hi:autoParam (X.N[i]?=ab x) jJ)(hx:autoParam (Zq X.a7.d0 x) jM)(hs:autoParam (ZO (.Η [] [] lj) (ab (.oL x YR)) gJ.Yq X.a7=vo false) jJ)(hf:autoParam (X.fn x=true\/X.a7.d0.pM.gr x=ab .local) jL):
  DS Z X EE (.ZR [.oL x YR] (.Η [] [] lj) gJ) (lh i sh):=by
 refine PS.pg (AW i hN (z0e (sh:=sh)) hi hx hs hf) ?_;rintro D σ H ⟨G,e,nN,h⟩;intro q hq;have g:=aK.l3 nN.ri hq (.dT sh [] []);exact h G _ _ ((nN.HF g).Aw (s:=.dw sh [] []) (λ_ _ z=>nomatch z) ⟨q,[],[],rfl,by rw[vV hI];exact bT,nN.ri.rD hq,sF nN hq,rfl,.of trivial hI,.rA⟩) (.uw _)
def nv(i:ar)(w kw:W)(e:ai S):fv S->SR
 |ab (.dw sh ks ws)=>match ig kw with
  |ab x=>if ks.aj<16777216/\(e.sx i .no).tB (λs=>!vf s)=true/\Z6 x sh/\jC ks ws x=none/\sh.EH=false then .nx (e.sx i (.dw sh (ks++[x]) (ws++[w])))else .no
  |none=>.no
 |_=>.no
def nu(i:ar)(dk:ke W)(w:W)(e1:ai S):fv S->SR
 |ab (.dw _ _ _)=>(dk e1).dr λkw e2=>nv i w kw e2 e2[i]?
 |_=>.no
def jW(i:ar)(d dk:ke W):ai S->SR:=λe=>(d e).dr λw e1=>nu i dk w e1 e1[i]?
def z5t(i:ar)(hK:d4 X.K)(hu:X.A.xT+150<xH)(he:DE Z X EE e d)(hk:DE Z X EE k dk)(hN:autoParam (X.N[i]?=ab x) jJ)(hv:autoParam (jS X.a7.d0 x) jN)(hd:autoParam ((x==("__debug__":d3))=false) jK)(eE:autoParam ((x==("__classdict__":d3))=false) jK)
  (hs:autoParam (ZO e (ab (.Yw (.oL x p) k iu)) gJ.Yq X.a7=vo false) jJ):DS Z X EE (.ZR [.Yw (.oL x p) k iu] e gJ) (jW i d dk):=by
 refine PS.pg (O_ (by omega) (pv i hN hv hd eE) hk he hs) ?_;rintro D σ H ⟨G,e,nN,h⟩;refine⟨G,e,nN,(kR h).vW (λw e1 h G1 v1 H1 r1 s1 p1=>?_) λ_ _ h=>h⟩
 unfold nu at h;split at h
 .rename_i sh0 UG HY rQ;let⟨a,ze8,ze6,q1,q2,_⟩:=r1.dw rQ;refine⟨.bj a,q1,G1,e1,r1,(kR (σ:=σ) h).vW (λkw e2 h G2 v2 H2 r2 s2 p2=>?_) λ_ _ h G' H' r s=>h G' H' r (s1.ki s)⟩
  unfold nv at h;split at h
  .rename_i sh ks ws ox;let⟨a',kvs,bt,g1,g2,g3,g4,g5,zcl,g7⟩:=r2.dw ox;rw[q1]at g1;cases g1;split at h
   .rename_i t ph;split at h
    .rename_i hc;let⟨b,rfl,kr⟩:=Co hK (.uw G2) ph p2;have EN:bV H2 t (.bj b):=bV.Yp (λ_ _ _ z=>r2.ri _ _ z) t kr
     subst g5;have hI:=Bw kr hc.2.2.1;rw[vV hI]at g2;have rX:fb kvs t=none:=(JA g7).2 hc.2.2.2.1;refine⟨a,_,rfl,kX.t g2 ⟨EN,hc.2.2.1⟩ (by rw[Yf];have:=hc.1;rw[w0a]at this;exact this),?_⟩;rw[z0c v1 rX,show gT kvs bt t b=bt++[b] by unfold gT;rw[rX];rfl,<- vV hI];refine h G2 σ _ (r2.zex (ks':=kvs.aT (·.1)++[t]) (ws':=ws++[w]) ox q1 (λs hs=>?_) (by rw[w0q];rfl) (.of (c6.Ϡ kr (zcl.g hI)) hI) ?_) (s1.ki s2)
     .have:=w1c.mp hc.2.1 s hs;simpa using this
     .rw[w0q];exact .of hc.2.2.2.2 (g7.YX (.Zg (p7.pg s2 w p1)))
    .exact h.oP
   .exact h.oP
  .exact h.oP
 .exact h.oP
end
def eT:a6->ai a6->a6
 |x,[]=>x
 |x,y::ys=>eT (if x<y then y else x) ys
theorem Jf:∀(ys:ai a6)(x:a6),(eT x ys=x\/eT x ys∈ys)/\x<=eT x ys/\∀y∈ys,y<=eT x ys
 |[],x=>⟨.j' rfl,a6.le_refl _,λy hy=>nomatch hy⟩
 |y::ys,x=>by
  let⟨h1,h2,h3⟩:=Jf ys (if x<y then y else x);have e:eT x (y::ys)=eT (if x<y then y else x) ys:=rfl
  grind
def YC(hc:X.TR=true):dg X (.yR "max") (λxs H Q=>∃p n ns,xs=[.bj p]/\bJ X.K H p ((n::ns).aT V.aO)/\Q (.aO (eT n ns)) H):=by
 intro cf s σ H xs us Q I r h;let⟨p,n,ns,rfl,hq,q⟩:=h;let⟨u,rfl,rx⟩:=_H r;cases rx;let⟨ax,r',pl,hz⟩:=I.xE hq;have hl:=pl.yP;have bR:p<s.a5.fy.dt:=by let⟨_,e,_⟩:=hl;exact gw.xq e
 have hh:X.A.Ko.Zj=none:=I.ok.hd hc;have v_:ax.aj=(n::ns).aj:=by have:=r'.aj;rw[w0a]at this;exact this.symm
 have yu:∀(i:ar)(v:dS),ax.k8[i]?=ab v->∃t,v=dS.aO ((n::ns).g6 i 0) t:=λi v hv=>by
  have r_:ax[i]?=ab v:=by simpa using hv
  have hi:i<(n::ns).aj:=by rw[<- v_];exact(w0c.mp r_).1
  let⟨u,hu,ru⟩:=r'.Df (i:=i) (x:=V.aO ((n::ns).g6 i 0)) (by rw[w0w,w0b hi,O8 hi];rfl);rw[r_]at hu;cases hu;exact ru
 refine call_max_walk (ρ hl ⟨s.a5.fy.dt,[s.a5.fy.dt,p],[s.a5.fy.dt],_,_,_,_,rfl,Ϫ.xE hh s.a5.fy.dt p (w0p bR) ax.k8,⟨⟨_,gw.A9 _ rfl,rfl,rfl⟩,hl.si _⟩,λb hb=>?_,by rw[w1j,v_];simp,CmpOf.ints_gt (λi=>(n::ns).g6 i 0) yu,λv h' tk hP hk=>?_⟩)
 .show b<(s.a5.si _).fy.dt;rw[gw.Z4];rcases w0g.mp hb with e|hb
  .rw[e];exact w4r _
  .rw[w1e.mp hb];exact w1y bR
 .let⟨t,rfl⟩:=yu _ _ hP;let⟨b1,b2⟩:=argBest_gt (λi=>(n::ns).g6 i 0) (ax.k8.dt-1)
  have e:(n::ns).g6 (argBest (λi j=>decide ((n::ns).g6 i 0>(n::ns).g6 j 0)) (ax.k8.dt-1)) 0=eT n ns:=by
   let⟨m1,m2,m3⟩:=Jf ns n;have hsz:ax.k8.dt=ns.aj+1:=by rw[w1j,v_];simp
   generalize argBest (λi j=>decide ((n::ns).g6 i 0>(n::ns).g6 j 0)) (ax.k8.dt-1)=k at b1 b2
   have hk:k<(n::ns).aj:=by simp;omega
   have ge:(n::ns).g6 k 0<=eT n ns:=by
    rw[O8 hk];rcases w0g.mp (w1o hk)with z|z
    .rw[z];exact m2
    .exact m3 _ z
   have le:eT n ns<=(n::ns).g6 k 0:=by
    have:∃j,j<=ns.aj/\(n::ns).g6 j 0=eT n ns:=by
     rcases m1 with z|z
     .exact⟨0,w1b _,by simp[z]⟩
     .let⟨j,hj,ej⟩:=w1z.mp z;exact⟨j+1,by omega,by simp[ai.g6,hj,ej]⟩
    let⟨j,hj,ej⟩:=this;have:=b2 j (by omega);rw[ej]at this;exact this
   omega
  rw[e];refine⟨.aO (eT n ns),H,I.Ya (t':=tk) λb o pb=>hk b o (λz=>?_) (gw.v7 _ pb),⟨t,rfl⟩,q⟩
  rw[w1e]at z;exact uP (gw.xq pb) (by rw[z];exact w2e _)
def kD:ai W->fv W
 |[.dI ws]=>match dQ ws with
  |ab (n::ns)=>ab (.aO (eT n ns))
  |_=>none
 |_=>none
def z5u:oQ K (λxs H Q=>∃p n ns,xs=[.bj p]/\bJ K H p ((n::ns).aT V.aO)/\Q (.aO (eT n ns)) H) kD:=by
 intro G H xs ws w Q s pr hf h;unfold kD at hf;split at hf
 .let⟨x,r,rfl,px,pr⟩:=pr;cases(show r=[]from pr);split at hf
  .rename_i n ns lx;cases hf;let⟨a,cs,rfl,hq,rp⟩:=px;have:=Cn lx rp;subst this;exact⟨a,n,ns,rfl,s.pJ hq,h G _ H (.uw s) rfl⟩
  .cases hf
 .cases hf
section
variable{e:pN}{dA:ke (ai W)}{p:vY}
theorem z5v(hc:X.TR=true)(hm:X.mg "max"=none)(ha:DA Z X EE [e] dA)(hg:autoParam (Gl X "max") jJ)(he:autoParam (p5 [e] X.a7=(false,eval e X.a7)::p5 [] X.a7) jJ)(d9:autoParam ((A4 gJ (p5 [] X.a7)).vb (·.1)=false) jJ):DE Z X EE (.wc (.oL "max" p) [e] [] gJ) (cw kD dA):=
 z_ (YC hc) z5u L1.Mk.Ε.«max» hm ha hg (by decide) (by decide) he d9
end
def Rq{n:a6}{ns:ai a6}:kD [.dI ((n::ns).aT .aO)]=ab (.aO (eT n ns)):=by
 show(match dQ ((n::ns).aT .aO)with|ab (n::ns)=>ab (W.aO (eT n ns))|_=>none)=_;rw[O7]
section
variable{w kw dflt:W}{x:Kx}
theorem z5w:lh i sh e=.nx (e.sx i (.dw sh [] [])):=rfl
theorem z5x:jW i d dk e=(d e).dr λw e1=>nu i dk w e1 e1[i]?:=rfl
theorem z5y:nu i dk w e (ab (.dw sh ks ws))=(dk e).dr λkw e2=>nv i w kw e2 e2[i]?:=rfl
def Pa(hk:ig kw=ab x)(h1:ks.aj<16777216)(h2:(e.sx i .no).tB (λs=>!vf s)=true)(h3:Z6 x sh)(h4:jC ks ws x=none)(h5:autoParam (sh.EH=false) jJ):nv i w kw e (ab (.dw sh ks ws))=.nx (e.sx i (.dw sh (ks++[x]) (ws++[w]))):=by
 show(match ig kw with|ab x=>_|none=>_)=_
 grind
def Qc(hk:ig w=ab x)(hc:Z6 x sh):mG w (.dw fz sh ks ws)=ab (.bl (!(jC ks ws x).Bt)):=by
 simp_all [mG]
def JU(hk:ig w=ab x)(hc:Z6 x sh):tT (.dw fz sh ks ws) w=jC ks ws x:=by
 simp_all [tT]
theorem Q15:lF [.dw fz sh ks ws]=ab (.aO ks.aj):=rfl
theorem z5z:iB (.dw sh ks ws)=.fr (.dw false sh ks ws):=rfl
end
def gX(K:Fg)(a:f'):fC:=match K.gr a with
 |ab o=>(match o.oh with
  |.ny n=>n=="tuple"
  |_=>false)
 |none=>false
def dE(K:Fg):Fg:=K.TV λp=>!gX K p.1
theorem BV{q:f'->fC}:∀{K:Fg}{o:sy},(K.TV λp=>q p.1).gr a=ab o->K.gr a=ab o/\q a=true
 |[],_,h=>by cases h
 |(b,u)::K,o,h=>by
  by_cases hq:q b=true
  .rw[ai.filter_cons_of_pos (p:=λp:f'×sy=>q p.1) (a:=(b,u)) hq]at h
   by_cases e:a=b
   .grind
   .rw[show ai.gr a ((b,u)::(K.TV λp=>q p.1))=ai.gr a (K.TV λp=>q p.1) by grind]at h
    let⟨h1,h2⟩:=BV h
    grind
  .rw[ai.filter_cons_of_neg (p:=λp:f'×sy=>q p.1) (a:=(b,u)) hq]at h
   let⟨h1,h2⟩:=BV h
   grind
theorem z0f{h:gw}(X:K.In h):(dE K).In h:=λa o e=>X a o (BV (q:=λa=>!gX K a) e).1
theorem z0g:d4 (dE K):=λa o e z=>by
 let⟨h1,h2⟩:=BV (q:=λa=>!gX K a) e
 unfold gX at h2;rw[h1]at h2;simp[z]at h2
def q0x{o:sy}(h:K.gr a=ab o)(t:gX K a=false):(dE K).gr a=ab o:=by
 have gen:∀(l:Fg)(q:f'->fC),q a=true->l.gr a=ab o->(l.TV λp=>q p.1).gr a=ab o:=by
  intro l q hq
  induction l with
  |rA=>intro h;cases h
  |qY p l ih=>
   grind
 exact gen K (λa=>!gX K a) (by rw[t];rfl) h
def q1x{r:fv dS}(h:oa.W.θ K a x=ab r)(t:gX K a=false):oa.W.θ (dE K) a x=ab r:=by
 grind [W.θ,q0x]
def zd3(K:Fg):dS->fC
 |.bj a=>gX K a
 |_=>false
def x9d{cd:dS}(h:oa.W._Q K cd x=true)(t:zd3 K cd=false):oa.W._Q (dE K) cd x=true:=by
 cases cd with
 |bj a=>
  unfold oa.W._Q at h |-
  dsimp only at h |-
  cases q:K.gr a with
  |none=>rw[q]at h;cases h
  |ab o=>rw[q0x q t];rw[q]at h;exact h
 |_=>cases h
def funAt(K:Fg)(a:f'):fC:=!gX K a&&(match K.gr a with
 |ab ⟨_,_,.Zn _,_⟩=>true
 |_=>false)
def lk{κ:Type} [ϣ κ](kvs:ai (κ×Sv))(x:κ):fv Sv:=(kvs.Ë λp=>decide (p.1=x)).aT (·.2)
def Φ{κ:Type} [ϣ κ](kvs:ai (κ×Sv))(x:κ)(v:Sv):ai (κ×Sv):=if(kvs.vb λp=>decide (p.1=x))=true then kvs.aT (λp=>if p.1=x then(p.1,v)else p)else kvs++[(x,v)]
theorem JB [ϣ κ](x):∀kvs:ai (κ×Sv),fb (vi kvs) x=(lk kvs x).aT sV
 |[]=>rfl
 |p::r=>by
  have ih:=JB x r
  by_cases h:p.1=x
  all_goals simp_all [vi,zP,lk,zQ]
def Rr [ϣ κ](x)(v)(kvs:ai (κ×Sv)):ZN (vi kvs) x (sV v)=vi (Φ kvs x v):=by
 unfold ZN Φ vi;rw[w4w];have e:((λkv:κ×V=>decide (kv.1=x)) ∘ λp:κ×Sv=>(p.1,sV p.2))=λp:κ×Sv=>decide (p.1=x):=rfl
 rw[e];split
 .rw[w0i,w0i];refine w1n λp _=>?_
  grind
 grind
def sj:W->fv Yg
 |.aO i=>ab (.j' i)
 |.str x=>ab (.mv x)
 |_=>none
def L4:W->fv Sv
 |.aO i=>ab (.j' i)
 |.bl b=>ab (.mv b)
 |_=>none
def CJ:Sv->W
 |.j' i=>.aO i
 |.mv b=>.bl b
def Jg(p:p7 K G w v)(h:sj w=ab k):v=kV k:=by
 cases w<;>cases h<;>exact p
def Rt(p:p7 K G w v)(h:L4 w=ab k):v=sV k:=by
 cases w<;>cases h<;>exact p
def YD(k):p7 K G (CJ k) (sV k):=by cases k<;>rfl
def oX:W->fv (ai (Yg×Sv))
 |.ba (.k kvs)=>ab kvs
 |_=>none
def N0(h:oX w=ab kvs):w=.ba (.k kvs):=by
 cases w with
 |ba d=>cases d<;>cases h;rfl
 |_=>cases h
def so(w d:W):fv W:=(sj w).r7 λk=>(oX d).aT λkvs=>.bl (!(lk kvs k).Bt)
def yA(d w:W):fv W:=(sj w).r7 λk=>(oX d).r7 λkvs=>(lk kvs k).aT CJ
def z50:g8 K (λy x H Q=>∃a o,x=.bj a/\fg H a y o/\Q (.bl (!o.Bt)) H) so:=by
 intro G H x y wx wy w Q s px py hf h;let⟨k,hk,hf⟩:=w1x.mp hf;let⟨kvs,hd,hf⟩:=w0l.mp hf;cases hf;cases Jg px hk;cases N0 hd;let⟨e,rfl,he⟩:=py;refine⟨e,_,rfl,fg.k (k:=k) (s _ _ he),h G _ H (.uw s) ?_⟩;rw[JB,w3o];rfl
def Ru:g8 K (λx y H Q=>∃a v,x=.bj a/\fg H a y (ab v)/\Q v H) yA:=by
 intro G H x y wx wy w Q s px py hf h;let⟨k,hk,hf⟩:=w1x.mp hf;let⟨kvs,hd,hf⟩:=w1x.mp hf;let⟨v,hv,rfl⟩:=w0l.mp hf;cases Jg py hk;cases N0 hd;let⟨e,rfl,he⟩:=px;have g:=fg.k (k:=k) (s _ _ he);rw[JB,hv]at g;exact⟨e,_,rfl,g,h G _ H (.uw s) (YD v)⟩
section
variable{a b e k:pN}{da db:ke W}{p iu:vY}
theorem z51(hu:X.A.xT+150<xH)(ha:DE Z X EE a da)(hb:DE Z X EE b db)(hm:autoParam (_t ._o b=false) jJ):DT Z X EE (.YT a [._o] [b] gJ) (ay (ak so da db)):=
 PT.pg (PX (Na (by omega) ha hb) hm) λσ H Q h=>ue z50 σ H _ (He h)
theorem Q19(hu:X.A.xT+150<xH)(ha:DE Z X EE a da)(hb:DE Z X EE b db)(hs:qZ b:=by intro _ _;rfl):DE Z X EE (.Yw a b gJ) (ak yA da db):=
 PE.pg (O9 (by omega) ha hb hs) (ue Ru)
def ro.ba{e:ai S}(r:ro K Z G σ H e){kvs:Dd}(h:e[i]?=ab (.ba kvs)):∃a,σ[i]?=ab (ab (.bj a))/\H a=ab (dO kvs)/\G a=none/\Z.H a=none:=by
 let⟨a,h1,h2,h3,h4⟩:=r.yM i _ h;refine⟨a,?_,h2,h3,h4⟩;cases q:σ[i]? with
 |none=>rw[q]at h1;cases h1
 |ab z=>rw[q]at h1;rw[show z=ab (.bj a)from h1]
def ro.zdL{e:ai S}(r:ro K Z G σ H e){kvs:Dd}{a:f'}(h2:H a=ab (dO kvs))(h3:G a=none)(h4:Z.H a=none):ro K Z G (σ.sx i (ab (.bj a))) H (e.sx i (.ba kvs)):=by
 refine⟨r.ri,λj s z=>?_,by simpa using r.vn,λj k b1 b2 w1 w2 c z1 z2 z3 z4=>?_,r.YY,r.lC,r.gen⟩
 .by_cases hj:j=i
  .subst hj
   have hi:j<e.aj:=by
    have:=(w0c.mp z).1;simpa using this
   rw[w0m hi]at z;cases z;rw[w0m (by rw[<- r.vn];exact hi)];exact⟨a,rfl,h2,h3,h4⟩
  .rw[w0j (λz=>hj z.symm)]at z |-
   exact r.yM j s z
 .have yc:∀(k:ar)(bb:fv ar)(ww:ai W),(e.sx i (S.ba kvs))[k]?=ab (.ie bb ww)->k≠i/\e[k]?=ab (.ie bb ww):=λk bb ww z=>by
   by_cases hk:k=i
   .subst hk
    have hi:k<e.aj:=by
     have:=(w0c.mp z).1;simpa using this
    rw[w0m hi]at z;cases z
   .rw[w0j (λz=>hk z.symm)]at z;exact⟨hk,z⟩
  let⟨n1,q1⟩:=yc _ _ _ z1;let⟨n2,q2⟩:=yc _ _ _ z2;rw[w0j (λz=>n1 z.symm)]at z3
  rw[w0j (λz=>n2 z.symm)]at z4
  exact r.mf _ _ _ _ _ _ _ q1 q2 z3 z4
def EF:S->fC
 |.ba _=>true
 |.dw sh _ _=>sh.qE
 |_=>false
def ro.zdX{e:ai S}(r:ro K Z G σ H e){kvs kvs':Dd}{a:f'}(h:e[i]?=ab (.ba kvs))(ha:σ[i]?=ab (ab (.bj a)))(ho:∀j s,j≠i->e[j]?=ab s->EF s=false):ro K Z G σ (ot H a (dO kvs')) (e.sx i (.ba kvs')):=by
 let⟨a',h1,h2,h3,h4⟩:=r.ba h;rw[ha]at h1;cases h1;have hi:i<e.aj:=(w0c.mp h).1;refine⟨λc o z=>?_,λj s z=>?_,by simpa using r.vn,λj k b1 b2 w1 w2 c z1 z2 z3 z4=>?_,λc o z n=>?_,λc z=>?_,r.gen⟩
 .rw[bh (i3 z h3)];exact r.ri c o z
 .by_cases hj:j=i
  .subst hj;rw[w0m hi]at z;cases z;exact⟨a,by rw[ha];rfl,bT,h3,h4⟩
  .rw[w0j (λz=>hj z.symm)]at z
   have y:=r.yM j s z;cases s with
   |no=>trivial
   |fr w=>exact y
   |ie b2 w2=>
    let⟨c,ys,y1,y2,y3,y4,y5⟩:=y;refine⟨c,ys,y1,?_,y3,y4,y5⟩;rw[bh (kS y2 h2 (λz=>vU rfl z.symm))];exact y2
   |ba kv=>have:=ho j _ hj z;cases this
   |dw sh ks ws=>
    have hI:sh.qE=false:=ho j _ hj z;exact i6.Τ y (.uw _) λl o ys k1 k2 k3=>⟨by rw[bh (kS k1 h2 (λz=>by rw[vV hI]at z;exact vU rfl z.symm))];exact k1,k2,k3⟩
 .have yc:∀(k:ar)(bb:fv ar)(ww:ai W),(e.sx i (S.ba kvs'))[k]?=ab (.ie bb ww)->e[k]?=ab (.ie bb ww):=λk bb ww z=>by
   by_cases hk:k=i
   .subst hk;rw[w0m hi]at z;cases z
   .rw[w0j (λz=>hk z.symm)]at z;exact z
  exact r.mf _ _ _ _ _ _ _ (yc _ _ _ z1) (yc _ _ _ z2) z3 z4
 .rw[bh (i3 z h4)];exact r.YY c o z n
 .by_cases hc:c=a
  .subst hc;rw[bT];exact λz=>nomatch z
  .rw[bh hc];exact r.lC c z
def zem(i:ar):ai S->SR:=λe=>match e[i]? with
 |ab (.ba d)=>.rt (.ba d) e
 |_=>.no
def lL(i:ar)(e:ai S):fC:=(ai.zd e.aj).tB λj=>decide (j=i)||!((e[j]?.aT EF).g6 false)
theorem z52{e:ai S}(h:lL i e=true):∀j s,j≠i->e[j]?=ab s->EF s=false:=λj s hj hs=>by
 have hl:j<e.aj:=(w0c.mp hs).1;have:=w1c.mp h j (w0x.uR hl)
 grind
def jt(i:ar)(w kw:W)(e:ai S):fv S->SR
 |ab (.ba (.k kvs))=>match L4 w,sj kw with
  |ab v,ab x=>if kvs.aj<16777216/\lL i e=true then .nx (e.sx i (.ba (.k (Φ kvs x v))))else .no
  |_,_=>.no
 |_=>.no
def jV(i:ar)(d dk:ke W):ai S->SR:=λe=>(d e).dr λw e1=>match e1[i]? with
 |ab (.ba _)=>(dk e1).dr λkw e2=>jt i w kw e2 e2[i]?
 |_=>.no
def z53(i:ar)(hu:X.A.xT+150<xH)(he:DE Z X EE e d)(hk:DE Z X EE k dk)(hN:autoParam (X.N[i]?=ab x) jJ)(hv:autoParam (jS X.a7.d0 x) jN)(hd:autoParam ((x==("__debug__":d3))=false) jK)(eE:autoParam ((x==("__classdict__":d3))=false) jK)
  (hs:autoParam (ZO e (ab (.Yw (.oL x p) k iu)) gJ.Yq X.a7=vo false) jJ):DS Z X EE (.ZR [.Yw (.oL x p) k iu] e gJ) (jV i d dk):=by
 refine PS.pg (O_ (by omega) (pv i hN hv hd eE) hk he hs) ?_;rintro D σ H ⟨G,e,nN,h⟩;refine⟨G,e,nN,(kR h).vW (λw e1 h G1 v1 H1 r1 s1 p1=>?_) λ_ _ h=>h⟩
 split at h
 .rename_i kv0 rQ;let⟨a,q1,q2,q3,q4⟩:=r1.ba rQ;refine⟨.bj a,q1,G1,e1,r1,(kR (σ:=σ) h).vW (λkw e2 h G2 v2 H2 r2 s2 p2=>?_) λ_ _ h G' H' r s=>h G' H' r (s1.ki s)⟩
  unfold jt at h;split at h
  .rename_i kvs ox;let⟨a',g1,g2,g3,g4⟩:=r2.ba ox;rw[q1]at g1;cases g1;split at h
   .rename_i v t Us ph;split at h
    .rename_i hc;cases Rt p1 Us;cases Jg p2 ph;refine⟨a,_,rfl,kX.k (k:=t) g2 (by rw[Yf];unfold vi;rw[w0a];exact hc.1),?_⟩;rw[Rr];exact h G2 σ _ (r2.zdX (kvs':=.k (Φ kvs t v)) ox q1 (z52 hc.2)) (s1.ki s2)
    .exact h.oP
   .exact h.oP
  .exact h.oP
 .exact h.oP
end
def ES(kvs:ai (Yg×Sv))(k:Yg):fv fC:=match lk kvs k with
 |ab (.mv b)=>ab b
 |_=>none
def tU(kvs l:ai (Yg×Sv)):ai Yg:=(l.TV λp=>ES kvs p.1==ab true).aT (·.1)
def kW:Yg->W
 |.j' i=>.aO i
 |.mv x=>.str x
def zet(e:ai S):fv S->R (ai W)
 |ab (.ba (.k kvs))=>if kvs.aj<16777216/\(kvs.tB λp=>(ES kvs p.1).Bt)=true then .ok ((tU kvs kvs).aT kW) e else .no
 |_=>.no
theorem Eu(h:n+150<xH):n+20<xH:=ar.lt_of_le_of_lt (w5i (by decide:20<=150) _) h
theorem z54:zet e (ab (.ba (.k kvs)))=if kvs.aj<16777216/\(kvs.tB λp=>(ES kvs p.1).Bt)=true then .ok ((tU kvs kvs).aT kW) e else .no:=rfl
def pU(i:ar)(dk:ke W)(w:W)(e1:ai S):fv S->SR
 |ab (.ba _)=>(dk e1).dr λkw e2=>jt i w kw e2 e2[i]?
 |_=>.no
def z55:jV i d dk e=(d e).dr λw e1=>pU i dk w e1 e1[i]?:=by
 unfold jV pU;rfl
theorem z56:pU i dk w e (ab (.ba dd))=(dk e).dr λkw e2=>jt i w kw e2 e2[i]?:=rfl
theorem z0h{b:fC}:jt i (.bl b) (.aO n) e (ab (.ba (.k kvs)))=if kvs.aj<16777216/\lL i e=true then .nx (e.sx i (.ba (.k (Φ kvs (.j' n) (.mv b)))))else .no:=rfl
theorem z0i:iB (.ba dd)=.fr (.ba dd):=rfl
theorem Q2a:so (.aO n) (.ba (.k kvs))=ab (.bl (!(lk kvs (.j' n)).Bt)):=rfl
theorem Q5t:yA (.ba (.k kvs)) (.aO n)=(lk kvs (.j' n)).aT CJ:=rfl
end D
namespace L2
open PySem PySem.Spec PyProof.Rows
def YE{K:Fg}{xR:ai (f'×d3)}
  (KX:K.In aE.a5)(lx:aE.a5.Ns Yr mg)(hb:aE.a5.Ns Â mb)(wH:∀x:d3,x≠"__name__"->mb x=ζ x)(u7:aE.a5.ϸ)(hg:aE.Za=#[])
  (ha:aE.a5.g0 a=ab {oh:=.ny "list", oo:=.pJ vs.k8})(hi:Ϧ vs ns)(hl:ns.aj<=vr)(hr:bp k _c)
  (F:∀j3:gw,K.In j3->j3.Ns Yr mg->_J j3 mg->ei P w K mg j3 CX k fa fd [x] sp)(jh:∀(s:oU)(u:dS),_L s fd ⟨[u],[]⟩ [(x,u)])
  (oA:∀H:Hp,bJ K H a (ns.aT V.aO)->sp [.bj a] H (λv _=>v=.bl true) λ_ _ _=>vk)
  (uY:∀H e s',CX [] H aE (λ_ _ _=>vk) e s'->vk)
  (To:_J aE.a5 mg)(hM:∀a q P,(a,iD P q)∈K->xR.gr P=ab q)(hT:∀P q,xR.gr P=ab q->aE.a5.g0 P=ab (ϳ #[])/\Ē aE.a5 P)(Kq:∀P q,xR.gr P=ab q->K.gr P=none):
  Zv (q_ P w) _c (.yd (.bj fa) ⟨[.bj a],[]⟩) (λr s'=>r=.ok (.KJ (.wF true))/\Ϩ aE.a5 s'.a5/\s'.os=aE.os/\_l s'.Za) aE:=by
 have rv:=Hd hi;have ER:=hi.aj
 have zfd:xR.gr a=none:=by
  cases q:xR.gr a with
  |none=>rfl
  |ab t=>grind
 have Ä:∀H0:Hp,(∀b,H0 b=none\/∃o xs,H0 b=ab (.eG o (.dI xs)))->bJ K H0 a (ns.aT V.aO)->dX P w H0 aE.a5->(∀b,H0 b≠none->b=a)->(H0 a≠none->K.gr a=none) ->
   Zv (q_ P w) _c (.yd (.bj fa) ⟨[.bj a],[]⟩) (λr s'=>r=.ok (.KJ (.wF true))/\Ϩ aE.a5 s'.a5/\s'.os=aE.os/\_l s'.Za) aE:=by
  intro H0 hO Tx Eg hA hK;obtain⟨H,hH⟩:∃H:Hp,H=λb=>match xR.gr b with|ab q=>ab (.mT #[.wF true,.str q 0])|none=>H0 b:=⟨_,rfl⟩
  have Bq:∀b q,xR.gr b=ab q->H b=ab (.mT #[.wF true,.str q 0]):=λb q z=>by rw[hH];simp only[z]
  have yV:∀b,xR.gr b=none->H b=H0 b:=λb z=>by rw[hH];simp only[z]
  have up:∀b u,H0 b=ab u->H b=ab u:=λb u z=>by
   grind
  have hS:bJ K H a (ns.aT V.aO):=by
   rcases Tx with(z|⟨o,z⟩)|z
   .grind
   .exact .j' (.mv ⟨o,up _ _ z⟩)
   .exact .mv z
  have aL:dX P w H aE.a5:=λb u z=>by
   cases q:xR.gr b with
   |ab t=>
    rw[Bq b t q]at z;cases z;exact .j' ⟨t,#[],rfl,rfl,(hT b t q).1,trivial,λgJ cv z=>by cases z⟩
   |none=>
    rw[yV b q]at z;exact(Eg b u z).fE (λc v _ q=>q) (λc q=>up c _ q) λc v _ q=>up c v q
  have fH:∀{b:f'}{o:sy},aE.a5.g0 b=ab o->H b=none->(gb aE.a5 H).g0 b=ab o:=λe n=>NM e n
  have rD:∀{b:f'}{o:sy},aE.a5.g0 b=ab o->o≠{oh:=.ny "list", oo:=.pJ vs.k8}->o≠ϳ #[]->H b=none:=λ{b o} e d1 d2=>by
   grind
  have sq:∀{b:f'}{m:d3->fv dS},aE.a5.Ns b m->(gb aE.a5 H).Ns b m:=λ{b m} ⟨o,es,ep,e,d,r⟩=>⟨o,es,ep,fH e (rD e (λz=>by rw[z]at d;cases d) λz=>by rw[z]at d;cases d),d,r⟩
  have x8:K.In (gb aE.a5 H):=λb o e=>fH (KX b o e) (by
   grind)
  have Tq:_J (gb aE.a5 H) mg:=by
   let⟨bm,ob,b1,b2,b3,b4,b5,b6⟩:=To;exact⟨bm,ob,b1,b2,fH b3 (rD b3 (λz=>by rw[z]at b4;simp at b4) λz=>by rw[z]at b4;cases b4),b4,b5,b6⟩
  have Tu:ψ K mg (gb aE.a5 H):=⟨x8,sq lx,⟨mb,sq hb,wH⟩,let ⟨mc,h1,h2⟩:=u7;⟨mc,sq h1,h2⟩⟩;have e0:f6 P w K mg (gb aE.a5 H) _c [] aE H:=⟨rfl,Tu,λb o e=>OG e,ar.le_of_eq (MU _ _),trivial,λb hb=>uP (show b∈([]:ai f')from hb) (by simp),aL,.Ô hg,λa q P m=>⟨_,Bq P q (hM a q P m),rfl,rfl⟩⟩
  refine η ((F _ x8 (sq lx) Tq).mH _c [] aE H ⟨[.bj a],[]⟩ [.bj a] [.bj a] _ _ hr e0 (jh aE (.bj a)) (.qY rfl .rA) (oA H hS)) λr s' h=>?_
  cases r with
  |_S e=>exact(uY H e s' h).oP
  |ok fl=>
   cases fl with
   |next=>exact vk.oP h
   |_z=>exact vk.oP h
   |_A=>exact vk.oP h
   |KJ u=>
    let⟨v,H',os,QN,un,rY,r',q⟩:=h;have q':v=.bl true:=q;subst q';obtain rfl:u=dS.wF true:=r'
    have kp:∀b o,xR.gr b=none->aE.a5.g0 b=ab o->s'.a5.g0 b=ab o:=λb o z e=>by
     cases q:H b with
     |none=>exact un.wN b o e q (by intro z;exact uP (show b∈([]:ai f')from z) (by simp)) (by simp)
     |ab u=>
      have q0:=q;rw[yV b z]at q0;rcases hO b with z|⟨ob,xs,z⟩
      .rw[q0]at z;cases z
      .rw[q0]at z;cases z;have z2:=un.bo b ob _ q;let⟨e1,_⟩:=(show aE.a5.g0 b=ab ob/\_ from aL b _ q);let⟨e2,_⟩:=(show s'.a5.g0 b=ab ob/\_ from rY b _ z2)
       grind
    have zco:∀b t,xR.gr b=ab t->∃qs,s'.a5.g0 b=ab (ϳ qs):=λb t z=>by
     let⟨_E,e⟩:=un.fP b _ (Bq b t z);have o1:aS P w H' s'.a5 b (.mT (#[.wF true,.str t 0]++_E)):=rY b _ e;rcases o1 with⟨_,qs,_,_,g,_⟩|⟨_,_,_,_,_,_,p0,_⟩
     .exact⟨qs,g⟩
     grind
    refine⟨rfl,⟨λb o e=>?_,λb o e=>?_⟩,os,QN⟩
    .cases z:xR.gr b with
     |none=>exact .j' (kp b o z e)
     |ab t=>
      let⟨qs,g⟩:=zco b t z;let⟨g1,g2⟩:=hT b t z;rw[e]at g1;cases g1;exact .mv (.j' ⟨g2,rfl,#[],qs,rfl,by grind⟩)
    grind
 cases hk:K.gr a with
 |ab o=>
  have e:=KX a o hk;rw[ha]at e;cases e;refine Ä (λ_=>none) (λ_=>.j' rfl) (.mv ⟨_,vs.k8,_,hk,rfl,rfl,rfl,by grind,by simpa using rv⟩) (λb u z=>by grind) (λb z=>uP rfl z) λz=>uP rfl z
 |none=>
  refine Ä (λb=>if b=a then ab (.eG {oh:=.ny "list", oo:=.pJ vs.k8} (.dI (ns.aT V.aO)))else none) (λb=>?_) (.j' (.mv ⟨{oh:=.ny "list", oo:=.pJ vs.k8},og rfl⟩)) (λb u z=>?_) (λb z=>?_) λ_=>hk
  .grind
  .by_cases hb:b=a
   .have z':=(og hb).symm.ki z;cases z';subst hb;exact⟨ha,by grind,vs,_,rv,ha⟩
   grind
  grind
def Vl(tk tv:TE):TE:=λσ H Q=>∀p,H p=none->tk σ (ot H p (.dK [])) λk H1=>tv σ H1 λv H2=>∃kk,k=kV kk/\H2 p=ab (.dK [])/\Q (.bj p) (ot H2 p (.dK [(kk,v)]))
def SU(hk:PE X ek tk)(hv:PE X ev tv):PE X (.Η [ab ek] [ev] gJ) (Vl tk tv):=by
 intro cf s σ H Q I h;refine zd5 rfl rfl (by simp) (by simp) ?_;have fr:H s.a5.fy.dt=none:=I.aL.xS (w0e _);have I0:=I.Lf (a:=s.a5.fy.dt) (o:=.dK []) (t':=s.sP) (λ_ _ q=>gw.v7 _ q) (w0e _) (z0d s.a5 I.big)
 show oS _ _ (evalPairs [(eval ek X.a7,do let x <- eval ev X.a7;Ú gJ;vo x)]) _ _ _;refine zcb (bw (hk cf _ σ _ _ I0 (h _ fr)) λku s1 ⟨k,H1,I1,rk,q1⟩=>?_)
 refine lb (bw (hv cf s1 σ H1 _ I1 q1) λvu s2 ⟨v,H2,I2,rv,kk,e,hp,q⟩=>lb (ă (tW (zcc ?_))))
 subst e;let⟨z,hd,vs,nN,dd⟩:=Q0 I2.aL hp;cases nN;refine wpAny_storeAll (knd:=c5 X.jd X.w) [(ku,vu)] [(kk,vu)] [] s2 _ ⟨CW rk,rfl,trivial⟩ dd (by rw[Yf];simp) λh' rE hs=>?_
 have he:∃q,h'.g0 s.a5.fy.dt=ab q:=let ⟨q,_,_,hq,_⟩:=rE;⟨q,hq⟩;have tF:h'.Ϥ (c5 X.jd X.w) s.a5.fy.dt [(kk,vu)]:=rE;refine⟨.bj s.a5.fy.dt,_,CA I2 (by rw[hp];exact kc.intro) hs he (Qg (kvs:=[(kk,v)]) (by rw[Yf];simp) hd (.qY ⟨rfl,rv⟩ .rA) tF),rfl,q⟩
end L2
namespace D
open PySem L2
variable{X:Cx}{dA:ke (ai W)}{G H:Hp}{EE:L2.St->XK}{es:ai pN}{e:ai S}{i:ar}{r:ar->ai W->FR}{p gJ:vY}{K:Fg}{x:d3}{Z:Zt}
mutual
noncomputable def noFn:W->Bool
 |.tup ws=>aX ws
 |.lst ws=>aX ws
 |.dw _ _ _ ws=>aX ws
 |.fn _ _ _=>false
 |.aF=>true
 |.bl _=>true
 |.int _=>true
 |.str _=>true
 |.exc _=>true
 |.ba _=>true
noncomputable def aX:List W->Bool
 |[]=>true
 |w::ws=>noFn w&&aX ws
end
section
variable{cs:Cs}
def Rd.rm{a:f'}{u:HO}(c:bc G cs)(h:Rd G a u)(n:∀o,u≠km o)(n2:∀φ,u≠.ext φ):Rd (b9 G cs) a u:=by
 rcases h with h|⟨o,h⟩
 .exact .j' (c.cO h n)
 .exact .mv ⟨o,c.cO h λo' z=>by cases z;exact n2 _ rfl⟩
theorem c6.rm(c:bc G cs):∀{ks:ai Kx}{bs:ai f'},c6 G ks bs->c6 (b9 G cs) ks bs
 |[],[],_=>trivial
 |k::ks,b::bs,h=>⟨bV.Yp (λ_ _ t z=>c.cO z (L_ t)) k h.1,c6.rm c h.2⟩
 |[],_::_,h=>h.oP
 |_::_,[],h=>h.oP
def cq.rm{sh:Sh}(c:bc G cs){ks:ai Kx}{bs:ai f'}(h:cq sh G ks bs):cq sh (b9 G cs) ks bs:=by
 unfold cq at h |-
 split at h
 .grind
 .rename_i hi;rw[sU hi];exact h.rm c
mutual
theorem Rep.rm(c:bc G cs):∀(w:W){v:V},noFn w=true->Rep K G w v->Rep K (b9 G cs) w v
 |.aF,v,_,h=>h
 |.bl b,v,_,h=>h
 |.int i,v,_,h=>h
 |.str x,v,_,h=>h
 |.tup ws,v,n,h=>by
  let⟨a,xs,rfl,q,r⟩:=h;refine⟨a,xs,rfl,?_,aq.rm c ws n r⟩;rcases q with q|q
  .exact .inl (Rd.rm c q (λo z=>nomatch z) λφ z=>nomatch z)
  .exact .inr q
 |.lst ws,v,n,h=>by
  let⟨a,xs,rfl,q,r⟩:=h;refine⟨a,xs,rfl,?_,aq.rm c ws n r⟩;rcases q with q|q
  .exact .inl (Rd.rm c q (λo z=>nomatch z) λφ z=>nomatch z)
  .exact .inr q
 |.exc e,v,_,h=>by
  let⟨a,rfl,q⟩:=h;exact⟨a,rfl,c.cO q λo z=>by grind [xX]⟩
 |.ba kvs,v,_,h=>by
  let⟨a,rfl,q⟩:=h;exact⟨a,rfl,c.cO q λo z=>by cases kvs;cases z⟩
 |.dw fz sh ks ws,v,n,h=>by
  let⟨a,kvs,bt,rfl,h1,h2,h3,h4⟩:=h;refine⟨a,kvs,bt,rfl,?_,h2,cq.rm c h3,aq.rm c ws n h4⟩;cases fz with
  |true=>let⟨o,h1⟩:=h1;exact⟨o,c.cO h1 λo z=>by injection z with _ z;exact vQ rfl z⟩
  |false=>exact c.cO h1 λo z=>vQ rfl z
 |.fn _ _ _,v,n,_=>by cases n
theorem aq.rm(c:bc G cs):∀(ws:List W){xs:List V},aX ws=true->aq K G ws xs->aq K (b9 G cs) ws xs
 |[],xs,_,h=>h
 |w::ws,xs,n,h=>by
  let⟨x,r,rfl,h1,h2⟩:=h
  have n':noFn w=true/\aX ws=true:=by
   simp_all [aX]
  exact⟨x,r,rfl,Rep.rm c w n'.1 h1,aq.rm c ws n'.2 h2⟩
end
end
section
variable{G' H':Hp}{cs:Cs}
theorem zR(h:∀b o,cs.gr b=ab o->H b=none):au H (bD H cs):=λb u e=>by
 cases q:cs.gr b with
 |ab o=>grind
 |none=>rw[gp q];exact e
theorem zG(h:au G H):au (bD G cs) (bD H cs):=λb u e=>by
 cases q:cs.gr b with
 |ab o=>simp_all [mL]
 |none=>rw[gp q]at e |-;exact h b u e
theorem Iw(h:au G H):au (b9 G cs) (b9 H cs):=λb u e=>by
 let⟨e1,e2⟩:=JP e;rw[lM e2];exact h b u e1
theorem aK.lam(ch:bc H cs)(cg:bc G cs)(e1:au (b9 H cs) H')(e2:au (b9 G cs) G')(e3:au G' H')(e4:∀a,b9 H cs a≠none->G' a=b9 G cs a):aK G H (bD G' cs) (bD H' cs) where
 hh:=λb u e=>by
  cases q:cs.gr b with
  |ab o=>rw[mL q];rw[ch b o q]at e;exact e
  |none=>rw[gp q];exact e1 b u (by rw[lM q];exact e)
 gg:=λb u e=>by
  cases q:cs.gr b with
  |ab o=>rw[mL q];rw[cg b o q]at e;exact e
  |none=>rw[gp q];exact e2 b u (by rw[lM q];exact e)
 ri:=zG e3
 yL:=λa ha=>by
  cases q:cs.gr a with
  |ab o=>rw[mL q,cg a o q]
  |none=>
   grind [gp,lM]
theorem aK.eU(g:aK (bD G cs) (bD H cs) G' H')(hn:∀b o,cs.gr b=ab o->H b=none)(sg:au G H):aK G H (b9 G' cs) (b9 H' cs) where
 hh:=λb u e=>by
  cases q:cs.gr b with
  |ab o=>grind
  |none=>rw[lM q];exact g.hh b u (by rw[gp q];exact e)
 gg:=λb u e=>by
  cases q:cs.gr b with
  |ab o=>have:=sg b u e;grind
  |none=>rw[lM q];exact g.gg b u (by rw[gp q];exact e)
 ri:=Iw g.ri
 yL:=λa ha=>by
  cases q:cs.gr a with
  |ab o=>grind
  |none=>rw[lM q,g.yL a (by grind [gp]),gp q]
end
def fo:R W->FR
 |.ok w _=>.ok (.fr w)
 |.ex c _=>.ex c
 |.no=>.no
def ur(K:Fg)(lams:ar->fv Lm)(r:ar->ai W->FR):V->ai V->Hp->VK->XK->Prop:=λx vs H Q _=>∃G i l aH ws w,au G H/\p7 K G (.fn i l aH) x/\aq K G ws vs/\aX ws=true/\aX aH=true/\lams i=ab l /\
 r i (ws++aH)=.ok (.fr w)/\∀G' H' v,aK G H G' H'->p7 K G' w v->Q v H'
structure jR(P:wO)(w:vq)(K:Fg)(mg:d3->fv dS)(j3:gw)(n:ar)(l:Lm)(ps:ai d3)(F:ai W->FR):Prop where
 sc:gB ps l.nf l.d0
 r7:∀(cl:ai (d3×f'))(pm:dS)(c':f')(cP:dS)(us:ai dS),us.aj=ps.aj->Ν (ϰ "<lambda>" l.p6 l.r5 l.rK l.d0 cl pm (.bj c') cP) ⟨us,[]⟩=vo (ps.wk us)
 vn:∀ws,F ws≠.no->ws.aj=ps.aj+l.nf.aj
 rK:∀ws,F ws≠.no->∀(Z:Zt)(f:f')(cd:dS)(cl:ai (d3×f'))(A:C7)(qp:ai Rb)(s:oU)(H:Hp),bp n (A.ZE (df l.p6 l.d0 f cd cl s)) ->
  ∃d,DE Z (gF P w K mg j3 (ps++l.nf) l.p6 l.d0 f cd cl A qp s H) (λ_=>E0) l.rK d/\fo (d (ws.aT .fr))=F ws
def RQ{P:wO}{w:vq}{mg:d3->fv dS}{j3:gw}{n:ar}{lams:ar->fv Lm}(h:∀i l,lams i=ab l->∃ps,jR P w K mg j3 n l ps (r i)):
  om P w K mg j3 (eh P w) (n+1) (ur K lams r):=by
 rintro x vs H Q E ⟨G,i,l,aH,ws,w',sg,rf,rv,nw,nc,hl,hr,q⟩;let⟨ps,L⟩:=h i l hl;let⟨f,cl,zs,cs,rfl,⟨pm,c',cP,ef⟩,FC,rz⟩:=rf;have hn:r i (ws++aH)≠.no:=by grind
 have v_:=L.vn _ hn;have hz:zs.aj=l.nf.aj:=FC.vn;have eI:aH.aj=l.nf.aj:=by grind [aq.aj]
 have oB:ws.aj=ps.aj:=by grind
 have Ey:vs.aj=ps.aj:=by grind [aq.aj]
 have cg:bc G cs:=λb o e=>(FC.jB b o e).1
 have ch:bc H cs:=λb o e=>sg _ _ (cg b o e)
 refine⟨f,_,_,_,_,_,rfl,sg _ _ ef,λA qp s us hR e0 ru=>?_⟩
 have Bp:us.aj=ps.aj:=by grind [sS.aj]
 have C8:et cl l.nf l.d0 zs s.a5 cs:=⟨FC.La,FC.yD,FC.tB,λc o e=>⟨(show s.a5.g0 c=ab o/\_ from e0.aL c _ (ch c o e)).1,(FC.jB c o e).2⟩,FC.uO⟩
 let⟨d,hd,he⟩:=L.rK _ hn ⟨b9 H cs,b9 G cs,[]⟩ f (.bj c') cl A qp s (b9 H cs) (hR.ZE _);refine z3c hR e0 (sg _ _ ef) L.sc ch C8 (L.r7 cl pm c' cP us Bp) Ey hz ru hd ?_;have HD:au (b9 G cs) (b9 H cs):=Iw sg;have rr:aq K (b9 G cs) (ws++aH) (vs++zs):=(aq.rm cg ws nw rv).YX (aq.rm cg aH nc rz);have nN:=Ih (N:=ps++l.nf) HD rr
 have e1:L2.Z_ (ps++l.nf) (vs++zs)=vs.aT ab++zs.aT ab:=by
  simp_all [L2.Z_]
 have e2:Z3 (ps++l.nf).aj (ws++aH)=(ws++aH).aT .fr:=by
  simp_all [Z3]
 rw[e1,e2]at nN;refine⟨b9 G cs,_,nN,?_⟩;cases u4:d ((ws++aH).aT .fr)with
 |ok w2 e'=>
  rw[u4,hr]at he;cases he;intro G' v H' r' sG rp jj
  have yq:∀b o,cs.gr b=ab o->G' b=none:=λb o z=>by
   cases q2:G' b with
   |none=>rfl
   |ab u=>have:=r'.ri b u q2;grind
  exact q (bD G' cs) (bD H' cs) v (aK.lam ch cg (λb u e=>r'.YY b u e (λz=>nomatch z)) sG r'.ri r'.gen) (p7.pg (zR yq) _ rp)
 |ex c e'=>rw[u4,hr]at he;cases he
 |no=>rw[u4,hr]at he;cases he
section
variable{e:pN}{k:ar}{lams:ar->fv Lm}
open Classical in
def f7(lams:ar->fv Lm)(r:ar->ai W->FR)(j:ar)(l:Lm)(aH:ai W)(ws:ai W)(e1:ai S):R W:=
 if lams j=ab l/\aX ws=true/\aX aH=true then(match r j (ws++aH)with
  |.ok (.fr w)=>.ok w e1
  |_=>.no)else .no
def kj(lams:ar->fv Lm)(r:ar->ai W->FR)(dA:ke (ai W))(e:ai S):fv S->R W
 |ab (.fr (.fn j l aH))=>(dA e).r7 λws e1=>f7 lams r j l aH ws e1
 |_=>.no
def f9(lams:ar->fv Lm)(r:ar->ai W->FR)(i:ar)(dA:ke (ai W)):ke W:=λe=>kj lams r dA e e[i]?
def z0j(i:ar)(F:om X.jd X.w X.K X.mg X.j3 (eh X.jd X.w) k (ur X.K lams r))(hr:bp k X.A)(hx:eZ (eh X.jd X.w) X EE)(ha:DA Z X EE (e::es) dA)(hv:PE X (.oL x p) (qq i))
  (he:autoParam (p5 (e::es) X.a7=(false,eval e X.a7)::p5 es X.a7) jJ)(d9:autoParam ((A4 gJ (p5 es X.a7)).vb (·.1)=false) jJ):
  DE Z X EE (.wc (.oL x p) (e::es) [] gJ) (f9 lams r i dA):=by
 refine PE.pg (zba F hr hv hx ha he d9) ?_;rintro σ H Q ⟨G,en,nN,h⟩;unfold f9 kj at h;split at h
 .rename_i j l aH hs;let⟨v,hv,rv⟩:=nN.fr hs;refine⟨v,hv,?_,G,en,nN,?_⟩
  .let⟨f,cl,zs,cs,rfl,⟨pm,c',cP,ef⟩,_⟩:=rv;exact⟨f,_,_,_,_,_,rfl,nN.ri _ _ ef⟩
  .rw[R.aw]at h;refine h.vW (λws e1 h G1 vs H1 r1 s1 p1=>?_) λ_ _ h=>h
   unfold f7 at h;split at h
   .rename_i hc;split at h
    .rename_i w hw;exact⟨G1,j,l,aH,ws,w,r1.ri,p7.pg s1 (.fn j l aH) rv,p1,hc.2.1,hc.2.2,hc.1,hw,λG' H' v g rp=>h G' v H' (r1.HF g) (s1.ki g.gg) rp⟩
    .exact h.oP
   .exact h.oP
 .exact h.oP
end
def cB:ai ar->ai S->fv (ai W)
 |[],_=>ab []
 |j::js,e=>match e[j]? with
  |ab (.fr w)=>(cB js e).aT (w::·)
  |_=>none
theorem B7{σ:L2.St}(r:ro K Z G σ H e):∀{js:ai ar}{aH:ai W},cB js e=ab aH->∃zs:ai V,aq K G aH zs/\zs.aj=js.aj/\∀(i j:ar) z,js[i]?=ab j->zs[i]?=ab z->σ[j]?=ab (ab z)
 |[],aH,h=>by
  cases h;exact⟨[],rfl,rfl,λi j z h _=>by simp at h⟩
 |j::js,aH,h=>by
  unfold cB at h;split at h
  .rename_i w hw;let⟨cs,h1,rfl⟩:=w0l.mp h;let⟨zs,r1,r2,r3⟩:=B7 r h1;let⟨v,v1,v2⟩:=r.fr hw;refine⟨v::zs,⟨v,zs,rfl,v2,r1⟩,by simp[r2],λi zcs z g1 g2=>?_⟩
   cases i with
   |UQ=>
    simp only[w0f,fv.ab.injEq]at g1 g2;subst g1;subst g2;exact v1
   |UI i=>exact r3 i zcs z (by simpa using g1) (by simpa using g2)
  .cases h
def eS(e1:ai S):FR->R W
 |.ok (.fr w)=>if Yb w=true then .ok w e1 else .no
 |.ex c=>.ex c e1
 |_=>.no
def cM(F:ai W->FR)(j:ar)(l:Lm)(w:W)(e1:ai S):fv (ai W)->R W
 |ab aH=>eS e1 (F [w,.fn j l aH])
 |none=>.no
def bZ(F:ai W->FR)(j:ar)(l:Lm)(js:ai ar)(d:ke W):ke W:=λe=>(d e).r7 λw e1=>cM F j l w e1 (cB js e1)
section
variable{e rK:pN}{r5:_m}{d:ke W}{cR:vY}{k:ar}{ps N nf:ai d3}{js:ai ar}{sc d0:yz}{F:ai W->FR}
def Mj(j:ar)(l:Lm)(C:qU X.jd X.w X.K X.mg X.j3 k x ps (oi X.K F))(hr:bp k X.A)(hx:eZ (eh X.jd X.w) X EE)(M:χ X)(nT:∀y,X.fn y=true)(he:DE Z X EE e d)(ok:cD sc d0 N nf js=true)
  (hl:autoParam (l=⟨X.a7.p6++"<lambda>", r5,rK,d0,nf⟩) jJ)(ji:autoParam (È r5 X.a7=([],[])) jJ)(hsc:autoParam (X.a7.d0=sc) jJ)(hN:autoParam (X.N=N) jJ)(hg:autoParam (Gl X x) jJ)
  (jH:autoParam ((x==("__debug__":d3))=false) jK)(jI:autoParam (p5 [e,.Yu r5 rK d0 cR] X.a7=(false,eval e X.a7)::p5 [.Yu r5 rK d0 cR] X.a7) jJ)
  (pq:autoParam (p5 [.Yu r5 rK d0 cR] X.a7=(false,eval (.Yu r5 rK d0 cR) X.a7)::p5 [] X.a7) jJ)(d9:autoParam ((A4 gJ (p5 [.Yu r5 rK d0 cR] X.a7)).vb (·.1)=false) jJ):
  DE Z X EE (.wc (.oL x p) [e,.Yu r5 rK d0 cR] [] gJ) (bZ F j l js d):=by
 let⟨fa,fd,FF,m,kp,bd⟩:=C.ex;unfold cD at ok;simp only[w0t,w1c,_y,À,w1q,w0x]at ok;obtain⟨⟨⟨⟨⟨⟨k1,k2⟩,k3⟩,k4⟩,k5⟩,k6⟩,k7⟩:=ok;have xx:∀x,X.a7.yt x=sc.pM.gr x:=λx=>by rw[<- hsc];rfl
 refine PE.pg (Mr (Nf:=nf) (js:=js) FF hr hg m kp bd hx M nT he ji (λx hx hf=>?_) (λi j y e1 e2=>?_) jH jI pq d9) ?_
 .rw[xx];rcases k4 x hx with(z|z)|z
  .exact uP hf z
  .exact .j' z
  .exact .mv z
 .have bR:i<js.aj:=(w0c.mp e2).1;have z:=k6 i bR;rw[e1,e2]at z;let⟨z1,z2⟩:=k7 y (w0s e1);refine⟨by rw[hN];simpa using z,oa.ZL z1,?_,?_⟩
  .rw[hsc];rcases z2 with z|z
   .exact .mv (.j' z)
   .exact .mv (.mv z)
  .rw[xx];rcases z2 with z|z<;>(rw[z];decide)
 .rintro σ H Q ⟨G,en,nN,h⟩;simp only[bZ,R.aw]at h;refine⟨G,en,nN,h.vW (λw e1 h G1 v1 H1 r1 s1 p1 f aN H2 la=>?_) λ_ _ h=>h⟩
  let⟨dH,Hm,pm,cP,c',hH,hf,rfl⟩:=la
  have rm:ro X.K Z G1 σ Hm e1:=by
   rcases hH with rfl|⟨c,oc,hc,rfl⟩
   .exact r1
   .exact r1.HF (aK.l3 r1.ri hc _)
  have gl:=aK.Lf rm.ri hf (iV (Zb "<lambda>" (X.a7.p6++"<lambda>") r5 rK d0 aN pm c' cP) (X.a7.p6++"<lambda>") c');have r2:=rm.HF gl;refine⟨aN,dH,λcs co=>?_⟩
  cases h9:cB js e1 with
  |none=>rw[h9]at h;exact h.oP
  |ab aH=>
   rw[h9]at h;let⟨zs,rz,zl,zv⟩:=B7 r1 h9;have m8:∀b o,cs.gr b=ab o->ot Hm f (iV (Zb "<lambda>" (X.a7.p6++"<lambda>") r5 rK d0 aN pm c' cP) (X.a7.p6++"<lambda>") c') b=none:=λb o z=>(co.jB b o z).1
   have tJ:∀b o,cs.gr b=ab o->ot G1 f (iV (Zb "<lambda>" (X.a7.p6++"<lambda>") r5 rK d0 aN pm c' cP) (X.a7.p6++"<lambda>") c') b=none:=λb o z=>by
    cases q:ot G1 f (iV (Zb "<lambda>" (X.a7.p6++"<lambda>") r5 rK d0 aN pm c' cP) (X.a7.p6++"<lambda>") c') b with
    |none=>rfl
    |ab u=>have:=r2.ri b u q;rw[m8 b o z]at this;cases this
   have sA:=gl.gg.ki (zR tJ)
   have o6:cs.gr f=none:=by
    cases q:cs.gr f with
    |none=>rfl
    |ab o=>have:=tJ f o q;rw[bT]at this;cases this
   have fc:eL (bD (ot G1 f (iV (Zb "<lambda>" (X.a7.p6++"<lambda>") r5 rK d0 aN pm c' cP) (X.a7.p6++"<lambda>") c')) cs) aN l zs cs:=by
    subst hl;refine⟨co.La,co.yD,co.tB,λc o z=>⟨mL z,(co.jB c o z).2⟩,λi y z g1 g2=>?_,by rw[zl];exact k5⟩
    have hi:i<js.aj:=by rw[<- zl];exact(w0c.mp g2).1
    have g3:js[i]?=ab js[i]:=w0b hi;exact co.uO i y js[i] z g1 g3 (zv i _ z g3 g2)
   have Ar:p7 X.K (bD (ot G1 f (iV (Zb "<lambda>" (X.a7.p6++"<lambda>") r5 rK d0 aN pm c' cP) (X.a7.p6++"<lambda>") c')) cs) (.fn j l aH) (.bj f):=by
    refine⟨f,aN,zs,cs,rfl,⟨pm,c',cP,?_⟩,fc,aq.pg sA aH rz⟩;rw[gp o6,bT,hl]
   refine⟨_,[w,.fn j l aH],zG r2.ri,⟨v1,[.bj f],rfl,p7.pg sA w p1,⟨.bj f,[],rfl,Ar,rfl⟩⟩,?_⟩;cases q:F [w,.fn j l aH]with
   |ok s=>
    simp only[cM,q]at h;cases s with
    |fr w'=>
     simp only[eS]at h;split at h
     .rename_i Ed;intro G' H' v g sl;let⟨u,h1,h2⟩:=sl;cases h1;have g':=aK.eU g m8 r2.ri;have ci:bc G' cs:=λb o z=>g.gg b _ (mL z)
      exact h (b9 G' cs) v (b9 H' cs) (r2.HF g') (s1.ki (gl.gg.ki g'.gg)) (p7.rm ci w' Ed h2)
     .exact h.oP
    |_=>exact h.oP
   |ex c=>
    simp only[cM,q,eS]at h;intro H' sh;refine JQ r2 (s1.ki gl.gg) h (b9 H' cs) λb u z=>?_
    cases q2:cs.gr b with
    |ab o=>rw[m8 b o q2]at z;cases z
    |none=>rw[lM q2];exact sh b u (by rw[gp q2];exact z)
   |no=>simp only[cM,q,eS]at h;exact h.oP
end
section
variable{a b:pN}{da db:ke W}
def sM:W->W->fv (ai W)
 |.dI ws,.aO k=>if n0 k=true/\ws.aj*k.t8<=16777216 then ab (ai.v5 k.t8 ws).Ym else none
 |_,_=>none
def jX(da db:ke W):ke (ai W):=λe=>(da e).r7 λx e1=>(db e1).r7 λy e2=>bq (sM x y) e2
def Q2c(ha:DE Z X EE a da)(hb:DE Z X EE b db):DF Z X EE (._K a .ω b gJ) (jX da db):=by
 refine PE.pg (QO O4 ha hb) ?_;rintro σ H Q ⟨G,e,nN,h⟩;simp only[jX,R.aw,aY]at h;refine⟨G,e,nN,h.vW (λx e1 h G1 v1 H1 r1 s1 p1=>?_) λ_ _ h=>h⟩
 refine⟨G1,e1,r1,h.vW (λy e2 h G2 v2 H2 r2 s2 p2=>?_) λ_ _ h G' H' r s=>h G' H' r (s1.ki s)⟩
 let⟨wj,hf,h⟩:=h;unfold sM at hf;split at hf
 .rename_i ws k;split at hf
  .rename_i hc;cases hf;let⟨l,xs,rfl,hq,rp⟩:=p7.pg s2 _ p1;cases(show v2=.aO k from p2);have b:=vS hc.1;refine⟨l,k,xs,rfl,rfl,r2.ri.pJ hq,by omega,by omega,by rw[rp.aj,Yf];exact hc.2,?_⟩;exact Ck r2 (s1.ki s2) (Cm rp k.t8) h
  .cases hf
 .cases hf
end
theorem z57{da db:ke W}:jX da db e=(da e).r7 λx e1=>(db e1).r7 λy e2=>bq (sM x y) e2:=rfl
def keyOf:W->fv Yg
 |.aO i=>ab (.j' i)
 |.str x=>ab (.mv x)
 |_=>none
def zdR(i:ar)(v:Sv)(e:ai S):fv Yg->SR
 |ab k=>.nx (e.sx i (.ba (.k [(k,v)])))
 |none=>.no
def kI(i:ar)(v:Sv)(e:ai S):fv S->SR
 |ab (.fr w)=>zdR i v e (keyOf w)
 |_=>.no
def hX(i j:ar)(v:Sv):ai S->SR:=λe=>kI i v e e[j]?
section
variable{y:d3}
def z0k(i j:ar){n:a6}{c cp}{YR lj:vY}(hN:X.N.x6)(hk:PE X (.oL y p) (qq j))(hi:autoParam (X.N[i]?=ab x) jJ)(hx:autoParam (Zq X.a7.d0 x) jM)(hs:autoParam (ZO (.Η [ab (.oL y p)] [.Ζ (.aO n) c cp] lj) (ab (.oL x YR)) gJ.Yq X.a7=vo false) jJ)(hf:autoParam (X.fn x=true\/X.a7.d0.pM.gr x=ab .local) jL):
  DS Z X EE (.ZR [.oL x YR] (.Η [ab (.oL y p)] [.Ζ (.aO n) c cp] lj) gJ) (hX i j (.j' n)):=by
 refine PS.pg (AW i hN (SU hk NP) hi hx hs hf) ?_;rintro D σ H ⟨G,e,nN,h⟩;unfold hX kI at h;split at h
 .rename_i w hw;let⟨v,hv,rv⟩:=nN.fr hw;cases hk:keyOf w with
  |none=>rw[hk]at h;exact h.oP
  |ab k=>
   rw[hk]at h;intro q hq
   have ev:v=kV k:=by
    cases w with
    |aO i=>cases hk;cases rv;rfl
    |str x=>cases hk;cases rv;rfl
    |_=>cases hk
   refine⟨v,hv,k,ev,bT,?_⟩;rw[Cv];have g:=aK.l3 nN.ri hq (dO (.k [(k,.j' n)]));exact h G _ _ ((nN.HF g).zdL (kvs:=.k [(k,.j' n)]) bT (nN.ri.rD hq) (sF nN hq)) (.uw _)
 .exact h.oP
theorem z0l{j:ar}{v:Sv}:hX i j v e=kI i v e e[j]?:=rfl
theorem z0m{v:Sv}{n:a6}:kI i v e (ab (.fr (.aO n)))=.nx (e.sx i (.ba (.k [(.j' n,v)]))):=rfl
end
def vx:pN:=.oL "" ⟨0,0,0,0⟩
def sR(i:ar)(st:Rl):Rl:=(cH st).g6 i (.Pass ⟨0,0,0,0⟩)
def nG:Rl->pN
 |.ZR _ v _=>v
 |.ã (ab v) _=>v
 |.For _ it _ _ _=>it
 |.pN v _=>v
 |_=>vx
def oT(i:ar):pN->pN
 |.wc _ as _ _=>as.g6 i vx
 |_=>vx
def zdS:pN->pN
 |.Yw v _ _=>v
 |_=>vx
def fL:pN->_m
 |.Yu p _ _ _=>p
 |_=>default
def iY:pN->pN
 |.Yu _ b _ _=>b
 |_=>vx
def gP:pN->yz
 |.Yu _ _ s _=>s
 |_=>default
def kZ(K:Fg)(x:d3)(ez:dS):Prop:=∃c P a,ez=.bj c/\ë K c P=true/\(a,iD P ((x++".<locals>.")++"<lambda>"))∈K
section
variable{P:wO}{w:vq}{mg:d3->fv dS}{j3:gw}
def CY{CX:mU}{N:ai d3}{d0:yz}{f:f'}{ez:dS}{A:C7}{qp:ai Rb}{s:oU}{E:XK}(h:kZ K x ez)(b:_J j3 mg):χ (iG CX P w K mg j3 N x d0 f ez A qp s H E):=by
 let⟨c,P,a,rfl,h1,h2⟩:=h;exact⟨⟨c,P,a,rfl,h1,h2⟩,b⟩
def Dy{lams:ar->fv Lm}(h:∀i ws,r i ws=.no:=by intro _ _;rfl):om P w K mg j3 (eh P w) 0 (ur K lams r):=by
 rintro x vs H Q E ⟨G,i,l,aH,ws,w',sg,rf,rv,nw,nc,hl,hr,q⟩;rw[h]at hr;cases hr
end
def c9(K:Fg)(xR:ai (f'×d3)):Fg:=K++xR.aT λp=>(Yr,iD p.1 p.2)
section
variable{xR:ai (f'×d3)}{a:f'}{o:sy}
def q4d(h:K.gr a=ab o):(c9 K xR).gr a=ab o:=by
 grind [c9]
def Jh(hG:(K.gr Yr).Bt=true):(c9 K xR).gr a=K.gr a:=by
 unfold c9;rw[ai.lookup_append];cases q:K.gr a with
 |ab o=>rfl
 |none=>
  grind
theorem ED{h:gw}(hG:(K.gr Yr).Bt=true)(X:K.In h):(c9 K xR).In h:=λb u e=>X b u (by grind [Jh])
theorem no_m(hG:(K.gr Yr).Bt=true)(n:d4 K):d4 (c9 K xR):=λb u e=>n b u (by grind [Jh])
def ns_m{r:fv dS}(h:oa.W.θ K a x=ab r):oa.W.θ (c9 K xR) a x=ab r:=by
 grind [W.θ,q4d]
def Q2d{cd:dS}(h:oa.W._Q K cd x=true):oa.W._Q (c9 K xR) cd x=true:=by
 cases cd with
 |bj a=>
  grind [W._Q,q4d]
 |_=>cases h
def Q2e(t:funAt K a=true):_V (c9 (dE K) xR) (.bj a)=true:=by
 have h:=t;unfold funAt at t
 rw[w0t]at t
 grind [W._V,q4d,q0x]
theorem XY(h:gj K=true)(hd:xR.tB (λp=>xR.gr p.1==ab p.2)=true):∀a q P,(a,iD P q)∈c9 K xR->xR.gr P=ab q:=λa q P m=>by
 rcases w3i.mp m with m|m
 .have:=w1c.mp h _ m;cases this
 grind
theorem W_(h:gj K=true):gj (dE K)=true:=w1c.uR λp hp=>w1c.mp h p (w1l.mp hp).1
theorem j9(hG:(K.gr Yr).Bt=true)(h:xR.tB (λp=>(K.gr p.1).isNone)=true):∀P q,xR.gr P=ab q->(c9 K xR).gr P=none:=λP q e=>by
 rw[Jh hG];have:=w1c.mp h _ (jm e)
 simpa using this
where
 jm:∀{l:ai (f'×d3)}{P:f'}{q:d3},l.gr P=ab q->(P,q)∈l
 |[],_,_,e=>by cases e
 |(b,t)::l,P,q,e=>by
  rw[w3e]at e
  by_cases hb:(P==b)=true
  .grind
  .rw[w2v.uR hb]at e;exact .μ _ (jm e)
theorem z58{h:gw}(X:K.In h)(hT:∀P∈xR.aT (·.1),h.g0 P=ab (ϳ #[]))(hc:∀p∈xR,∃c,ë K c p.1=true):∀P q,xR.gr P=ab q->h.g0 P=ab (ϳ #[])/\Ē h P:=λP q e=>by
 have m:=j9.jm e;let⟨c,hc⟩:=hc _ m;have g:=hT P (w0o.uR ⟨_,m,rfl⟩);exact⟨g,((oa.W.codeHd_of_K X hc)._a g).Ē⟩
end
section
variable{ws aH:ai W}{lams:ar->fv Lm}{d:ke W}{j:ar}{l:Lm}{w:W}{F:ai W->FR}{js:ai ar}
theorem z0n:f9 lams r i dA e=kj lams r dA e e[i]?:=rfl
theorem y56:kj lams r dA e (ab (.fr (.fn j l aH)))=(dA e).r7 λws e1=>f7 lams r j l aH ws e1:=rfl
def GV(h1:lams j=ab l)(h2:aX ws=true)(h3:aX aH=true)(h4:r j (ws++aH)=.ok (.fr w)):f7 lams r j l aH ws e=.ok w e:=by
 simp_all [f7]
theorem y2t:bZ F j l js d e=(d e).r7 λw e1=>cM F j l w e1 (cB js e1):=rfl
theorem Fl:cM F j l w e (ab aH)=eS e (F [w,.fn j l aH]):=rfl
theorem GW(h:Yb w=true):eS e (.ok (.fr w))=.ok w e:=og h
theorem z0o:cB [] e=ab []:=rfl
end
end D
namespace L2
open PySem PySem.Spec PyProof.Rows
end L2
namespace D
open PySem L2
end D
namespace L2
open PySem PySem.Spec PyProof.Rows
end L2
namespace D
open PySem L2
section
variable{X:Cx}{Z:Zt}{EE:L2.St->XK}{e a b:pN}{da db:ke W}{gJ:vY}
def Uz:W->W->fv W
 |.str i,.str j=>match i.Yl.vZ with
  |[c]=>ab (.bl (decide (c∈j.Yl.vZ)))
  |_=>none
 |_,_=>none
end
section
variable{X:Cx}{Z:Zt}{EE:L2.St->XK}{K' xw a:pN}{zb:ai pN}{d0 sc:yz}{gJ pt:vY}{x:d3}{Nf N:ai d3}{js:ai ar}{di:ke W}{dA:ke (ai W)}{c:ke fC}{d:ke W}{kt:ar}
theorem W'(hh:A.Zj=none)(it l)(iN:l≠it)(p9):
  Draws jd w A it [it,l] p9.dt (λi v=>p9[i]?=ab v) (λi h=>h._x it l i/\h.YV l p9) where
 live:=λ_ _ st=>let ⟨o,ho,_⟩:=st.1;⟨o,ho⟩
 í:=λ_ _ _ st hk=>⟨st.1.at λo e=>hk it (by simp) o e,st.2.at λo e=>hk l (by simp) o e⟩
 Z7:=λi s Q E hi st hQ=>by
  refine LR st.1 st.2 (x:=p9[i]) (by simp[hi]) λh' D6 g_=>?_
  exact hQ _ h' s.sP (by simp[hi]) ⟨D6,st.2.xu g_.xu iN⟩ g_
 done:=λs Q E st hE=>Gm hh st.1 st.2 (by simp) hE
theorem YF(hh:A.Zj=none)(it l)(p9)(i)(hx:p9[i]?=none):
  Draws jd w A it [it,l] i (λ_ _=>vk) (λj h=>j=i/\h._x it l j/\h.YV l p9) where
 live:=λ_ _ st=>let ⟨o,ho,_⟩:=st.2.1;⟨o,ho⟩
 í:=λ_ _ _ st hk=>⟨st.1,st.2.1.at λo e=>hk it (by simp) o e,st.2.2.at λo e=>hk l (by simp) o e⟩
 Z7:=λj s Q E hi st hQ=>uP st.1 (w0p hi)
 done:=λs Q E st hE=>Gm hh st.2.1 st.2.2 hx hE
def jv(dA:ke (ai W)):ke (ai (W×W)):=λe=>(dA e).r7 λws e1=>match ws with
 |[.gs us]=>.ok (b8 0 us) e1
 |_=>.no
def uE(K:Fg)(a:f'):It:=
 ⟨λi H=>∃xs x,c7 K H a xs/\xs[i]?=ab x,λi H x H'=>∃b y,x=.bj b/\H b=none/\(∀xs,c7 K H a xs->xs[i]?=ab y)/\H'=ot H b (.gs [.aO i,y]),λi H=>∃xs,c7 K H a xs/\xs.aj<=i⟩
section
open AutoSeq1 (wpAny_loadPart')
theorem UZ(l)(p9)(n)(Dr)(sl):
  _N (u5.«enumerate.__new__» ⟨[.ny "enumerate", .bj l],[]⟩) (λ_ R s=>s.a5.g0 l=ab {oh:=.ny "tuple", we:=Dr,oo:=.pJ p9 n,Zd:=sl} /\
   R (.ok (.KJ (.bj (s.a5.si {oh:=.ny "tuple_iterator", oo:=.Rm #[.bj l,.aO 0 0]}).fy.dt)))
    {s with a5:=(s.a5.si {oh:=.ny "tuple_iterator", oo:=.Rm #[.bj l,.aO 0 0]}).si {oh:=.ny "enumerate", oo:=.Rm #[.none,.wF false,.bj s.a5.fy.dt,_F 0,.none,.none]}}):=
 ._Y λjd w A R s h=>by
  let⟨hp,g,d,tk,os⟩:=s;let⟨hl,h⟩:=h;have pA:=sub_enumerate;have hL:gw.YV (oU.a5 ⟨hp,g,d,tk,os⟩) l p9:=⟨_,hl,rfl,n,rfl⟩
  wp_walk using ā hl
  refine wpAny_stack_any λst=>tW ?_
  split
  .rename_i c _ _ _ _ _;cases(c==dS.ny "enumerate")
   .wp_walk using ā hl,Ϣ hL
    exact⟨_,rfl,h⟩
   .wp_walk using ā hl,Ϣ hL
    exact⟨_,rfl,h⟩
  .wp_walk using ā hl,Ϣ hL
   exact⟨_,rfl,h⟩
end
def U0{s:oU}(hL:s.a5.YV l p9)
  (h:∀h',Ĉ h' (s.a5.fy.dt+1) s.a5.fy.dt 0 .none->h'._x s.a5.fy.dt l 0->h'.fy.dt=s.a5.fy.dt+2 ->
   (∀b o,s.a5.g0 b=ab o->h'.g0 b=ab o)->Q (.bj (s.a5.fy.dt+1)) {s with a5:=h'}):
  oS (q_ jd w) A (yd (.ny "enumerate") [.bj l]) Q E s:=by
 let⟨⟨c,Dr,zb7,sl⟩,hl,hc,n,hd⟩:=hL
 replace hc:c=.ny "tuple":=hc
 replace hd:zb7=.pJ p9 n:=hd
 subst hc hd
 refine ņ F.called_enumerate (by decide) (F.typeCall_enumerate_1 _) (F.newCall_enumerate_1 _) (λYc=>F.zbQ Yc _) F.entry_enumerate_new
  (UZ l p9 n Dr sl) ⟨hl,?_⟩
 have hz:(s.a5.si {oh:=.ny "tuple_iterator", oo:=.Rm #[.bj l,.aO 0 0]}).fy.dt=s.a5.fy.dt+1:=gw.Z4 ..;show _/\_;rw[hz]
 have he:Ĉ ((s.a5.si {oh:=.ny "tuple_iterator", oo:=.Rm #[.bj l,.aO 0 0]}).si
   {oh:=.ny "enumerate", oo:=.Rm #[.none,.wF false,.bj s.a5.fy.dt,_F 0,.none,.none]}) (s.a5.fy.dt+1) s.a5.fy.dt 0 .none:=by
  have:=gw.A9 (s.a5.si {oh:=.ny "tuple_iterator", oo:=.Rm #[.bj l,.aO 0 0]})
   (o:={oh:=.ny "enumerate", oo:=.Rm #[.none,.wF false,.bj s.a5.fy.dt,_F 0,.none,.none]}) rfl
  grind
 refine⟨⟨_,he,rfl⟩,h _ he ⟨_,gw.v7 _ (gw.A9 _ rfl),rfl,rfl⟩ (by rw[gw.Z4,hz]) λb o x=>gw.v7 _ (gw.v7 _ x)⟩
theorem XZ(a e it)(iN:e≠it):ϋ P w K (.Yo _B kt pt) (uE K a) [e,it] e (λi h=>∃yc,oa.Ĉ h e it (i:ar) yc/\h._x it a i) where
 Ye:=by simp
 Yc:=λi h ⟨yc,i4,ir⟩ b hb=>by
  simp only[w0g,w1d,ZM]at hb;rcases hb with rfl|rfl
  .grind
  .let⟨o,e,c,d⟩:=ir
   grind
 wN:=λi h h' ⟨yc,i4,ir⟩ k=>⟨yc,k e (by simp) _ i4,ir.at λo e=>k it (by simp) o e⟩
 Z7:=by
  intro X hP hw hK hc i cf s σ H E I hf st hg;subst hP hw hK;let⟨yc,i4,ir⟩:=st;let⟨xs,x,hq,hx⟩:=hg;let⟨ax,rv,p,hz⟩:=I.UH hq;let⟨u,hu,ru⟩:=rv.Df hx
  have KQ:a≠it:=λz=>by
   let⟨o,e1,c1,_⟩:=ir;let⟨o',e2,c2,_⟩:=p
   grind
  have TU:e≠a:=λz=>by
   let⟨o',e2,c2,_⟩:=p
   grind
  refine wpAny_pyNext_enum_itemD (W' (A:=X.A.Ko) (I.ok.hd hc) it a KQ ax.k8) i4 ⟨ir,p⟩ (by grind) iN (by simp[iN,TU]) λu' h1 tk hu' rR ly Es K5 ph=>⟨_,rfl,?_⟩
  obtain rfl:u'=u:=fv.ab.La (by grind);have u6:=ly.1;refine zec rR λh2 ox iW=>?_
  have iW:gw._p e h1 h2:=iW;have bR:e<s.a5.fy.dt:=gw.xq i4;have nU:H s.a5.fy.dt=none:=I.aL.xS (w0e _);have u_:h2.g0 s.a5.fy.dt=ab {oh:=.ny "tuple", oo:=.pJ #[.aO i tk,u']}:=(iW.2 _ (w2r bR)).ki Es;refine⟨.bj s.a5.fy.dt,ot H s.a5.fy.dt (.gs [.aO i,x]),?_,rfl,⟨_,x,rfl,nU,λys hy=>by rw[I.fN hy hq];exact hx,rfl⟩,⟨u',ox,?_⟩,λb hb=>?_⟩
  .show L2.je X cf σ _ {s with a5:=h2,sP:=tk+1};refine Hk (fp:=[e,it]) I (λb o hb q=>?_) hf (w0e _) ⟨?_,[.aO i tk,u'],.qY ⟨_,rfl⟩ (.qY ru .rA),⟨_,u_,rfl,?_⟩,⟨_,u_,rfl⟩⟩
   .simp only[w0g,w1d,ZM,ş]at hb;exact(iW.2 b hb.1).ki (ph b o hb.1 hb.2 q)
   all_goals grind [Yf]
  .exact u6.at λo q=>(iW.2 it (Ne.symm iN)).ki q
  .have:b≠s.a5.fy.dt:=by
    obtain⟨o,q,_⟩:∃o,s.a5.g0 b=ab o/\kc:=by
     simp only[w0g,w1d,ZM]at hb;rcases hb with rfl|rfl
     .grind
     .let⟨o,e,_⟩:=ir;grind
    exact w0p (gw.xq q)
   rw[bh this];exact(hf b hb).1
 done:=by
  intro X hP hw hK hc i cf s σ H E I hf st hg;subst hP hw hK;let⟨yc,i4,ir⟩:=st;let⟨xs,hq,hx⟩:=hg;let⟨ax,rv,p,hz⟩:=I.UH hq;let⟨f0,f1,f2,f3,f4,f5⟩:=hf it (by simp);have hl:=rv.aj
  have KQ:a≠it:=λz=>by
   let⟨o,e1,c1,_⟩:=ir;let⟨o',e2,c2,_⟩:=p
   grind
  refine wpAny_pyNext_enum_endD (YF (A:=X.A.Ko) (I.ok.hd hc) it a ax.k8 i (by simp;omega)) i4 ⟨rfl,ir,p⟩ λh' eb=>⟨rfl,I._k (t':=s.sP) (λb o hb e=>eb b o hb e) f0 f1 f3 f4 f5⟩
 self:=λ_ _ _ _ _ ⟨yc,i4,_⟩ h=>ĳ i4 h
def zdT(K:Fg)(ta:TA):TI:=λσ H R=>ta σ H λvs H1=>∃a,vs=[.bj a]/\(∃xs,c7 K H1 a xs)/\R (uE K a) H1
def z0p{_B:ai pN}{ta:TA}{p gJ:vY}(hg:Gl X "enumerate")(hm:X.mg "enumerate"=none)(ha:PA X [a] ta)(hs:autoParam (p5 [a] X.a7=[(false,eval a X.a7)]) jJ):PI X (.Yo _B kt pt) (.wc (.oL "enumerate" p) [a] [] gJ) (zdT X.K ta):=by
 intro cf s σ H R I h;refine L1.Mk.Ą (qM I hg hm L1.Mk.zbW (L1.Mk.ϭ (bw (ha gJ cf s σ H _ I h) λus s1 ⟨vs,H1,I1,r1,q1⟩=>?_) hs rfl))
 let⟨l,e,⟨xs,hq⟩,q⟩:=q1;subst e;cases r1 with
 |qY r rr=>
  cases rr;cases r;let⟨ax,rv,p,hz⟩:=I1.UH hq;refine U0 p λh' he Z1 hsz hk=>?_
  refine ĳ he ?_;refine⟨s1.a5.fy.dt+1,[s1.a5.fy.dt+1,s1.a5.fy.dt],_,_,H1,rfl,I1.Ya (t':=s1.sP) hk,XZ l _ _ (w4q _),⟨_,he,Z1⟩,λb hb=>?_,q⟩
  simp only[w0g,w1d,ZM]at hb;rcases hb with rfl|rfl
  .exact I1.jg (by omega) (I1.aL.xS (by omega))
  .exact I1.jg (w0e _) (I1.aL.xS (w0e _))
def Xa(rp:aq K G1 ws xs)(hq:c7 K G1 b xs):i_ K G1 (uE K b) (b8 0 ws):=by
 have hx:=rp.aj;have hl:=Hi 0 ws;refine⟨λi G H s s' h=>⟨xs,xs[i]'(by omega),au.gs s' (au.gs s hq),by simp⟩,λi G H x H' s s' hy u v h=>?_,λi G H s s' h=>⟨xs,au.gs s' (au.gs s hq),by omega⟩⟩
 let⟨c,y,rfl,hn,tR,rfl⟩:=hy;let⟨hu,hv⟩:=Hj 0 ws i u v h;let⟨w,hw,pw⟩:=rp.iM (tR xs (au.gs s' (au.gs s hq)));rw[hv]at hw;cases hw;refine⟨aK.l3 s' hn _,λm n σ Q hQ=>⟨c,[.aO i,y],rfl,c7.of bT,rfl,.aO i,[y],rfl,y,[],rfl,rfl,hQ _ _ ?_ (p7.pg s _ pw)⟩⟩
 rw[hu,w1p];exact rfl
def z0q{_B:ai pN}{p gJ:vY}(hm:X.mg "enumerate"=none)(ha:DA Z X EE [a] dA)(hg:autoParam (Gl X "enumerate") jJ)(hs:autoParam (p5 [a] X.a7=[(false,eval a X.a7)]) jJ):DI Z X EE (.Yo _B kt pt) (.wc (.oL "enumerate" p) [a] [] gJ) (jv dA):=by
 refine PI.pg (z0p hg hm ha hs) ?_;rintro σ H RR ⟨G,e,nN,h⟩;simp only[jv,R.aw]at h;refine⟨G,e,nN,h.vW (λws e1 h G1 vs H1 r1 s1 p1=>?_) λ_ _ h=>h⟩
 split at h
 .rename_i us;let⟨y,r,rfl,e1,e2⟩:=p1;cases(show r=[]from e2);let⟨b,xs,rfl,hq,rp⟩:=e1;exact⟨b,rfl,⟨xs,r1.ri.gs hq⟩,h _ _ _ r1 s1 (Xa rp hq)⟩
 .exact h.oP
end
theorem Q5v:Uz (.str ⟨#[c]⟩) (.str j)=ab (.bl (decide (c∈j.Yl.vZ))):=rfl
def qi(e1:ai S):ai W->R (ai (W×W))
 |[.gs us]=>.ok (b8 0 us) e1
 |_=>.no
def z59:jv dA e=(dA e).r7 λws e1=>qi e1 ws:=by
 unfold jv;congr 1
theorem z0r:qi e [.gs ws]=.ok (b8 0 ws) e:=rfl
theorem Q5w:yA (.ba (.k kvs)) (.str x)=(lk kvs (.mv x)).aT CJ:=rfl
theorem z0s:jt i (.aO n) (.str x) e (ab (.ba (.k kvs)))=if kvs.aj<16777216/\lL i e=true then .nx (e.sx i (.ba (.k (Φ kvs (.mv x) (.j' n)))))else .no:=rfl
def uo(e:ai S):fv S->SR
 |ab (.ba d)=>.rt (.ba d) e
 |_=>.no
def z6a:zem i e=uo e e[i]?:=by
 rfl
theorem z6b:uo e (ab (.ba dd))=.rt (.ba dd) e:=rfl
end D
namespace L2
open PySem PySem.Spec PyProof.Rows
namespace rh
end rh
def z6c(hu:A.xT+20<xH):(dR P w sh).room A:=by
 show A.xT+8<xH;omega
def HJ(sh:Sh)(tk tv:TE):TE:=λσ H Q=>∀p,H p=none->tk σ (ot H p (.dT sh [] [])) λk H1=>tv σ H1 λv H2=>∃x b,k=.bj b/\(bV H2 x (.bj b)/\eK x sh/\x.vg<=7)/\H2 p=ab (.dT sh [] [])/\Q (.bj p) (ot H2 p (.dT sh [(x,v)] [b]))
def RS(hu:X.A.xT+20<xH)(hk:PE X ek tk)(hv:PE X ev tv):PE X (.Η [ab ek] [ev] gJ) (HJ sh tk tv):=by
 intro cf s σ H Q I h;refine zd5 rfl rfl (by simp) (by simp) ?_;have fr:H s.a5.fy.dt=none:=I.aL.xS (w0e _);have I0:=I.Lf (a:=s.a5.fy.dt) (o:=.dT sh [] []) (t':=s.sP) (λ_ _ q=>gw.v7 _ q) (w0e _) (NZ s.a5 I.big)
 show oS _ _ (evalPairs [(eval ek X.a7,do let x <- eval ev X.a7;Ú gJ;vo x)]) _ _ _;refine zcb (bw (hk cf _ σ _ _ I0 (h _ fr)) λku s1 ⟨k,H1,I1,rk,q1⟩=>?_)
 refine lb (bw (hv cf s1 σ H1 _ I1 q1) λvu s2 ⟨v,H2,I2,rv,x,b,e,eb,hp,q⟩=>lb (ă (tW (zcc ?_))))
 subst e;obtain rfl:ku=dS.bj b:=rk;let⟨z,hd,xs,nN,ka,dd⟩:=Q2 I2.aL hp;unfold storeAll;rw[w2g];have EA:xs=[]:=by simp_all
 subst EA;refine lb (lb (wpAny_dictSet_heap (hsz:=w1b _) (z6c hu) (zZ I2.aL eb) dd λh' rE hs=>tW ?_))
 show oS _ _ (Ϛ ([]:ai (dS×dS)) _ _) _ _ _;rw[w3b];let⟨q0,es,ep,hq,h2,h3,h4,_,h5⟩:=rE;refine tW ⟨.bj s.a5.fy.dt,_,CA I2 (by rw[hp];exact kc.intro) hs ⟨q0,hq⟩ (ob:=.dT sh [(x,v)] [b]) ⟨by rw[Yf];simp,hd,_,(nN.put x eb rv).Yp λc u ys ec=>?_,nN.gT ka x,q0,es,ep,hq,h2,h3,h4,h5⟩,rfl,q⟩
 rw[bh (kS ec hp (λz=>by subst z;exact ys))]
 exact ec
open PySem PySem.Spec PyProof.Rows
def U2(a v):Ċ "list.sort" ⟨[a],[(d3.Zk "key", v)]⟩:=by unfold Ċ;kernel_rfl
def VD(a v):Ċ "sorted" ⟨[a],[(d3.Zk "key", v)]⟩:=by unfold Ċ;kernel_rfl
def kA(a:f')(f ks x:dS)(p9:yx dS):Ι (γ ϩ):=do
 match <- (yd f [x]).attempt with
 |.ok k=>do
  u5.ai.Ϟ ks (·.si k)
  vo (γ.ϵ ϩ.unit)
 |._S e=>do
  _v "list.sort.key-raised"
  let made <- u5.ai.ř ks
  u5.ai.Ϟ ks λ_=>#[]
  letGo made.vZ.UE [e]
  u5.ai.Ϟ (.bj a) λ_=>p9
  throw e
def Wb(a f:f'):u5.«list.sort» ⟨[.bj a],[(d3.Zk "key", .bj f)]⟩=(do
  let p9 <- u5.ai.ř (.bj a)
  u5.ai.Ϟ (.bj a) λ_=>#[]
  let before <- ţ a
  let held <- newTuple p9.vZ
  let gN <- newList []
  _U [held,gN] do
   _v "list.sort.key"
   let _ <- Ϛ p9 ϩ.unit λx (_:ϩ)=>kA a (.bj f) gN x p9
   let keys <- u5.ai.ř gN
   let xx <- if p9.dt<2 then vo general' else keyKind' keys
   let ((),s) <- (if p9.dt<2 then vo ()else sortRuns').mH (SortSt.mk' xx (keys.wk p9) #[] 7 none)
   let sorted:=(ċ s).aT (·.2)
   u5.ai.Ϟ gN λ_=>#[]
   letGo ((ċ s).aT (·.1)).vZ (Ő s).vZ
   let ī:=(<- ţ a) != before
   u5.ai.Ϟ (.bj a) λ_=>sorted
   if let ab e:=Ő s then _v "list.sort.comparison-raised";throw e
   if ī then _v "list.sort.modified";raiseError "ValueError" "list modified during sort"
   KJ .none):=by
 first|rfl|(fail "not by rfl")
def z6d{σ:St}{Q:VK}
  (F:om X.jd X.w X.K X.mg X.j3 (eh X.jd X.w) k sp)(hr:bp k A)(hA:A.Yy=X.A.Yy)(I:je X cf σ H s)(hc:∀b o,cs.gr b=ab o->H b=none/\s.a5.g0 b=ab o)
  (hv:∀b o,cs.gr b=ab o->b∉fW X.Yd)(hn:∀b o,cs.gr b=ab o->X.j3.g0 b=none)(r:sS vs us)
  (h:sp (.bj f) vs (bD H cs) (λv H'=>Q v (b9 H' cs)) λ_ _ _=>vk):
  oS (q_ X.jd X.w) A (yd (.bj f) us) (λu s'=>(∀b o,cs.gr b=ab o->s'.a5.g0 b=ab o)/\EP X cf σ (λv H'=>(∀b o,cs.gr b=ab o->H' b=none)/\Q v H') u s') E s:=by
 have e0:=I.o3
 have wj:∀b,H b=none->(∀o,cs.gr b≠ab o)->bD H cs b=none:=λb n z=>by
  cases q:cs.gr b with
  |ab o=>exact uP q (z o)
  |none=>rw[gp q];exact n
 have e1:f6 X.jd X.w X.K X.mg X.j3 A X.Yd s (bD H cs):=by
  refine⟨hA.ki e0.Yy,e0.Yh,λb o q=>⟨(e0.bs b o q).1,wj b (e0.bs b o q).2 λo' z=>?_⟩,e0.l_,e0.eQ,λb hb=>wj b (e0.m6 b hb) λo z=>?_,e0.aL.add hc,e0.QN,λa q P m=>?_⟩
  .grind
  .exact hv b o z hb
  .let⟨ps,e,p⟩:=e0._a a q P m;refine⟨ps,?_,p⟩;cases z:cs.gr P with
   |ab o=>grind
   |none=>rw[gp z];exact e
 let⟨zce,oc,od,fd,sl,u,ex,ef,mH⟩:=F _ _ _ _ _ h;cases ex;refine þ (η (mH A X.Yd s us hr e1 r) λr s' hq=>?_)
 cases r with
 |_S e=>
  let⟨_,_,_,_,_,_,_,_,_,_,hE⟩:=hq;exact hE.oP
 |ok fl=>
  cases fl with
  |KJ u=>
   let⟨v,H',os,QN,un,aL,rv,q⟩:=hq;have CI:bc H' cs:=λb o z=>un.bo b o _ (mL z)
   exact⟨λb o z=>(show s'.a5.g0 b=ab o/\_ from aL b _ (CI b o z)).1,I.Ϭ ⟨v,b9 H' cs,os,QN,un.eU aL hc,aL.rm CI,rv,λb o z=>pZ z,q⟩⟩
  |next=>exact vk.oP hq
  |_z=>exact vk.oP hq
  |_A=>exact vk.oP hq
def l7(cs:Cs)(H:Hp)(h:gw):Prop:=∀b o,cs.gr b=ab o->H b=none/\h.g0 b=ab o
end L2
namespace D
open PySem L2
variable{X:Cx}{EE:L2.St->XK}{gJ:vY}{x:d3}{O:Type}{Z:Zt}
def Vd:W->fv V
 |.aF=>ab .aF
 |.bl b=>ab (.bl b)
 |.aO n=>ab (.aO n)
 |_=>none
theorem aK.ZA(g:aK G H G' H')(hn:H a=none)(hg:G' a=none):aK G H G' (ot H' a o) where
 hh:=λb u e=>by rw[bh (i3 e hn)];exact g.hh b u e
 gg:=g.gg
 ri:=λb u e=>by rw[bh (i3 e hg)];exact g.ri b u e
 yL:=g.yL
def kwAt(i:ar):pN->pN
 |.wc _ _ ks _=>match ks[i]? with
  |ab k=>k.ZQ
  |none=>vx
 |_=>vx
end D
namespace L2
open PySem PySem.Spec PyProof.Rows
def fj(o:fv (a6×a6))(i n:a6):fv (a6×a6):=match o with
 |none=>ab (i,n)
 |ab (b,m)=>if n<m then ab (i,n)else ab (b,m)
def mE(sp:V->ai V->Hp->VK->XK->Prop)(f:V)(cs:Cs)(K:Fg)(p:f')(xs:ai V)(Q:VK):ai a6->fv (a6×a6)->Hp->Prop
 |[],o,H=>∃b m,o=ab (b,m)/\Q (.aO b) H
 |i::is,o,H=>sp f [.aO i] (bD H cs) (λv H'=>∃n,v=.aO n/\bJ K (b9 H' cs) p xs/\mE sp f cs K p xs Q is (fj o i n) (b9 H' cs)) λ_ _ _=>vk
def oH(Z5:yx dS):fv (a6×a6)->Prop
 |none=>Z5=#[]
 |ab (b,m)=>∃t u,Z5=#[.aO b t,.aO m u]
section
variable{X:Cx}{A:C7}{k:ar}{sp:V->ai V->Hp->VK->XK->Prop}{cf:ai (f'×sy)}{σ:St}{f I S p:f'}{cs:Cs}{Q:VK}{kQ:ai a6}
theorem N1(F:om X.jd X.w X.K X.mg X.j3 (eh X.jd X.w) k sp)(hr:bp k A.Ko)(hA:A.Ko.Yy=X.A.Yy)(hh:A.Ko.Zj=none)(hv:∀b o,cs.gr b=ab o->b∉fW X.Yd)(hn:∀b o,cs.gr b=ab o->X.j3.g0 b=none)
  (Be:S≠I)(El:p≠I)(Ky:∀b o,cs.gr b=ab o->b≠I/\b≠S):∀(is:ai a6)(j:ar)(o:fv (a6×a6))(Z5:yx dS)(c:ar)(s:oU)(H:Hp),kQ.wa j=is->j<=kQ.aj->je X cf σ H s->er X cf H I->er X cf H S->bJ X.K H p (kQ.aT V.aO)->s.a5.ϧ I p j ->
   s.a5.g0 S=ab (Yt "list" Z5 c)->oH Z5 o->l7 cs H s.a5->mE sp (.bj f) cs X.K p (kQ.aT V.aO) Q is o H ->
   Zv (q_ X.jd X.w) A (.yR "min.loop" ⟨[.bj I,.bj f,.bj S],[]⟩) (λr s'=>match r with|.ok (.KJ v)=>EP X cf σ Q v s'|.ok _=>vk|._S e=>X.xe e s') s
 |[],j,o,Z5,c,s,H,hd,hj,In,fI,fS,hq,Z1,hS,hb,hc,h=>by
  have yl:j=kQ.aj:=by
   have:=_d ai.aj hd
   grind
  let⟨ax,rI,pl,hz⟩:=In.xE hq;have D4:ax.aj=kQ.aj:=by rw[<- rI.aj,w0a]
  let⟨b,m,rfl,q⟩:=h;let⟨t,u,rfl⟩:=hb;have W:=Ϫ.xE (jd:=X.jd) (w:=X.w) (A:=A.Ko) hh I p El ax.k8;refine Ď oa.F.zb_ ?_;rw[C7.į oa.F.Ö _];show oS _ A.Ko (ĝ (.bj S) >>= _) _ _ _;refine lb (Β hS rfl ?_);show oS _ A.Ko (Ĭ (ι (.bj I)) _ >>= _) _ _ _;refine lb (ĵ (W.done _ _ _ ⟨by grind,pl.yP⟩ λh' CH kq=>?_))
  have I1:=In._k (t':=CH) (it:=I) (h':=h') (λb o z e=>kq b o (by simpa using z) e) fI.1 fI.2.1 fI.2.2.2.1 fI.2.2.2.2.1 fI.2.2.2.2.2
  have x_:=kq S _ (by simpa using Be) hS;show oS _ A.Ko (updateSeq S (λ_=>#[]) >>= _) _ _ _
  refine lb (Ķ x_ rfl (lb (π (tW ?_))));have I2:=I1._k (t':=CH) (it:=S) (h':=h'.Yk S (sy.Ys λ_=>#[])) (λb o z e=>(gw._T _ _ (Ne.symm z)).ki e) fS.1 fS.2.1 fS.2.2.2.1 fS.2.2.2.2.1 fS.2.2.2.2.2
  exact⟨.aO b,H,I2,⟨t,rfl⟩,q⟩
 |i::is,j,o,Z5,c,s,H,hd,hj,In,fI,fS,hq,Z1,hS,hb,hc,h=>by
  have lu:(Ī "min"++Ī ".loop":Yv)="min.loop":=by decide
  have bR:j<kQ.aj:=by
   grind
  have tN:kQ[j]?=ab i:=by
   have:=_d ai.head? hd
   grind [ai.head?_drop]
  have KA:kQ.wa (j+1)=is:=by
   rw[<- ai.drop_drop,hd];rfl
  let⟨ax,rI,pl,hz⟩:=In.xE hq;have D4:ax.aj=kQ.aj:=by rw[<- rI.aj,w0a]
  have W:=Ϫ.xE (jd:=X.jd) (w:=X.w) (A:=A.Ko) hh I p El ax.k8;refine Ď oa.F.zb_ ?_;rw[C7.į oa.F.Ö _];show oS _ A.Ko (ĝ (.bj S) >>= _) _ _ _;refine lb (Β hS rfl ?_);show oS _ A.Ko (Ĭ (ι (.bj I)) _ >>= _) _ _ _;refine lb (ĵ (W.Z7 j _ _ _ (by grind) ⟨Z1,pl.yP⟩ λv h' CH hP Er kq=>?_))
  have Ur:ax[j]?=ab v:=by simpa using hP
  obtain⟨t,rfl⟩:∃t,v=.aO i t:=by
   let⟨u,hu,ru⟩:=rI.Df (i:=j) (x:=V.aO i) (by grind);rw[Ur]at hu;cases hu;exact ru
  have I1:=In._k (t':=CH) (it:=I) (h':=h') (λb o z e=>kq b o (by simpa using z) e) fI.1 fI.2.1 fI.2.2.2.1 fI.2.2.2.2.1 fI.2.2.2.2.2
  have x_:=kq S _ (by simpa using Be) hS;let⟨yT,Ee,wL,KS⟩:=id Er.1;have zb3:∀v,yT.oo≠.t9 v:=λv z=>by rw[KS]at z;cases z
  have zb4:∀v,(Yt "list" Z5 c).oo≠.t9 v:=λv z=>nomatch z
  have I2:=I1.iZ (pins':=(I,yT)::(S,Yt "list" Z5 c)::cf) λq hq=>by
   rcases w0g.mp hq with rfl|hq
   .exact⟨Ee,fI.1,fI.2.1,fI.2.2.1,zb3⟩
   .rcases w0g.mp hq with rfl|hq
    .exact⟨x_,fS.1,fS.2.1,fS.2.2.1,zb4⟩
    .exact I1.Zh q (w0h _ hq)
  have Bg:l7 cs H h':=λb o z=>⟨(hc b o z).1,kq b o (by grind) (hc b o z).2⟩
  have μ:∀(u:dS)(s2:oU)(n:a6)(H2:Hp),je X ((I,yT)::(S,Yt "list" Z5 c)::cf) σ H2 s2->(∃t2,u=.aO n t2)->(∀b o,cs.gr b=ab o->s2.a5.g0 b=ab o)->(∀b o,cs.gr b=ab o->H2 b=none)->bJ X.K H2 p (kQ.aT V.aO) ->
    mE sp (.bj f) cs X.K p (kQ.aT V.aO) Q is (fj o i n) H2->∀(mY:yx dS)(c':ar)(s3:oU),oH mY (fj o i n)->s3.os=s2.os->s3.Za=s2.Za->s3.ϕ=s2.ϕ->(∀b o,b≠S->s2.a5.g0 b=ab o->s3.a5.g0 b=ab o)->s3.a5.g0 S=ab (Yt "list" mY c') ->
    s3={s2 with a5:=s3.a5,sP:=s3.sP} ->
    Zv (q_ X.jd X.w) A (.yR "min.loop" ⟨[.bj I,.bj f,.bj S],[]⟩) (λr s'=>match r with|.ok (.KJ v)=>EP X cf σ Q v s'|.ok _=>vk|._S e=>X.xe e s') s3:=by
   intro u s2 n H2 I3 hu rO TQ Ep hm mY c' s3 mn _ _ _ D8 TB Te;have pI:=I3.Zh (I,yT) (w0h _ w1h);have pS:=I3.Zh (S,Yt "list" Z5 c) (w0h _ (w0u _ w1h));have I4:je X cf σ H2 s2:=I3.iZ λq hq=>I3.Zh q (w0h _ (w0u _ (w0u _ hq)))
   have Th:er X cf H2 I:=⟨pI.2.1,fI.2⟩;have wC:er X cf H2 S:=⟨pS.2.1,fS.2⟩;have I5:=I4._k (t':=s3.sP) (it:=S) (h':=s3.a5) D8 wC.1 wC.2.1 wC.2.2.2.1 wC.2.2.2.2.1 wC.2.2.2.2.2;rw[<- Te]at I5;exact N1 F hr hA hh hv hn Be El Ky is (j+1) _ mY c' s3 H2 KA bR I5 Th wC Ep ⟨yT,D8 I _ (Ne.symm Be) pI.1,wL,KS⟩ TB mn (λb o z=>⟨TQ b o z,D8 b o (Ky b o z).2 (rO b o z)⟩) hm
  show oS _ A.Ko (Ĭ (_U [.aO i t] (yd (.bj f) [.aO i t])) _ >>= _) _ _ _;refine lb (ĵ (_I (Zz (z6d (cs:=cs) (Q:=λv H'=>∃n,v=.aO n/\bJ X.K H' p (kQ.aT V.aO)/\mE sp (.bj f) cs X.K p (kQ.aT V.aO) Q is (fj o i n) H') F hr hA I2 Bg hv hn (vs:=[.aO i]) (.qY ⟨t,rfl⟩ .rA) h) (λw s2 Bn=>?_) (λ_ _ z=>z))))
  let⟨g1,v,H2,I3,rv,g2,n,rfl,e1,e2⟩:=Bn;let⟨t2,rfl⟩:=(show ∃t2,w=dS.aO n t2 from rv);have pS:=(I3.Zh (S,Yt "list" Z5 c) (w0h _ (w0u _ w1h))).1;cases o with
  |none=>
   cases(show Z5=#[]from hb);obtain⟨c2,de⟩:∃c2,(s2.a5.Yk S (sy.Ys λ_=>#[.aO i t,.aO n t2])).g0 S=ab (Yt "list" #[.aO i t,.aO n t2] c2):=⟨_,Í pS λ_=>#[.aO i t,.aO n t2]⟩
   show oS _ A.Ko (updateSeq S (λ_=>#[.aO i t,.aO n t2]) >>= _) _ _ _
   refine lb (Ķ pS rfl ?_);rw[lu];exact tW ⟨Õ oa.F.Ö _,μ _ s2 n H2 I3 ⟨t2,rfl⟩ g1 g2 e1 e2 _ c2 _ ⟨t,t2,rfl⟩ rfl rfl rfl (λb o z e=>(gw._T _ _ (Ne.symm z)).ki e) de rfl⟩
  |ab bm=>
   let⟨b,m⟩:=bm;let⟨tb,tm,rfl⟩:=(show ∃t u,Z5=#[.aO b t,.aO m u]from hb);show oS _ A.Ko (Ĭ (_U [.aO i t,.aO n t2] (richCompare .Lt (.aO n t2) (.aO m tm) >>= _)) _ >>= _) _ _ _;refine lb (ĵ (_I (lb (CmpOf.ints_lt (jd:=X.jd) (w:=X.w) (A:=A.Ko) (P:=λz v=>∃t,v=.aO (if z=0 then n else m) t) (λz=>if z=0 then n else m) (λi v h=>h) 0 1 _ _ _ _ _ ⟨t2,rfl⟩ ⟨tm,rfl⟩ ?_))))
   refine lb (_I (Ω ?_));refine lb (π (tW ?_))
   by_cases mn:n<m
   .obtain⟨c2,de⟩:∃c2,(s2.a5.Yk S (sy.Ys λ_=>#[.aO i t,.aO n t2])).g0 S=ab (Yt "list" #[.aO i t,.aO n t2] c2):=⟨_,Í pS λ_=>#[.aO i t,.aO n t2]⟩
    rw[og (show decide ((if(0:ar)=0 then n else m)<(if(1:ar)=0 then n else m))=true by simp[mn])];refine lb (Ķ pS rfl (lb (π ?_)));rw[lu];exact tW ⟨Õ oa.F.Ö _,μ _ s2 n H2 I3 ⟨t2,rfl⟩ g1 g2 e1 e2 _ c2 _ (by unfold fj;simp only[og mn];exact⟨t,t2,rfl⟩) rfl rfl rfl (λb o z e=>(gw._T _ _ (Ne.symm z)).ki e) de rfl⟩
   .rw[sU (show ¬decide ((if(0:ar)=0 then n else m)<(if(1:ar)=0 then n else m))=true by simp[mn])];refine lb (π ?_);rw[lu];exact tW ⟨Õ oa.F.Ö _,μ _ s2 n H2 I3 ⟨t2,rfl⟩ g1 g2 e1 e2 _ c s2 (by unfold fj;grind) rfl rfl rfl (λb o _ e=>e) pS rfl⟩
def YG(F:om X.jd X.w X.K X.mg X.j3 (eh X.jd X.w) k sp)(hr:bp (k+1) X.A)(zeC:X.TR=true)(hv:∀b o,cs.gr b=ab o->b∉fW X.Yd)(hn:∀b o,cs.gr b=ab o->X.j3.g0 b=none)
  (In:je X cf σ H s)(hc:l7 cs H s.a5)(hq:bJ X.K H p (kQ.aT V.aO))(h:mE sp (.bj f) cs X.K p (kQ.aT V.aO) Q kQ none H):
  oS (q_ X.jd X.w) X.A (yd (.yR "min") [.bj p] [(d3.Zk "key", .bj f)]) (EP X cf σ Q) X.xe s:=by
 have lu:(Ī "min"++Ī ".loop":Yv)="min.loop":=by decide
 let⟨ax,rI,pl,hz⟩:=In.xE hq;have hl:=pl.yP;have bR:p<s.a5.fy.dt:=by let⟨_,e,_⟩:=hl;exact gw.xq e
 refine kmk_tree oa.F.kind_min oa.F.plain_min oa.F.entry_min (kmk_min_key _ _) ?_;show oS _ X.A.Ko (u5.Builtins.bindParams "min" ["key", "default"] 0 ⟨[],[(d3.Zk "key", .bj f)]⟩ >>= _) _ _ s;refine lb (wpAny_of_eq (show u5.Builtins.bindParams "min" ["key", "default"] 0 ⟨[],[(d3.Zk "key", .bj f)]⟩=vo [ab (.bj f),none]from rfl) ?_);refine lb (tW ?_);refine lb (ρ hl ?_);refine lb (Ź ?_ (w1b _));rw[lu];have hS:(s.a5.si {oh:=.ny "list_iterator", oo:=.Rm #[.bj p,.aO 0 0]}).fy.dt=s.a5.fy.dt+1:=size_push' ..;have k2:∀b o,s.a5.g0 b=ab o->((s.a5.si {oh:=.ny "list_iterator", oo:=.Rm #[.bj p,.aO 0 0]}).si (Yt "list" #[] 0)).g0 b=ab o:=λb o e=>gw.v7 _ (gw.v7 _ e)
 have I2:je X cf σ H {s with a5:=(s.a5.si {oh:=.ny "list_iterator", oo:=.Rm #[.bj p,.aO 0 0]}).si (Yt "list" #[] 0)}:=In.Ya (t':=s.sP) k2;refine tW ⟨Õ oa.F.Ö _,N1 F hr.Ko rfl (In.ok.hd zeC) hv hn (I:=s.a5.fy.dt) (S:=(s.a5.si {oh:=.ny "list_iterator", oo:=.Rm #[.bj p,.aO 0 0]}).fy.dt) (by grind) (w0p bR) (λb o z=>?_) kQ 0 none #[] 0 _ H rfl (w1b _) I2 (In.jg (w0e _) (In.aL.xS (w0e _))) (In.jg (by grind) (In.aL.xS (by grind))) hq ⟨_,gw.v7 _ (gw.A9 _ rfl),rfl,rfl⟩ (gw.A9 _ rfl) rfl (λb o z=>⟨(hc b o z).1,k2 b o (hc b o z).2⟩) h⟩
 have:=gw.xq (hc b o z).2
 grind
end
def AH(sp:V->ai V->Hp->VK->XK->Prop)(X:Cx)(r5:_m)(rK:pN)(d0:yz)(Nf:ai d3)(js:ai ar)(ta:TE):TE:=λσ H Q=>ta σ H λv H1=>∃(p:f')(is:ai a6),v=.bj p /\
 ∀f aN H2,mW X r5 rK d0 aN f H1 H2->∀cs,j_ aN Nf d0 js σ H2 cs->bJ X.K H2 p (is.aT V.aO)/\mE sp (.bj f) cs X.K p (is.aT V.aO) Q is none H2
section
variable{X:Cx}{k:ar}{sp:V->ai V->Hp->VK->XK->Prop}
def z6e{r5:_m}{rK a:pN}{d0:yz}{cR p gJ kp:vY}{Nf:ai d3}{js:ai ar}{ta:TE}(F:om X.jd X.w X.K X.mg X.j3 (eh X.jd X.w) k sp)(hr:bp (k+1) X.A)(hc:X.TR=true)(hg:Gl X "min")(hm:X.mg "min"=none)
  (M:χ X)(nT:∀y,X.fn y=true)(ha:PE X a ta)(ji:È r5 X.a7=([],[]))
  (cV:∀x∈d0.pM,x.2=.rD->X.a7.yt x.1=ab .t9\/X.a7.yt x.1=ab .rD)
  (mj:∀(i j:ar) y,Nf[i]?=ab y->js[i]?=ab j->X.N[j]?=ab y/\(y,Vo.rD)∈d0.pM/\jS X.a7.d0 y/\X.a7.yt y≠ab .local)
  (he:autoParam (p5 [a] X.a7=[(false,eval a X.a7)]) jJ):
  PE X (.wc (.oL "min" p) [a] [⟨ab "key", .Yu r5 rK d0 cR,kp⟩] gJ) (AH sp X r5 rK d0 Nf js ta):=by
 intro cf s σ H Q I h;refine ο (qM I hg hm L1.Mk.Ε.«min» ?_ (by decide) (by decide));refine callWith_kw ?_ (by rw[he];rfl) (by rw[he];rfl);rw[he];show oS _ _ (Ù ((false,eval a X.a7)::[])) _ _ s;refine Zp.ù (bw (ha cf s σ H _ I h) λu s1 ⟨v,H1,I1,r1,q1⟩=>?_)
 let⟨pa,is,rfl,q⟩:=q1;obtain rfl:u=dS.bj pa:=r1;refine Zp.ú ?_;refine kws_cons (bw (PZ M ji cV _ _ σ H1 (λv H2=>∃f aN,v=.bj f/\mW X r5 rK d0 aN f H1 H2) I1 (λf aN H2 z=>⟨f,aN,rfl,z⟩)) λzcj s3 ⟨v3,H2,I3,Vb,f,aN,ev,la⟩=>kws_nil ?_)
 subst ev;obtain rfl:zcj=dS.bj f:=Vb;let⟨eA,mq,eI,lZ⟩:=zr (d0:=d0) (a7:=X.a7) λx hx hf=>I.ok.yD x.1 (cV x hx hf)
 obtain rfl:eA=aN:=jr (mq.symm.ki la.1)
 have YZ:∀b o,(dB eA s3.a5).gr b=ab o->∃x,X.a7.xY.gr x=ab b/\s3.a5.g0 b=ab o:=λb o z=>by
  let⟨x,h1,h2⟩:=Gk z;exact⟨x,eI x b h1,h2⟩
 have jj:∀b o,(dB eA s3.a5).gr b=ab o->H2 b=none/\s3.a5.g0 b=ab o:=λb o z=>by
  let⟨x,h1,h2⟩:=YZ b o z;exact⟨I3.e7 x b h1,h2⟩
 have tK:∀b o,(dB eA s3.a5).gr b=ab o->X.aA.a5.fy.dt<=b:=λb o z=>by
  let⟨x,h1,h2⟩:=YZ b o z;exact I3.ok.xP x b (nT x) h1
 have CO:j_ eA Nf d0 js σ H2 (dB eA s3.a5):=by
  refine⟨λx y c e1 e2=>I3.ok.La x y c (eI x c e1) (eI y c e2),lZ,λx c e=>?_,λc o e=>⟨(jj c o e).1,?_⟩,λi y j z e1 e2 e3=>?_⟩
  .let⟨v,o,g,_⟩:=I3.t9 x c (eI x c e);exact⟨o,B4 e g⟩
  .let⟨x,h1,h2⟩:=YZ c o e;let⟨v,o',g,d⟩:=I3.t9 x c h1;rw[h2]at g;cases g;exact⟨v,d⟩
  .let⟨n1,n2,n3,n4⟩:=mj i j y e1 e2;let⟨m,hm,hl⟩:=I3.Zw;let⟨u,ru,l⟩:=hl j y z n1 e3 n3;rcases l with⟨k1,_⟩|⟨k1,c,ec,o,g,d⟩
   .exact uP k1 n4
   .let⟨c',rG⟩:=lZ y n2;have e4:=eI y c' rG;rw[ec]at e4;cases e4;exact⟨c,o,u,rG,B4 rG g,d,ru⟩
 show oS _ _ (yd (.yR "min") [.bj pa] [(d3.Zk "key", .bj f)]) _ _ _;let⟨hq,u9⟩:=q f eA H2 la _ CO;refine YG F hr hc ?_ (λb o z=>gw.Ŕ (w0r I3.ok.l_ (tK b o z))) I3 (λb o z=>jj b o z) hq u9
 exact λb o z hb=>by
  rcases w0g.mp (I3.jx b hb)with e|yb
  .let⟨x,h1,_⟩:=YZ b o z;exact I3.rC x b h1 e
  .let⟨_,o',q',_⟩:=I3.ok.eQ.Ye yb
   exact uP (gw.xq q') (w2z.uR (tK b o z))
end
end L2
namespace D
open PySem L2
def fX:FR->fv a6
 |.ok (.fr (.aO n))=>ab n
 |_=>none
def fA(F:a6->fv a6):ai a6->fv (a6×a6)->fv a6
 |[],o=>o.aT (·.1)
 |i::is,o=>match F i with
  |ab n=>fA F is (fj o i n)
  |none=>none
def pL(r:ar->ai W->FR)(j:ar)(e1:ai S):W->fv (ai W)->R W
 |.dI ws,ab aH=>match dQ ws with
  |ab is=>if aX aH=true then bq ((fA (λi=>fX (r j (.aO i::aH))) is none).aT .aO) e1 else .no
  |none=>.no
 |_,_=>.no
def jU(r:ar->ai W->FR)(j:ar)(js:ai ar)(d:ke W):ke W:=λe=>(d e).r7 λw e1=>pL r j e1 w (cB js e1)
theorem z6f:jU r j js d e=(d e).r7 λw e1=>pL r j e1 w (cB js e1):=rfl
theorem Pb{K:Fg}{lams:ar->fv Lm}{r:ar->ai W->FR}{j:ar}{lm:Lm}{aH:ai W}{G1 H1:Hp}{cs:Cs}{f p:f'}{xs:ai V}{Q:VK}{wj:a6}(hl:lams j=ab lm)(Bl:aX aH=true)(hq:bJ K G1 p xs)
  (hQ:∀Gc Hc,aK G1 H1 Gc Hc->Q (.aO wj) Hc):
  ∀(is:ai a6)(o:fv (a6×a6))(Gc Hc:Hp),fA (λi=>fX (r j (.aO i::aH))) is o=ab wj->aK G1 H1 Gc Hc->(∀b o,cs.gr b=ab o->Hc b=none)->p7 K (bD Gc cs) (.fn j lm aH) (.bj f) ->
   mE (ur K lams r) (.bj f) cs K p xs Q is o Hc
 |[],o,Gc,Hc,hm,g,hc,rf=>by
  cases o with
  |none=>cases hm
  |ab bm=>
   let⟨b,m⟩:=bm;cases hm;exact⟨_,_,rfl,hQ Gc Hc g⟩
 |i::is,o,Gc,Hc,hm,g,hc,rf=>by
  obtain⟨n,hn,hm⟩:∃n,fX (r j (.aO i::aH))=ab n/\fA (λi=>fX (r j (.aO i::aH))) is (fj o i n)=ab wj:=by
   grind [fA]
  have hn:r j (.aO i::aH)=.ok (.fr (.aO n)):=by
   unfold fX at hn
   grind
  refine⟨bD Gc cs,j,lm,aH,[.aO i],.aO n,zG g.ri,rf,⟨_,_,rfl,rfl,rfl⟩,rfl,Bl,hl,hn,λG' H' v g' rv=>?_⟩
  cases(show v=V.aO n from rv);have gn:=aK.eU g' hc g.ri;refine⟨n,rfl,gn.ri.pJ ((g.gg.ki gn.gg).pJ hq),Pb hl Bl hq hQ is (fj o i n) (b9 G' cs) _ hm (g.ki gn) (λb o z=>pZ z) (p7.pg (zG gn.gg) _ rf)⟩
section
variable{X:Cx}{Z:Zt}{EE:L2.St->XK}{e rK:pN}{r5:_m}{d:ke W}{cR p gJ kp:vY}{k:ar}{N nf:ai d3}{js:ai ar}{sc d0:yz}{lams:ar->fv Lm}{r:ar->ai W->FR}
def z6g(j:ar)(l:Lm)(F:om X.jd X.w X.K X.mg X.j3 (eh X.jd X.w) k (ur X.K lams r))(hr:bp (k+1) X.A)(hc:X.TR=true)(hm:X.mg "min"=none)(M:χ X)(nT:∀y,X.fn y=true)(he:DE Z X EE e d)(Ua:lams j=ab l)(ok:cD sc d0 N nf js=true)
  (hl:autoParam (l=⟨X.a7.p6++"<lambda>", r5,rK,d0,nf⟩) jJ)(ji:autoParam (È r5 X.a7=([],[])) jJ)(hsc:autoParam (X.a7.d0=sc) jJ)(hN:autoParam (X.N=N) jJ)(hg:autoParam (Gl X "min") jJ)
  (jI:autoParam (p5 [e] X.a7=[(false,eval e X.a7)]) jJ):
  DE Z X EE (.wc (.oL "min" p) [e] [⟨ab "key", .Yu r5 rK d0 cR,kp⟩] gJ) (jU r j js d):=by
 unfold cD at ok;simp only[w0t,w1c,_y,À,w1q,w0x]at ok;obtain⟨⟨⟨⟨⟨⟨k1,k2⟩,k3⟩,k4⟩,k5⟩,k6⟩,k7⟩:=ok;have xx:∀x,X.a7.yt x=sc.pM.gr x:=λx=>by rw[<- hsc];rfl
 refine PE.pg (z6e (Nf:=nf) (js:=js) F hr hc hg hm M nT he ji (λx hx hf=>?_) (λi j y e1 e2=>?_) jI) ?_
 .rw[xx];rcases k4 x hx with(z|z)|z
  .exact uP hf z
  .exact .j' z
  .exact .mv z
 .have bR:i<js.aj:=(w0c.mp e2).1;have z:=k6 i bR;rw[e1,e2]at z;let⟨z1,z2⟩:=k7 y (w0s e1);refine⟨by rw[hN];simpa using z,oa.ZL z1,?_,?_⟩
  .rw[hsc];rcases z2 with z|z
   .exact .mv (.j' z)
   .exact .mv (.mv z)
  .rw[xx];rcases z2 with z|z<;>(rw[z];decide)
 .rintro σ H Q ⟨G,en,nN,h⟩;simp only[jU,R.aw]at h;refine⟨G,en,nN,h.vW (λw e1 h G1 v1 H1 r1 s1 p1=>?_) λ_ _ h=>h⟩
  cases w with
  |dI ws=>
   cases h9:cB js e1 with
   |none=>rw[h9]at h;exact h.oP
   |ab aH=>
   rw[h9]at h;simp only[pL]at h;cases hi:dQ ws with
   |none=>rw[hi]at h;exact h.oP
   |ab is=>
   rw[hi]at h;simp only[]at h;split at h
   .rename_i Bl;cases ho:fA (λi=>fX (r j (.aO i::aH))) is none with
    |none=>rw[ho]at h;exact h.oP
    |ab wj=>
    rw[ho]at h;let⟨pa,xs,rfl,q,rr⟩:=p1;cases Cn hi rr;refine⟨pa,is,rfl,λf aN H2 la cs co=>?_⟩
    let⟨dH,Hm,pm,cP,c',hH,hf,rfl⟩:=la
    have rm:ro X.K Z G1 σ Hm e1:=by
     rcases hH with rfl|⟨c,oc,hc,rfl⟩
     .exact r1
     .exact r1.HF (aK.l3 r1.ri hc _)
    have gl:=aK.Lf rm.ri hf (iV (Zb "<lambda>" (X.a7.p6++"<lambda>") r5 rK d0 aN pm c' cP) (X.a7.p6++"<lambda>") c');have r2:=rm.HF gl;let⟨zs,rz,zl,zv⟩:=B7 r1 h9;have m8:∀b o,cs.gr b=ab o->ot Hm f (iV (Zb "<lambda>" (X.a7.p6++"<lambda>") r5 rK d0 aN pm c' cP) (X.a7.p6++"<lambda>") c') b=none:=λb o z=>(co.jB b o z).1
    have tJ:∀b o,cs.gr b=ab o->ot G1 f (iV (Zb "<lambda>" (X.a7.p6++"<lambda>") r5 rK d0 aN pm c' cP) (X.a7.p6++"<lambda>") c') b=none:=λb o z=>by
     cases q:ot G1 f (iV (Zb "<lambda>" (X.a7.p6++"<lambda>") r5 rK d0 aN pm c' cP) (X.a7.p6++"<lambda>") c') b with
     |none=>rfl
     |ab u=>have:=r2.ri b u q;rw[m8 b o z]at this;cases this
    have sA:=gl.gg.ki (zR tJ)
    have o6:cs.gr f=none:=by
     cases q:cs.gr f with
     |none=>rfl
     |ab o=>have:=tJ f o q;rw[bT]at this;cases this
    have fc:eL (bD (ot G1 f (iV (Zb "<lambda>" (X.a7.p6++"<lambda>") r5 rK d0 aN pm c' cP) (X.a7.p6++"<lambda>") c')) cs) aN l zs cs:=by
     subst hl;refine⟨co.La,co.yD,co.tB,λc o z=>⟨mL z,(co.jB c o z).2⟩,λi y z g1 g2=>?_,by rw[zl];exact k5⟩
     have hi:i<js.aj:=by rw[<- zl];exact(w0c.mp g2).1
     have g3:js[i]?=ab js[i]:=w0b hi;exact co.uO i y js[i] z g1 g3 (zv i _ z g3 g2)
    have Ar:p7 X.K (bD (ot G1 f (iV (Zb "<lambda>" (X.a7.p6++"<lambda>") r5 rK d0 aN pm c' cP) (X.a7.p6++"<lambda>") c')) cs) (.fn j l aH) (.bj f):=by
     refine⟨f,aN,zs,cs,rfl,⟨pm,c',cP,?_⟩,fc,aq.pg sA aH rz⟩;rw[gp o6,bT,hl]
    have q2:bJ X.K (ot G1 f (iV (Zb "<lambda>" (X.a7.p6++"<lambda>") r5 rK d0 aN pm c' cP) (X.a7.p6++"<lambda>") c')) pa (is.aT V.aO):=gl.gg.pJ q;refine⟨r2.ri.pJ q2,Pb Ua Bl q2 (λGc Hc g=>?_) is none _ _ ho (aK.uw r2.ri) m8 Ar⟩
    exact h Gc _ Hc (r2.HF g) (s1.ki (gl.gg.ki g.gg)) rfl
   .exact h.oP
  |_=>exact h.oP
end
end D
namespace L2
open PySem PySem.Spec PyProof.Rows
def dj{α β:Type}(R:α->β->Prop):ai α->ai β->Prop
 |[],[]=>kc
 |a::as,b::bs=>R a b/\dj R as bs
 |_,_=>vk
def dj.perm{bs:ai β}(h:S4.ZD bs):∀{as:ai α},dj R as bs->∃A_,A_.ZD as/\dj R A_ S4:=by
 induction h with
 |rA=>grind [ai.ZD.uw]
 |qY x _ ih=>
  intro as r;cases as with
  |rA=>exact r.oP
  |qY a as=>
   let⟨A_,p,q⟩:=ih r.2;exact⟨a::A_,p.qY a,r.1,q⟩
 |swap x y l=>
  intro as r;cases as with
  |rA=>exact r.oP
  |qY a as=>
   cases as with
   |rA=>exact r.2.oP
   |qY b as=>exact⟨b::a::as,.swap ..,r.2.1,r.1,r.2.2⟩
 |ki _ _ Ux Uy=>
  intro as r;let⟨a2,p2,q2⟩:=Uy r;let⟨a1,p1,q1⟩:=Ux q2;exact⟨a1,p1.ki p2,q1⟩
theorem dj.Df{α β:Type}{R:α->β->Prop}:∀{as:ai α}{bs:ai β},dj R as bs->∀(i:ar) a,as[i]?=ab a->∃b,bs[i]?=ab b/\R a b
 |a::as,b::bs,r,0,_,e=>by cases e;exact⟨b,rfl,r.1⟩
 |a::as,b::bs,r,i+1,x,e=>dj.Df r.2 i x e
 |[],[],_,i,_,e=>by simp at e
theorem dj.aj:∀{as:ai α}{bs:ai β},dj R as bs->as.aj=bs.aj
 |[],[],_=>rfl
 |_::_,_::_,r=>_d (·+1) (dj.aj r.2)
theorem dj.aT{f:α->zfv}{g:β->zfw}(h:∀a b,R a b->R' (f a) (g b)):∀{as:ai α}{bs:ai β},dj R as bs->dj R' (as.aT f) (bs.aT g)
 |[],[],_=>trivial
 |_::_,_::_,r=>⟨h _ _ r.1,dj.aT h r.2⟩
def J8(a:d3×V)(b:Keyed):Prop:=(∃t,b.1=.str a.1 t)/\uu a.2 b.2
theorem Qd:∀{ns:ai d3}{xs:ai V}{ws us:ai dS},sS (ns.aT V.str) ws->sS xs us->dj J8 (ns.wk xs) (ws.wk us)
 |[],_,_,us,h1,_=>by cases h1;exact trivial
 |_::_,[],_,_,h1,h2=>by cases h1;cases h2;exact trivial
 |n::ns,x::xs,_,_,h1,h2=>by
  cases h1 with
  |qY r1 h1=>
  cases h2 with
  |qY r2 h2=>exact⟨⟨r1,r2⟩,Qd h1 h2⟩
theorem N2:∀{xs:ai V}{us:ai dS},dj uu xs us->sS xs us
 |[],[],_=>.rA
 |_::_,_::_,r=>.qY r.1 (N2 r.2)
theorem MG:∀{ns:ai d3}{ws:ai dS},sS (ns.aT V.str) ws->ļ ws ns
 |[],_,h=>by cases h;exact .rA
 |n::ns,_,h=>by
  cases h with
  |qY r h=>
   let⟨t,rfl⟩:=r;exact .qY n t (MG h)
theorem zaf:∀{ws:ai dS}{ns:ai d3},ļ ws ns->2<=ws.aj->keyKind' ws.k8=vo oneType'
 |[],_,_,h=>uP h (by simp)
 |[_],_,_,h=>uP h (by simp)
 |_::_::_,_,hJ,_=>keyKind_strs hJ
abbrev uL(zs:ai (d3×V)):Prop:=zs.Zl λa b=>¬b.1.Yl.vZ<a.1.Yl.vZ
def zag(r:dj J8 zs Zm.vZ)(h:Ļ ĥ Zm Zm.dt):uL zs:=by
 have Z8:∀i (hi:i<zs.aj),KK ĥ Zm i=zs[i].1.Yl.vZ:=λi hi=>by
  let⟨b,e,⟨t,hb⟩,_⟩:=r.Df i zs[i] (w0b hi)
  simp_all [KK]
 refine w3d.uR λi j hi hj tN=>?_
 have hl:zs.aj=Zm.dt:=by rw[r.aj];simp
 have:=h i j (w3q tN) (by omega);rw[Z8 i hi,Z8 j hj]at this;exact of_decide_eq_false this
def z6h{σ:St}(F:ei X.jd X.w X.K X.mg X.j3 (eh X.jd X.w) k f fd ps sp)(hr:bp k A)(hA:A.Yy=X.A.Yy)(hb:ZS X.K fd ps [])
  (I:je X cf σ H s)(r:sS vs us)(h:sp vs H Q λ_ _ _=>vk):oS (q_ X.jd X.w) A (yd (.bj f) us) (EP X cf σ Q) E s:=by
 have hl:(us++[]).aj=ps.aj:=by rw[w1k,<- r.aj];exact F.vn _ _ _ _ h
 have e0:=I.o3;have bd:=hb s us I.qG hl;rw[w1k]at bd;refine þ (η (F.mH A X.Yd s H ⟨us,[]⟩ us vs Q _ hr ⟨hA.ki e0.Yy,e0.Yh,e0.bs,e0.l_,e0.eQ,e0.m6,e0.aL,e0.QN,e0._a⟩ bd r h) λr s' hq=>?_)
 cases r with
 |_S e=>
  let⟨_,_,_,_,_,_,_,_,_,_,hE⟩:=hq;exact hE.oP
 |ok fl=>
  cases fl with
  |KJ u=>exact I.Ϭ hq
  |next=>exact vk.oP hq
  |_z=>exact vk.oP hq
  |_A=>exact vk.oP hq
def lE(sp:Sp)(l:f')(o:sy)(ks:f')(K:ai d3->Hp->Prop):ai V->ai d3->Hp->Prop
 |[],ns,H=>K ns H
 |x::xs,ns,H=>sp [x] H (λv H'=>∃n,v=.str n/\H' l=ab (.eG o (.dI []))/\H' ks=ab (.dI (ns.aT V.str))/\lE sp l o ks K xs (ns++[n]) (ot H' ks (.dI ((ns++[n]).aT V.str)))) λ_ _ _=>vk
section
variable{X:Cx}{A:C7}{k:ar}{f:f'}{fd:ZT}{ps:ai d3}{sp:Sp}{cf:ai (f'×sy)}{σ:St}{l ks:f'}{E:dS->oU->Prop}{o:sy}{K:ai d3->Hp->Prop}
theorem Ml(F:ei X.jd X.w X.K X.mg X.j3 (eh X.jd X.w) k f fd ps sp)(hr:bp k A)(hA:A.Yy=X.A.Yy)(hb:ZS X.K fd ps [])
  (tO:l≠ks)(p9:yx dS):∀(xs:ai V)(us:ai dS)(ns:ai d3)(s:oU)(H:Hp),sS xs us->je X cf σ H s->H l=ab (.eG o (.dI []))->H ks=ab (.dI (ns.aT V.str))->ns.aj+xs.aj<=1000->lE sp l o ks K xs ns H ->
  oS (q_ X.jd X.w) A (Ϛ us ϩ.unit λx (_:ϩ)=>kA l (.bj f) (.bj ks) x p9) (λ_ s'=>∃(H':Hp)(tZ:ai d3),je X cf σ H' s'/\H' l=ab (.eG o (.dI []))/\H' ks=ab (.dI (tZ.aT V.str))/\tZ.aj=ns.aj+xs.aj/\K tZ H') E s
 |[],us,ns,s,H,r,I,hl,hk,hz,h=>by
  cases r;rw[w3b];exact tW ⟨H,ns,I,hl,hk,rfl,h⟩
 |x::xs,us,ns,s,H,r,I,hl,hk,hz,h=>by
  cases r with
  | @qY _ u _ us r rr=>
   rw[w2g];refine lb ?_;unfold kA;refine lb (Ŷ ?_);refine Zz (z6h (Q:=λv H'=>∃n,v=.str n/\H' l=ab (.eG o (.dI []))/\H' ks=ab (.dI (ns.aT V.str))/\lE sp l o ks K xs (ns++[n]) (ot H' ks (.dI ((ns++[n]).aT V.str)))) F hr hA hb I (.qY r .rA) h) (λw s1 hq=>?_) (λ_ _ z=>z)
   let⟨v,H1,I1,rv,n,rfl,e1,e2,h2⟩:=hq;let⟨K5,ax,m,rI,eo⟩:=(show aS X.jd X.w H1 s1.a5 ks (.dI (ns.aT V.str))from I1.aL ks _ e2);have D4:ax.aj=ns.aj:=by rw[<- rI.aj,w0a]
   refine lb (ĕ eo rfl ?_ (hsz:=by grind) (hsz2:=by grind))
   obtain⟨m2,Kj⟩:∃m2,(s1.a5.Yk ks (sy.Ys (·.si w))).g0 ks=ab {oh:=.ny "list", oo:=.pJ (ax++[w]).k8 m2}:=by
    have z:=Í eo (·.si w)
    grind
   have I2:je X cf σ (ot H1 ks (.dI ((ns++[n]).aT V.str))) {s1 with a5:=s1.a5.Yk ks (sy.Ys (·.si w))}:=by
    refine I1.ZA (t':=s1.sP) (by rw[e2];exact kc.intro) (.j' rfl) (λb u hb q=>(gw._T _ _ (Ne.symm hb)).ki q) ⟨_,Kj⟩ (show aS X.jd X.w _ _ _ (.dI _)from⟨by grind [Yf],ax++[w],m2,?_,Kj⟩)
    rw[w0q];exact rI.YX (.qY rv .rA)
   refine tW ?_;show oS _ _ (Ϛ us ϩ.unit _) _ _ _;refine Zz (Ml F hr hA hb tO p9 xs us (ns++[n]) _ _ rr I2 (by grind [bh]) bT (by grind) h2) (λ_ s' hq=>?_) (λ_ _ z=>z)
   grind
def nK(sp:Sp)(l:f')(xs:ai V)(H:Hp)(Q:VK):Prop:=
 ∀o ks,ot H l (.eG o (.dI [])) ks=none->lE sp l o ks (λns H'=>∀zs:ai (d3×V),zs.ZD (ns.wk xs)->uL zs->Q (.bj l) (ot (ot H' ks (.dI [])) l (.dI (zs.aT (·.2))))) xs [] (ot (ot H l (.eG o (.dI []))) ks (.dI []))
def zah(F:ei X.jd X.w X.K X.mg X.j3 (eh X.jd X.w) k f fd ps sp)(hr:bp k A)(hA:A.Yy=X.A.Yy)(hb:ZS X.K fd ps [])
  (I:je X cf σ H s)(el:H l=ab (.dI xs))(hf:∀o v,X.aG l≠ab (.eG o v))(DD:xs.aj<64)(h:nK sp l xs H Q):
  oS (q_ X.jd X.w) A (u5.«list.sort» ⟨[.bj l],[(d3.Zk "key", .bj f)]⟩) (λye s'=>ye=.done (.KJ .none)/\EP X cf σ Q (.bj l) s') E s:=by
 rw[Wb];let⟨_,us,m,rU,eo⟩:=(show aS X.jd X.w H s.a5 l (.dI xs)from I.aL l _ el);have Bp:us.aj=xs.aj:=by rw[<- rU.aj]
 refine lb (zcG eo rfl ?_);refine lb (ĕ eo rfl ?_ (hsz:=by grind));obtain⟨e1,Bb⟩:∃e1,(s.a5.Yk l (sy.Ys λ_=>#[])).g0 l=ab (Yt "list" #[] e1):=⟨_,Í eo (λ_=>#[])⟩
 have I1:je X cf σ (ot H l (.dI [])) {s with a5:=s.a5.Yk l (sy.Ys λ_=>#[])}:=
  I.ZA (t':=s.sP) (by rw[el];exact kc.intro) (.j' rfl) (λb u hb q=>(gw._T _ _ (Ne.symm hb)).ki q) ⟨_,Bb⟩ (show aS X.jd X.w _ _ _ (.dI [])from⟨w1b _,[],e1,.rA,Bb⟩)
 have I2:=I1.zdc (a:=l) (xs:=[]) (o:=Yt "list" #[] e1) bT Bb;rw[Cv]at I2;refine lb (seqEpoch_at Bb rfl ?_);refine lb (zed ?_ (hsz:=by grind));have I3:=I2.Ya (t':=s.sP) (h':=(s.a5.Yk l (sy.Ys λ_=>#[])).si (Yt "tuple" us.k8.vZ.k8 0)) λb u q=>gw.v7 _ q
 refine lb (Ź ?_);have fr:=I3.aL.xS (w0e _)
 have I4:=I3.Lf (t':=s.sP) (o:=.dI []) (h':=((s.a5.Yk l (sy.Ys λ_=>#[])).si (Yt "tuple" us.k8.vZ.k8 0)).si (Yt "list" #[] 0)) (λb u q=>gw.v7 _ q) (w0e _)
  (show aS X.jd X.w _ _ _ (.dI [])from⟨w1b _,[],0,.rA,gw.A9 _ rfl⟩)
 refine _I ?_;refine lb (Ă ?_);rw[ai.forIn_toArray]
 have tO:l≠((s.a5.Yk l (sy.Ys λ_=>#[])).si (Yt "tuple" us.k8.vZ.k8 0)).fy.dt:=λz=>by
  grind [bT]
 refine lb (Zz (Ml F hr hA hb tO us.k8 xs us [] _ _ rU I4 (by grind [bh,bT]) bT (by simp;omega) (h _ _ fr)) (λ_ s5 hq=>?_) (λ_ _ z=>z))
 let⟨H5,ns,I5,S',Kh,lx,q⟩:=hq
 clear I1 I2 I3 I4
 generalize ((s.a5.Yk l (sy.Ys λ_=>#[])).si (Yt "tuple" us.k8.vZ.k8 0)).fy.dt=ks at *
 let⟨_,ws,mk,rW,ew⟩:=(show aS X.jd X.w H5 s5.a5 _ (.dI (ns.aT V.str))from I5.aL _ _ Kh);have oB:ws.aj=us.aj:=by grind [sS.aj]
 have hJ:=MG rW;have Tc:s5.a5.g0 l=ab (Yt "list" #[] e1):=(show _/\_ from I5.aL _ _ S').1;refine lb (zcG ew rfl ?_)
 have ye:∀Zm:yx Keyed,Zm.ZD (ws.k8.wk us.k8)->Ļ ĥ Zm Zm.dt->oS (q_ X.jd X.w) A (do
   u5.ai.Ϟ (.bj ks) λ_=>#[]
   letGo (Zm.aT (·.1)).vZ ([]:ai dS)
   let ī:=(<- ţ l) != e1
   u5.ai.Ϟ (.bj l) λ_=>Zm.aT (·.2)
   if ī then _v "list.sort.modified";raiseError "ValueError" "list modified during sort"
   KJ .none) (λye s'=>ye=.done (.KJ .none)/\EP X cf σ Q (.bj l) s') E s5:=λZm hp hs=>by
  have KU:Zm.vZ.ZD (ws.wk us):=by
   grind [yx.perm_iff_toList_perm]
  let⟨zs,pz,rz⟩:=dj.perm KU (Qd rW rU);have up:=zag rz hs
  have hy:sS (zs.aT (·.2)) (Zm.aT (·.2)).vZ:=by
   rw[yx.toList_map];exact N2 (dj.aT (λ_ _ h=>h.2) rz)
  have EA:Zm.dt=us.aj:=by rw[hp.size_eq];simp[oB]
  have hzl:zs.aj=us.aj:=by rw[rz.aj];simp[EA]
  refine lb (ĕ ew rfl ?_ (hsz:=by grind));obtain⟨e6,Km⟩:∃e6,(s5.a5.Yk ks (sy.Ys λ_=>#[])).g0 ks=ab (Yt "list" #[] e6):=⟨_,Í ew (λ_=>#[])⟩
  have I6:je X cf σ (ot H5 ks (.dI [])) {s5 with a5:=s5.a5.Yk ks (sy.Ys λ_=>#[])}:=
   I5.ZA (t':=s5.sP) (by rw[Kh];exact kc.intro) (.j' rfl) (λb u hb q=>(gw._T _ _ (Ne.symm hb)).ki q) ⟨_,Km⟩ (show aS X.jd X.w _ _ _ (.dI [])from⟨w1b _,[],e6,.rA,Km⟩)
  have Ta:ot H5 ks (.dI []) l=ab (.eG (Yt "list" #[] e1) (.dI [])):=by grind [bh]
  have Du:(s5.a5.Yk ks (sy.Ys λ_=>#[])).g0 l=ab (Yt "list" #[] e1):=(gw._T _ _ (Ne.symm tO)).ki Tc
  have I7:=I6.zew Ta hf;refine lb (π ?_);refine lb (seqEpoch_at Du rfl ?_);refine lb (ĕ Du rfl ?_ (hsz2:=by grind));obtain⟨e8,Kl⟩:∃e8,((s5.a5.Yk ks (sy.Ys λ_=>#[])).Yk l (sy.Ys λ_=>Zm.aT (·.2))).g0 l=ab (Yt "list" (Zm.aT (·.2)) e8):=⟨_,Í Du (λ_=>Zm.aT (·.2))⟩
  have I8:=I7.ZA (x:=l) (e:=l) (o:=.dI (zs.aT (·.2))) (t':=s5.sP) (h':=(s5.a5.Yk ks (sy.Ys λ_=>#[])).Yk l (sy.Ys λ_=>Zm.aT (·.2))) (by rw[bT];exact kc.intro) (.j' rfl) (λb u hb q=>(gw._T _ _ (Ne.symm hb)).ki q) ⟨_,Kl⟩
   (show aS X.jd X.w _ _ _ (.dI (zs.aT (·.2)))from⟨by grind,(Zm.aT (·.2)).vZ,e8,hy,by rw[w5e];exact Kl⟩)
  rw[Cv]at I8;simp only[bne_self_eq_false,w4f,_C];exact tW ⟨rfl,.bj l,_,I8,rfl,q zs pz up⟩
 have K6:(ws.k8.wk us.k8).dt=us.aj:=by simp[oB]
 by_cases h2:us.k8.dt<2
 .rw[og h2,og h2];refine lb (tW ?_);dsimp only;rw[StateT.run_pure];refine lb (tW ?_);refine ye (ws.k8.wk us.k8) (yx.ZD.uw _) λi j tN hj=>?_
  grind [KeyOrd.kle_refl]
 .rw[sU h2,sU h2];have hsz:us.k8.dt=us.aj:=by simp
  rw[zaf hJ (by omega)];refine lb (tW ?_)
  refine lb (Zz (wpS_sortRunsK (a₀:=ws.k8.wk us.k8) (st:=SortSt.mk' oneType' (ws.k8.wk us.k8) #[] 7 none)
   (Q:=λ_ lR=>(ċ lR).ZD (ws.k8.wk us.k8)/\Ő lR=none/\Ļ ĥ (ċ lR) (ws.k8.wk us.k8).dt)
   strKind_oneLt (λp hp=>?_) ⟨yx.ZD.uw _,rfl,rfl,rfl⟩ (by rw[K6];omega) (by rw[K6];omega) λlR a1 a2 a3=>⟨a1,a2,a3⟩) ?_ λ_ _ e=>e)
  .have hm:p∈ws.wk us:=by simpa using hp
   have hw:=(w3k hm).1;let⟨i,hi,e⟩:=w1z.mp hw;have oz:i<ns.aj:=by grind
   let⟨u,hu,t,ru⟩:=rW.Df (i:=i) (x:=V.str ns[i]) (by grind);rw[w0b hi,e]at hu
   simp_all
  rintro⟨⟨⟩,lR⟩ s' ⟨rfl,hp,KG,Uk⟩;have z:=ye _ hp (by rw[hp.size_eq];exact Uk)
  grind
end
def zd1(sp:Sp)(K:Fg)(ta:TE):TE:=λσ H Q=>ta σ H λv H1=>∃(p:f')(xs:ai V),v=.bj p/\bJ K H1 p xs/\xs.aj<64/\∀l,H1 l=none->nK sp l xs (ot H1 l (.dI xs)) Q
section
variable{X:Cx}{k:ar}{f:f'}{fd:ZT}{ps:ai d3}{sp:Sp}
def z0t{a:pN}{x:d3}{np p gJ kp:vY}{ta:TE}(F:ei X.jd X.w X.K X.mg X.j3 (eh X.jd X.w) k f fd ps sp)(hr:bp (k+2) X.A)(hb:ZS X.K fd ps [])(TY:X.mg x=ab (.bj f))(D2:Gl X x)(hg:Gl X "sorted")(hm:X.mg "sorted"=none)
  (ha:PE X a ta)(he:autoParam (p5 [a] X.a7=[(false,eval a X.a7)]) jJ)(DU:autoParam ((x==("__debug__":d3))=false) jK):
  PE X (.wc (.oL "sorted" p) [a] [⟨ab "key", .oL x np,kp⟩] gJ) (zd1 sp X.K ta):=by
 intro cf s σ H Q I h;refine ο (qM I hg hm L1.Mk.Ε.«sorted» ?_ (by decide) (by decide));refine callWith_kw ?_ (by rw[he];rfl) (by rw[he];rfl);rw[he];show oS _ _ (Ù ((false,eval a X.a7)::[])) _ _ s;refine Zp.ù (bw (ha cf s σ H _ I h) λu s1 ⟨v,H1,I1,r1,q1⟩=>?_)
 let⟨pa,xs,rfl,hq,DD,q⟩:=q1;obtain rfl:u=dS.bj pa:=r1;refine Zp.ú ?_;refine kws_cons (Cw I1 D2 TY (kws_nil ?_) DU);show oS _ _ (yd (.yR "sorted") [.bj pa] [(d3.Zk "key", .bj f)]) _ _ _;let⟨ax,rI,pl,hz⟩:=I1.xE hq;have D4:ax.aj=xs.aj:=rI.aj.symm;refine call_function_entry_kw kind_sorted plain_sorted entry_sorted (VD _ _) ?_
 unfold u5.«sorted»;refine lb (m:=checkCount "sorted" 1 1 _) (tW ?_);refine lb (collect_list pl.yP ?_);have k5:∀b o,s1.a5.g0 b=ab o->((s1.a5.si (Yt "list" #[] 0)).Yk s1.a5.fy.dt (sy.Ys (·++ax.k8))).g0 b=ab o:=λb o e=>(gw._T _ _ (w2r (gw.xq e))).ki (gw.v7 _ e)
 have I5:je X cf σ H1 {s1 with a5:=(s1.a5.si (Yt "list" #[] 0)).Yk s1.a5.fy.dt (sy.Ys (·++ax.k8))}:=I1.Ya (t':=s1.sP) k5;refine lb (Ź ?_ (hsz:=by rw[Yf];omega));have Dz:=I5.aL.xS (w0e _)
 have I6:=I5.Lf (t':=s1.sP) (o:=.dI xs) (h':=((s1.a5.si (Yt "list" #[] 0)).Yk s1.a5.fy.dt (sy.Ys (·++ax.k8))).si {oh:=.ny "list", oo:=.pJ ax.k8}) (λb o q=>gw.v7 _ q) (w0e _)
  (show aS X.jd X.w _ _ _ (.dI _)from⟨hz,ax,0,rI,gw.A9 _ rfl⟩)
 refine lb (_I (wpAny_call_entry_kw slot_list_sort ⟨_,gw.A9 _ rfl,rfl⟩ entry_list_sort (Zz (zah (Q:=Q) (xs:=xs) F ((hr.Ko).Ko) rfl hb I6 bT ?_ DD (q _ Dz)) (λye s' hq=>⟨_,hq.1,?_⟩) λ_ _ z=>z) (U2 _ _)))
 .intro o v z;have:=I5.j3.bo _ o v z
  grind
 .exact tW ⟨_,rfl,hq.2⟩
end
end L2
namespace xp
open PySem PySem.W PySem.Calls PyProof.Rows
theorem Pc:∀{ns:ai a6}{m:ar},Zr.Ŵ (ns.aT Zr.aO)<=m->∀i∈ns,u5.a6.Ï i<=m
 |[],_,_,_,h=>nomatch h
 |n::ns,m,hw,i,h=>by
  have e:Zr.Ŵ ((n::ns).aT Zr.aO)=u5.a6.Ï n+1+Zr.Ŵ (ns.aT Zr.aO):=rfl;rw[e]at hw;cases h with
  |head=>omega
  |μ _ h=>exact Pc (by omega) i h
def z0u{ns:ai a6}(h:Zr.layableAll [Zr.xE (ns.aT Zr.aO)]=true):∀i∈ns,u5.a6.Ï i<=1048576:=by
 have h1:(Zr.layable (Zr.xE (ns.aT Zr.aO))&&true)=true:=h;rw[fC.Ŀ]at h1;unfold Zr.layable at h1;rw[w0t]at h1;have h2:=_X h1.2
 grind [Zr.weight,Pc]
def zcz{l:δ}
  (hn:l._W=ab n)(rP:d.r5.Ç=[])
  (yd:∀(w:vq)(aA aE:oU)(mg mb:d3->fv dS)(fa:f')(o:sy)(pm cd Yx:dS)(a:f')(vs:ai dS)(ns:ai a6),
   Ground q Ρ [] XP w aA mg mb aE.a5->YP w aE.a5 ->
   aE.a5.g0 fa=ab o->o.oo=.Zn (docDef d.name d.r5 d.rK d.d0 pm cd Yx)->aE.a5.ķ cd d.name->mg d.name=ab (.bj fa) ->
   aE.a5.g0 a=ab {oh:=.ny "list", oo:=.pJ vs.k8}->Ϧ vs ns->ns.aj<=n->(∀i∈ns,u5.a6.Ï i<=1048576)->aE.Za=#[] ->
   Zv (q_ l.jd w) _c (.yd (.bj fa) ⟨[.bj a],[]⟩) (λr s'=>r=.ok (.KJ (.wF true))/\Ϩ aE.a5 s'.a5/\s'.os=aE.os/\_l s'.Za) aE):
  å q Ρ XP YP l.n9.ϡ d [] (λf vs=>oa.yd f vs):=by
 intro w aA aE mg mb G Y fa o pm cd Yx dV kV ho hd eE hD hmg hg args ü as nV yp Ui oB Ub;obtain rfl:dV=.none:=Ć.none hD rP;obtain rfl:kV=.none:=Ć.noKw hD;let⟨a,vs,ns,rfl,rfl,mw,Ϝ,v_⟩:=M0 hn nV oB;refine enter_call (η (yd w aA aE mg mb fa o pm cd Yx a vs ns G Y ho (fd_plain hd) eE hmg mw Ϝ v_ (z0u yp) hg) λr s' hq=>?_)
 let⟨rfl,h2,h3,h4⟩:=hq;exact⟨.j' ⟨.wF true,.wF true,[],rfl,λ_=>rfl,.wF true,M1 l _,λ_=>⟨ai.Zl.rA,λ_ hm=>(nomatch hm)⟩⟩,h2,h3,h4⟩
end xp
namespace L2
open PySem PySem.Spec PyProof.Rows
end L2
namespace D
open PySem L2
def A3(ns:ai a6):Prop:=ns.aj<=63/\∀i∈ns,u5.a6.Ï i<=1048576
def kK(K:Fg):Sp:=λvs H Q _=>∃(a:f')(ns:ai a6),vs=[.bj a]/\bJ K H a (ns.aT V.aO)/\A3 ns/\∀H',Q (.bl true) H'
def zai(hF:∀ns:ai a6,A3 ns->F [.dI (ns.aT .aO)]=.ok (.fr (.bl true)))(h:kK K vs H Q E):oi K F vs H Q E:=by
 let⟨a,ns,rfl,hS,hl,q⟩:=h;refine⟨λb=>if b=a then H a else none,[.dI (ns.aT .aO)],λb o z=>?_,⟨.bj a,[],rfl,⟨a,ns.aT V.aO,rfl,?_,M8 ns⟩,rfl⟩,?_⟩
 .grind
 .rcases hS with(h|⟨o,h⟩)|h
  .exact .j' (.j' (by simpa using h))
  .exact .j' (.mv ⟨o,by simpa using h⟩)
  .exact .mv h
 .rw[hF ns hl];intro G' H' v g sl;let⟨u,h1,h2⟩:=sl;cases h1;cases(show v=V.bl true from h2);exact q H'
end D
namespace L2
open PySem PySem.Spec PyProof.Rows
end L2
namespace D
open PySem L2 PySem.Spec PyProof.Rows
open PyProof.Rows (envOfC)
open PySem L2
end D
namespace L2
open PySem PySem.Spec PyProof.Rows
end L2
namespace D
open PySem L2
open Classical in
noncomputable instance zeT (k:Kx) (sh:Sh):ß (Z6 k sh):=τ.ô _
def ju(i:ar)(sh:Sh)(w:W)(e:ai S):fv Kx->SR
 |ab t=>if Z6 t sh then .nx (e.sx i (.dw sh [t] [w]))else .no
 |none=>.no
def kJ(i:ar)(sh:Sh)(w:W)(e:ai S):fv S->SR
 |ab (.fr kw)=>ju i sh w e (ig kw)
 |_=>.no
def hZ(i j:ar)(sh:Sh)(w:W):ai S->SR:=λe=>kJ i sh w e e[j]?
section
variable{X:Cx}{Z:Zt}{EE:L2.St->XK}{x y:d3}{gJ p:vY}
def z0v(i j:ar)(sh:Sh){ve:pN}{w:W}{v:V}{YR lj p2:vY}(hK:d4 X.K)(hu:X.A.xT+20<xH)(hN:X.N.x6)(hv:PE X ve (tC v))(hw:Vd w=ab v)
  (hj:autoParam (X.N[j]?=ab y) jJ)(gK:autoParam (jS X.a7.d0 y) jN)(hd:autoParam ((y==("__debug__":d3))=false) jK)(eE:autoParam ((y==("__classdict__":d3))=false) jK)
  (hi:autoParam (X.N[i]?=ab x) jJ)(hx:autoParam (Zq X.a7.d0 x) jM)
  (hs:autoParam (ZO (.Η [ab (.oL y p2)] [ve] lj) (ab (.oL x YR)) gJ.Yq X.a7=vo false) jJ)(hf:autoParam (X.fn x=true\/X.a7.d0.pM.gr x=ab .local) jL):
  DS Z X EE (.ZR [.oL x YR] (.Η [ab (.oL y p2)] [ve] lj) gJ) (hZ i j sh w):=by
 refine PS.pg (AW i hN (RS (sh:=sh) hu (pv j hj gK hd eE) hv) hi hx hs hf) ?_;rintro D σ H ⟨G,e,nN,h⟩;unfold hZ kJ at h;split at h
 .rename_i kw T_;unfold ju at h;split at h
  .rename_i t ht;split at h
   .rename_i hc;let⟨u,Eu,Uo⟩:=nN.fr T_;let⟨b,rfl,kr⟩:=Co hK (.uw G) ht Uo;have EN:bV H t (.bj b):=bV.Yp (λ_ _ _ z=>nN.ri _ _ z) t kr
    intro q hq;have g2:=aK.l3 nN.ri hq (.dT sh [(t,v)] [b]);have r2:=nN.HF g2;have m9:au H (ot H q (.dT sh [] [])):=ua hq _;refine⟨.bj b,Eu,t,b,rfl,⟨bV.Yp (λ_ _ _ z=>m9 _ _ z) t EN,hc⟩,bT,?_⟩
    have eH:ot (ot H q (.dT sh [] [])) q (.dT sh [(t,v)] [b])=ot H q (.dT sh [(t,v)] [b]):=by
     funext c
     by_cases h1:c=q
     .subst h1;rw[bT,bT]
     .rw[bh h1,bh h1,bh h1]
    rw[eH];refine h _ _ _ (r2.Aw (s:=.dw sh [t] [w]) (λ_ _ z=>nomatch z) ⟨q,[(t,v)],[b],rfl,by rw[vV (Bw kr hc)];exact bT,nN.ri.rD hq,sF nN hq,rfl,.of ⟨kr,trivial⟩ (Bw kr hc),?_⟩) (.uw _)
    unfold eu;exact⟨v,[],rfl,(by cases w<;>cases hw<;>rfl),rfl⟩
   .exact h.oP
  .exact h.oP
 .exact h.oP
theorem z0w:hZ i j sh w e=kJ i sh w e e[j]?:=rfl
theorem z0x:kJ i sh w e (ab (.fr kw))=ju i sh w e (ig kw):=rfl
def z0y:ju i (.gs [.aO,.aO]) w e (ab (.gs [.aO m,.aO n]))=.nx (e.sx i (.dw (.gs [.aO,.aO]) [.gs [.aO m,.aO n]] [w])):=by
 exact og ⟨⟨trivial,trivial,trivial⟩,by simp[Kx.vg,Kx.cI]⟩
end
end D
namespace L2
open PySem PySem.Spec PyProof.Rows
structure du(x:d3)(Nf:ai d3)(sc:yz):Prop where
 xx:sc.xx=.Z0
 co:sc.ï=false
 gen:sc.ð=false
 Α:sc.pM.gr x=ab .t9
 Zg:∀n cl,è n sc.pM cl=(x,n)::cl
 vz:∀h:gw,pushCells h sc.pM=h.si {oh:=.ny "cell", oo:=.t9 none}
 only:∀y∈sc.pM,y.2=.t9->y.1=x
 fr:∀y∈Nf,sc.pM.gr y=ab .rD
def Wc{s:oU}{_P:dS}(S:du x Nf d0)
  (hQ:∀h',h'.Ns s.a5.fy.dt (λ_=>none)->h'._w (s.a5.fy.dt+1) (ab u)->(∀b o,s.a5.g0 b=ab o->h'.g0 b=ab o) ->
   Q (newEnv d0 s.a5.fy.dt ϯ ((x,s.a5.fy.dt+1)::ê) p6 Zn _P none ϔ) {s with a5:=h'}):
  oS M A (Ė d0 ϯ ê [(x,u)] p6 Zn _P none ϔ) Q E s:=by
 simp only[Ė,fv.isSome_none,w4f,_C];refine lb (wpAny_alloc ?_);refine lb (zeb _ (λname xx xY=>by grind) _ _ _ _ ?_)
 rw[show({s with a5:=s.a5.si {oh:=.ny "frame", oo:=.we #[]}}:oU).a5.fy.dt=s.a5.fy.dt+1 from gw.Z4 ..,S.Zg,S.vz]
 have ic:((s.a5.si {oh:=.ny "frame", oo:=.we #[]}).si {oh:=.ny "cell", oo:=.t9 none})._w (s.a5.fy.dt+1) none:=by
  have e:=gw.A9 (s.a5.si {oh:=.ny "frame", oo:=.we #[]}) (o:={oh:=.ny "cell", oo:=.t9 none}) rfl;rw[gw.Z4]at e;exact⟨_,e,rfl⟩
 have kp:∀b o,(s.a5.si {oh:=.ny "frame", oo:=.we #[]}).g0 b=ab o->((s.a5.si {oh:=.ny "frame", oo:=.we #[]}).si {oh:=.ny "cell", oo:=.t9 none}).g0 b=ab o:=λb o e=>gw.v7 _ e
 have ns:=(gw.Ns.yL s.a5 (.ny "frame")).Yp kp;refine lb ?_;rw[w2g];refine lb (lb (zeg (c:=s.a5.fy.dt+1) (v₀:=none) S.xx S.Α (by simp[ai.gr]) ic λh' DL g_=>?_))
 refine tW ?_;dsimp only;rw[w3b];refine tW (tW (hQ h' (ns.Ø g_ (w0p (w4r _))) DL λb o e=>?_))
 exact g_.xu b o (w0p (w1y (gw.xq e))) (kp b o (gw.v7 _ e))
section
variable{K:Fg}
def z0z{cL:gw}(S:du x Nf d0)(C:et cl Nf d0 zs s.a5 cs)(hd:A.Zj=none)(e0:f6 P w K mg j3 A qp s H)(hn:∀c o,cs.gr c=ab o->H c=none)
  (hz:zs.aj=Nf.aj)(r:uu v0 u0)
  (ns:cL.Ns s.a5.fy.dt (λ_=>none))(ic:cL._w (s.a5.fy.dt+1) (ab u0))(hk:∀b o,s.a5.g0 b=ab o->cL.g0 b=ab o):
  je (gF P w K mg j3 ([x]++Nf) p6 d0 f cd ((x,s.a5.fy.dt+1)::cl) A qp s H) [] ([v0].aT ab++zs.aT ab) H {s with a5:=cL}:=by
 have nY:∀b:f',b∉([]:ai f'):=λb z=>nomatch z
 have fB:∀y c,cl.gr y=ab c->H c=none/\∃o,s.a5.g0 c=ab o/\∃v,o.oo=.t9 v:=λy c e=>by
  let⟨o,q⟩:=C.tB y c e;exact⟨hn c o q,o,C.jB c o q⟩
 have lk:∀y c,((x,s.a5.fy.dt+1)::cl).gr y=ab c->(y=x/\c=s.a5.fy.dt+1)\/cl.gr y=ab c:=λy c e=>by
  rw[w3e]at e;split at e
  .rename_i hb;cases e;exact .j' ⟨by simpa using hb,rfl⟩
  .exact .mv e
 have small:∀y c,cl.gr y=ab c->c<s.a5.fy.dt:=λy c e=>by
  let⟨_,o,q,_⟩:=fB y c e;exact gw.xq q
 have UP:∀y∈Nf,y≠x:=λy hy e=>by
  have:=S.fr y hy;rw[e,S.Α]at this;cases this
 have Lb:((x,s.a5.fy.dt+1)::cl).gr x=ab (s.a5.fy.dt+1):=by rw[w3e,zbU]
 have Lc:∀y,y≠x->((x,s.a5.fy.dt+1)::cl).gr y=cl.gr y:=λy hy=>by rw[w3e,ł.uR hy]
 refine⟨⟨e0.Yh,S.xx,rfl,rfl,w0e _,λy z c h1 h2=>?_,λy hy=>?_,(λx c z=>nomatch z),λ_=>hd,C7.Œ e0.Yy,.mv ⟨rfl,rfl⟩,λb z=>uP z (nY b),e0.bs,e0.l_,λb _ _=>nY b,λb z=>uP z (nY b),e0.eQ,e0.m6,e0._a⟩,
  rfl,e0.QN,Un.Ya hk,⟨_,ns,λi y v h1 h2 h3=>?_⟩,λy c h=>?_,e0.aL.xS (w0e _),λy c h=>?_,λp hp=>uP (show p∈([]:ai (f'×sy))from hp) (by simp),e0.aL.Ya hk,?_⟩
 .rcases lk y c h1 with⟨rfl,rfl⟩|g1
  .rcases lk z _ h2 with⟨rfl,_⟩|g2
   .rfl
   .exact uP (ar.zcJ (small z _ g2)) (w2e _)
  .rcases lk z c h2 with⟨rfl,rfl⟩|g2
   .exact uP (ar.zcJ (small y _ g1)) (w2e _)
   .exact C.La y z c g1 g2
 .by_cases hx:y=x
  .exact⟨_,by rw[hx];exact Lb⟩
  .have hy:d0.pM.gr y=ab .t9\/d0.pM.gr y=ab .rD:=hy;rcases hy with hy|hy
   .exact uP (S.only _ (oa.ZL hy) rfl) hx
   .let⟨c,e⟩:=C.yD y (oa.ZL hy);exact⟨c,by show((x,s.a5.fy.dt+1)::cl).gr y=_;rw[Lc y hx];exact e⟩
 .cases i with
  |UQ=>
   cases h1;cases h2;exact⟨u0,r,.mv ⟨.j' S.Α,_,Lb,ic⟩⟩
  |UI i=>
   have h1:Nf[i]?=ab y:=h1;have h2:(zs.aT ab)[i]?=ab (ab v):=h2;rw[w0w]at h2
   have ha:zs[i]?=ab v:=by
    cases e:zs[i]? with
    |none=>rw[e]at h2;cases h2
    |ab a=>rw[e]at h2;cases (h2);rfl
   let⟨c,o,u,e1,e2,e3,e4⟩:=C.uO _ _ _ h1 ha;have hm:=w0s h1;exact⟨u,e4,.mv ⟨.mv (S.fr y hm),c,by show((x,s.a5.fy.dt+1)::cl).gr y=_;rw[Lc y (UP y hm)];exact e1,o,hk _ _ (C.jB c o e2).1,e3⟩⟩
 .rcases lk y c h with⟨rfl,rfl⟩|g
  .exact⟨_,ic⟩
  .let⟨_,o,q,v,d⟩:=fB y c g;exact⟨v,o,hk _ _ q,d⟩
 .rcases lk y c h with⟨rfl,rfl⟩|g
  .exact e0.aL.xS (w5h _)
  .exact(fB y c g).1
 .show _=([x]++Nf).aj;simp[hz]
def zaQ
  (hr:bp (k+1) A)(e0:f6 P w K mg j3 A qp s H)(hf:H f=ab (iV (Zb name p6 r5 rK d0 cl pm c' cP) p6 c'))
  (S:du x Nf d0)(CI:bc H cs)(C:et cl Nf d0 zs s.a5 cs)(jh:Ν (ϰ name p6 r5 rK d0 cl pm (.bj c') cP) ⟨[u0],[]⟩=vo [(x,u0)])
  (hz:zs.aj=Nf.aj)(r:uu v0 u0)
  (hb:PE (gF P w K mg j3 ([x]++Nf) p6 d0 f (.bj c') ((x,s.a5.fy.dt+1)::cl) A qp s (b9 H cs)) rK t)(hq:t ([v0].aT ab++zs.aT ab) (b9 H cs) λv H'=>(∀b o,cs.gr b=ab o->H' b=none)->Q v (bD H' cs)):
  Zv (q_ P w) A (.yd (.bj f) ⟨[u0],[]⟩) (CR CX qp P w H s Q E) s:=by
 have lim:s.a5.ϸ:=e0.Yh.Ó.Yp λb o e=>(e0.bs b o e).1
 let⟨DY,eE⟩:=OW e0.aL hf
 have e1:f6 P w K mg j3 A qp s (b9 H cs):=⟨e0.Yy,e0.Yh,λb o q=>⟨(e0.bs b o q).1,vN (e0.bs b o q).2⟩,e0.l_,e0.eQ,λb hb=>vN (e0.m6 b hb),e0.aL.rm CI,e0.QN,λa q P m=>by
  let⟨ps,e,p⟩:=e0._a a q P m;exact⟨ps,CI.cO e (λo z=>nomatch z),p⟩⟩
 refine oa.W.zcA hr.vg DY rfl S.co S.gen rfl eE ?_;rw[jh];refine tW (Wc S λcL lx T5 KO=>⟨lim.Yp KO,?_⟩)
 show Zv _ _ (.expr rK (df p6 d0 f (.bj c') ((x,s.a5.fy.dt+1)::cl) s)) _ _;have I:=z0z (p6:=p6) (f:=f) (cd:=.bj c') S C hr.hd e1 (λc o q=>pZ q) hz r lx T5 KO
 refine oa.W.zcB (Zz (hb [] _ _ _ _ I hq) (λu s' g_=>?_) λe s' z=>vk.oP z)
 let⟨v,H',J,rv,q⟩:=g_;have un:Un (fW qp) [] (b9 H cs) H' s.a5 s'.a5:=J.j3;refine⟨v,bD H' cs,J.os,J.QN,un.xY CI,J.aL.add λb o z=>?_,rv,q λb o z=>un.rD b o (C.jB b o z).1 (pZ z) (by simp)⟩
 have nf:b∉fW qp:=λhb=>by
  have:=e0.m6 b hb;rw[CI b o z]at this;cases this
 have g:=(C.jB b o z).1;exact⟨un.rD b o g (pZ z) (by simp),un.wN b o g (pZ z) nf (by simp)⟩
end
end L2
namespace D
open PySem L2
def kB(sc d0:yz)(N Nf:ai d3)(js:ai ar):fC:=
 d0.pM.tB (λy=>y.2 != .rD||sc.pM.gr y.1==ab .t9||sc.pM.gr y.1==ab .rD)&&js.aj==Nf.aj &&
 (ai.zd js.aj).tB (λi=>match js[i]?,Nf[i]? with|ab j,ab y=>N[j]?==ab y|_,_=>true) &&
 Nf.tB (λy=>d0.pM.gr y==ab .rD&&(sc.pM.gr y==ab .t9||sc.pM.gr y==ab .rD))
section
variable{X:Cx}{Z:Zt}{EE:L2.St->XK}{e rK:pN}{r5:_m}{d:ke W}{x:d3}{cR p gJ:vY}{k:ar}{ps N nf:ai d3}{js:ai ar}{sc d0:yz}{F:ai W->FR}
def Xb(j:ar)(l:Lm)(C:qU X.jd X.w X.K X.mg X.j3 k x ps (oi X.K F))(hr:bp k X.A)(hx:eZ (eh X.jd X.w) X EE)(M:χ X)(nT:∀y,X.fn y=true)(he:DE Z X EE e d)(ok:kB sc d0 N nf js=true)
  (hl:autoParam (l=⟨X.a7.p6++"<lambda>", r5,rK,d0,nf⟩) jJ)(ji:autoParam (È r5 X.a7=([],[])) jJ)(hsc:autoParam (X.a7.d0=sc) jJ)(hN:autoParam (X.N=N) jJ)(hg:autoParam (Gl X x) jJ)
  (jH:autoParam ((x==("__debug__":d3))=false) jK)(jI:autoParam (p5 [e,.Yu r5 rK d0 cR] X.a7=(false,eval e X.a7)::p5 [.Yu r5 rK d0 cR] X.a7) jJ)
  (pq:autoParam (p5 [.Yu r5 rK d0 cR] X.a7=(false,eval (.Yu r5 rK d0 cR) X.a7)::p5 [] X.a7) jJ)(d9:autoParam ((A4 gJ (p5 [.Yu r5 rK d0 cR] X.a7)).vb (·.1)=false) jJ):
  DE Z X EE (.wc (.oL x p) [e,.Yu r5 rK d0 cR] [] gJ) (bZ F j l js d):=by
 let⟨fa,fd,FF,m,kp,bd⟩:=C.ex;unfold kB at ok;simp only[w0t,w1c,_y,À,w1q,w0x]at ok;let⟨⟨⟨k4,k5⟩,k6⟩,k7⟩:=ok;have xx:∀x,X.a7.yt x=sc.pM.gr x:=λx=>by rw[<- hsc];rfl
 refine PE.pg (Mr (Nf:=nf) (js:=js) FF hr hg m kp bd hx M nT he ji (λx hx hf=>?_) (λi j y e1 e2=>?_) jH jI pq d9) ?_
 .rw[xx];rcases k4 x hx with(z|z)|z
  .exact uP hf z
  .exact .j' z
  .exact .mv z
 .have bR:i<js.aj:=(w0c.mp e2).1;have z:=k6 i bR;rw[e1,e2]at z;let⟨z1,z2⟩:=k7 y (w0s e1);refine⟨by rw[hN];simpa using z,oa.ZL z1,?_,?_⟩
  .rw[hsc];rcases z2 with z|z
   .exact .mv (.j' z)
   .exact .mv (.mv z)
  .rw[xx];rcases z2 with z|z<;>(rw[z];decide)
 .rintro σ H Q ⟨G,en,nN,h⟩;simp only[bZ,R.aw]at h;refine⟨G,en,nN,h.vW (λw e1 h G1 v1 H1 r1 s1 p1 f aN H2 la=>?_) λ_ _ h=>h⟩
  let⟨dH,Hm,pm,cP,c',hH,hf,rfl⟩:=la
  have rm:ro X.K Z G1 σ Hm e1:=by
   rcases hH with rfl|⟨c,oc,hc,rfl⟩
   .exact r1
   .exact r1.HF (aK.l3 r1.ri hc _)
  have gl:=aK.Lf rm.ri hf (iV (Zb "<lambda>" (X.a7.p6++"<lambda>") r5 rK d0 aN pm c' cP) (X.a7.p6++"<lambda>") c');have r2:=rm.HF gl;refine⟨aN,dH,λcs co=>?_⟩
  cases h9:cB js e1 with
  |none=>rw[h9]at h;exact h.oP
  |ab aH=>
   rw[h9]at h;let⟨zs,rz,zl,zv⟩:=B7 r1 h9;have m8:∀b o,cs.gr b=ab o->ot Hm f (iV (Zb "<lambda>" (X.a7.p6++"<lambda>") r5 rK d0 aN pm c' cP) (X.a7.p6++"<lambda>") c') b=none:=λb o z=>(co.jB b o z).1
   have tJ:∀b o,cs.gr b=ab o->ot G1 f (iV (Zb "<lambda>" (X.a7.p6++"<lambda>") r5 rK d0 aN pm c' cP) (X.a7.p6++"<lambda>") c') b=none:=λb o z=>by
    cases q:ot G1 f (iV (Zb "<lambda>" (X.a7.p6++"<lambda>") r5 rK d0 aN pm c' cP) (X.a7.p6++"<lambda>") c') b with
    |none=>rfl
    |ab u=>have:=r2.ri b u q;rw[m8 b o z]at this;cases this
   have sA:=gl.gg.ki (zR tJ)
   have o6:cs.gr f=none:=by
    cases q:cs.gr f with
    |none=>rfl
    |ab o=>have:=tJ f o q;rw[bT]at this;cases this
   have fc:eL (bD (ot G1 f (iV (Zb "<lambda>" (X.a7.p6++"<lambda>") r5 rK d0 aN pm c' cP) (X.a7.p6++"<lambda>") c')) cs) aN l zs cs:=by
    subst hl;refine⟨co.La,co.yD,co.tB,λc o z=>⟨mL z,(co.jB c o z).2⟩,λi y z g1 g2=>?_,by rw[zl];exact k5⟩
    have hi:i<js.aj:=by rw[<- zl];exact(w0c.mp g2).1
    have g3:js[i]?=ab js[i]:=w0b hi;exact co.uO i y js[i] z g1 g3 (zv i _ z g3 g2)
   have Ar:p7 X.K (bD (ot G1 f (iV (Zb "<lambda>" (X.a7.p6++"<lambda>") r5 rK d0 aN pm c' cP) (X.a7.p6++"<lambda>") c')) cs) (.fn j l aH) (.bj f):=by
    refine⟨f,aN,zs,cs,rfl,⟨pm,c',cP,?_⟩,fc,aq.pg sA aH rz⟩;rw[gp o6,bT,hl]
   refine⟨_,[w,.fn j l aH],zG r2.ri,⟨v1,[.bj f],rfl,p7.pg sA w p1,⟨.bj f,[],rfl,Ar,rfl⟩⟩,?_⟩;cases q:F [w,.fn j l aH]with
   |ok s=>
    simp only[cM,q]at h;cases s with
    |fr w'=>
     simp only[eS]at h;split at h
     .rename_i Ed;intro G' H' v g sl;let⟨u,h1,h2⟩:=sl;cases h1;have g':=aK.eU g m8 r2.ri;have ci:bc G' cs:=λb o z=>g.gg b _ (mL z)
      exact h (b9 G' cs) v (b9 H' cs) (r2.HF g') (s1.ki (gl.gg.ki g'.gg)) (p7.rm ci w' Ed h2)
     .exact h.oP
    |_=>exact h.oP
   |ex c=>
    simp only[cM,q,eS]at h;intro H' sh;refine JQ r2 (s1.ki gl.gg) h (b9 H' cs) λb u z=>?_
    cases q2:cs.gr b with
    |ab o=>rw[m8 b o q2]at z;cases z
    |none=>rw[lM q2];exact sh b u (by rw[gp q2];exact z)
   |no=>simp only[cM,q,eS]at h;exact h.oP
end
structure kf(P:wO)(w:vq)(K:Fg)(mg:d3->fv dS)(j3:gw)(n:ar)(l:Lm)(x:d3)(F:ai W->FR):Prop where
 sc:du x l.nf l.d0
 r7:∀(cl:ai (d3×f'))(pm:dS)(c':f')(cP u:dS),Ν (ϰ "<lambda>" l.p6 l.r5 l.rK l.d0 cl pm (.bj c') cP) ⟨[u],[]⟩=vo [(x,u)]
 vn:∀ws,F ws≠.no->ws.aj=1+l.nf.aj
 rK:∀ws,F ws≠.no->∀(Z:Zt)(f:f')(cd:dS)(cl:ai (d3×f'))(A:C7)(qp:ai Rb)(s:oU)(H:Hp),bp n (A.ZE (df l.p6 l.d0 f cd cl s)) ->
  ∃d,DE Z (gF P w K mg j3 ([x]++l.nf) l.p6 l.d0 f cd cl A qp s H) (λ_=>E0) l.rK d/\fo (d (ws.aT .fr))=F ws
def z6i(h:∀i l,lams i=ab l->∃x,kf P w K mg j3 n l x (r i)):
  om P w K mg j3 (eh P w) (n+1) (ur K lams r):=by
 rintro x vs H Q E ⟨G,i,l,aH,ws,w',sg,rf,rv,nw,nc,hl,hr,q⟩;let⟨x0,L⟩:=h i l hl;let⟨f,cl,zs,cs,rfl,⟨pm,c',cP,ef⟩,FC,rz⟩:=rf;have hn:r i (ws++aH)≠.no:=by grind
 have v_:=L.vn _ hn;have hz:zs.aj=l.nf.aj:=FC.vn;have eI:aH.aj=l.nf.aj:=by grind [aq.aj]
 have oB:ws.aj=1:=by grind
 have Ey:vs.aj=1:=by grind [aq.aj]
 have cg:bc G cs:=λb o e=>(FC.jB b o e).1
 have ch:bc H cs:=λb o e=>sg _ _ (cg b o e)
 refine⟨f,_,_,_,_,_,rfl,sg _ _ ef,λA qp s us hR e0 ru=>?_⟩
 have Bp:us.aj=1:=by grind [sS.aj]
 obtain⟨v0,rfl⟩:∃v0,vs=[v0]:=w4s.mp Ey;obtain⟨u0,rfl⟩:∃u0,us=[u0]:=w4s.mp Bp
 have r0:uu v0 u0:=by
  let⟨u,hu,q⟩:=ru.Df (i:=0) rfl;cases hu;exact q
 have C8:et cl l.nf l.d0 zs s.a5 cs:=⟨FC.La,FC.yD,FC.tB,λc o e=>⟨(show s.a5.g0 c=ab o/\_ from e0.aL c _ (ch c o e)).1,(FC.jB c o e).2⟩,FC.uO⟩
 let⟨d,hd,he⟩:=L.rK _ hn ⟨b9 H cs,b9 G cs,[]⟩ f (.bj c') ((x0,s.a5.fy.dt+1)::cl) A qp s (b9 H cs) (hR.ZE _);refine zaQ hR e0 (sg _ _ ef) L.sc ch C8 (L.r7 cl pm c' cP u0) hz r0 hd ?_;have HD:au (b9 G cs) (b9 H cs):=Iw sg;have rr:aq K (b9 G cs) (ws++aH) ([v0]++zs):=(aq.rm cg ws nw rv).YX (aq.rm cg aH nc rz);have nN:=Ih (N:=[x0]++l.nf) HD rr
 have e1:L2.Z_ ([x0]++l.nf) ([v0]++zs)=[v0].aT ab++zs.aT ab:=by
  simp_all [L2.Z_]
 have e2:Z3 ([x0]++l.nf).aj (ws++aH)=(ws++aH).aT .fr:=by
  unfold Z3;rw[show([x0]++l.nf).aj-(ws++aH).aj=0 by simp[oB,eI];omega,ai.replicate_zero,w1k]
 rw[e1,e2]at nN;refine⟨b9 G cs,_,nN,?_⟩;cases u4:d ((ws++aH).aT .fr)with
 |ok w2 e'=>
  rw[u4,hr]at he;cases he;intro G' v H' r' sG rp jj
  have yq:∀b o,cs.gr b=ab o->G' b=none:=λb o z=>by
   cases q2:G' b with
   |none=>rfl
   |ab u=>have:=r'.ri b u q2;grind
  exact q (bD G' cs) (bD H' cs) v (aK.lam ch cg (λb u e=>r'.YY b u e (λz=>nomatch z)) sG r'.ri r'.gen) (p7.pg (zR yq) _ rp)
 |ex c e'=>rw[u4,hr]at he;cases he
 |no=>rw[u4,hr]at he;cases he
end D
namespace L2
open PySem PySem.Spec PyProof.Rows
def zdH(P:wO)(w:vq)(K:Fg)(mg:d3->fv dS)(j3:gw)(N:ai d3)(p6:d3)(d0:yz)(f:f')(cd:dS)(cl:ai (d3×f'))(A:C7)(qp:ai Rb)(s:oU)(H:Hp)(E:XK):Cx:=
 {gF P w K mg j3 N p6 d0 f cd cl A qp s H with xe:=λe s'=>oS (q_ P w) (A.ZE (df p6 d0 f cd cl s)) (leaving (df p6 d0 f cd cl s) e) (λ_ iq=>eh P w qp H s E e iq) (λe' iq=>eh P w qp H s E e' iq) s'}
end L2
namespace D
open PySem L2
variable{X:Cx}{EE:L2.St->XK}{p gJ:vY}{K:Fg}{x:d3}{Z:Zt}
structure zeK(P:wO)(w:vq)(K:Fg)(mg:d3->fv dS)(j3:gw)(n:ar)(l:Lm)(x:d3)(F:ai W->FR):Prop where
 sc:du x l.nf l.d0
 r7:∀(cl:ai (d3×f'))(pm:dS)(c':f')(cP u:dS),Ν (ϰ "<lambda>" l.p6 l.r5 l.rK l.d0 cl pm (.bj c') cP) ⟨[u],[]⟩=vo [(x,u)]
 vn:∀ws,F ws≠.no->ws.aj=1+l.nf.aj
 rK:∀ws,F ws≠.no->∀(Z:Zt)(f:f')(cd:dS)(cl:ai (d3×f'))(A:C7)(qp:ai Rb)(s:oU)(H:Hp)(E:XK),bp n (A.ZE (df l.p6 l.d0 f cd cl s)) ->
  ∃d,DE Z (zdH P w K mg j3 ([x]++l.nf) l.p6 l.d0 f cd cl A qp s H E) (λ_=>E) l.rK d/\fo (d (ws.aT .fr))=F ws
open PySem L2 PySem.Spec PyProof.Rows
def jQ:fv fC->dS->fC
 |none,.none=>true
 |ab b,.wF c=>b==c
 |_,_=>false
def E8:fv fC->dS
 |none=>.none
 |ab b=>.wF b
def t5(h:jQ k v=true):v=E8 k:=by
 cases k with
 |none=>cases v<;>first|rfl|cases h
 |ab b=>
  cases v with
  |wF c=>
   have:b=c:=_y.mp h;subst this;rfl
  |_=>cases h
def jo(w:vq):fv fC->a6
 |none=>j4 w .aF
 |ab b=>j4 w (.bl b)
def Y0(k)(hv:jQ k v=true)(h:Q (jo w k) {s with sP:=s.sP+1}):oS (q_ jd w) A (ě v) Q E s:=by
 have:=t5 hv;subst this;cases k with
 |none=>exact pyHash_slot (T:="NoneType") rfl F.slot_NoneType_hash F.entry_NoneType_hash (F.args_NoneType_hash_1 _) (zbT _) (.j' rfl) (lb (tW (lb (ı (tW ⟨_,_,rfl,h⟩)))))
 |ab b=>
  refine pyHash_slot (T:="bool") rfl F.slot_bool_hash entry_int_hash (args_int_hash _) (zbT _) (.j' rfl) ?_;cases b
  .exact(show oS _ _ (do KJ (<- mkInt 0)) _ _ s from lb (ı (tW ⟨_,_,rfl,h⟩)))
  .exact(show oS _ _ (do KJ (<- mkInt 1)) _ _ s from lb (ı (tW ⟨_,_,rfl,h⟩)))
def SV(hu:jQ a u=true)(hv:jQ b v=true)(h:Q (decide (a=b)) s):oS (q_ jd w) A (ì u v) Q E s:=by
 have h1:=t5 hu;have h2:=t5 hv;subst h1;subst h2;cases a with
 |none=>
  cases b with
  |none=>exact w7.Rh.same _ jd w E Q (by simpa using h)
  |ab c=>exact w7.Rh.ñ c jd w E Q (by simpa using h)
 |ab a=>
  cases b with
  |none=>exact w7.Rh.ç a jd w E Q (by simpa using h)
  |ab c=>
   have e:decide (ab a=ab c)=(a==c):=by grind
   rw[e]at h;exact w7.Rh.Á a c jd w E Q h
def pQ(jd)(w):KeyKind jd w (fv fC) where
 is:=jQ
 Î:=jo w
 La:=λv a b ha hb=>by
  have h1:=t5 ha;subst h1;cases a with
  |none=>cases b with
   |none=>rfl
   |ab c=>cases hb
  |ab a=>cases b with
   |none=>cases hb
   |ab c=>have:c=a:=_y.mp hb;rw[this]
 byValue:=λk v h=>by
  have:=t5 h;subst this;cases k<;>rfl
 ě:=λ{A E s k v Q} hv h=>Y0 k hv h
 ì:=λ{A E s a b u v Q} hu hv h=>SV hu hv h
 «strs»:=λk x t v h=>(by cases k<;>cases h)
def YS:fv fC->d3
 |none=>"-"
 |ab true=>"1"
 |ab false=>"0"
def nL(v:dS)(x:d3):fC:=match v with
 |.str y _=>y==x
 |_=>false
def ng(w:vq)(o:sy):fC:=match o.oh,o.we,o.Zd.vZ,o.oo with
 |.ny c,none,[],.we es _=>c=="dict"&&(match es.vZ with
  |[e1,e2,e3]=>(jQ (ab true) e1.Z8&&e1.Î==jo w (ab true)&&nL e1.uO "1")&&(jQ (ab false) e2.Z8&&e2.Î==jo w (ab false)&&nL e2.uO "0")&&(jQ none e3.Z8&&e3.Î==jo w none&&nL e3.uO "-")
  |_=>false)
 |_,_,_,_=>false
structure mX(w:vq)(K:Fg)(d:f'):Prop where
 Yc:∃o,K.gr d=ab o/\ng w o=true
def Gn(h:nL v x=true):∃t,v=.str x t:=by
 cases v with
 |str y t=>exact⟨t,by rw[show y=x from _y.mp h]⟩
 |_=>cases h
def Y1{jd:wO}{w:vq}{d:f'}(T:mX w K d){h:gw}(x:K.In h):∃f:fv fC->fv dS,h.MapOf (pQ jd w) d f/\∀k,∃t,f k=ab (.str (YS k) t):=by
 let⟨o,h1,h2⟩:=T.Yc;unfold ng at h2;split at h2
 .rename_i c es ep hc hd hs yg;rw[w0t]at h2;let⟨eE,h2⟩:=h2;split at h2
  .rename_i e1 e2 e3 DV;simp only[w0t,_y]at h2;let⟨⟨⟨⟨a1,a2⟩,a3⟩,⟨b1,b2⟩,b3⟩,⟨c1,c2⟩,c3⟩:=h2;let⟨t1,v1⟩:=Gn a3;let⟨t2,v2⟩:=Gn b3;let⟨t3,v3⟩:=Gn c3;have k1:=t5 a1;have k2:=t5 b1;have k3:=t5 c1;have he:es=#[e1,e2,e3]:=by apply yx.ů.mp;rw[DV]
   refine⟨findBy jQ es,⟨o,es,ep,x d o h1,⟨?_,hd,?_⟩,yg,λe hm=>?_,λ_=>rfl⟩,λk=>?_⟩
   .rw[hc,_y.mp eE]
   .apply yx.ů.mp;rw[hs]
   .rw[he]at hm;simp only[ai.mem_toArray,w0g,w1d,ZM]at hm;rcases hm with rfl|rfl|rfl
    .exact⟨ab true,a1,a2⟩
    .exact⟨ab false,b1,b2⟩
    .exact⟨none,c1,c2⟩
   .rw[he];unfold findBy;rw[ai.find?_toArray];cases k with
    |none=>exact⟨t3,by simp only[w2c,k1,k2,k3];exact _d ab v3⟩
    |ab b=>
     cases b with
     |true=>exact⟨t1,by simp only[w2c,k1,k2,k3];exact _d ab v1⟩
     |false=>exact⟨t2,by simp only[w2c,k1,k2,k3];exact _d ab v2⟩
  .cases h2
 .cases h2
def sO:W->fv W
 |.aF=>ab (.str (YS none))
 |.bl b=>ab (.str (YS (ab b)))
 |_=>none
section
variable{k:pN}{dk:ke W}{d:f'}
def Hz(d:f'):R2:=λx y H Q=>x=.bj d/\((y=.aF/\Q (.str (YS none)) H)\/∃b,y=.bl b/\Q (.str (YS (ab b))) H)
def RT(T:mX X.w X.K d):oN X (Hz d):=by
 intro ZQ _j cf s σ H x y v u Q I rx ry h hs;let⟨rfl,h⟩:=h;cases rx;let⟨f,hm,hf⟩:=Y1 (jd:=X.jd) T I.qG
 have Z8:∃k:fv fC,u=E8 k/\Q (.str (YS k)) H:=by
  rcases h with⟨rfl,q⟩|⟨b,rfl,q⟩
  .exact⟨none,ry,q⟩
  .exact⟨ab b,ry,q⟩
 let⟨k,rfl,q⟩:=Z8;let⟨t,ht⟩:=hf k
 have hk:jQ k (E8 k)=true:=by
  cases k with
  |none=>rfl
  |ab b=>exact zbU b
 exact L1.Mk.Ů hm.ZH F.zdo.gr (zd9 (knd:=pQ X.jd X.w) hk hm ht ⟨.str (YS k),H,I.Yn _,⟨t,rfl⟩,q⟩) hs
def Q2h(T:∃d,X.mg x=ab (.bj d)/\mX X.w X.K d)(hk:DE Z X EE k dk)(hg:autoParam (Gl X x) jJ)(hd:autoParam ((x==("__debug__":d3))=false) jK)(hs:iU k:=by intro _ _;rfl):
  DE Z X EE (.Yw (.oL x p) k gJ) (me sO dk):=by
 let⟨d,hm,T⟩:=T;refine PE.pg (JN (RT T) (OH (v:=.bj d) hg hm rfl hd) hk hs) ?_;rintro σ H Q ⟨G,e,nN,h⟩;simp only[me,R.aw,aY]at h;refine⟨G,e,nN,h.vW (λw e1 h G1 v1 H1 r1 s1 p1=>?_) λ_ _ h=>h⟩
 let⟨w',hw,h⟩:=h;unfold sO at hw;split at hw
 .cases hw;cases p1;exact⟨rfl,.j' ⟨rfl,h G1 _ H1 r1 s1 rfl⟩⟩
 .rename_i b;cases hw;cases p1;exact⟨rfl,.mv ⟨b,rfl,h G1 _ H1 r1 s1 rfl⟩⟩
 .cases hw
end
def nJ:FR->fv d3
 |.ok (.fr (.str n))=>ab n
 |_=>none
def iC(F:ai W->FR):ai W->fv (ai d3)
 |[]=>ab []
 |w::ws=>match nJ (F [w]),iC F ws with
  |ab n,ab ns=>ab (n::ns)
  |_,_=>none
abbrev tj(zs:ai (d3×W)):Prop:=zs.Zl λa b=>a.1.Yl.vZ<b.1.Yl.vZ
open Classical in
def mS(ns:ai d3)(ws:ai W):fv (ai W):=if h:ns.aj=ws.aj/\∃zs:ai (d3×W),zs.ZD (ns.wk ws)/\tj zs then ab (h.2.ň.aT (·.2))else none
theorem Ji:∀{l m:ai (d3×W)},tj l->tj m->l.ZD m->l=m
 |[],m,_,_,p=>p.nil_eq
 |x::l,[],_,_,p=>(ai.cons_ne_nil _ _ p.eq_nil).oP
 |x::l,y::m,hl,hm,p=>by
  have h1:=w4h.mp hl;have h2:=w4h.mp hm
  have e:x=y:=by
   grind
  subst e;rw[Ji h1.2 h2.2 (ai.ZD.cons_inv p)]
def z6j(hl:ns.aj=ws.aj)(hp:zs.ZD (ns.wk ws))(hu:tj zs):mS ns ws=ab (zs.aT (·.2)):=by
 unfold mS;have h:ns.aj=ws.aj/\∃zs:ai (d3×W),zs.ZD (ns.wk ws)/\tj zs:=⟨hl,zs,hp,hu⟩;rw[Ō h];let⟨c1,c2⟩:=h.2.é;rw[Ji c2 hu (c1.ki hp.symm)]
def zaR(h:mS ns ws=ab us):ns.aj=ws.aj/\∃zs:ai (d3×W),zs.ZD (ns.wk ws)/\tj zs/\us=zs.aT (·.2):=by
 unfold mS at h;split at h
 all_goals grind
def z6k{y:d3}(h:x.Yl.vZ=y.Yl.vZ):x=y:=by
 cases x;simp_all
def SW(h:zs.Zl λa b=>¬b.1.Yl.vZ<a.1.Yl.vZ)(hp:zs.ZD ys)(hy:tj ys):tj zs:=by
 have zcS:(ys.aT (·.1)).x6:=by
  grind
 have nz:(zs.aT (·.1)).x6:=(hp.aT _).nodup_iff.uR zcS;have nz:=w3p.mp nz;refine(h.and nz).vW λ{a b} h=>?_
 by_cases l:a.1.Yl.vZ<b.1.Yl.vZ
 .exact l
 .exact(h.2 (z6k (ai.le_antisymm (ai.ė.mp h.1) (ai.ė.mp l)))).oP
def sQ(F:ai W->FR):W->fv (ai W)
 |.dI ws=>if ws.aj<64 then(iC F ws).r7 λns=>mS ns ws else none
 |_=>none
def jY(F:ai W->FR)(d:ke W):ke (ai W):=λe=>(d e).r7 λw e1=>bq (sQ F w) e1
theorem z6l:jY F d e=(d e).r7 λw e1=>bq (sQ F w) e1:=rfl
def J7(K:Fg)(G:Hp)(a:d3×W)(b:d3×V):Prop:=a.1=b.1/\p7 K G a.2 b.2
theorem qg:∀{ns:ai d3}{ws:ai W}{xs:ai V},aq K G ws xs->dj (J7 K G) (ns.wk ws) (ns.wk xs)
 |[],_,_,_=>trivial
 |n::ns,[],xs,h=>by cases(show xs=[]from h);exact trivial
 |n::ns,w::ws,_,h=>by
  let⟨x,xs,rfl,h1,h2⟩:=h;exact⟨⟨rfl,h1⟩,qg h2⟩
theorem nF:∀{ws:ai W}{xs:ai V},dj (p7 K G) ws xs->aq K G ws xs
 |[],[],_=>rfl
 |w::ws,x::xs,h=>⟨x,xs,rfl,h.1,nF h.2⟩
def Au(r:dj (J7 K G) zw zs)(h:uL zs):zw.Zl λa b=>¬b.1.Yl.vZ<a.1.Yl.vZ:=by
 refine w3d.uR λi j hi hj tN=>?_
 let⟨b1,e1,r1,_⟩:=r.Df i zw[i] (w0b hi);let⟨b2,e2,r2,_⟩:=r.Df j zw[j] (w0b hj)
 grind [ai.pairwise_iff_getElem]
theorem MH{F:ai W->FR}{G1 H1:Hp}{l ks:f'}{o:sy}{Kk:ai d3->Hp->Prop}(tO:l≠ks)(n2:H1 ks=none)(tB:ai d3)
  (hK:∀Gc Hc,aK G1 H1 Gc Hc->Gc l=none->Gc ks=none->Hc l=ab (.eG o (.dI []))->Hc ks=ab (.dI (tB.aT V.str))->Kk tB Hc):
  ∀(ws:ai W)(xs:ai V)(wR ns:ai d3)(Gc Hc:Hp),aq K Gc ws xs->iC F ws=ab ns->wR++ns=tB->aK G1 H1 Gc Hc->Gc l=none->Gc ks=none->Hc l=ab (.eG o (.dI []))->Hc ks=ab (.dI (wR.aT V.str)) ->
   lE (oi K F) l o ks Kk xs wR Hc
 |[],xs,wR,ns,Gc,Hc,r,hk,ha,g,g1,g2,h1,h2=>by
  cases(show xs=[]from r);cases hk;rw[w1k]at ha;subst ha;exact hK Gc Hc g g1 g2 h1 h2
 |w::ws,xs,wR,ns,Gc,Hc,r,hk,ha,g,g1,g2,h1,h2=>by
  let⟨x,xs,rfl,r1,r2⟩:=r
  obtain⟨n,tZ,hn,kq,rfl⟩:∃n tZ,nJ (F [w])=ab n/\iC F ws=ab tZ/\ns=n::tZ:=by
   grind [iC]
  have hn:F [w]=.ok (.fr (.str n)):=by
   unfold nJ at hn
   grind
  refine⟨Gc,[w],g.ri,⟨x,[],rfl,r1,rfl⟩,?_⟩;rw[hn];intro G' H' v g' sl;let⟨v',e',rp⟩:=sl;cases e';cases(show v=V.str n from rp);have e1:=g'.hh _ _ h1;have e2:=g'.hh _ _ h2;have k1:G' l=none:=by rw[g'.yL l (by grind)];exact g1
  have k2:G' ks=none:=by rw[g'.yL ks (by grind)];exact g2
  refine⟨n,rfl,e1,e2,MH tO n2 tB hK ws xs (wR++[n]) tZ G' _ (aq.pg g'.gg ws r2) kq (by grind) ((g.ki g').ZA n2 k2) k1 k2 (by grind [bh]) bT⟩
section
variable{e:pN}{d:ke W}{np kp:vY}{k:ar}{ps:ai d3}{F:ai W->FR}
def z6m(C:qU X.jd X.w X.K X.mg X.j3 k x ps (oi X.K F))(hr:bp (k+2) X.A)(hm:X.mg "sorted"=none)(he:DE Z X EE e d)(D2:autoParam (Gl X x) jJ)(hg:autoParam (Gl X "sorted") jJ)
  (jI:autoParam (p5 [e] X.a7=[(false,eval e X.a7)]) jJ)(DU:autoParam ((x==("__debug__":d3))=false) jK):
  DF Z X EE (.wc (.oL "sorted" p) [e] [⟨ab "key", .oL x np,kp⟩] gJ) (jY F d):=by
 let⟨fa,fd,FF,m,kpp,bd⟩:=C.ex;refine PE.pg (z0t FF hr bd m D2 hg hm he jI DU) ?_;rintro σ H Q ⟨G,en,nN,h⟩;simp only[jY,R.aw,aY]at h;refine⟨G,en,nN,h.vW (λw e1 h G1 v1 H1 r1 s1 p1=>?_) λ_ _ h=>h⟩
 let⟨wj,hf,h⟩:=h;cases w with
 |dI ws=>
  simp only[sQ]at hf;split at hf
  .rename_i DD;let⟨ns,lx,hf⟩:=w1x.mp hf;let⟨hl,ys,py,uy,rfl⟩:=zaR hf;let⟨pa,xs,rfl,q,rr⟩:=p1;have K3:xs.aj=ws.aj:=rr.aj;refine⟨pa,xs,rfl,r1.ri.pJ q,by omega,λlA yo o ks T9=>?_⟩
   rw[Cv]at T9 |-
   have tO:lA≠ks:=λz=>by grind [bT]
   have wI:H1 ks=none:=by simp_all [bh,Ne.symm]
   have gl:G1 lA=none:=r1.ri.rD yo;have gk:G1 ks=none:=r1.ri.rD wI;refine MH (G1:=G1) (H1:=H1) tO wI ns (λGc Hc g c1 c2 c3 c4 zs pz zdK=>?_) ws xs [] ns G1 _ rr lx rfl (((aK.uw r1.ri).ZA yo gl).ZA wI gk) gl gk (by grind [bh,bT]) bT
   let⟨zw,pw,rz⟩:=dj.perm pz (qg (K:=X.K) (G:=Gc) (ns:=ns) (aq.pg g.gg ws rr));have zdJ:=SW (Au rz zdK) (pw.ki py.symm) uy;cases Ji zdJ uy (pw.ki py.symm);have zcp:=(g.ZA (o:=.dI []) wI c2).ZA (o:=.dI (zs.aT (·.2))) yo c1;exact h Gc lA _ _ (r1.HF zcp) (s1.ki g.gg) bT c1 (sF r1 yo) (zD r1 yo) (nF (dj.aT (λ_ _ h=>h.2) rz))
  .cases hf
 |_=>cases hf
end
def zel{P:wO}{w:vq}{mg:d3->fv dS}{j3:gw}{k:ar}{st:Rl}{ps:ai d3}{F:ai W->FR}(A:At K mg x st ps)(hF:∀ws,F ws=.no:=by intro _;rfl):qU P w K mg j3 k x ps (oi K F):=by
 let⟨f,fd,F0,m,b⟩:=A.ex;exact⟨f,fd,⟨λvs H Q E h=>(Qa hF h).oP,λA qp s H args us vs Q E _ _ _ _ h=>(Qa hF h).oP⟩,m,F0.kp,b⟩
end D
namespace L2
open PySem PySem.Spec PyProof.Rows
def Y2{l:oa.W.δ}{K:â->Fg}{CX:vq->mU}{sp:vq->Sp}{xR:ai (f'×d3)}
  (hn:l._W=ab n)(m8:n<=vr)(rP:d.r5.Ç=[])(hr:bp k _c)
  (hY:∀(w:vq)(h:gw),YP w h->(K w.r5).In h)
  (F:∀(w:vq)(mg:d3->fv dS)(fa:f')(h:gw),(K w.r5).In h->h.Ns Yr mg->mg d.name=ab (.bj fa) ->
   ∃fd:ZT,(∀(s:oU)(u:dS),_L s fd ⟨[u],[]⟩ [(x,u)]) /\
    ∀j3:gw,(K w.r5).In j3->j3.Ns Yr mg->_J j3 mg->ei l.jd w (K w.r5) mg j3 (CX w) k fa fd [x] (sp w))
  (oA:∀(w:vq)(H:Hp)(a:f')(ns:ai a6),ns.aj<=n->(∀i∈ns,u5.a6.Ï i<=1048576)->bJ (K w.r5) H a (ns.aT V.aO)->sp w [.bj a] H (λv _=>v=.bl true) λ_ _ _=>vk)
  (uY:∀(w:vq)(H:Hp)(s:oU)(e:dS)(s':oU),CX w [] H s (λ_ _ _=>vk) e s'->vk)
  (hM:∀(w:vq) a q P,(a,iD P q)∈K w.r5->xR.gr P=ab q)(hT:∀(w:vq)(h:gw),YP w h->∀P q,xR.gr P=ab q->h.g0 P=ab (ϳ #[])/\Ē h P)(Kq:∀(w:vq) P q,xR.gr P=ab q->(K w.r5).gr P=none):
  oa.W.å q Ρ XP YP l.n9.ϡ d [] (λf vs=>oa.yd f vs):=by
 refine xp.zcz hn rP λw aA aE mg mb fa o pm cd Yx a vs ns G Y ho hd eE hmg mw Ϝ v_ zeA hg=>?_
 have KX:=hY w _ Y;let⟨fd,hb,hF⟩:=F w mg fa _ KX G.T.g hmg;exact YE KX G.T.g G.T.b G.T.ϔ G.T.Ó hg mw Ϝ (w0r v_ m8) hr hF hb (λH hS=>oA w H a ns v_ zeA hS) (λH e s'=>uY w H aE e s') G.T.bmain (hM w) (hT w _ Y) (Kq w)
end L2
namespace D
open PySem L2
variable{dA:ke (ai W)}{d:ke W}{j3:gw}{EE:L2.St->XK}{N:ai d3}{n:ar}{gJ:vY}{K:Fg}{x:d3}{mg:d3->fv dS}{w:vq}{Z:Zt}
section
variable{X:Cx}{K' xw a b:pN}{zb:ai pN}{d0 sc:yz}{pt:vY}{Nf:ai d3}{js:ai ar}{di:ke W}{c:ke fC}
def Y3{x0:d3}(S:iT x0 d0){p1 p2:vY}(hc:X.TR=true)(hm:X.mg "range"=none)(ha:DA Z X EE [a] dA)(ok:fJ sc d0 N Nf js=true)
  (ht:∀Z' cl C aA aG ex,qW Z' (X.cp ([x]++Nf) d0 cl C aA aG ex) (λ_=>E0) zb c)(he:∀Z' cl C aA aG ex,DE Z' (X.cp ([x]++Nf) d0 cl C aA aG ex) (λ_=>E0) K' d)
  (hg:∀cl C aA aG ex,PG (X.cp ([x]++Nf) d0 cl C aA aG ex) (.oL x pt) (bM 0))
  (D1:autoParam (Gl X "range") jJ)(m9:autoParam (p5 [a] X.a7=[(false,eval a X.a7)]) jJ)(hsc:autoParam (X.a7.d0=sc) jJ)(hN:autoParam (X.N=N) jJ)(hs:∀x,_g (.wc (.oL "range" p1) [a] [] p2) X.a7 x=vo x:=by intro _;rfl):
  DF Z X EE (.ZC K' [⟨.oL x pt,.wc (.oL "range" p1) [a] [] p2,zb,0⟩] d0 gJ) (cX eV js dA c d):=by
 exact PE.pg (M5 (Nl:=[x]) (tc:=cT X.K c) (te:=cE X.K d) hc (G_ D1 hm ha m9) (.mv ⟨_,S⟩) ok hg (AX ht) (AY he) hsc hN hs) Mt
end
def bW(r:ai fC):W:=.gs (r.aT .bl)
theorem Pd:∀x y:ai fC,bP (x.aT .bl) (y.aT .bl)=ab (decide (x=y))
 |[],[]=>rfl
 |[],_::_=>rfl
 |_::_,[]=>rfl
 |a::x,b::y=>by
  show(match eO (.bl a) (.bl b),bP (x.aT .bl) (y.aT .bl)with|ab p,ab q=>ab (p&&q)|_,_=>none)=_;rw[Pd x y];show ab ((a==b)&&decide (x=y))=_;congr 1
  grind
def RU(r):bN (bW r)<=1:=by
 have:∀r:ai fC,bE (r.aT .bl)=0:=λr=>by
  induction r with
  |rA=>rfl
  |qY b r ih=>show max 0 (bE (r.aT .bl))=0;omega
 show bE (r.aT .bl)+1<=1
 grind
abbrev kO:=ai fC×ar
variable{rs:ai (ai kO)}{r:ai kO}
def pT(p:kO):W:=.gs [.gs (p.1.aT .bl),.aO (p.2:a6)]
def gv(s:ai kO):W:=.dI (s.aT pT)
def RV(p q:kO):eO (pT p) (pT q)=ab (decide (p=q)):=by
 show(match bP (p.1.aT .bl) (q.1.aT .bl),ab (((p.2:a6)==(q.2:a6))&&true)with|ab a,ab b=>ab (a&&b)|_,_=>none)=_;rw[Pd];let⟨a,i⟩:=p;let⟨b,j⟩:=q;show ab (decide (a=b)&&(((i:a6)==(j:a6))&&true))=_;congr 1;rw[fC.Ŀ,w1w];simp;omega
def xg(x y:ai kO):eO (gv x) (gv y)=ab (decide (x=y)):=by
 show bP (x.aT pT) (y.aT pT)=_
 induction x generalizing y with
 |rA=>cases y<;>rfl
 |qY a x ih=>
  cases y with
  |rA=>rfl
  |qY b y=>
   show(match eO (pT a) (pT b),bP (x.aT pT) (y.aT pT)with|ab p,ab q=>ab (p&&q)|_,_=>none)=_;rw[RV,ih];show ab (decide (a=b)&&decide (x=y))=_;congr 1;rw[w1w];simp
def Qq(s:ai kO):bN (gv s)<=3:=by
 have h2:∀p,bN (pT p)<=2:=λp=>by
  show max (bN (bW p.1)) (max 0 0)+1<=2;have:=RU p.1;omega
 have:∀s:ai kO,bE (s.aT pT)<=2:=λs=>by
  induction s with
  |rA=>exact w1b _
  |qY b r ih=>exact ar.Ś.uR ⟨h2 b,ih⟩
 exact ar.succ_le_succ (this s)
def Qr{x y:ai kO}(h:gv x=gv y):x=y:=by
 have:=xg x y;rw[h,xg]at this
 simpa using this
open Classical in
def nX(w:W):fv (ai kO):=if h:∃r,w=gv r then ab h.ň else none
open Classical in
def j6(ws:ai W):fv (ai (ai kO)):=if h:∃rs:ai (ai kO),ws=rs.aT gv then ab h.ň else none
def z6n{w:W}(h:nX w=ab r):w=gv r:=by
 unfold nX at h;split at h
 .rename_i z;cases h;exact z.é
 .cases h
def zaS{ws:ai W}(h:j6 ws=ab rs):ws=rs.aT gv:=by
 unfold j6 at h;split at h
 .rename_i z;cases h;exact z.é
 .cases h
def z6o(r:ai kO):nX (gv r)=ab r:=by
 unfold nX;have h:∃q,gv r=gv q:=⟨r,rfl⟩;rw[Ō h,<- Qr h.é]
theorem Pe:∀{x y:ai (ai kO)},x.aT gv=y.aT gv->x=y
 |[],[],_=>rfl
 |[],_::_,h=>nomatch h
 |_::_,[],h=>nomatch h
 |a::x,b::y,h=>by
  injection h with h1 h2
  rw[Qr h1,Pe h2]
def zbg(rs:ai (ai kO)):j6 (rs.aT gv)=ab rs:=by
 unfold j6;have h:∃q:ai (ai kO),rs.aT gv=q.aT gv:=⟨rs,rfl⟩;rw[Ō h,<- Pe h.é]
def Y4{x:L2.V}{σ:L2.St}(I:je X cf σ H s)(sg:au G H)(hu:A.xT+3<xH)(hr:aq X.K G (rs.aT gv) xs)(px:p7 X.K G (gv r) x)(vl:sS xs ax)(rx:uu x v):
  ∃e:dS->fC,(∀k (hk:k<ax.aj),∃q,rs[k]?=ab q/\e ax[k]=decide (q=r))/\∀y∈ax,w7.Rh A s y v (e y):=by
 have _s:∀k (hk:k<ax.aj),∃q xk,rs[k]?=ab q/\p7 X.K G (gv q) xk/\uu xk ax[k]:=λk hk=>by
  have l1:=hr.aj;have l2:=vl.aj;rw[w0a]at l1;have hx:k<xs.aj:=by omega
  have hq:k<rs.aj:=by omega
  let⟨u1,e1,uq⟩:=vl.Df (w0b hx);let⟨w1,f1,p1⟩:=hr.iM (w0b hx)
  grind
 refine⟨λy=>@decide (∃k,∃(hk:k<ax.aj),ax[k]=y/\rs[k]?=ab r) (τ.ô _),?_⟩
 have first:∀k (hk:k<ax.aj),∃q,rs[k]?=ab q/\@decide (∃k',∃(kq:k'<ax.aj),ax[k']=ax[k]/\rs[k']?=ab r) (τ.ô _)=decide (q=r):=λk hk=>by
  let⟨q,xk,h1,h2,h3⟩:=_s k hk;refine⟨q,h1,?_⟩
  by_cases z:q=r
  .grind
  .rw[ZZ z];refine @ZZ _ (τ.ô _) ?_;rintro⟨k',kq,e1,e2⟩;let⟨q',xk',g1,g2,g3⟩:=_s k' kq;rw[g1]at e2;cases(e2);rw[e1]at g3;rw[g3.La h3]at g2;have:=zW I sg (gv q) h2 g2 (xg q r)
   grind
 refine⟨first,λy hy=>?_⟩
 let⟨k,hk,rfl⟩:=w1z.mp hy;let⟨q,h1,h2⟩:=first k hk
 refine(_d (w7.Rh A s ax[k] v) h2).uR ?_;let⟨q',xk,g1,g2,g3⟩:=_s k hk;rw[h1]at g1;cases g1;refine Im g3 (Il g2) (JS I sg 3 (Qq q) hu g2 px g3 rx (xg q r)) λz=>?_
 subst z;rw[g3.La rx]at g2;exact zW I sg (gv q) g2 px (xg q r)
def ia:W->ai W->fv W
 |.dI ws,[x]=>match nX x,j6 ws with
  |ab r,ab rs=>if r∈rs then ab (.aO (rs.S3 r:ar))else none
  |_,_=>none
 |_,_=>none
def nE(K:Fg):V->ai V->Hp->VK->Prop:=λv vs H Q=>∃(G:Hp)(b:f')(xs:ai V)(rs:ai (ai kO))(r:ai kO)(x:V),v=.bj b/\vs=[x]/\au G H/\bJ K G b xs/\aq K G (rs.aT gv) xs/\p7 K G (gv r) x/\r∈rs/\Q (.aO (rs.S3 r:ar)) H
def Y5(hu:X.A.xT+150<xH):uF X "list.index" (nE X.K):=by
 intro cf s σ H x vs v us Q I rx rv h;let⟨G,b,xs,rs,r,x0,rfl,rfl,sg,hB,hr,px,hm,q⟩:=h;cases rx;let⟨u,rfl,ru⟩:=rv.Zg;let⟨ax,vl,pl,hz⟩:=I.xE (sg.pJ hB);let⟨⟨oh,dd,oo,sl⟩,ho,hc,n,hd⟩:=pl.yP;simp only at hc hd;subst hc hd;have l1:=hr.aj;have l2:=vl.aj;rw[w0a]at l1;have hj:=w2i.uR hm;have D_:=fw;let⟨e,h1,h2⟩:=Y4 I sg (A:=X.A.Ko) (by grind) hr px vl ru;refine Ξ F.Ġ ⟨_,ho,rfl⟩ F.zb9 (F.zbP _ _) (w7.zcH b ax.k8 n dd sl u e (rs.S3 r) (by grind) (by omega) ?_ ?_) ⟨ho,?_,?_⟩
 .grind
 .intro m hm bR;have Ea:m<ax.aj:=by simpa using hm
  let⟨q,a1,a2⟩:=h1 m Ea;rw[ai.getElem_toArray,a2];refine ZZ λz=>?_
  have u9:m<rs.aj:=by omega
  rw[w0b u9]at a1;injection a1 with a1
  have:=w4t (p:=(·==r)) bR
  grind
 .grind
 .exact⟨.aO (rs.S3 r:ar),H,I.Yn _,⟨_,rfl⟩,q⟩
def Y6:A6 K (nE K) ia:=by
 intro G H x xs wx ws w Q s px pr hf h;unfold ia at hf;split at hf
 .rename_i us x0;let⟨y,r,rfl,py,pr⟩:=pr;cases(show r=[]from pr);split at hf
  .rename_i r rs h1 h2;split at hf
   .rename_i hm;cases hf;let⟨a,cs,rfl,hq,rp⟩:=px;rw[z6n h1]at py;rw[zaS h2]at rp;exact⟨G,a,cs,rs,r,y,rfl,rfl,s,hq,rp,py,hm,h G _ H (.uw s) rfl⟩
   .cases hf
  .cases hf
 .cases hf
section
variable{X:Cx}{a b o e:pN}{da db:ke W}
theorem y6n{YW bI:vY}(hu:X.A.xT+150<xH)(ho:DE Z X EE o d)(ha:DA Z X EE [e] dA)
  (dF:autoParam (Ϗ o "index" X.a7 (eval o X.a7)=eval o X.a7) jJ)
  (dJ:autoParam (((A4 bI (p5 [e] X.a7)).tB (λx=>!x.1)&&(ϐ bI (ϝ [] X.a7)).tB (λx=>x.1.Bt)&&decide ([e].aj+([]:ai ZI).aj+(if([]:ai ZI).UD then 0 else 1)<30))=true) jJ)
  (dN:autoParam ((YW.ϖ==bI.Yq)=true) jJ)(hs:autoParam (p5 [e] X.a7=(false,eval e X.a7)::p5 [] X.a7) jJ)(cK:autoParam ((A4 bI (p5 [] X.a7)).vb (·.1)=false) jJ):
  DE Z X EE (.wc (.Δ o "index" YW) [e] [] bI) (e5 "list" ia d dA):=
 Jd oa.F.ę oa.F.Ġ oa.F.zdE (Y5 hu) Y6 ho ha dF dJ dN hs cK
end
def Y7(h:r∈rs):ia (.dI (rs.aT gv)) [gv r]=ab (.aO (rs.S3 r:ar)):=by
 show(match nX (gv r),j6 (rs.aT gv)with|ab r,ab rs=>if r∈rs then ab (W.aO (rs.S3 r:ar))else none|_,_=>none)=_;rw[z6o,zbg];exact og h
@[inline] def zcP:Rl->d3
 |.ć x _ _ _ _ _ _ _ _ _=>x
 |_=>""
def E9(s:Rl):ai d3:=(d8 s).args.aT λx=>x.arg
def E7(s:Rl):ai d3:=(aZ s).pM.Ϯ λp=>match p.2 with
 |.local=>ab p.1
 |.t9=>ab p.1
 |_=>none
def wQ(N:ai d3)(js:ai ar):ai d3:=js.aT λj=>N.g6 j ""
theorem nj(h:cD sc d0 N (wQ N js) js=true):cD sc d0 N (wQ N js) js=true:=h
theorem UM(h:fJ sc d0 N (wQ N js) js=true):fJ sc d0 N (wQ N js) js=true:=h
theorem yO(h:decide N.x6=true):N.x6:=_X h
def uW(N P:ai d3)(sc:yz):fC:=sc.xx==.Z0&&!sc.ï&&!sc.ð&&decide N.x6&&N.vA P.aj==P&&P.tB (λx=>sc.pM.gr x==ab .local||sc.pM.gr x==ab .t9)&&sc.pM.tB λy=>y.2 != .rD
def RW(h:uW N P sc=true):fG N P sc:=by
 simp only[uW,w0t,fC.not_eq_true',w1c,_y,À,w1q,decide_eq_true_eq]at h;obtain⟨⟨⟨⟨⟨⟨h1,h2⟩,h3⟩,h4⟩,h5⟩,h6⟩,h7⟩:=h;exact⟨h1,h2,h3,h4,h5,h6,h7⟩
def qF(k m:ar)(d:ai S->SR)(ws:ai W):FR:=if ws.aj=k then(d (Z3 m ws)).fn else .no
def qL(k:ar)(d:ke W)(ws:ai W):FR:=if ws.aj=k then fo (d (ws.aT .fr))else .no
def xj{c:Prop} [ß c]{x:FR}(h:(if c then x else .no)≠.no):c/\(if c then x else .no)=x:=by
 split at h
 .rename_i q;exact⟨q,og q⟩
 .exact uP rfl h
section
variable{P:wO}
def tw{st:Rl}{ps:ai d3}{k:ar}{b:fC}{d:ai S->SR}{f:f'}{fd:ZT}(F0:xy K x x st f fd)(m:mg x=ab (.bj f))(hm:b=true->∀f oc od fd sl,mg x=ab (.bj f)->K.gr f=ab ⟨oc,od,.Zn fd,sl⟩->kZ K x fd._P)(sc:fG N ps (aZ st))
  (hb:∀(f:f')(ez:dS)(A:C7)(qp:ai Rb)(s:oU)(H:Hp)(E:XK)(Z:Zt),bp k (A.ZE (L1.Mk._e x (aZ st) s.a5.fy.dt f ez))->(Z.H=H/\Z.io=[])->(b=true->kZ K x ez) ->
   mV Z (iG (eh P w) P w K mg j3 N x (aZ st) f ez A qp s H E) (λ_=>E) (cH st) d):ei P w K mg j3 (eh P w) (k+1) f fd ps (oi K (qF ps.aj N.aj d)):=by
 let⟨oc,od,kV,Yx,pm,an,ez,ct,vB,rfl,lk,eE⟩:=F0.ex;refine Su lk eE sc (λvs H Q E h=>?_) (λA qp s H vs Q E hr h=>?_)
 .let⟨G,ws,hn,r⟩:=P1 h;exact r.aj.ki (xj hn).1
 .let⟨G,ws,sg,rp,h⟩:=h;have hn:qF ps.aj N.aj d ws≠.no:=λz=>by rw[z]at h;exact h
  exact⟨_,hb f ez A qp s H E ⟨H,G,[]⟩ hr ⟨rfl,rfl⟩ (λz=>hm z f _ _ _ _ m lk),G,Z3 N.aj ws,Ih sg rp,z3o (xj hn).2.symm h⟩
def Dq{st:Rl}{ps:ai d3}{k:ar}{b:fC}{d:ai S->SR}(A:At K mg x st ps)(hm:b=true->∀f oc od fd sl,mg x=ab (.bj f)->K.gr f=ab ⟨oc,od,.Zn fd,sl⟩->kZ K x fd._P)(sc:fG N ps (aZ st))
  (hb:∀(f:f')(ez:dS)(A:C7)(qp:ai Rb)(s:oU)(H:Hp)(E:XK)(Z:Zt),bp k (A.ZE (L1.Mk._e x (aZ st) s.a5.fy.dt f ez))->(Z.H=H/\Z.io=[])->(b=true->kZ K x ez) ->
   mV Z (iG (eh P w) P w K mg j3 N x (aZ st) f ez A qp s H E) (λ_=>E) (cH st) d):qU P w K mg j3 (k+1) x ps (oi K (qF ps.aj N.aj d)):=by
 let⟨f,fd,F0,m,bd⟩:=A.ex;exact⟨f,fd,tw F0 m hm sc hb,m,F0.kp,bd⟩
theorem vj{l:Lm}{ps:ai d3}(h1:gB ps l.nf l.d0)(h2:∀(cl:ai (d3×f'))(pm:dS)(c':f')(cP:dS)(us:ai dS),us.aj=ps.aj->Ν (ϰ "<lambda>" l.p6 l.r5 l.rK l.d0 cl pm (.bj c') cP) ⟨us,[]⟩=vo (ps.wk us))
  (hb:∀(Z:Zt)(f:f')(cd:dS)(cl:ai (d3×f'))(A:C7)(qp:ai Rb)(s:oU)(H:Hp),bp n (A.ZE (df l.p6 l.d0 f cd cl s))->DE Z (gF P w K mg j3 (ps++l.nf) l.p6 l.d0 f cd cl A qp s H) (λ_=>E0) l.rK d):
  jR P w K mg j3 n l ps (qL (ps.aj+l.nf.aj) d):=
 ⟨h1,h2,λws h=>(xj h).1,λws h Z f cd cl A qp s H hr=>⟨d,hb Z f cd cl A qp s H hr,(xj h).2.symm⟩⟩
end
theorem UN{sc d0:yz}{js:ai ar}(h:kB sc d0 N (wQ N js) js=true):kB sc d0 N (wQ N js) js=true:=h
def z6p{P:wO}{lams:ar->fv Lm}{r:ar->ai W->FR}(h:∀i l,lams i=ab l->(∃ps,jR P w K mg j3 n l ps (r i))\/∃x,kf P w K mg j3 n l x (r i)):
  om P w K mg j3 (eh P w) (n+1) (ur K lams r):=by
 rintro x vs H Q E ⟨G,i,l,aH,ws,w',sg,rf,rv,nw,nc,hl,hr,q⟩
 have e:∀j m,(if j=i then ab l else none:fv Lm)=ab m->j=i/\m=l:=λj m e=>by
  split at e
  .cases e;exact⟨by assumption,rfl⟩
  .cases e
 rcases h i l hl with h1|h1
 .exact RQ (lams:=λj=>if j=i then ab l else none) (λj m z=>by let⟨rfl,rfl⟩:=e j m z;exact h1) x vs H Q E ⟨G,i,l,aH,ws,w',sg,rf,rv,nw,nc,og rfl,hr,q⟩
 .exact z6i (lams:=λj=>if j=i then ab l else none) (λj m z=>by let⟨rfl,rfl⟩:=e j m z;exact h1) x vs H Q E ⟨G,i,l,aH,ws,w',sg,rf,rv,nw,nc,og rfl,hr,q⟩
section
variable{P:wO}
theorem zeu{l:Lm}(h1:du x l.nf l.d0)(h2:∀(cl:ai (d3×f'))(pm:dS)(c':f')(cP u:dS),Ν (ϰ "<lambda>" l.p6 l.r5 l.rK l.d0 cl pm (.bj c') cP) ⟨[u],[]⟩=vo [(x,u)])
  (hb:∀(Z:Zt)(f:f')(cd:dS)(cl:ai (d3×f'))(A:C7)(qp:ai Rb)(s:oU)(H:Hp),bp n (A.ZE (df l.p6 l.d0 f cd cl s))->DE Z (gF P w K mg j3 ([x]++l.nf) l.p6 l.d0 f cd cl A qp s H) (λ_=>E0) l.rK d):
  kf P w K mg j3 n l x (qL (1+l.nf.aj) d):=
 ⟨h1,h2,λws h=>(xj h).1,λws h Z f cd cl A qp s H hr=>⟨d,hb Z f cd cl A qp s H hr,(xj h).2.symm⟩⟩
end
end D
namespace Dh
def su(a:a6)(n9:ai fC):a6:=n9.ym (λsT b=>2*sT+(if b=true then 1 else 0)) a
def num(n9:ai fC):a6:=su 0 n9
def b2(b:fC):a6:=if b=true then 1 else 0
def Y8(a)(n9)(b):su a (n9++[b])=2*su a n9+b2 b:=by
 unfold su;rw[ai.foldl_append];rfl
theorem Pf:num []=0:=rfl
theorem N3(n9)(b):num (n9++[b])=2*num n9+b2 b:=Y8 0 n9 b
def z04(b):b2 b=0\/b2 b=1:=by cases b<;>simp[b2]
def z05{P:ai fC->Prop}(h0:P [])(h1:∀l b,P l->P (l++[b])):∀l,P l:=by
 intro l
 have:∀r:ai fC,P r.UE:=by
  intro r
  induction r with
  |rA=>simpa using h0
  |qY b r ih=>grind
 have:=this l.UE
 grind
def X0(n9):0<=num n9/\num n9<2^n9.aj:=by
 induction n9 using z05 with
 |h0=>simp[Pf]
 |h1 l b ih=>
  rw[N3,w1t,w4x,w4i]
  grind [z04]
def Zu:ar->a6->ai fC
 |0,_=>[]
 |m+1,n=>decide (n%2=1)::Zu m (n / 2)
def wb:ar->a6->a6
 |0,n=>n
 |m+1,n=>wb m (n / 2)
theorem zS:∀m n,(Zu m n).aj=m
 |0,_=>rfl
 |m+1,n=>by rw[Zu,w0v,zS m]
theorem MI:∀m n,Zu (m+1) n=Zu m n++[decide (wb m n%2=1)]
 |0,n=>rfl
 |m+1,n=>by rw[Zu,MI m (n / 2),Zu,wb];rfl
theorem MJ:∀m n,wb (m+1) n=wb m n / 2
 |0,n=>rfl
 |m+1,n=>by rw[wb,MJ m (n / 2)];rfl
def N4(m):∀n:a6,n=num (Zu m n).UE+2^m*wb m n:=by
 induction m with
 |UQ=>grind [Zu,wb,Pf]
 |UI m ih=>
  intro n;rw[Zu,wb,w2y,N3,w4i]
  grind [b2]
def z06(m):(0:a6)<2^m:=by
 induction m with
 |UQ=>decide
 |UI m ih=>rw[w4i];omega
def ML{m:ar}{n:a6}(h0:0<=n)(h1:n<2^m):wb m n=0:=by
 have h:=N4 m n;have hb:=X0 (Zu m n).UE;rw[w5j,zS]at hb;have hp:=z06 m
 by_cases hr:wb m n=0
 .exact hr
 .exfalso;rcases a6.lt_or_gt_of_ne hr with h2|h2
  .have:2^m*wb m n<=2^m*(-1):=w3u (by omega) (by omega);omega
  .have:2^m*1<=2^m*wb m n:=w3u (by omega) (by omega);omega
def z07(h0:0<=n)(h1:n<2^m):num (Zu m n).UE=n:=by
 have h:=N4 m n;rw[ML h0 h1,a6.mul_zero]at h;omega
def part(n9:ai fC)(i:ar):a6:=num (n9.vA i)*2^(n9.aj-i)
end Dh
namespace Q
open PySem L2 D
variable{j3:gw}{T:ai (ai fC)}{tl:ai ar}{ws:ai W}{L L' i j n p q:ar}{B:ar->Prop}{K:Fg}{mg:d3->fv dS}{α:Type}
seal DE DF DT DW DA DS mV qW DO Rf PE PT PW PA PS lV PG xF PI PF qx PC fe xJ oN dg xI uF Di tf PO
theorem us1{P:ai α->Prop}(h:∀x0,P [x0]):∀us:ai α,us.aj=1->P us
 |[x0],_=>h x0
theorem us2{P:ai α->Prop}(h:∀x0 x1,P [x0,x1]):∀us:ai α,us.aj=2->P us
 |[x0,x1],_=>h x0 x1
theorem us3{P:ai α->Prop}(h:∀x0 x1 x2,P [x0,x1,x2]):∀us:ai α,us.aj=3->P us
 |[x0,x1,x2],_=>h x0 x1 x2
@[inline] def zdB(i:ar):Rl:=oa.ą.pw_circuits_k69_whole_back.main.rK.g6 i (.Pass ⟨0,0,0,0⟩)
structure uD(P:wO)(w:vq)(K:Fg)(mg:d3->fv dS):Prop where
 J9:mg "all"=none
 J_:mg "any"=none
 tp:mg "enumerate"=none
 J':mg "int"=none
 Ka:mg "len"=none
 Dn:mg "list"=none
 Kb:mg "max"=none
 xN:mg "min"=none
 rl:mg "range"=none
 uM:mg "reversed"=none
 xO:mg "sorted"=none
 Ba:mg "tuple"=none
 Kc:mg "zip"=none
 CG:∃d,mg "SIGNS"=ab (.bj d)/\mX w K d
structure aI where
 zcx:f'
 zc8:f'
 zej:f'
 zc9:f'
 zcV:f'
 zcQ:f'
 dz:dS
 dy:dS
 i8:dS
 gD:dS
 iy:dS
variable{a:aI}
structure qX(K:Fg)(mg:d3->fv dS)(a:aI):Prop where
 z:kc
 zfk:mg "CircuitError"=ab (.bj a.zcx)
 zfs:mg "NoPlace"=ab (.bj a.zc8)
 zeN:mg "NoRow"=ab (.bj a.zej)
 zft:mg "NoTable"=ab (.bj a.zc9)
 zfp:mg "TooGreat"=ab (.bj a.zcV)
 zfn:mg "NoMachine"=ab (.bj a.zcQ)
 lI:mg "MOST_PLACES_tables"=ab a.dz
 lH:mg "MOST_PLACES_covers"=ab a.dy
 sm:mg "MOST_CELLS"=ab a.i8
 pK:mg "MOST_ANSWERS"=ab a.gD
 qH:mg "MOST_WISHED"=ab a.iy
 lq:cU K (.aO 10) a.dz=true
 ll:cU K (.aO 4) a.dy=true
 rL:cU K (.aO 4) a.i8=true
 o9:cU K (.aO 6) a.gD=true
 qA:cU K (.aO 4) a.iy=true
 nt:d4 K
abbrev zT:ar:=0
abbrev pW:ar:=1
abbrev zt:ar:=2
abbrev GX:ar:=3
abbrev zH:ar:=4
abbrev zu:ar:=5
abbrev Gp:ar:=6
abbrev qI:ar:=7
abbrev BJ:ar:=8
abbrev Cp:ar:=9
abbrev vP:ar:=10
abbrev GH:ar:=11
abbrev BW:ar:=12
abbrev Fb:ar:=13
abbrev vH:ar:=14
abbrev BC:ar:=15
abbrev zm:ar:=16
abbrev CK:ar:=17
abbrev Iy:ar:=18
abbrev Gq:ar:=19
abbrev GI:ar:=20
abbrev FL:ar:=21
abbrev FN:ar:=22
abbrev wW:ar:=23
abbrev Fc:ar:=24
abbrev Fw:ar:=25
abbrev FO:ar:=26
abbrev F6:ar:=27
abbrev pV:ar:=28
abbrev IA:ar:=29
abbrev zU:ar:=30
abbrev FP:ar:=31
abbrev F7:ar:=32
abbrev Jj:ar:=33
abbrev Fp:ar:=34
abbrev GJ:ar:=35
abbrev B2:ar:=36
abbrev B8:ar:=37
abbrev GK:ar:=38
abbrev Fd:ar:=39
abbrev BO:ar:=40
abbrev uf:ar:=41
abbrev Fq:ar:=42
abbrev F8:ar:=43
abbrev BD:ar:=44
abbrev zx:ar:=45
abbrev Gr:ar:=46
abbrev Gs:ar:=47
abbrev Fx:ar:=48
abbrev zj:ar:=49
abbrev B3:ar:=50
abbrev Fe:ar:=51
abbrev BP:ar:=52
abbrev Fy:ar:=53
abbrev F9:ar:=54
abbrev F_:ar:=55
abbrev wX:ar:=56
abbrev JV:ar:=57
@[inline] def zdA:ai ar:=[8,9,10,13,14,15,17,18,19,20,22,23,26,27,28,29,32,33,34,35,36,37,38,39,40,41,43,44,45,46,47,49,50,51,53,54,55,56,56,58,59,61,62,67,68,69,70,71,72,74,75,76,77,78,79,80,81,82]
@[inline] abbrev s8(i:ar):Rl:=zdB (zdA.g6 i 0)
@[inline] def n8(i:ar):d3:=zcP (s8 i)
def ps(i:ar):ai d3:=E9 (s8 i)
def Ns:ar->ai d3
 |29=>["reaches", "left"]
 |36=>["circuit", "rows", "found"]
 |41=>["machine", "states", "kinds", "found", "numbers", "number"]
 |i=>E7 (s8 i)
def lv:ar->ar
 |26=>2
 |28=>1
 |29=>1
 |43=>2
 |48=>2
 |57=>2
 |_=>0
theorem CD(h:i<58):fG (Ns i) (ps i) (aZ (s8 i)):=RW ((by decide +kernel:∀i,i<58->uW (Ns i) (ps i) (aZ (s8 i))=true) i h)
abbrev GL:pN:=(kwAt 0 (nG (sR 0 (s8 29))))
abbrev B5:Lm:=⟨("rarest"++".<locals>.")++"<lambda>", fL GL,iY GL,gP GL,["reaches"]⟩
abbrev vJ:ar:=58
abbrev Fz:pN:=(oT 1 (nG (sR 1 (s8 36))))
abbrev mJ:Lm:=⟨("machine_of"++".<locals>.")++"<lambda>", fL Fz,iY Fz,gP Fz,["circuit", "rows"]⟩
abbrev oE:ar:=59
abbrev GY:pN:=(oT 1 (nG (sR 3 (s8 41))))
abbrev w5:Lm:=⟨("small"++".<locals>.")++"<lambda>", fL GY,iY GY,gP GY,["states", "kinds"]⟩
abbrev FQ:ar:=60
abbrev GZ:pN:=(oT 1 (zdS (nG (sR 5 (s8 41)))))
abbrev wZ:Lm:=⟨("small"++".<locals>.")++"<lambda>", fL GZ,iY GZ,gP GZ,["states"]⟩
abbrev FT:ar:=61
def lams:ar->fv Lm
 |58=>ab B5
 |59=>ab mJ
 |60=>ab w5
 |61=>ab wZ
 |_=>none
theorem Wd:lams 58=ab B5:=rfl
theorem U5:lams 59=ab mJ:=rfl
theorem WM:lams 60=ab w5:=rfl
theorem WN:lams 61=ab wZ:=rfl
set_option hygiene false
local macro_rules|`(Lean.Parser.Command.declaration|def $i:ident:=$v)=>if v.raw.isOfKind ``Lean.Parser.Term.explicit||v.raw.isOfKind ``Lean.Parser.Term.byTactic then Lean.Macro.throwUnsupported else `(Lean.Parser.Command.declaration|noncomputable def $i:ident(K:Fg)(a:aI)(r:Nat->List W->FR):=$v)
set_option hygiene true
def BE:=
 (cw bG (ae (ao (r zU) (ae (af 1) (ae (af 0) ag))) ag))
def Li:=
 (ao (r Jj) (ae (af 2) (ae (af 1) (ae (af 0) ag))))
def BB:=
 (eN (bx [0,1] (af 2) bB (Li K a r)))
def BQ:=
 (ao (r Fq) (ae (af 1) (ae (af 2) (ae (af 0) ag))))
def BR:=
 (ak aW (af 1) (af 0))
def GN:=
 (ah (dZ 2 (ae (ak yN (ak bY (af 3) (dC (.aO 2))) (dC (.aO 1))) ag))
  (aD 3 (ak cx (af 3) (dC (.aO 2)))))
def HZ:=
 (ah (b7 2 (cQ ag))
  (ah (aD 3 (af 0))
  (ah (eC 4 eV (ae (af 1) ag)
  (GN K a r))
  (ah (a9 (ay (ak Zx (af 3) (dC (.aO 0))))
  mZ
  c_)
  (aJ (me gY (af 2)))))))
def zo:=
 (aD 1 (ak gR (dC (.aO 2)) (af 1)))
def BX:=
 (ah (aD 1 (dC (.aO 1)))
  (ah (eC 2 eV (ae (af 0) ag)
  (zo K a r))
  (aJ (af 1))))
def LJ:=
 (ao (r zT) (ae (af 0) (ae (af 1) ag)))
def GO:=
 (dD (cX eV [0] (ae (ao (r pW) (ae (af 0) ag)) ag) bB (LJ K a r)))
def Gu:=
 (md (ak j0 (af 0) (dC .aF)) (ak yN (af 0) (af 1)))
def G5:=
 (ah (a9 (ay (ak Zx (cw bG (ae (af 0) ag)) (cw bG (ae (af 1) ag))))
  (aJ (dC (.bl false)))
  c_)
  (aJ (cw ύ (ae (eN (cW [] (mR (ae (af 0) (ae (af 1) ag))) bB (Gu K a r))) ag))))
def Md:=
 (af 0)
def Me:=
 (f_ (ao (r GX) (ae (af 2) (ae (af 1) ag))))
def G6:=
 (dD (cW [0] (lP (ae (ao (r zt) (ae (cw bG (ae (af 0) ag)) ag)) ag)) (Me K a r) (Md K a r)))
def LF:=
 (me sO (af 0))
def Gv:=
 (aJ (e5 "str" lD (dC (.str "")) (ae (eN (bx [] (af 0) bB (LF K a r))) ag)))
def Gw:=
 (ah (a9 (ay (ak yN (ak aW (af 0) (dC (.aO 0))) (dC (.str "is"))))
  (aJ (aV (ae (dC (.str "is")) (ae (gH (ak aW (af 0) (dC (.aO 1)))) ag))))
  c_)
  (aJ (aV (ae (dC (.str "not")) (ae (af 0) ag)))))
def Jk:=
 (ah (a9 (ay (ak yN (ak aW (af 1) (dC (.aO 0))) (dC (.str "is"))))
  (aJ (ao (r BJ) (ae (af 0) (ae (ak aW (af 1) (dC (.aO 1))) (ae (af 2) ag)))))
  c_)
  (ah (a9 (ay (ak yN (ak aW (af 2) (dC (.aO 0))) (dC (.str "is"))))
  (aJ (ao (r BJ) (ae (af 0) (ae (ak aW (af 2) (dC (.aO 1))) (ae (af 1) ag)))))
  c_)
  (aJ (aV (ae (af 0) (ae (af 1) (ae (af 2) ag)))))))
def Ga:=
 (ah (a9 (ay (ak yN (af 0) (dC (.str "and"))))
  (aJ (tD (f_ (af 1)) (af 2) (aV (ae (dC (.str "is")) (ae (dC (.bl false)) ag)))))
  c_)
  (ah (a9 (ay (ak yN (af 0) (dC (.str "or"))))
  (aJ (tD (f_ (af 1)) (aV (ae (dC (.str "is")) (ae (dC (.bl true)) ag))) (af 2)))
  c_)
  (aJ (tD (f_ (af 1)) (ao (r Gp) (ae (af 2) ag)) (af 2)))))
def H_:=
 (ah (aD 3 (aV (ae (dC (.str "at")) (ae (af 0) ag))))
  (ah (a9 (ay (ak yN (af 1) (aV (ae (dC (.str "is")) (ae (dC (.bl true)) ag)))))
  (aJ (ao (r qI) (ae (dC (.str "or")) (ae (aV (ae (dC (.str "not")) (ae (af 3) ag))) (ae (af 2) ag)))))
  c_)
  (ah (a9 (ay (ak yN (af 2) (aV (ae (dC (.str "is")) (ae (dC (.bl true)) ag)))))
  (aJ (ao (r qI) (ae (dC (.str "or")) (ae (af 3) (ae (af 1) ag)))))
  c_)
  (aJ (ao (r qI) (ae (dC (.str "or")) (ae (ao (r qI) (ae (dC (.str "and")) (ae (aV (ae (dC (.str "not")) (ae (af 3) ag))) (ae (af 1) ag)))) (ae (ao (r qI) (ae (dC (.str "and")) (ae (af 3) (ae (af 2) ag)))) ag))))))))
def uc:=
 (ah (aD 2 (ak aW (af 0) (dC (.aO 0))))
  (ah (a9 (ay (ak yN (af 2) (dC (.str "is"))))
  (aJ (ak aW (af 0) (dC (.aO 1))))
  c_)
  (ah (a9 (ay (ak yN (af 2) (dC (.str "at"))))
  (aJ (ao (r GH) (ae (af 1) (ae (ak aW (af 0) (dC (.aO 1))) ag))))
  c_)
  (ah (a9 (ay (ak yN (af 2) (dC (.str "not"))))
  (aJ (gH (ao (r vP) (ae (ak aW (af 0) (dC (.aO 1))) (ae (af 1) ag)))))
  c_)
  (ah (aD 3 (ao (r vP) (ae (ak aW (af 0) (dC (.aO 1))) (ae (af 1) ag))))
  (ah (aD 4 (ao (r vP) (ae (ak aW (af 0) (dC (.aO 2))) (ae (af 1) ag))))
  (ah (a9 (ay (ak yN (af 2) (dC (.str "and"))))
  (aJ (jc (af 3) (af 4)))
  c_)
  (ah (a9 (ay (ak yN (af 2) (dC (.str "or"))))
  (aJ (md (af 3) (af 4)))
  c_)
  (aJ (ak Zx (af 3) (af 4)))))))))))
def GP:=
 (ah (a9 (qy (ay (ak l4 (af 1) (dC (.aO 0)))) (ay (ak wG (af 1) (cw bG (ae (af 0) ag)))))
  mZ
  c_)
  (aJ (ak aW (af 0) (af 1))))
def FU:=
 (a9 (ay (ak yN (cw bG (ae (af 0) ag)) (ao (r pW) (ae (af 1) ag))))
  (aJ (af 1))
  c_)
def Gx:=
 (ah (eC 1 eV (ae (ak bA (dC (.aO 10)) (dC (.aO 1))) ag)
  (FU K a r))
  mZ)
def Fs:=
 (ah (jf (ao (r BW) (ae (af 0) ag)))
  (aJ (ao (r vH) (ae (af 0) (ae (dC (.aO 0)) ag)))))
def LG:=
 (gH (af 0))
def BY:=
 (ah (a9 (f_ (ao (r BC) (ae (af 0) ag)))
  (aJ (aV (ae (dC (.str "is")) (ae (ak aW (af 0) (dC (.aO 0))) ag))))
  c_)
  (ah (aD 2 (ak cx (cw bG (ae (af 0) ag)) (dC (.aO 2))))
  (ah (aD 3 (ou (af 0) c0 (eD (af 2))))
  (ah (aD 4 (ou (af 0) (eD (af 2)) c0))
  (ah (aD 5 (ao (r vH) (ae (af 3) (ae (ak bA (af 1) (dC (.aO 1))) ag))))
  (ah (a9 (ay (ak yN (af 3) (af 4)))
  (aJ (af 5))
  c_)
  (ah (a9 (iH (ko (f_ (ao (r BC) (ae (af 3) ag)))) (ay (ak yN (af 4) (eN (bx [] (af 3) bB (LG K a r))))))
  (aJ (aV (ae (dC (.str "odd")) (ae (af 5) (ae (aV (ae (dC (.str "at")) (ae (af 1) ag))) ag)))))
  c_)
  (aJ (ao (r Cp) (ae (af 1) (ae (af 5) (ae (ao (r vH) (ae (af 4) (ae (ak bA (af 1) (dC (.aO 1))) ag))) ag))))))))))))
def Lo:=
 (ak yN (af 0) (ak aW (af 1) (dC (.aO 0))))
def FA:=
 (aJ (cw ύ (ae (eN (bx [0] (af 0) bB (Lo K a r))) ag)))
def FV:=
 (ah (aD 1 (ao (r BW) (ae (af 0) ag)))
  (ah (a9 (ay (ak kP (af 1) (dC (.aO 4))))
  mZ
  c_)
  (aJ (af 1))))
def N5:=
 (ak gh (ak aW (af 1) (af 0)) (dC (.bl false)))
def JC:=
 (ah (a9 (ay (ak Zx (ao (r zm) (ae (af 1) ag)) (cw bG (ae (af 0) ag))))
  (aJ (dC (.bl false)))
  c_)
  (aJ (cw ύ (ae (eN (bx [1] (ao (r zH) (ae (af 0) ag)) bB (N5 K a r))) ag))))
def Mm:=
 (af 0)
def Mn:=
 (f_ (ao (r GI) (ae (af 0) (ae (af 1) ag))))
def Ia:=
 (dD (bx [0] (ao (r Gq) (ae (ao (r zm) (ae (af 0) ag)) ag)) (Mn K a r) (Mm K a r)))
def BS:=
 (ma 3 (ae (eN (cQ (ae (ak bA (af 4) (aV (ae (dC .aF) ag))) (ae (ak bA (af 4) (aV (ae (dC (.bl false)) ag))) (ae (ak bA (af 4) (aV (ae (dC (.bl true)) ag))) ag))))) ag))
def FW:=
 (ah (b7 3 (cQ ag))
  (ah (iI 4 (af 1)
  (BS K a r))
  (aD 1 (af 3))))
def Gy:=
 (ah (aD 1 (eN (cQ (ae (aV ag) ag))))
  (ah (eC 2 eV (ae (af 0) ag)
  (FW K a r))
  (aJ (af 1))))
def LS:=
 (ao (r CK) (ae (af 0) (ae (af 1) ag)))
def LU:=
 (ak j0 (ak aW (af 1) (af 0)) (dC (.bl true)))
def GQ:=
 (ah (a9 (ko (f_ (ao (r CK) (ae (af 0) (ae (af 1) ag)))))
  (aJ (dC (.bl false)))
  c_)
  (ah (a9 (ko (f_ (cw l9 (ae (eN (bx [1] (ao (r zH) (ae (af 0) ag)) bB (LU K a r))) ag))))
  (aJ (dC (.bl false)))
  c_)
  (aJ (gH (cw l9 (ae (eN (bx [1] (ao (r FL) (ae (af 0) ag)) bB (LS K a r))) ag))))))
def Ll:=
 (ak bA (ak bA (ou (af 1) c0 (eD (af 0))) (aV (ae (dC .aF) ag))) (ou (af 1) (eD (ak bA (af 0) (dC (.aO 1)))) c0))
def Ln:=
 (ay (ak gh (ak aW (af 1) (af 0)) (dC .aF)))
def FX:=
 (dD (cX eV [0] (ae (cw bG (ae (af 0) ag)) ag) (Ln K a r) (Ll K a r)))
def Ly:=
 (af 0)
def Lz:=
 (ay (ak j0 (af 1) (dC (.bl true))))
def FY:=
 (ah (jf (ao (r zm) (ae (af 0) ag)))
  (dD (cW [] (lP (ae (af 0) ag)) (Lz K a r) (Ly K a r))))
def LH:=
 (af 0)
def LI:=
 (ay (ak kF (af 0) (af 1)))
def Gz:=
 (dD (bx [1] (af 0) (LI K a r) (LH K a r)))
def zc:=
 (aD 1 (ao (r qI) (ae (dC (.str "or")) (ae (af 1) (ae (ao (r Fw) (ae (af 2) ag)) ag)))))
def Ft:=
 (ah (aD 1 (aV (ae (dC (.str "is")) (ae (dC (.bl false)) ag))))
  (ah (iI 2 (af 0)
  (zc K a r))
  (aJ (af 1))))
def vI:=
 (a9 (ay (ak j0 (af 3) (dC (.bl true))))
  (aD 1 (ao (r qI) (ae (dC (.str "and")) (ae (af 1) (ae (aV (ae (dC (.str "at")) (ae (af 2) ag))) ag)))))
  (a9 (ay (ak j0 (af 3) (dC (.bl false))))
  (aD 1 (ao (r qI) (ae (dC (.str "and")) (ae (af 1) (ae (aV (ae (dC (.str "not")) (ae (aV (ae (dC (.str "at")) (ae (af 2) ag))) ag))) ag)))))
  c_))
def FD:=
 (ah (aD 1 (aV (ae (dC (.str "is")) (ae (dC (.bl true)) ag))))
  (ah (gG 2 3 (jv (ae (af 0) ag))
  (vI K a r))
  (aJ (af 1))))
def yZ:=
 (ay (ak yN (ak aW (af 5) (dC (.aO 0))) (dC (.str "tree"))))
def BH:=
 (ah (aD 4 (ak aW (af 5) (dC (.aO 1))))
  (ah (aD 3 (ak bA (af 3) (dC (.aO 1))))
  (aD 5 (ao (r pV) (ae (af 1) (ae (af 2) (ae (af 3) ag)))))))
def FZ:=
 (ah (aD 1 (ao (r F6) (ae (af 0) ag)))
  (ah (aD 2 (ao (r FN) (ae (af 0) ag)))
  (ah (aD 3 (dC (.aO 0)))
  (ah (aD 4 (dC .aF))
  (ah (aD 5 (ao (r pV) (ae (af 1) (ae (af 2) (ae (af 3) ag)))))
  (ah (bg (yZ K a r)
  (BH K a r) 1000000)
  (aJ (aV (ae (eN (jY (r zu) (ak aW (af 5) (dC (.aO 1))))) (ae (af 4) ag))))))))))
def Lv:=
 (aV (ae (af 0) (ae (ao (r zH) (ae (af 0) ag)) ag)))
def Gb:=
 (dD (bx [] (ao (r Iy) (ae (af 0) ag)) bB (Lv K a r)))
def t7:=
 (ah (aD 7 (ao (r pV) (ae (af 0) (ae (ao (r wW) (ae (af 1) (ae (af 6) ag))) (ae (ak qk (af 2) (dC (.aO 1))) ag)))))
  (ah (a9 (ay (ak yN (ak aW (af 7) (dC (.aO 0))) (dC (.str "cover"))))
  (aJ (aV (ae (dC (.str "cover")) (ae (ak bA (eN (cQ (ae (af 5) ag))) (ak aW (af 7) (dC (.aO 1)))) ag))))
  c_)
  (dZ 4 (ae (aV (ae (af 5) (ae (ak aW (af 7) (dC (.aO 1))) ag))) ag))))
def zX:=
 (ah (a9 (ay (ak yN (cw bG (ae (af 1) ag)) (dC (.aO 0))))
  (aJ (aV (ae (dC (.str "cover")) (ae (eN (cQ ag)) ag))))
  c_)
  (ah (aD 3 (ao (r IA) (ae (af 0) (ae (af 1) ag))))
  (ah (a9 (ay (ak yN (af 2) (dC (.aO 0))))
  (aJ (aV (ae (dC (.str "tree")) (ae (aV (ae (af 3) (ae (aV ag) ag))) ag))))
  c_)
  (ah (b7 4 (cQ ag))
  (ah (gG 5 6 (gU (ao (r zU) (ae (af 0) (ae (af 3) ag))))
  (t7 K a r))
  (aJ (aV (ae (dC (.str "tree")) (ae (aV (ae (af 3) (ae (cw iw (ae (af 4) ag)) ag))) ag)))))))))
def Ib:=
 (aJ (jU r 58 [0] (af 1)))
def Mo:=
 (af 0)
def Mz:=
 (ay (ak vd (af 1) (ak aW (af 0) (dC (.aO 1)))))
def Ic:=
 (dD (bx [1] (af 0) (Mz K a r) (Mo K a r)))
def LA:=
 (af 0)
def F1:=
 (aJ (cw iw (ae (eN (cW [] (gU (ak aW (af 0) (dC (.aO 1)))) bB (LA K a r))) ag)))
def Lw:=
 (af 1)
def Gd:=
 (dD (cW [] (gU (ak aW (af 0) (dC (.aO 1)))) bB (Lw K a r)))
def MM:=
 (ao (r vP) (ae (af 0) (ae (af 1) ag)))
def vM:=
 (ao (r vP) (ae (af 0) (ae (af 1) ag)))
def Jl:=
 (ah (aD 3 (ak bA (af 2) (af 1)))
  (ah (aD 4 (cw iw (ae (eN (bx [3] (ak aW (af 0) (dC (.aO 2))) bB (vM K a r))) ag)))
  (aJ (aV (ae (af 4) (ae (cw iw (ae (eN (bx [3] (ao (r F7) (ae (af 0) ag)) bB (MM K a r))) ag)) ag))))))
def Ff:=
 (ah (a9 (ay (ak Zx (cw bG (ae (af 4) ag)) (ak aW (af 0) (dC (.aO 1)))))
  mZ
  c_)
  (a9 (ko (f_ (ao (r GJ) (ae (af 0) (ae (af 5) ag)))))
  mZ
  c_))
def Fh:=
 (ah (a9 (ay (ak Zx (cw bG (ae (af 3) ag)) (af 2)))
  mZ
  c_)
  (gG 4 5 (gU (af 3))
  (Ff K a r)))
def Fu:=
 (ah (aD 1 (ak aW (af 0) (dC (.aO 2))))
  (ah (aD 2 (ao (r pW) (ae (ak aW (af 0) (dC (.aO 0))) ag)))
  (ah (a9 (ay (ak yN (cw bG (ae (af 1) ag)) (dC (.aO 0))))
  mZ
  c_)
  (iI 3 (af 1)
  (Fh K a r)))))
def GR:=
 (aJ (jc (ak vm (dC (.aO 0)) (af 1)) (ak l4 (af 1) (cw bG (ae (ak aW (af 0) (dC (.aO 2))) ag)))))
def Ge:=
 (ah (aD 1 (ao (r zt) (ae (ak aW (af 0) (dC (.aO 0))) ag)))
  (ah (aD 2 (bZ (r GK) 59 mJ [0,1] (ao (r FP) (ae (af 0) ag))))
  (aJ (aV (ae (aV (ae (ak aW (af 0) (dC (.aO 0))) (ae (cw bG (ae (ak aW (af 0) (dC (.aO 2))) ag)) (ae (ak aW (af 2) (dC (.aO 0))) ag)))) (ae (ak aW (af 2) (dC (.aO 1))) ag))))))
def wY:=
 (ah (a9 (cF (ay (ak so (af 8) (af 3))))
  (ah (jV 3 (fO 2 bG) (af 8))
  (dZ 2 (ae (af 8) ag)))
  c_)
  (dZ 6 (ae (aV (ae (af 7) (ae (cZ (ak yA (af 3) (af 8))) ag))) ag)))
def BZ:=
 (ay (ak l4 (fO 4 bG) (fO 2 bG)))
def B0:=
 (ah (aD 5 (iJ 2 (fO 4 bG)))
  (ah (b7 6 (cQ ag))
  (ah (gG 7 8 (gU (f9 lams r 1 (ae (af 5) ag)))
  (wY K a r))
  (dZ 4 (ae (af 6) ag)))))
def Hl:=
 (ah (b7 2 (cQ (ae (af 0) ag)))
  (ah (hX 3 0 (.j' 0))
  (ah (b7 4 (cQ ag))
  (ah (bg (BZ K a r)
  (B0 K a r) 1000000)
  (aJ (aV (ae (af 4) (ae (af 2) ag))))))))
def wV:=
 (ah (a9 (cF (ay (ak mG (af 8) (af 3))))
  (ah (jW 3 (fO 2 bG) (af 8))
  (dZ 2 (ae (af 8) ag)))
  c_)
  (dZ 6 (ae (aV (ae (af 7) (ae (cZ (ak tT (af 3) (af 8))) ag))) ag)))
def zq:=
 (ay (ak l4 (fO 4 bG) (fO 2 bG)))
def zi:=
 (ah (aD 5 (iJ 2 (fO 4 bG)))
  (ah (b7 6 (cQ ag))
  (ah (gG 7 8 (gU (f9 lams r 1 (ae (af 5) ag)))
  (wV K a r))
  (dZ 4 (ae (af 6) ag)))))
def GS:=
 (ah (b7 2 (cQ (ae (af 0) ag)))
  (ah (hZ 3 0 (.Yz .bl) (.aO 0))
  (ah (b7 4 (cQ ag))
  (ah (bg (zq K a r)
  (zi K a r) 1000000)
  (aJ (aV (ae (af 4) (ae (af 2) ag))))))))
def BA:=
 (ay (ak kP (cw kD (ae (af 2) ag)) (cw kD (ae (iJ 1 (me mF (dC (.aO 1)))) ag))))
def E_:=
 (ah (dZ 1 (ae (af 2) ag))
  (aD 2 (ao (r BO) (ae (af 0) (ae (af 2) ag)))))
def Fi:=
 (ah (b7 1 (cQ (ae (ak n_ (eN (cQ (ae (dC (.aO 0)) ag))) (cw bG (ae (af 0) ag))) ag)))
  (ah (aD 2 (ao (r BO) (ae (af 0) (ae (iJ 1 (me mF (dC (.aO 1)))) ag))))
  (ah (bg (BA K a r)
  (E_ K a r) 1000000)
  (fU 1))))
def LB:=
 (aV (ae (af 0) (ae (ak aW (af 2) (af 1)) ag)))
def BI:=
 (ah (aD 5 (cw iw (ae (eN (cW [1] (gU (af 4)) bB (LB K a r))) ag)))
  (ah (a9 (cF (ay (ak mG (af 5) (af 2))))
  (jW 2 (cZ (cw lF (ae (af 2) ag))) (af 5))
  c_)
  (dZ 3 (ae (cZ (ak tT (af 2) (af 5))) ag))))
def F3:=
 (ah (lh 2 (.Yz (.gs [.Yz .bl,.aO])))
  (ah (b7 3 (cQ ag))
  (ah (iI 4 (af 0)
  (BI K a r))
  (fU 3))))
def B9:=
 (nQ 4 (e5 "list" h_ (ak aW (af 3) (dC (.aO 1))) (ae (ak aW (af 2) (af 5)) ag)) (af 5))
def Jm:=
 (ah (jf (ao (r Fp) (ae (af 0) ag)))
  (ah (aD 1 (ak aW (af 0) (dC (.aO 2))))
  (ah (aD 2 (ak aW (ao (r Fd) (ae (af 1) ag)) (me mF (dC (.aO 1)))))
  (ah (aD 3 (bZ (r B8) 60 w5 [1,2] (ak aW (af 2) (dC (.aO 0)))))
  (ah (b7 4 (jX (eN (cQ (ae (dC .aF) ag))) (cw bG (ae (af 1) ag))))
  (ah (iI 5 (ak aW (bZ (r B8) 61 wZ [1] (dC (.aO 0))) (dC (.aO 1)))
  (B9 K a r))
  (aJ (aV (ae (aV (ae (ak aW (af 0) (dC (.aO 0))) (ae (ak aW (af 0) (dC (.aO 1))) (ae (ak aW (af 3) (dC (.aO 0))) ag)))) (ae (af 4) ag))))))))))
def Lk:=
 (aV (ae (af 0) (ae (ak aW (af 2) (af 1)) ag)))
def Fv:=
 (dD (cW [1] (gU (ak aW (af 0) (e5 "list" h_ (af 1) (ae (af 2) ag)))) bB (Lk K a r)))
def Lx:=
 (aV (ae (dC (.bl false)) (ae (af 0) ag)))
def BF:=
 (ao (r Fx) (ae (af 0) ag))
def Gf:=
 (ah (aD 1 (ao (r BD) (ae (af 0) ag)))
  (ah (aD 2 (ao (r zx) (ae (af 1) ag)))
  (ah (aD 3 (eN (bx [] (ao (r Gr) (ae (af 1) ag)) bB (BF K a r))))
  (ah (aD 4 (cw iw (ae (eN (bx [] (ou (af 3) c0 (eD (af 2))) bB (Lx K a r))) ag)))
  (aJ (aV (ae (ak aW (af 1) (dC (.aO 0))) (ae (af 4) (ae (cw iw (ae (ou (af 3) (eD (af 2)) c0) ag)) ag)))))))))
def FE:=
 (ah (aD 1 (ak aW (ao (r uf) (ae (af 0) ag)) (dC (.aO 0))))
  (ah (a9 (ay (ak kP (ao (r zx) (ae (af 1) ag)) (dC (.aO 4))))
  mZ
  c_)
  (ah (a9 (ay (ak kP (ak aW (af 1) (dC (.aO 1))) (dC (.aO 6))))
  mZ
  c_)
  (aJ (af 1)))))
def BU:=
 (ay (ak l4 (ao (r pW) (ae (af 1) ag)) (cw bG (ae (ak aW (af 0) (dC (.aO 2))) ag))))
def F4:=
 (aD 1 (ak bA (af 1) (dC (.aO 1))))
def GA:=
 (ah (aD 1 (dC (.aO 0)))
  (ah (bg (BU K a r)
  (F4 K a r) 1000000)
  (aJ (af 1))))
def LK:=
 (ak aW (af 0) (af 1))
def LL:=
 (eN (bx [0] (af 1) bB (LK K a r)))
def LM:=
 (ao (r Gs) (ae (af 1) (ae (af 2) (ae (af 0) ag))))
def GB:=
 (ah (aD 1 (ao (r zx) (ae (af 0) ag)))
  (ah (aD 2 (eN (cX eV [0,1] (ae (ao (r pW) (ae (ak bA (ak aW (af 0) (dC (.aO 0))) (af 1)) ag)) ag) bB (LM K a r))))
  (dD (cX eV [2] (ae (ak bA (af 1) (ak aW (af 0) (dC (.aO 1)))) ag) bB (LL K a r)))))
def GC:=
 (ah (aD 3 (ak bY (af 2) (ao (r pW) (ae (af 1) ag))))
  (ah (a9 (ay (ak wG (af 3) (cw bG (ae (ak aW (af 0) (dC (.aO 2))) ag))))
  (aJ (ak mQ (aV (ae (dC .aF) ag)) (ak bA (af 1) (ak aW (af 0) (dC (.aO 1))))))
  c_)
  (ah (aD 4 (ak aW (ak aW (ak aW (af 0) (dC (.aO 2))) (af 3)) (ak cx (af 2) (ao (r pW) (ae (af 1) ag)))))
  (aJ (ak bA (ao (r zT) (ae (ak aW (af 4) (dC (.aO 1))) (ae (af 1) ag))) (ak aW (af 4) (dC (.aO 0))))))))
def Lp:=
 (ak j0 (af 0) (dC (.bl true)))
def FG:=
 (ah (a9 (ay (ak vm (cw bG (ae (af 0) ag)) (ao (r pW) (ae (dC (.aO 4)) ag))))
  (aJ (ao (r Fc) (ae (ak aW (ao (r FO) (ae (af 0) ag)) (dC (.aO 0))) ag)))
  c_)
  (aJ (ao (r Fb) (ae (eN (bx [] (af 0) bB (Lp K a r))) ag))))
def FH:=
 (ah (a9 (ay (ak l4 (af 1) (cw bG (ae (af 0) ag))))
  (aJ (ak aW (af 0) (af 1)))
  c_)
  (aJ (dC (.aO 0))))
def Gg:=
 (aJ (ak bY (ak pR (ak bY (ak bA (ak gR (af 0) (dC (.aO 48271))) (ak gR (ak bA (af 1) (dC (.aO 1))) (dC (.aO 1299721)))) (dC (.aO 2147483647))) (dC (.aO 5))) (dC (.aO 2147483647))))
def Lj:=
 (ak l4 (ak bY (ao (r B3) (ae (af 1) (ae (ak bA (ak gR (dC (.aO 9)) (af 2)) (af 0)) ag))) (dC (.aO 5))) (dC (.aO 2)))
def y0:=
 (ah (aD 10 (cw iw (ae (eN (cX eV [7,9] (ae (af 3) ag) bB (Lj K a r))) ag)))
  (dZ 8 (ae (aV (ae (af 10) (ae (ak bY (ao (r B3) (ae (af 7) (ae (ak bA (dC (.aO 70)) (af 9)) ag))) (af 4)) ag))) ag)))
def y_:=
 (ah (aD 7 (ak bA (ao (r zj) (ae (af 0) (ae (ak bA (dC (.aO 2)) (af 6)) ag))) (ak gR (dC (.aO 13)) (af 6))))
  (a9 (iH (ay (ak yN (ak bY (af 7) (dC (.aO 4))) (dC (.aO 3)))) (ay (ak kP (af 6) (dC (.aO 0)))))
  (dZ 5 (ae (eN (Å (ae (iJ 5 (ak bY (ak cx (af 7) (dC (.aO 4))) (af 6))) ag))) ag))
  (ah (b7 8 (cQ ag))
  (ah (eC 9 eV (ae (ak aW (eN (cQ (ae (dC (.aO 1)) (ae (dC (.aO 2)) (ae (dC (.aO 4)) (ae (dC (.aO 8)) ag)))))) (af 2)) ag)
  (y0 K a r))
  (dZ 5 (ae (af 8) ag))))))
def Fj:=
 (ah (aD 1 (ao (r zj) (ae (af 0) (ae (dC (.aO 0)) ag))))
  (ah (aD 2 (ak bY (af 1) (dC (.aO 3))))
  (ah (aD 3 (ak bA (ak bY (ak cx (af 1) (dC (.aO 3))) (dC (.aO 4))) (ak gR (dC (.aO 3)) (cw jk (ae (ak yN (ak bY (ak cx (af 1) (dC (.aO 768))) (dC (.aO 5))) (dC (.aO 1))) ag)))))
  (ah (aD 4 (ak bA (dC (.aO 1)) (ak bY (ak cx (af 1) (dC (.aO 12))) (dC (.aO 8)))))
  (ah (a9 (ay (ak yN (ak bY (ak cx (af 1) (dC (.aO 96))) (dC (.aO 8))) (dC (.aO 5))))
  (aD 4 (ak bA (af 4) (dC (.aO 8))))
  c_)
  (ah (a9 (ay (ak yN (ak bY (ak cx (af 1) (dC (.aO 96))) (dC (.aO 8))) (dC (.aO 6))))
  (ah (aD 2 (dC (.aO 3)))
  (ah (aD 4 (ak bA (dC (.aO 1)) (ak bY (af 4) (dC (.aO 4)))))
  (aD 3 (ak bY (af 3) (ak bA (ak bA (dC (.aO 1)) (ak gR (cw jk (ae (ak l4 (af 4) (dC (.aO 3))) ag)) (dC (.aO 6)))) (cw jk (ae (ak kP (af 4) (dC (.aO 2))) ag)))))))
  c_)
  (ah (a9 (qy (iH (ay (ak yN (af 2) (dC (.aO 2)))) (iH (ay (ak kP (af 4) (dC (.aO 4)))) (ay (ak kP (ak bY (ak cx (af 1) (dC (.aO 768))) (dC (.aO 4))) (dC (.aO 0)))))) (ay (ak kP (af 4) (dC (.aO 8)))))
  (aD 2 (ak bY (af 2) (dC (.aO 2))))
  c_)
  (ah (b7 5 (cQ ag))
  (ah (eC 6 eV (ae (af 4) ag)
  (y_ K a r))
  (aJ (aV (ae (af 2) (ae (af 3) (ae (af 5) ag))))))))))))))
def LD:=
 (eN (Å (ae (af 0) ag)))
def F5:=
 (aJ (aV (ae (ak aW (af 0) (dC (.aO 0))) (ae (ak aW (af 0) (dC (.aO 1))) (ae (eN (bx [] (ak aW (af 0) (dC (.aO 2))) bB (LD K a r))) ag)))))
def Lq:=
 (e5 "list" ia (af 1) (ae (af 0) ag))
def Lr:=
 (aV (ae (ak aW (af 0) (dC (.aO 0))) (ae (ak aW (af 1) (ak aW (af 0) (dC (.aO 1)))) ag)))
def Ls:=
 (eN (bx [1] (af 0) bB (Lr K a r)))
def BG:=
 (ah (aD 4 (eN (bx [2] (af 1) bB (Ls K a r))))
  (aD 2 (eN (bx [4] (af 4) bB (Lq K a r)))))
def Lu:=
 (dC (.aO 0))
def Fn:=
 (ah (aD 1 (ak aW (af 0) (dC (.aO 2))))
  (ah (aD 2 (eN (bx [] (af 1) bB (Lu K a r))))
  (ah (eC 3 eV (ae (cw bG (ae (af 1) ag)) ag)
  (BG K a r))
  (aJ (af 2)))))
def BK:=
 (a9 (cF (ay (ak kF (ak aW (af 1) (ak aW (af 4) (dC (.aO 1)))) (af 2))))
  (dZ 2 (ae (ak aW (af 1) (ak aW (af 4) (dC (.aO 1)))) ag))
  c_)
def BL:=
 (ay (ak l4 (af 3) (fO 2 bG)))
def BN:=
 (ah (iI 4 (ak aW (ak aW (af 0) (dC (.aO 2))) (iJ 2 (af 3)))
  (BK K a r))
  (aD 3 (ak bA (af 3) (dC (.aO 1)))))
def Gh:=
 (ah (b7 2 (cQ (ae (ak aW (af 1) (dC (.aO 0))) ag)))
  (ah (aD 3 (dC (.aO 0)))
  (ah (bg (BL K a r)
  (BN K a r) 1000000)
  (fU 2))))
def wU:=
 (ay (ak l4 (af 2) (af 0)))
def Fo:=
 (ah (aD 2 (ak gR (af 2) (dC (.aO 2))))
  (aD 1 (ak bA (af 1) (dC (.aO 1)))))
def Gi:=
 (ah (aD 1 (dC (.aO 0)))
  (ah (aD 2 (dC (.aO 1)))
  (ah (bg (wU K a r)
  (Fo K a r) 1000000)
  (aJ (af 1)))))
def zp:=
 (ah (aD 5 (ak aW (ak aW (ak aW (af 0) (dC (.aO 2))) (af 2)) (ak bY (af 4) (cw bG (ae (ak aW (ak aW (af 0) (dC (.aO 2))) (af 2)) ag)))))
  (ah (dZ 3 (ae (ak aW (af 5) (dC (.aO 0))) ag))
  (aD 2 (ak aW (af 5) (dC (.aO 1))))))
def GD:=
 (ah (aD 2 (dC (.aO 0)))
  (ah (b7 3 (cQ ag))
  (ah (iI 4 (ou (af 1) (eD (dC (.aO 10))) (eD (dC (.aO 40))))
  (zp K a r))
  (fU 3))))
def JW:=
 (ah (aD 1 (ao (r Fe) (ae (af 0) ag)))
  (ah (aD 2 (ao (r B2) (ae (ao (r F8) (ae (ao (r BP) (ae (af 1) ag)) ag)) ag)))
  (ah (aD 3 (ak aW (ao (r uf) (ae (ak aW (af 2) (dC (.aO 0))) ag)) (dC (.aO 0))))
  (ah (aD 4 (cw bG (ae (ao (r F9) (ae (af 1) (ae (ao (r Fy) (ae (af 1) ag)) ag))) ag)))
  (ah (a9 (qy (ay (ak Zx (af 3) (ak aW (ao (r uf) (ae (ao (r BP) (ae (af 1) ag)) ag)) (dC (.aO 0))))) (ay (ak Zx (cw bG (ae (ak aW (af 3) (dC (.aO 2))) ag)) (af 4))))
  (aJ (dC (.bl false)))
  c_)
  (ah (a9 (ay (ak Zx (ak aW (ak aW (af 2) (dC (.aO 1))) (dC (.aO 0))) (ak mQ (aV (ae (dC (.bl false)) ag)) (ao (r F_) (ae (af 4) ag)))))
  (aJ (dC (.bl false)))
  c_)
  (aJ (ak yN (ao (r wX) (ae (ak aW (af 2) (dC (.aO 0))) (ae (af 0) ag))) (ao (r wX) (ae (af 1) (ae (af 0) ag)))))))))))
def dd:ar->Fg->aI->(ar->ai W->FR)->ai S->SR
 |0=>HZ
 |1=>BX
 |2=>GO
 |3=>G5
 |4=>G6
 |5=>Gv
 |6=>Gw
 |7=>Jk
 |8=>Ga
 |9=>H_
 |10=>uc
 |11=>GP
 |12=>Gx
 |13=>Fs
 |14=>BY
 |15=>FA
 |16=>FV
 |17=>JC
 |18=>Ia
 |19=>Gy
 |20=>GQ
 |21=>FX
 |22=>FY
 |23=>Gz
 |24=>Ft
 |25=>FD
 |26=>FZ
 |27=>Gb
 |28=>zX
 |29=>Ib
 |30=>Ic
 |31=>F1
 |32=>Gd
 |33=>Jl
 |34=>Fu
 |35=>GR
 |36=>Ge
 |37=>Hl
 |38=>GS
 |39=>Fi
 |40=>F3
 |41=>Jm
 |42=>Fv
 |43=>Gf
 |44=>FE
 |45=>GA
 |46=>GB
 |47=>GC
 |48=>FG
 |49=>FH
 |50=>Gg
 |51=>Fj
 |52=>F5
 |53=>Fn
 |54=>Gh
 |55=>Gi
 |56=>GD
 |57=>JW
 |_=>λ_ _ _ _=>.no
def EO(K:Fg)(a:aI)(r:ar->ai W->FR):ar->ai W->FR
 |58=>qL 2 (BE K a r)
 |59=>qL 3 (BB K a r)
 |60=>qL 3 (BQ K a r)
 |61=>qL 2 (BR K a r)
 |_=>λ_=>.no
def rK(K:Fg)(a:aI)(r:ar->ai W->FR)(i:ar):ai W->FR:=if i<58 then qF (ps i).aj (Ns i).aj (dd i K a r)else EO K a r i
def mH(K:Fg)(a:aI):ar->ar->ai W->FR
 |0,_=>λ_=>.no
 |n+1,i=>rK K a (mH K a n) i
abbrev RR(i k m:ar)(d:Fg->aI->(ar->ai W->FR)->ai S->SR):Prop:=∀{K:Fg}{a:aI}{n:ar}{ws:ai W},mH K a (n+1) i ws=if ws.aj=k then(d K a (mH K a n) (Z3 m ws)).fn else .no
theorem X1:RR zT 2 5 HZ:=rfl
theorem LN:RR pW 1 3 BX:=rfl
theorem WO:RR zt 1 1 GO:=rfl
theorem Xc:RR GX 2 2 G5:=rfl
theorem Xd:RR zH 1 1 G6:=rfl
theorem We:RR zu 1 1 Gv:=rfl
theorem Wf:RR Gp 1 1 Gw:=rfl
theorem Y9:RR qI 3 3 Jk:=rfl
theorem VX:RR BJ 3 3 Ga:=rfl
theorem X2:RR Cp 3 4 H_:=rfl
theorem w4:RR vP 2 5 uc:=rfl
theorem WQ:RR GH 2 2 GP:=rfl
theorem Wg:RR BW 1 2 Gx:=rfl
theorem U6:RR Fb 1 1 Fs:=rfl
theorem LO:RR vH 2 6 BY:=rfl
theorem Vv:RR BC 1 1 FA:=rfl
theorem VI:RR zm 1 2 FV:=rfl
theorem z08:RR CK 2 2 JC:=rfl
theorem XE:RR Iy 1 1 Ia:=rfl
theorem Wh:RR Gq 1 5 Gy:=rfl
theorem WR:RR GI 2 2 GQ:=rfl
theorem VJ:RR FL 1 1 FX:=rfl
theorem VL:RR FN 1 1 FY:=rfl
theorem Wi:RR wW 2 2 Gz:=rfl
theorem U7:RR Fc 1 3 Ft:=rfl
theorem Vw:RR Fw 1 4 FD:=rfl
theorem VM:RR FO 1 6 FZ:=rfl
theorem VY:RR F6 1 1 Gb:=rfl
theorem Hn:RR pV 3 8 zX:=rfl
theorem XF:RR IA 2 2 Ib:=rfl
theorem XG:RR zU 2 2 Ic:=rfl
theorem VN:RR FP 1 1 F1:=rfl
theorem VZ:RR F7 1 1 Gd:=rfl
theorem zaj:RR Jj 3 5 Jl:=rfl
theorem U8:RR Fp 1 6 Fu:=rfl
theorem WS:RR GJ 2 2 GR:=rfl
theorem V0:RR B2 1 3 Ge:=rfl
theorem Xe:RR B8 2 9 Hl:=rfl
theorem WT:RR GK 2 9 GS:=rfl
theorem U3:RR Fd 1 3 Fi:=rfl
theorem VO:RR BO 2 6 F3:=rfl
theorem Y':RR uf 1 6 Jm:=rfl
theorem U9:RR Fq 3 3 Fv:=rfl
theorem V1:RR F8 1 5 Gf:=rfl
theorem Vx:RR BD 1 2 FE:=rfl
theorem Wj:RR zx 1 2 GA:=rfl
theorem Wq:RR Gr 1 3 GB:=rfl
theorem Wr:RR Gs 3 5 GC:=rfl
theorem Vy:RR Fx 1 1 FG:=rfl
theorem Vz:RR zj 2 2 FH:=rfl
theorem V2:RR B3 2 2 Gg:=rfl
theorem U4:RR Fe 1 11 Fj:=rfl
theorem VP:RR BP 1 1 F5:=rfl
theorem VE:RR Fy 1 5 Fn:=rfl
theorem V3:RR F9 2 5 Gh:=rfl
theorem V4:RR F_ 1 3 Gi:=rfl
theorem Ws:RR wX 2 6 GD:=rfl
theorem z6q:RR JV 1 5 JW:=rfl
theorem VF:mH K a (n+1) vJ ws=if ws.aj=2 then fo (BE K a (mH K a n) (ws.aT .fr))else .no:=rfl
theorem U1:mH K a (n+1) oE ws=if ws.aj=3 then fo (BB K a (mH K a n) (ws.aT .fr))else .no:=rfl
theorem VQ:mH K a (n+1) FQ ws=if ws.aj=3 then fo (BQ K a (mH K a n) (ws.aT .fr))else .no:=rfl
theorem VR:mH K a (n+1) FT ws=if ws.aj=2 then fo (BR K a (mH K a n) (ws.aT .fr))else .no:=rfl
abbrev MP(K:Fg)(mg:d3->fv dS)(i:ar):Prop:=∀f oc od fd sl,mg (n8 i)=ab (.bj f)->K.gr f=ab ⟨oc,od,.Zn fd,sl⟩->kZ K (n8 i) fd._P
def EW:ai ar:=[29,36,41]
structure l6(P:wO)(w:vq)(K:Fg)(mg:d3->fv dS)(j3:gw)(a:aI)(n:ar):Prop where
 c:∀i,i<58->qU P w K mg j3 (n+lv i) (n8 i) (ps i) (oi K (mH K a n i))
 lam:om P w K mg j3 (eh P w) n (ur K lams (mH K a n))
def OO(i:ar):Prop:=∀{P:wO}{w:vq}{K:Fg}{mg:d3->fv dS}{j3:gw}{a:aI}{n:ar},uD P w K mg->qX K mg a->l6 P w K mg j3 a n->_J j3 mg->(Ns i).x6->∀(f:f')(ez:dS)(A:C7)(qp:ai Rb)(s:oU)(H:Hp)(E:XK)(Z:Zt),bp (n+lv i) (A.ZE (L1.Mk._e (n8 i) (aZ (s8 i)) s.a5.fy.dt f ez))->(Z.H=H/\Z.io=[])->((EW._R i)=true->kZ K (n8 i) ez)->mV Z (iG (eh P w) P w K mg j3 (Ns i) (n8 i) (aZ (s8 i)) f ez A qp s H E) (λ_=>E) (cH (s8 i)) (dd i K a (mH K a n))
def cc{P:wO}{w:vq}{x:d3}{q:ai d3}(C:l6 P w K mg j3 a n)(h:i<58)(hx:n8 i=x)(hp:ps i=q):qU P w K mg j3 (n+lv i) x q (oi K (mH K a n i)):=by
 subst hx;subst hp;exact C.c i h
theorem lz{b c:ar}(h:b<=c):n+b<=n+c:=w5i h n
set_option hygiene false
local macro_rules | `(tactic| try?) => do
 let l:=(("%0|dv _|z3g ? ?|z86|z8v|y8x ? ?|z3i ?|z9d @ ? ? ?|Q3w ? ?|z9a _ nd ?|z89 ?|z87 ?|Q3u ? ? ?|z3h|z8x|Q3t ?|z5l ? ?|z3r|z9w B.Ka ?|Q38 # ? ?|z88 ?|Q3o|=z3t rfl ? ! ? ? ?|z9q ? ?|z9b _ nd ?|z9l _ ?|z3k ?|z3v ? ?|y86|z8z ?|z3y _ B.Ka|Q39 # ? ?|z9p ? ?|z3x ?|Q36 ? ?|y9q ?|y85 B.Ba ?|z3n _ nd PassesOwn.leaving rfl B.rl ? ?|z8w|=y9p rfl ? ! ? ? ?|Q34 ? ?|y84 ? ? ?|z9c _ nd PassesOwn.leaving rfl ? ?|y8z _ PassesOwn.leaving ? ?|z3s ?|z3w|z9j _ ?|Q31 # ? ?|z43 _ _ nd PassesOwn.leaving rfl ? ?|=y83 rfl B.rl ? ! ? ? ?|z85 ?|z82 ?|z81 ? ?|y5m ?|y5l ?|z3l _|Q33 ? ?|Q1e rfl B.J9 ?|Q3s ? ? ?|z80 ?|Q3q ? ?|z3j ?|z3f ?|Q4a ? ?|Q3y ? ?|pv _|z9s ?|z4x B.J' ?|Q3r ? ?|z45 B.tp ?|z84 ? ?|Q37 ? ?|Q10 rfl B.J_ ?|Q1d # ? ?|%1|z5q M.nt # ? ?|z5t _ M.nt # ? ?|Q13 M.nt # ? ?|z5v rfl B.Kb ?|y5f ? ?|z5f ? ?|z3z B.Dn ?|y41 rfl B.Ba B.uM ?|Q1w B.Kc ?|Q2h B.CG ?|z40 ? ?|Q32 # ? ?|q8v M.lI M.lq|q8v M.lH M.ll|z9t ? ?|Q1g _ ?|z9u ? ?|z0q B.tp ?|z6m @ ? B.xO ?|z9o ? ?|%2|Q5o # ? ?|Q3z ? ?|%3|z0k _ _ nd ?|z51 # ? ?|z53 _ # ? ?|Q19 # ? ?|NP|%4|Q1r ? ?|%5|z5r B.Ka ?|%6|Q2c ? ?|%7|Q1h _ ? ?|=y2a _ nd rfl ? ! ? ? ?|q8v M.sm M.rL|q8v M.pK M.o9|q8v M.qH M.qA|Q35 ? ?|z9r ? ?|Q30 ? ?|y6n # ? ?|S7 ?|z83 ?".splitOn "|").map fun s=>s.splitOn " ").reverse
 let q:=#[←`(tactic| refine Y3 (hsc := rfl) (hN := rfl) ⟨rfl, λ_ _ => rfl, λ_ => rfl, by decide +kernel, by decide +kernel⟩ rfl B.rl ?_ (UM (by kernel_rfl)) ?_ ?_ ?_),←`(tactic| refine z0j _ (by exact C.lam) ?_ ?_ ?_ ?_),←`(tactic| refine z6g (hsc := rfl) (hN := rfl) _ B5 (by exact C.lam) ?_ rfl B.xN (by exact CY (wJ rfl) BM) (λ_ => rfl) ?_ Wd (nj (by kernel_rfl))),←`(tactic| refine Xb (hsc := rfl) (hN := rfl) 59 mJ (by exact cc C (by decide) (by rfl) (by rfl)) ?_ ?_ (by exact CY (wJ rfl) BM) (λ_ => rfl) ?_ (UN (by kernel_rfl))),←`(tactic| refine z0v _ _ (.many .bl) (w := (.int 0)) M.nt (Eu (Lh hr)) nd ?_ rfl),←`(tactic| refine z5s _ (.many (.tup [.many .bl, .int])) nd),←`(tactic| refine Mj (hsc := rfl) (hN := rfl) 60 w5 (by exact cc C (by decide) (by rfl) (by rfl)) ?_ ?_ (by exact CY (wJ rfl) BM) (λ_ => rfl) ?_ (nj (by kernel_rfl))),←`(tactic| refine Mj (hsc := rfl) (hN := rfl) 61 wZ (by exact cc C (by decide) (by rfl) (by rfl)) ?_ ?_ (by exact CY (wJ rfl) BM) (λ_ => rfl) ?_ (nj (by kernel_rfl)))]
 let mut x←`(tactic| first | exact ug 0 (yO (by kernel_rfl)) | exact Rz (yO (by kernel_rfl)) rfl | exact yW | exact yX | exact hr | exact hr.mono (lz (by decide)) | exact hr.mono (Nat.le_add_right _ _) | assumption | decide)
 for r in l do
  let s:=r.head!
  let a←r.tail!.toArray.mapM λa=>match a with|"?"=>`(?_)|"_"=>`(_)|"!"=>`((nj (by kernel_rfl)))|"@"=>`((by exact cc C (by decide) (by rfl) (by rfl)))|"#"=>`((Lh hr))|a=>pure ⟨Lean.mkIdent a.toName⟩
  let f:=Lean.mkIdent (s.dropWhile (·=='=')).toName
  let y:Lean.TSyntax `tactic←if s.startsWith "%" then pure q[(s.drop 1).toNat!]! else if s.startsWith "=" then `(tactic| refine $f:ident (hsc := rfl) (hN := rfl) $a*) else let z:=Lean.Syntax.mkApp f a; `(tactic| refine $z)
  x←`(tactic| first | $y:tactic | $x:tactic)
 `(tactic| (intros; $x:tactic) <;> try?)
local macro_rules | `(tactic| walk_at "o") => `(tactic| (intro P w K mg base a n B M C BM nd f ez A outer s H E Z hr hz wJ; try?))
set_option hygiene true
seal iH jc dZ cZ cF dC ao f9 bx cW cX ae jf ma cw fO iI gG eC eN tD a9 iJ bZ dList cQ e5 jU ag mZ c0 ko gH c_ ak qy md eD nQ jV jW jX aJ dD fU ah aD hX hZ b7 lh ou jY ay f_ aV me af bB lP jv gU mR bg
def z09:OO 0:=by walk_at "o"
def Xf:OO 1:=by walk_at "o"
def XI:OO 2:=by walk_at "o"
def zbh:OO 3:=by walk_at "o"
def zbi:OO 4:=by walk_at "o"
def Xg:OO 5:=by walk_at "o"
def Xh:OO 6:=by walk_at "o"
def z6r:OO 7:=by walk_at "o"
def WU:OO 8:=by walk_at "o"
def z1a:OO 9:=by walk_at "o"
def z6s:OO 10:=by walk_at "o"
def XJ:OO 11:=by walk_at "o"
def Xi:OO 12:=by walk_at "o"
def VS:OO 13:=by walk_at "o"
def Xj:OO 14:=by walk_at "o"
def V5:OO 15:=by walk_at "o"
def Wt:OO 16:=by walk_at "o"
def RX:OO 17:=by walk_at "o"
def z1b:OO 18:=by walk_at "o"
def Xk:OO 19:=by walk_at "o"
def XM:OO 20:=by walk_at "o"
def Wu:OO 21:=by walk_at "o"
def Wv:OO 22:=by walk_at "o"
def Xl:OO 23:=by walk_at "o"
def VT:OO 24:=by walk_at "o"
def V6:OO 25:=by walk_at "o"
def Ww:OO 26:=by walk_at "o"
def WV:OO 27:=by walk_at "o"
def z6t:OO 28:=by walk_at "o"
def z1c:OO 29:=by walk_at "o"
def z1d:OO 30:=by walk_at "o"
def Wx:OO 31:=by walk_at "o"
def WW:OO 32:=by walk_at "o"
def z6u:OO 33:=by walk_at "o"
def VU:OO 34:=by walk_at "o"
def XN:OO 35:=by walk_at "o"
def WE:OO 36:=by walk_at "o"
def zbj:OO 37:=by walk_at "o"
def XO:OO 38:=by walk_at "o"
def VA:OO 39:=by walk_at "o"
def Wy:OO 40:=by walk_at "o"
def z6v:OO 41:=by walk_at "o"
def VV:OO 42:=by walk_at "o"
def WG:OO 43:=by walk_at "o"
def V7:OO 44:=by walk_at "o"
def Xm:OO 45:=by walk_at "o"
def Xn:OO 46:=by walk_at "o"
def Xo:OO 47:=by walk_at "o"
def V8:OO 48:=by walk_at "o"
def V9:OO 49:=by walk_at "o"
def WH:OO 50:=by walk_at "o"
def VB:OO 51:=by walk_at "o"
def Wz:OO 52:=by walk_at "o"
def V_:OO 53:=by walk_at "o"
def WI:OO 54:=by walk_at "o"
def WJ:OO 55:=by walk_at "o"
def Xp:OO 56:=by walk_at "o"
def SX:OO 57:=by walk_at "o"
theorem Xq{P:wO}{w:vq}(B:uD P w K mg)(M:qX K mg a)(C:l6 P w K mg j3 a n):jR P w K mg j3 n B5 ["number"] (qL 2 (BE K a (mH K a n))):=
 vj ⟨rfl,rfl,rfl,by decide +kernel,by decide +kernel,by decide +kernel,by decide +kernel⟩ (λcl pm c' cP=>us1 λ_=>rfl) λZ f cd cl A qp s H hr=>by try?
theorem VW{P:wO}{w:vq}(B:uD P w K mg)(M:qX K mg a)(C:l6 P w K mg j3 a n):kf P w K mg j3 n mJ "state" (qL 3 (BB K a (mH K a n))):=
 zeu ⟨rfl,rfl,rfl,rfl,λ_ _=>rfl,λ_=>rfl,by decide +kernel,by decide +kernel⟩ (λcl pm c' cP u=>rfl) λZ f cd cl A qp s H hr=>by try?
theorem XQ{P:wO}{w:vq}(B:uD P w K mg)(M:qX K mg a)(C:l6 P w K mg j3 a n):jR P w K mg j3 n w5 ["kind"] (qL 3 (BQ K a (mH K a n))):=
 vj ⟨rfl,rfl,rfl,by decide +kernel,by decide +kernel,by decide +kernel,by decide +kernel⟩ (λcl pm c' cP=>us1 λ_=>rfl) λZ f cd cl A qp s H hr=>by try?
theorem XR{P:wO}{w:vq}(B:uD P w K mg)(M:qX K mg a)(C:l6 P w K mg j3 a n):jR P w K mg j3 n wZ ["place"] (qL 2 (BR K a (mH K a n))):=
 vj ⟨rfl,rfl,rfl,by decide +kernel,by decide +kernel,by decide +kernel,by decide +kernel⟩ (λcl pm c' cP=>us1 λ_=>rfl) λZ f cd cl A qp s H hr=>by try?
unseal iH jc dZ cZ cF dC ao f9 bx cW cX ae jf ma cw fO iI gG eC eN tD a9 iJ bZ dList cQ e5 jU ag mZ c0 ko gH c_ ak qy md eD nQ jV jW jX aJ dD fU ah aD hX hZ b7 lh ou jY ay f_ aV me af bB lP jv gU mR bg
theorem zz:∀i,i<58->OO i
 |0,_=>z09
 |1,_=>Xf
 |2,_=>XI
 |3,_=>zbh
 |4,_=>zbi
 |5,_=>Xg
 |6,_=>Xh
 |7,_=>z6r
 |8,_=>WU
 |9,_=>z1a
 |10,_=>z6s
 |11,_=>XJ
 |12,_=>Xi
 |13,_=>VS
 |14,_=>Xj
 |15,_=>V5
 |16,_=>Wt
 |17,_=>RX
 |18,_=>z1b
 |19,_=>Xk
 |20,_=>XM
 |21,_=>Wu
 |22,_=>Wv
 |23,_=>Xl
 |24,_=>VT
 |25,_=>V6
 |26,_=>Ww
 |27,_=>WV
 |28,_=>z6t
 |29,_=>z1c
 |30,_=>z1d
 |31,_=>Wx
 |32,_=>WW
 |33,_=>z6u
 |34,_=>VU
 |35,_=>XN
 |36,_=>WE
 |37,_=>zbj
 |38,_=>XO
 |39,_=>VA
 |40,_=>Wy
 |41,_=>z6v
 |42,_=>VV
 |43,_=>WG
 |44,_=>V7
 |45,_=>Xm
 |46,_=>Xn
 |47,_=>Xo
 |48,_=>V8
 |49,_=>V9
 |50,_=>WH
 |51,_=>VB
 |52,_=>Wz
 |53,_=>V_
 |54,_=>WI
 |55,_=>WJ
 |56,_=>Xp
 |57,_=>SX
 |_+58,h=>uP h (by omega)
section
variable{P:wO}{w:vq}
theorem tB(A:∀i,i<58->At K mg (n8 i) (s8 i) (ps i))(B:uD P w K mg)(M:qX K mg a)(BM:_J j3 mg)(MK:∀i∈EW,MP K mg i):∀n,l6 P w K mg j3 a n
 |0=>⟨λi h=>zel (A i h),Dy⟩
 |n+1=>⟨λi h=>by
  rw[show n+1+lv i=n+lv i+1 from ar.add_right_comm n 1 (lv i),show mH K a (n+1) i=_ from og h];exact Dq (A i h) (λz=>MK i (w4y.mp z)) (CD h) (zz i h B M (tB A B M BM MK n) BM (CD h).nd),z6p λi l h=>by
  unfold lams at h;split at h
  .cases h;exact .j' ⟨_,Xq B M (tB A B M BM MK n)⟩
  .cases h;exact .mv ⟨_,VW B M (tB A B M BM MK n)⟩
  .cases h;exact .j' ⟨_,XQ B M (tB A B M BM MK n)⟩
  .cases h;exact .j' ⟨_,XR B M (tB A B M BM MK n)⟩
  .cases h⟩
end
theorem at_k{h:gw}{x:d3}{st:Rl}{ps:ai d3}{f:f'}{od an:fv f'}{sl:yx (fv dS)}{oc kV dc pm cd ct:dS}(X:K.In h)(G:h.Ns Yr mg)(a:oa.W.θ K Yr x=ab (ab (.bj f)))(l:K.gr f=ab ⟨oc,od,.Zn (oa.W.Ο x x (d8 st) (cH st) (aZ st) .none kV dc pm an cd ct),sl⟩)(c:oa.W._Q K cd x=true)(k:_V K (.bj f)=true)(hb:∀(kV Yx pm:dS)(an:fv f')(ez ct:dS)(us:ai dS),us.aj=ps.aj->Ν (oa.W.Ο x x (d8 st) (cH st) (aZ st) .none kV Yx pm an ez ct) ⟨us,[]⟩=vo (ps.wk us)):At K mg x st ps:=
 ⟨⟨_,_,PU l c k,oa.W.mg_of X G a,(PU l c k).ϓ hb⟩⟩
theorem mk_k{h:gw}{x:d3}{st:Rl}{f:f'}{od an:fv f'}{sl:yx (fv dS)}{oc kV dc pm cd ct:dS}{cc PP:f'}(X:K.In h)(G:h.Ns Yr mg)(a:oa.W.θ K Yr x=ab (ab (.bj f)))(l:K.gr f=ab ⟨oc,od,.Zn (oa.W.Ο x x (d8 st) (cH st) (aZ st) .none kV dc pm an cd ct),sl⟩)(v:cd=.bj cc)(hh:ë K cc PP=true)(m:(Yr,iD PP ((x++".<locals>.")++"<lambda>"))∈K):∀f oc od fd sl,mg x=ab (.bj f)->K.gr f=ab ⟨oc,od,.Zn fd,sl⟩->kZ K x fd._P:=λf oc od fd sl e1 e2=>by
 have z:=(oa.W.mg_of X G a).symm.ki e1;cases z;rw[l]at e2;cases e2;exact⟨cc,PP,_,v,hh,m⟩
def mk{l:oa.W.δ}{w:vq}{fa:f'}{p0 p1 p2 p3 p4 zc1:f'}{zc2 zc3 p8 zc4 UU:dS}(TX:mg "law"=ab (.bj fa))(A:∀i,i<58->At K mg (n8 i) (s8 i) (ps i))(B:uD l.jd w K mg)(M:qX K mg ⟨p0,p1,p2,p3,p4,zc1,zc2,zc3,p8,zc4,UU⟩)(MK:∀i∈EW,MP K mg i)(n:ar)(hL:∀a:aI,qX K mg a->∀ns:ai a6,A3 ns->mH K a (n+1) JV [.dI (ns.aT .aO)]=.ok (.fr (.bl true))):
  ∃fd:ZT,(∀(s:oU)(v:dS),_L s fd ⟨[v],[]⟩ [("_law_script", v)])/\∀j3:gw,K.In j3->j3.Ns Yr mg->_J j3 mg->ei l.jd w K mg j3 (eh l.jd w) (n+3) fa fd ["_law_script"] (kK K):=by
 let⟨f,fd,F,m,_⟩:=(A 57 (by decide)).ex;cases TX.symm.ki m;have F':=F;let⟨_,_,_,_,_,_,_,_,_,rfl,_⟩:=F.ex;exact⟨_,λs v=>.Ô rfl,λj3 _ _ BM=>(tw F' m (λz=>MK 57 (w4y.mp z)) (CD (by decide)) (zz 57 (by decide) B M (tB A B M BM MK n) BM (CD (by decide)).nd)).vW λvs H Q E q=>zai (hL _ M) q⟩
open Dh
local macro_rules | `(tactic| rw?) => do
 let l:=(("z0w z0y z0x z0n y56 y2t Fl z0o z0l z0m z57 z54 z55 z56 z0h z0i Q2a Q5t z5w z5x z5y Q15 z5z z5g z5h z5i z5j y97 y5r y5s y5n y2k y5o y5p y2l y2m y2n x9b y95 y5q y96 z5b z5c Q1x y90 y91 y92 y93 Q1i y9j y9k y43 z41 y44 y45 y9l Q1j y9m y9n y46 z42 Q1k Q1l Q1m z46 y9r y9s y9t y9u y9v y9w y5a Q1o z47 Q1p y2j y9x y9y z90 z91 z92 z93 z94 z95 z96 z34 z30 z31 z32 y87 YA z9y z9z z33 Q4b Q4c Q4d Q4e z97 y2c y2d y4t z98 z99 z35 S6 Q4f Q4g z36 z37 Q0a Q0b Q4h Q0c z38 Q0d Q0e Q4i z39 Q0f Q4j Q0g z4a Q0h Q0i Q4k Q4l z4b Q4m Q4n z4c Q0j z4d z4e z4f Q0k Q0l Q0m z4g z4h z4i y89 z4j z4k y9a y4u y9b y4v Q0n z4l y4w w_ z4m z4n Xu z4o z4p y9c Q0o y4x Q4o Q0p Q0q Q0r z4q Q0s Q4p Q4q Q4r y4y z4r y9d z4s z4t y9e y2e y2f Q0t y9f y4z z4u y9g Q0u Q0v Q0w Q0x Q0y z4v Q0z Q00 Q4s Q4t Q4u Q4v Q4w Q4x Q4y Q4z Q40 Q41 Q42 Q43 Q44 Q45 Q46 Q47 Q48 Q49 Q01 Q02 Q03 Q04 Q05 Q06 Q07 UC UB Q5a Q5b Q5c Q5d Q5e Q5f Q5g Q5h Q5i Q5j Q5k Q5l Q5m Vf Ve Vh Vg Vj at0 A' at2 Q09 eV U_ init Option.map_some Option.bind_some List.map_cons List.map_nil List.length_cons List.length_nil List.replicate_succ List.replicate_zero List.cons_append List.nil_append List.getElem?_cons_zero List.getElem?_cons_succ List.set_cons_zero List.set_cons_succ if_true if_false decide_eq_true_eq reduceIte Bool.false_eq_true ite_true ite_false Nat.reduceSub Nat.reduceAdd Nat.reduceLeDiff Nat.zero_add Nat.le_refl Int.reduceLT Int.reduceLE Int.reduceNeg true_and and_true true_or or_true false_and and_false false_or or_false not_true_eq_false not_false_eq_true decide_true decide_false Bool.not_true Bool.not_false String.reduceEq Nat.reduceEqDiff y9h Q5p Q5q Int.reduceToNat Int.reducePow Nat.reduceLT Kd Ke Int.reduceEq Int.reduceMod Int.reduceDiv Int.reduceAdd Int.reduceSub Int.reduceMul Q5v z59 z0r Q5w z0s z6a z6b y88 z6f z6l".splitOn " ").map fun s=>Lean.mkIdent s.toName).toArray
 `(tactic| try simp only [$[$l:ident],*])
section
def NR(n)(ns:ai a6)  (hk:0<=k):mH K a (n+1) zj [.dI (ns.aT .aO),.aO k]=.ok (.fr (.aO (ns.g6 k.t8 0))):=by
 rw[Vz];unfold FH;rw?
 by_cases h:k<ns.aj
 .rw[og (by simpa using h),Rn hk]
  have e:(ns.aT W.aO)[k.t8]?=ab (.aO (ns.g6 k.t8 0)):=by
   have:k.t8<ns.aj:=by omega
   simp[ai.g6,this]
  rw[e];rw?
 grind
theorem MN   (st:S->ai S)(p)(rt:W->S):∀(ws:ai W)(z:S),(∀w∈ws,∀z,(p w=true->∃e',b ((st z).sx i (.fr w))=.rt (rt w) e')/\(p w=false->∃z',b ((st z).sx i (.fr w))=.nx (st z'))) ->
  (∀w,ws.Ë p=ab w->∃e',cy i b ws (st z)=.rt (rt w) e')/\(ws.Ë p=none->∃z',cy i b ws (st z)=.nx (st z'))
 |[],z,h=>⟨λw q=>by simp at q,λ_=>⟨z,rfl⟩⟩
 |w::ws,z,h=>by
  let⟨h1,h2⟩:=h w (by simp) z;cases q:p w with
  |true=>
   grind [ub,Xu]
  |false=>
   let⟨z',h3⟩:=h2 q;have ih:=MN st p rt ws z' λu hu=>h u (by simp[hu])
   rw[ai.find?_cons_of_neg (by simp[q]),ub,h3,w_];exact ih
def LP(n)(m)(h0:0<=m)(h1:m<1000):mH K a (n+1) pW [.aO m]=.ok (.fr (.aO (2^m.t8))):=by
 rw[LN];unfold BX;rw?;rw[og (n5 (by omega) (by omega))];rw?
 let⟨e',h2,z,rfl⟩:=vL (b:=zo K a (mH K a n)) (i:=2) (lo:=0) (hi:=m) m.t8 (by omega) (λj e=>∃z,e=[.fr (.aO m),.fr (.aO (2^j)),z]) [.fr (.aO m),.fr (.aO 1),.no] ⟨_,rfl⟩ (by
  rintro j e hj ⟨z,rfl⟩;unfold zo;rw?;exact⟨_,rfl,_,by rw[w4i,w5q]⟩)
 rw[h2];rw?
def lg(n:ar):fv ar:=(ai.zd 11).Ë λm=>decide (2^m=n)
def i0(a:aI):fv ar->FR
 |ab m=>.ok (.fr (.aO m))
 |none=>.no
def LQ(n)(ws):mH K a (n+2) BW [.dI ws]=i0 a (lg ws.aj):=by
 rw[Wg];unfold Gx;rw?;rw[og (n5 (by omega) (by omega))];rw?;have e:bK 0 11=(ai.zd 11).aT fun(k:ar)=>W.aO (0+(k:a6)):=rfl
 have h:=MN (i:=1) (b:=FU K a (mH K a (n+1))) (λz=>[.fr (.dI ws),z]) (λw=>match w with|.aO k=>decide ((ws.aj:a6)=2^k.t8)|_=>false) (λw=>.fr w) (bK 0 11) .no (by
  intro w hw z;rw[e]at hw;let⟨k,hk,rfl⟩:=w0o.mp hw;rw[w0x]at hk;unfold FU;rw?;rw[LP n _ (by omega) (by omega)];rw?
  simp_all)
 have e2:(bK 0 11).Ë (λw=>match w with|.aO k=>decide ((ws.aj:a6)=2^k.t8)|_=>false)=(lg ws.aj).aT fun(k:ar)=>W.aO (0+(k:a6)):=by
  rw[e,ai.find?_map];unfold lg;congr 2;funext k
  simp only[Function.comp];rw[show(0+(k:a6)).t8=k by omega]
  grind
 rw[e2]at h;cases q:lg ws.aj with
 |ab m=>
  rw[q]at h;let⟨e',h1⟩:=h.1 _ rfl;rw[h1];rw?;simp[i0]
 |none=>
  rw[q]at h;let⟨z',h1⟩:=h.2 rfl;rw[h1];rw?;rfl
def z6w(n)(i m)(h0:0<=m)(h1:m<1000)(hi:i.ϱ<2^1000):mH K a (n+1) zT [.aO i,.aO m]=if wb m.t8 i=0 then .ok (.fr (.gs ((Zu m.t8 i).UE.aT .bl)))else .no:=by
 rw[X1];unfold HZ;rw?;rw[og (n5 (by omega) (by omega))];rw?
 let⟨e',h2,z,rfl⟩:=vL (b:=GN K a (mH K a n)) (i:=4) (lo:=0) (hi:=m) m.t8 (by omega) (λj e=>∃z,e=[.fr (.aO i),.fr (.aO m),.ie none ((Zu j i).aT .bl),.fr (.aO (wb j i)),z]) [.fr (.aO i),.fr (.aO m),.ie none [],.fr (.aO i),.no] ⟨_,rfl⟩ (by
  rintro j e hj ⟨z,rfl⟩;unfold GN;rw?;rw[og (by rw[w0a,zS];omega)];rw?;exact⟨_,rfl,_,by rw[MI,MJ,w0q];rfl⟩)
 rw[h2];rw?
 simp_all
def zdN{i:a6}(h1:0<=i)(h2:i<100000):i.ϱ<2^1000:=by
 grind
def br(m:ar)(k:ar):ai fC:=(Zu m (k:a6)).UE
def mK(m k):(br m k).aj=m:=by unfold br;rw[w5j,zS]
def Pg(n){k m:ar}(hk:k<2^m)(hm:m<=10):mH K a (n+1) zT [.aO (k:a6),.aO (m:a6)]=.ok (.fr (.gs ((br m k).aT .bl))):=by
 have uX:(2:ar)^m<=2^10:=w0n (by decide) hm;have zeo:(2:ar)^10=1024:=by decide
 have T7:(k:a6)<2^m:=by exact_mod_cast hk
 rw[z6w n k m (by omega) (by omega) (zdN (by omega) (by omega)),og (ML (by omega) (by simpa using T7))];rw[w1s];rfl
def z6x(m):(2:a6)^m=((2^m:ar):a6):=by exact_mod_cast rfl
def MO(q:ar):bK 0 (q:a6)=(ai.zd q).aT λk=>W.aO ((k:ar):a6):=by
 simp_all [bK]
def LV(n){m:ar}(hm:m<=10):mH K a (n+2) zt [.aO (m:a6)]=.ok (.ie none ((ai.zd (2^m)).aT λk=>W.gs ((br m k).aT .bl))):=by
 have uX:(2:ar)^m<=2^10:=w0n (by decide) hm;have zeo:(2:ar)^10=1024:=by decide
 have hp0:0<(2:ar)^m:=ar.pow_pos (by decide);rw[WO];unfold GO;rw?;rw[LP n m (by omega) (by omega)];rw?;rw[w1s,z6x,og (n5 (by omega) (by omega))];rw?;rw[og (by rw[Hh];omega)];simp only[cJ,gS,w0d,w0f];rw[MO,D.Ip (g:=λw=>match w with|.aO k=>W.gs ((br m k.t8).aT .bl)|w=>w)]
 .rw?;rw[w0i];rfl
 .intro w hw;let⟨k,hk,rfl⟩:=w0o.mp hw;rw[w0x]at hk;unfold LJ;rw?;rw[Pg n hk hm];rw?;exact⟨_,rfl⟩
def eo:fv fC->W
 |none=>.aF
 |ab b=>.bl b
def mt:ai (fv fC)->ai fC->fC
 |o::c,b::r=>(o==none||o==ab b)&&mt c r
 |_,_=>true
def dW(c:ai (fv fC)):ai ar:=(ai.zd (2^c.aj)).TV λk=>mt c (br c.aj k)
theorem xc{cc:ke fC}   {α:Type}{q:α->fC}{g:α->W}{en:α->W}:∀(xs:ai α),(∀x∈xs,∃e1,cc (.fr (en x)::pe)=.ok (q x) e1/\(q x=true->∃e2,d e1=.ok (g x) e2))->cC cc d pe (xs.aT en)=ab ((xs.TV q).aT g)
 |[],_=>rfl
 |x::xs,h=>by
  let⟨e1,h1,h2⟩:=h x (by simp);have ih:=xc (cc:=cc) (d:=d) (pe:=pe) (q:=q) (g:=g) (en:=en) xs λu hu=>h u (by simp[hu])
  rw[w0k,B6,h1,ih]
  grind
def mM   {g:α->W}{en:α->W}(xs:ai α)(h:∀x∈xs,∃e2,d (.fr (en x)::pe)=.ok (g x) e2):cC bB d pe (xs.aT en)=ab (xs.aT g):=by
 rw[xc (cc:=bB) (q:=λ_=>true) (g:=g) xs λx hx=>⟨_,rfl,λ_=>h x hx⟩,w2m.uR λ_ _=>rfl]
theorem ó  (hm:m<=10):2^m<=1024:=w0r (w0n (by decide) hm) (by decide)
theorem Mf(r0):∀(c:ai (fv fC))(r:ai fC),eB bB (Gu K a r0) [] ((c.aT eo).wk (r.aT .bl))=ab (((c.wk r).aT λp=>(p.1==none||p.1==ab p.2)).aT .bl)
 |[],_=>rfl
 |_::_,[]=>rfl
 |o::c,b::r=>by
  have ih:=Mf r0 c r;simp only[w0k,w5m];rw[GG,ih];unfold Gu;cases o with
  |none=>
   simp only[eo];rw?;rfl
  |ab d=>
   simp only[eo];rw?;cases d<;>cases b<;>rfl
theorem Qs:∀(c:ai (fv fC))(r:ai fC),((c.wk r).aT λp=>(p.1==none||p.1==ab p.2)).tB id=mt c r
 |[],_=>by cases ‹ai fC›<;>rfl
 |_::_,[]=>rfl
 |o::c,b::r=>by
  simp only[w5m,w0k,w2w,id,mt];rw[Qs c r]
def Xr(n)   (h:c.aj=r.aj)(hl:r.aj<=1000):mH K a (n+1) GX [.gs (c.aT eo),.gs (r.aT .bl)]=.ok (.fr (.bl (mt c r))):=by
 rw[Xc];unfold G5;rw?;simp only[w0a,h];rw?;rw[og (by simp[ai.length_zip];omega),Mf];rw?;rw[JT];rw?;rw[Qs]
theorem MQ  : ∀(N j:ar),b8 j ((ai.range' j N).aT f)=(ai.range' j N).aT fun(k:ar)=>(W.aO ((k:ar):a6),f k)
 |0,_=>rfl
 |N+1,j=>by
  rw[ai.range'_succ,w0k,w0k,<- MQ N (j+1)];rfl
def Mg  (N):b8 0 ((ai.zd N).aT f)=(ai.zd N).aT fun(k:ar)=>(W.aO ((k:ar):a6),f k):=by
 rw[ai.range_eq_range'];exact MQ N 0
theorem IB{cc:ke fC}{d:ke W}{pe:ai S}{α:Type}{q:α->fC}{g:α->W}{en:α->W×W}:∀(xs:ai α),(∀x∈xs,∃e1,cc (.fr (en x).1::.fr (en x).2::pe)=.ok (q x) e1/\(q x=true->∃e2,d e1=.ok (g x) e2))->eB cc d pe (xs.aT en)=ab ((xs.TV q).aT g)
 |[],_=>rfl
 |x::xs,h=>by
  let⟨e1,h1,h2⟩:=h x (by simp);have ih:=IB (cc:=cc) (d:=d) (pe:=pe) (q:=q) (g:=g) (en:=en) xs λu hu=>h u (by simp[hu])
  rw[w0k,GG,h1,ih];cases hq:q x with
  |true=>
   let⟨e2,h3⟩:=h2 hq;simp only[hq,h3,w3v,Z2];rfl
  |false=>simp[hq,w3v]
def Gj(n)  (hc:c.aj<=10):mH K a (n+3) zH [.gs (c.aT eo)]=.ok (.ie none ((dW c).aT fun(k:ar)=>W.aO (k:a6))):=by
 have uX:=ó hc;rw[Xd];unfold G6;rw?;rw[w0a,LV n hc];rw?;rw[Mg,og (by rw[w0a,w1u];omega)];simp only[cJ,gS,w0d,w0f];rw[IB (q:=λk=>mt c (br c.aj k)) (g:=fun(k:ar)=>W.aO (k:a6))]
 .rw?;rfl
 .intro k hk;unfold Me Md;rw?;rw[Xr (n+1) (by rw[mK]) (by rw[mK];omega)];rw?;exact⟨_,rfl,λ_=>⟨_,rfl⟩⟩
def fM   : k∈dW c↔k<2^c.aj/\mt c (br c.aj k)=true:=by
 unfold dW;rw[w1l,w0x]
def OI(c):(dW c).aj<=2^c.aj:=by
 unfold dW
 grind
def RY{m:ar}(h:m<=10):lg (2^m)=ab m:=by
 have:m=0\/m=1\/m=2\/m=3\/m=4\/m=5\/m=6\/m=7\/m=8\/m=9\/m=10:=by omega
 rcases this with h|h|h|h|h|h|h|h|h|h|h<;>(subst h;decide)
def Jn(n)  {m:ar}(hw:ws.aj=2^m)(hm:m<=4):mH K a (n+3) zm [.dI ws]=.ok (.fr (.aO m)):=by
 rw[VI];unfold FV;rw?;rw[LQ n,hw,RY (by omega)];unfold i0;rw?;rw[sU (by omega)]
def iL(c w:ai (fv fC)):fC:=(dW c).tB λk=>w.g6 k none != ab false
def zbk(o):gh (eo o) (.bl false)=ab (.bl (o != ab false)):=by
 cases o with
 |none=>rfl
 |ab b=>cases b<;>rfl
def JX{w:ai (fv fC)}  (h:k<w.aj):ee (w.aT eo) (k:a6)=ab (eo (w.g6 k none)):=by
 refine oC ?_;simp[ai.g6,h]
def NS(n)  (hw:w.aj=2^c.aj)(hc:c.aj<=4):mH K a (n+4) CK [.gs (c.aT eo),.dI (w.aT eo)]=.ok (.fr (.bl (iL c w))):=by
 have uX:=ó (show c.aj<=10 by omega);rw[z08];unfold JC;rw?;rw[Jn n (by rw[w0a];exact hw) hc];rw?;simp only[w0a];rw?;rw[Gj n (by omega)];rw?;rw[og (by rw[w0a];have:=OI c;omega)];simp only[cJ,gS,w0d,w0f];rw[mM (g:=λk=>W.bl (w.g6 k none != ab false))]
 .rw?;have e:(dW c).aT (λk=>W.bl (w.g6 k none != ab false))=((dW c).aT λk=>w.g6 k none != ab false).aT .bl:=by rw[w0i];rfl
  rw[e,JT];rw?;unfold iL;rw[w4v];rfl
 .intro k hk;have h1:=fM.mp hk;unfold N5;rw?;rw[JX (by omega)];rw?;rw[zbk];exact⟨_,rfl⟩
def aQ(c:ai (fv fC)):W:=.gs (c.aT eo)
def lU(c:ai (fv fC)):ai (ai (fv fC)):=[c++[none],c++[ab false],c++[ab true]]
def bu:ar->ai (ai (fv fC))
 |0=>[[]]
 |m+1=>(bu m).Ì lU
theorem zy:∀m,(bu m).aj=3^m
 |0=>rfl
 |m+1=>by
  show((bu m).Ì lU).aj=_;rw[ai.length_flatMap]
  have:∀l:ai (ai (fv fC)),(l.aT λc=>(lU c).aj).sum=3*l.aj:=by
   intro l
   induction l with
   |rA=>rfl
   |qY c l ih=>rw[w0k,ai.sum_cons,ih,w0v];show 3+3*l.aj=_;omega
  rw[this,zy m,w1r,w3h]
theorem sD:∀(m:ar)(c:ai (fv fC)),c∈bu m↔c.aj=m
 |0,c=>by
  show c∈[[]]↔_;rw[w1e];exact w4o.symm
 |m+1,c=>by
  show c∈(bu m).Ì lU↔_;rw[ai.mem_flatMap];constructor
  .rintro⟨d,hd,h⟩;have:=(sD m d).mp hd;simp only[lU,w0g,w1d,ZM]at h;rcases h with rfl|rfl|rfl<;>simp[this]
  .intro h;rcases ai.eq_nil_or_concat c with rfl|⟨d,o,rfl⟩
   .simp at h
   .rw[ai.concat_eq_append]at h |-
    refine⟨d,(sD m d).uR (by simpa using h),?_⟩;cases o with
    |none=>simp[lU]
    |ab b=>cases b<;>simp[lU]
def z1e  {p:fv fC}(h:c++[o]=d++[p]):c=d/\o=p:=by
 have:=ai.append_inj' h rfl;exact⟨this.1,by simpa using this.2⟩
theorem LW:∀m,(bu m).x6
 |0=>by decide
 |m+1=>by
  show((bu m).Ì lU).x6;rw[w4e,w4z];refine⟨λc _=>?_,(w4e.mp (LW m)).vW λ{c d} iN x hx y hy e=>?_⟩
  .simp[lU]
  .simp only[lU,w0g,w1d,ZM]at hx hy;subst e;rcases hx with rfl|rfl|rfl<;>rcases hy with h|h|h<;>exact iN (z1e h).1
theorem NT(r0:ar->ai W->FR)(x0 x1 x2:S):∀(cs sT:ai (ai (fv fC)))(z:S),(∀c∈cs,c.aj<=10)->sT.aj+3*cs.aj<=1000 ->
  ∃z',cy 4 (BS K a r0) (cs.aT aQ) [x0,x1,x2,.ie none (sT.aT aQ),z]=.nx [x0,x1,x2,.ie none ((sT++cs.Ì lU).aT aQ),z']
 |[],sT,z,_,_=>⟨z,by simp[cy]⟩
 |c::cs,sT,z,hc,hl=>by
  have h1:=hc c (by simp);rw[w0v]at hl;let⟨z',ih⟩:=NT r0 x0 x1 x2 cs (sT++lU c) (.fr (aQ c)) (λd h=>hc d (by simp[h])) (by rw[w1t];show sT.aj+3+_<=_;omega)
  refine⟨z',?_⟩;rw[w0k,ub]
  have e1:BS K a r0 [x0,x1,x2,.ie none (sT.aT aQ),.fr (aQ c)]=.nx [x0,x1,x2,.ie none ((sT++lU c).aT aQ),.fr (aQ c)]:=by
   unfold BS aQ;rw?;have l1:(c.aT eo).aj<=16777215:=by rw[w0a];omega
   have l2:(sT.aT λc=>W.gs (c.aT eo)).aj<=16777213:=by rw[w0a];omega
   simp_all [lU,eo]
  simp_all [w_]
theorem B_  (h:m<=4):3^m<=81:=w0r (w0n (by decide) h) (by decide)
def WA(n){m:ar}(hm:m<=4):mH K a (n+1) Gq [.aO (m:a6)]=.ok (.fr (.dI ((bu m).aT aQ))):=by
 rw[Wh];unfold Gy;rw?;rw[og (n5 (by omega) (by omega))];rw?
 let⟨e',h5,z2,z3,z4,rfl⟩:=vL (b:=FW K a (mH K a n)) (i:=2) (lo:=0) (hi:=(m:a6)) m (by omega) (λj e=>∃(z2 z3 z4:S),e=[.fr (.aO (m:a6)),.fr (.dI ((bu j).aT aQ)),z2,z3,z4]) [.fr (.aO (m:a6)),.fr (.dI [.gs []]),.no,.no,.no] ⟨_,_,_,rfl⟩ (by
  rintro j e hj ⟨z2,z3,z4,rfl⟩;unfold FW;rw?;let⟨z',h⟩:=NT (K:=K) (a:=a) (mH K a n) (.fr (.aO (m:a6))) (.fr (.dI ((bu j).aT aQ))) (.fr (.aO (0+(j:a6)))) (bu j) [] z4 (λc h=>by rw[(sD j c).mp h];omega) (by rw[zy];have:=B_ (show j<=4 by omega);simp only[w5a];omega)
  simp only[w2k,w5b]at h;rw[h];rw?;exact⟨_,rfl,_,_,_,rfl⟩)
 rw[h5];rw?
open Dh
def rj(c:ai (fv fC))(k:ar):ai (fv fC):=c.vA k++none::c.wa (k+1)
def zJ   (h:k<c.aj):(rj c k).aj=c.aj:=by
 unfold rj;simp;omega
def AR(c w:ai (fv fC)):fC:=(dW c).vb λk=>w.g6 k none==ab true
def qQ(c:ai (fv fC)):ai (ai (fv fC)):=((ai.zd c.aj).TV λk=>c.g6 k none != none).aT (rj c)
def mI(c w:ai (fv fC)):fC:=iL c w&&(AR c w&&!((qQ c).vb λd=>iL d w))
def z6y(o):gh (eo o) .aF=ab (.bl (o != none)):=by
 cases o with
 |none=>rfl
 |ab b=>rfl
def OJ(o):j0 (eo o) (.bl true)=ab (.bl (o==ab true)):=by
 cases o with
 |none=>rfl
 |ab b=>cases b<;>rfl
def Qt  {k:ar}(h:k<=xs.aj):fm xs none (ab (k:a6))=xs.vA k:=by
 unfold fm;rw[HT.lN,HT.eW,w4a h];simp
def NU  {k:ar}(h:k<=xs.aj):fm xs (ab (k:a6)) none=xs.wa k:=by
 unfold fm;rw[HT.lN,HT.eW,w4a h];exact w2d (by simp)
def Sz{c:ai (fv fC)}  (h:k<c.aj):xo (.gs (c.aT eo)) none (ab (k:a6))=ab (.gs ((c.vA k).aT eo)):=by
 show(if ¬(HT.cz (c.aT eo).aj 0 none=0/\HT.cz (c.aT eo).aj (c.aT eo).aj (ab (k:a6))=(c.aT eo).aj)then ab (W.gs (fm (c.aT eo) none (ab (k:a6))))else none)=_;rw[HT.eW,og (by rw[w0a];omega),Qt (by rw[w0a];omega),w3x]
def z6z{c:ai (fv fC)}  (h:k<c.aj):xo (.gs (c.aT eo)) (ab ((k:a6)+1)) none=ab (.gs ((c.wa (k+1)).aT eo)):=by
 rw[show(k:a6)+1=((k+1:ar):a6)from rfl];show(if ¬(HT.cz (c.aT eo).aj 0 (ab ((k+1:ar):a6))=0/\HT.cz (c.aT eo).aj (c.aT eo).aj none=(c.aT eo).aj)then ab (W.gs (fm (c.aT eo) (ab ((k+1:ar):a6)) none))else none)=_;rw[HT.eW,og (by rw[w0a];omega),NU (by rw[w0a];omega),w3y]
def z1f(c)(k):(c.vA k).aT eo++[W.aF]++(c.wa (k+1)).aT eo=(rj c k).aT eo:=by
 unfold rj;simp[eo]
def zbl(n)  (hc:c.aj<=10):mH K a (n+1) FL [.gs (c.aT eo)]=.ok (.ie none ((qQ c).aT aQ)):=by
 rw[VJ];unfold FX;rw?;rw[w0a,og (n5 (by omega) (by omega))];rw?;rw[og (by rw[Hh];omega)];simp only[cJ,gS,w0d,w0f];rw[MO,xc (q:=λk=>c.g6 k none != none) (g:=λk=>aQ (rj c k)) (en:=λk=>W.aO ((k:ar):a6)) (ai.zd c.aj)]
 .unfold qQ;rw[w0i];rfl
 .intro k hk;rw[w0x]at hk;unfold Ln Ll;rw?;rw[JX hk];rw?;rw[z6y];rw?;refine⟨_,rfl,λ_=>?_⟩
  rw?;rw[Sz hk];rw?;rw[og (by rw[w0a,w2p];omega)];rw?;rw[z6z hk];rw?;rw[og (by grind)];rw[z1f];exact⟨_,rfl⟩
def z60  (h:d∈qQ c):d.aj=c.aj:=by
 unfold qQ at h;let⟨k,hk,rfl⟩:=w0o.mp h;have:=(w1l.mp hk).1;rw[w0x]at this;exact zJ this
theorem Qi(bs:ai fC):l9 [.dI (bs.aT .bl)]=ab (.bl (bs.vb id)):=SO
def z61(c):(qQ c).aj<=c.aj:=by
 unfold qQ
 grind
def WK(n)  (hw:w.aj=2^c.aj)(hc:c.aj<=4):mH K a (n+5) GI [.gs (c.aT eo),.dI (w.aT eo)]=.ok (.fr (.bl (mI c w))):=by
 have uX:=ó (show c.aj<=10 by omega);have hr:=OI c;have oB:=z61 c;rw[WR];unfold GQ;rw?;rw[NS n hw hc];unfold mI;cases hf:iL c w with
 |false=>rw?;rfl
 |true=>
  rw?;rw[Gj (n+1) (by omega)];rw?;rw[og (by rw[w0a];omega)];simp only[cJ,gS,w0d,w0f];rw[mM (g:=λk=>W.bl (w.g6 k none==ab true))]
  .rw?;have e:(dW c).aT (λk=>W.bl (w.g6 k none==ab true))=((dW c).aT λk=>w.g6 k none==ab true).aT .bl:=by rw[w0i];rfl
   rw[e,Qi];rw?;have e2:((dW c).aT λk=>w.g6 k none==ab true).vb id=AR c w:=by unfold AR;rw[w4w];rfl
   rw[e2];cases ht:AR c w with
   |false=>rw?;rfl
   |true=>
    rw?;rw[zbl (n+3) (by omega)];rw?;rw[og (by rw[w0a];omega)];simp only[cJ,gS,w0d,w0f];rw[mM (g:=λd=>W.bl (iL d w)) (en:=aQ)]
    .rw?;have e3:(qQ c).aT (λd=>W.bl (iL d w))=((qQ c).aT λd=>iL d w).aT .bl:=by rw[w0i];rfl
     rw[e3,Qi];rw?;rw[w4w];rfl
    .intro d hd;have hl:=z60 hd;unfold LS aQ;rw?;rw[NS n (by rw[hl];exact hw) (by omega)];exact⟨_,rfl⟩
  .intro k hk;have h1:=fM.mp hk;unfold LU;rw?;rw[JX (by omega)];rw?;rw[OJ];exact⟨_,rfl⟩
def X8(n)   (hw:w.aj=2^m)(hm:m<=4):mH K a (n+6) Iy [.dI (w.aT eo)]=.ok (.ie none (((bu m).TV λc=>mI c w).aT aQ)):=by
 have h81:=B_ hm;have hl:=zy m;rw[XE];unfold Ia;rw?;rw[Jn (n+2) (by rw[w0a];exact hw) hm];rw?;rw[WA (n+4) hm];rw?;rw[og (by rw[w0a];omega)];simp only[cJ,gS,w0d,w0f];rw[xc (q:=λc=>mI c w) (g:=aQ) (en:=aQ) (bu m)]
 .rfl
 .intro c hc;have h1:=(sD m c).mp hc;unfold Mn Mm aQ;rw?;rw[WK n (by rw[h1];exact hw) (by omega)];rw?;exact⟨_,rfl,λ_=>⟨_,rfl⟩⟩
def nI(k:ar):W:=.aO (k:a6)
def wr(w:ai (fv fC)):ai ar:=(ai.zd w.aj).TV λk=>w.g6 k none==ab true
theorem Jo:∀ts:ai ar,(ts.aT nI).tB a_=true
 |[]=>rfl
 |_::ts=>by rw[w0k,w2w,Jo ts];rfl
theorem Qj(k:ar):∀ts:ai ar,((ts.aT nI).vb λy=>lX y (.aO (k:a6)))=ts._R k
 |[]=>rfl
 |t::ts=>by
  rw[w0k,w2x,Qj k ts,ai.contains_cons];congr 1;show(((t:a6)==(k:a6)):fC)=(k==t);apply w1w.uR;simp only[_y];omega
def RZ(k)(ts:ai ar):kF (nI k) (.dI (ts.aT nI))=ab (.bl (!ts._R k)):=by
 show(if a_ (.aO (k:a6))=true/\(ts.aT nI).tB a_=true then ab (W.bl (!(ts.aT nI).vb λy=>lX y (.aO (k:a6))))else none)=_
 rw[og ⟨rfl,Jo ts⟩,Qj]
def WB(n){ns ts:ai ar}(h:ns.aj<=2000):mH K a (n+1) wW [.dI (ns.aT nI),.dI (ts.aT nI)]=.ok (.ie none ((ns.TV λk=>!ts._R k).aT nI)):=by
 rw[Wi];unfold Gz;rw?;rw[og (by rw[w0a];omega)];simp only[cJ,gS,w0d,w0f];rw[xc (q:=λk=>!ts._R k) (g:=nI) (en:=nI) ns]
 .rfl
 .intro k _;unfold LI LH;rw?;rw[RZ];rw?;exact⟨_,rfl,λ_=>⟨_,rfl⟩⟩
def z62(w:ai (fv fC)):b8 0 (w.aT eo)=(ai.zd w.aj).aT fun(k:ar)=>(W.aO ((k:ar):a6),eo (w.g6 k none)):=by
 have e:w.aT eo=(ai.zd w.aj).aT λk=>eo (w.g6 k none):=by
  apply w2b;intro k
  by_cases h:k<w.aj
  .simp[w4b h,h,ai.g6]
  .simp[h,ar.zcC h]
 rw[e,Mg]
def X9(n)   (hw:w.aj=2^m)(hm:m<=4):mH K a (n+4) FN [.dI (w.aT eo)]=.ok (.ie none ((wr w).aT nI)):=by
 have uX:=ó (show m<=10 by omega);rw[VL];unfold FY;rw?;rw[Jn n (by rw[w0a];exact hw) hm];rw?;rw[z62,og (by rw[w0a,w1u];omega)];rw[IB (q:=λk=>w.g6 k none==ab true) (g:=nI)]
 .rfl
 .intro k hk;unfold Lz Ly;rw?;rw[OJ];rw?;exact⟨_,rfl,λ_=>⟨_,rfl⟩⟩
def R0(w):(wr w).aj<=w.aj:=by
 unfold wr
 grind
abbrev Cb:=ai (fv fC)
def vc(n:a6)(l:ai ar):fC:=l.vb λk=>decide ((k:a6)=n)
def eJ(c:Cb):W:=.gs [aQ c,.dI ((dW c).aT nI)]
def hv(P:ai Cb)(n:a6):ai Cb:=P.TV λc=>vc n (dW c)
def lf(l:ai ar)(c:Cb):ai ar:=l.TV λk=>!(dW c)._R k
theorem OK(n):∀ts:ai ar,((ts.aT nI).vb λy=>lX y (.aO n))=vc n ts
 |[]=>rfl
 |t::ts=>by
  show(lX (.aO (t:a6)) (.aO n)||(ts.aT nI).vb λy=>lX y (.aO n))=(decide ((t:a6)=n)||vc n ts)
  rw[OK n ts];congr 1
def R1(n)(ts):vd (.aO n) (.dI (ts.aT nI))=ab (.bl (vc n ts)):=by
 show(if a_ (.aO n)=true/\(ts.aT nI).tB a_=true then ab (W.bl ((ts.aT nI).vb λy=>lX y (.aO n)))else none)=_
 rw[og ⟨rfl,Jo ts⟩,OK]
def MA(n)  (hP:P.aj<=1000)(x):mH K a (n+1) zU [.dI (P.aT eJ),.aO x]=.ok (.ie none ((hv P x).aT eJ)):=by
 rw[XG];unfold Ic;rw?
 rw[w0a,og (by omega),xc (q:=λc=>vc x (dW c)) (g:=eJ) (en:=eJ) P λc _=>by
  simp only[gm,bo,cJ,gS,w0k,w2k,w1v,ai.foldl_nil,w0d,w0f];refine⟨[.fr (eJ c),.fr (.aO x)],?_,λ_=>⟨[.fr (eJ c),.fr (.aO x)],?_⟩⟩
  .unfold Mz;rw?;rw[show aW (eJ c) (.aO 1)=ab (.dI ((dW c).aT nI))from rfl];rw?;rw[R1];rw?
  .unfold Mo;rw?]
 rw?;rfl
def Xs(n){w:Cb}  (hw:w.aj=2^m)(hm:m<=4):mH K a (n+7) F6 [.dI (w.aT eo)]=.ok (.ie none (((bu m).TV λc=>mI c w).aT eJ)):=by
 have hl:((bu m).TV λc=>mI c w).aj<=81:=by
  grind [zy,B_]
 have hc:∀c∈(bu m).TV λc=>mI c w,c.aj=m:=λc h=>(sD m c).mp (w1l.mp h).1
 have pr:=X8 (K:=K) (a:=a) n hw hm;rw[VY];unfold Gb;rw?;rw[pr];rw?;generalize (bu m).TV (λc=>mI c w)=P at hl hc
 rw[w0a,og (by omega),mM (g:=eJ) (en:=aQ) P λc h=>by
  unfold Lv aQ;rw?;rw[Gj (n+3) (c:=c) (by rw[hc c h];omega)];rw?;exact⟨_,rfl⟩]
 rw?
theorem z1g(l)(c):(lf l c).aj<=l.aj:=w3s _ _
def z63(k:ar)(l):vc (k:a6) l=l._R k:=by
 unfold vc
 grind
def Pm(w:Cb)(m:ar):ai Cb:=(bu m).TV λc=>mI c w
def JY(w)  (hm:m<=4):(Pm w m).aj<=81/\∀c∈Pm w m,c.aj=m:=by
 refine⟨?_,λc h=>(sD m c).mp (w1l.mp h).1⟩
 have:=w3s (λc=>mI c w) (bu m)
 rw[zy]at this;have:=B_ hm;exact w0r ‹_› this
def tx(cs:ai ar):d3:=⟨cs.k8⟩
def z64(cs):(tx cs).Yl.vZ=cs:=by simp[tx]
def Qk(as bs):tx as++tx bs=tx (as++bs):=by
 show d3.mk (as.k8++bs.k8)=_;simp[tx]
def z65:("":d3)=tx []:=by decide +kernel
theorem OL:∀cs:ai ar,d3._D "" (cs.aT λc=>tx [c])=tx cs
 |[]=>rfl
 |[c]=>rfl
 |c::d::cs=>by
  show tx [c]++""++d3._D "" ((d::cs).aT λc=>tx [c])=_
  rw[OL (d::cs),z65,Qk,Qk];rfl
theorem z1h(cs):_q._D "" (cs.aT λc=>tx [c])=tx cs:=(StrLaws.glued_eq_join _ _).ki (OL cs)
theorem OM:∀xs:ai d3,iE (xs.aT .str)=ab xs
 |[]=>rfl
 |x::xs=>by
  show(iE (xs.aT W.str)).aT (x::·)=_;rw[OM xs];rfl
def z1i(c:ai (fv fC)):iE (c.aT λo=>.str (YS o))=ab (c.aT YS):=by
 have:=OM (c.aT YS)
 rwa [w0i]at this
def z66(o):(YS o).aj=1:=by
 cases o with
 |none=>rfl
 |ab b=>cases b<;>rfl
theorem ON:∀c:ai (fv fC),((c.aT YS).aT λx=>x.aj).sum=c.aj
 |[]=>rfl
 |o::c=>by
  rw[w0k,w0k,ai.sum_cons,ON c,z66];simp;omega
def z1j(c:ai (fv fC))(h:c.aj<=1000):lD (.str "") [.dI (c.aT λo=>.str (YS o))]=ab (.str (_q._D "" (c.aT YS))):=by
 show(match iE (c.aT λo=>W.str (YS o))with
   |ab ys=>if jl "" ys=true then ab (W.str (_q._D "" ys))else none
   |none=>none)=_
 rw[z1i];show(if jl "" (c.aT YS)=true then ab (W.str (_q._D "" (c.aT YS)))else none)=_;rw[og];unfold jl;rw[ON,w0a];have:("":d3).aj=0:=rfl;rw[this,ar.mul_zero,ar.ble_eq];omega
def z1k(n){c:ai (fv fC)}(h:c.aj<=1000):mH K a (n+1) zu [.gs (c.aT eo)]=.ok (.fr (.str (_q._D "" (c.aT YS)))):=by
 rw[We];unfold Gv;rw?
 rw[og (by rw[w0a];omega),mM (g:=λo=>W.str (YS o)) c λo _=>⟨[.fr (eo o)],by
  unfold LF;rw?;rw[show sO (eo o)=ab (.str (YS o))from by cases o<;>rfl];rw?⟩]
 rw?;rw[z1j c h];rw?
def gc(P:ai Cb)(k:ar):ar:=(hv P (k:a6)).aj
def kH(P:ai Cb):ar->ai ar->ar
 |b,[]=>b
 |b,k::l=>if gc P k<gc P b then kH P k l else kH P b l
def qO(P:ai Cb):ai ar->ar
 |[]=>0
 |k::l=>kH P k l
theorem IC(P):∀(l:ai ar)(b:ar),kH P b l=b\/kH P b l∈l
 |[],b=>.j' rfl
 |k::l,b=>by
  unfold kH;split
  .rcases IC P l k with h|h
   all_goals grind
  .rcases IC P l b with h|h
   .exact .j' h
   .exact .mv (w0u _ h)
def OP(P)(k)(l):qO P (k::l)∈k::l:=by
 rcases IC P l k with h|h
 .exact w0g.uR (.j' h)
 .exact w0u _ h
def rn(go:Cb->ai Cb ⊕ W)(num:ar):ai Cb->ai W->ai Cb ⊕ W
 |[],sT=>.mv (.gs [nI num,.gs sT])
 |c::cs,sT=>match go c with
  |.j' d=>.j' (c::d)
  |.mv t=>rn go num cs (sT++[.gs [aQ c,t]])
def cS(P:ai Cb):ar->ai ar->ai Cb ⊕ W
 |_,[]=>.j' []
 |0,k::l=>.mv (.gs [nI (qO P (k::l)),.gs []])
 |n+1,k::l=>rn (λc=>cS P n (lf (k::l) c)) (qO P (k::l)) (hv P (qO P (k::l):a6)) []
def bL:ai Cb ⊕ W->W
 |.j' cs=>.gs [.str "cover", .dI (cs.aT aQ)]
 |.mv t=>.gs [.str "tree", t]
def C6(cs:ai Cb)(l:ai ar):Prop:=∀k∈l,∃c∈cs,k∈dW c
def kC    : k∈lf l c↔k∈l/\k∉dW c:=by
 unfold lf;rw[w1l];simp
def mB  {k:ar}  : c∈hv P (k:a6)↔c∈P/\k∈dW c:=by
 unfold hv;rw[w1l,z63];simp
theorem OQ{go:Cb->ai Cb ⊕ W}{num:ar}:∀{cs:ai Cb}{sT:ai W}{t:W},rn go num cs sT=.mv t->∀c∈cs,∃u,go c=.mv u
 |[],_,_,_,_,h=>nomatch h
 |c::cs,sT,t,e,d,h=>by
  unfold rn at e;cases q:go c with
  |j' x=>rw[q]at e;cases e
  |mv u=>
   rw[q]at e;rcases w0g.mp h with rfl|h
   .exact⟨u,q⟩
   .exact OQ e d h
theorem OR  {num:ar}:∀{cs:ai Cb}{sT:ai W}{x:ai Cb},rn go num cs sT=.j' x->∃c∈cs,∃d,go c=.j' d/\x=c::d
 |[],_,_,e=>by cases e
 |c::cs,sT,x,e=>by
  unfold rn at e;cases q:go c with
  |j' d=>rw[q]at e;exact⟨c,w1h,d,q,(ZW.j'.La e).symm⟩
  |mv u=>
   rw[q]at e;let⟨c',h,r⟩:=OR e;exact⟨c',w0u _ h,r⟩
theorem MR(P:ai Cb):∀(n:ar)(l:ai ar)(t:W),cS P n l=.mv t->∀cs:ai Cb,(∀c∈cs,c∈P)->cs.aj<=n->¬C6 cs l
 |n,[],t,e=>by unfold cS at e;cases e
 |0,k::l,t,_=>λcs _ hl hc=>by
  let⟨c,h,_⟩:=hc k w1h;cases cs with
  |rA=>cases h
  |qY x y=>simp at hl
 |n+1,k::l,t,e=>λcs hP hl hc=>by
  unfold cS at e;let⟨c,h1,h2⟩:=hc _ (OP P k l);let⟨u,hu⟩:=OQ e c (mB.uR ⟨hP c h1,h2⟩);refine MR P n _ u hu (cs.erase c) (λd hd=>hP d (ai.mem_of_mem_erase hd)) (by rw[w4m h1];omega) λj hj=>?_
  let⟨h3,h4⟩:=kC.mp hj;let⟨d,h5,h6⟩:=hc j h3
  grind
theorem Cd(P):∀(n:ar)(l:ai ar)(cs:ai Cb),cS P n l=.j' cs->(∀c∈cs,c∈P/\∃k∈l,k∈dW c)/\cs.aj<=n/\C6 cs l/\cs.x6
 |n,[],cs,e=>by
  unfold cS at e;cases ZW.j'.La e;exact⟨λ_ h=>(by cases h),w1b _,λ_ h=>(by cases h),ai.nodup_nil⟩
 |0,k::l,cs,e=>by unfold cS at e;cases e
 |n+1,k::l,cs,e=>by
  unfold cS at e;let⟨c,h1,d,h2,rfl⟩:=OR e;let⟨Bg,de⟩:=mB.mp h1;let⟨a1,a2,a3,a4⟩:=Cd P n _ d h2;refine⟨λx hx=>?_,by rw[w0v];omega,λj hj=>?_,w2s.uR ⟨λz=>?_,a4⟩⟩
  .rcases w0g.mp hx with rfl|hx
   .exact⟨Bg,_,OP P k l,de⟩
   .let⟨b1,i,b2,b3⟩:=a1 x hx;exact⟨b1,i,(kC.mp b2).1,b3⟩
  .by_cases h:j∈dW c
   .exact⟨c,w1h,h⟩
   .let⟨x,b1,b2⟩:=a3 j (kC.uR ⟨hj,h⟩);exact⟨x,w0u _ b1,b2⟩
  .let⟨_,i,b2,b3⟩:=a1 c z;exact(kC.mp b2).2 b3
theorem Oa(P:ai Cb):∀(l:ai ar),(∀k∈l,∃c∈P,k∈dW c)->∃cs:ai Cb,(∀c∈cs,c∈P)/\cs.aj<=l.aj/\C6 cs l
 |[],_=>⟨[],λ_ h=>(by cases h),w0e _,λ_ h=>(by cases h)⟩
 |k::l,h=>by
  let⟨cs,h1,h2,h3⟩:=Oa P l λj hj=>h j (w0u _ hj)
  let⟨c,hc,hk⟩:=h k w1h;refine⟨c::cs,λd hd=>?_,by simp;omega,λj hj=>?_⟩
  .rcases w0g.mp hd with rfl|hd
   .exact hc
   .exact h1 d hd
  .rcases w0g.mp hj with rfl|hj
   .exact⟨c,w1h,hk⟩
   .let⟨d,d1,d2⟩:=h3 j hj;exact⟨d,w0u _ d1,d2⟩
theorem Nb{β:Type}(f:ar->α ⊕ β):∀(n:ar),(∃x,f n=.j' x)->∃d,d<=n/\(∃x,f d=.j' x)/\∀i,i<d->∃t,f i=.mv t
 |0,h=>⟨0,w0e _,h,λi hi=>uP hi (ar.not_lt_zero _)⟩
 |n+1,h=>by
  by_cases z:∃i,i<=n/\∃x,f i=.j' x
  .let⟨i,h1,h2⟩:=z;let⟨d,d1,d2,zb2⟩:=Nb f i h2;exact⟨d,by omega,d2,zb2⟩
  .refine⟨n+1,w0e _,h,λi hi=>?_⟩
   cases q:f i with
   |j' x=>exact(z ⟨i,by omega,x,q⟩).oP
   |mv t=>exact⟨t,rfl⟩
termination_by n=>n
structure LC(P:ai Cb)(l:ai ar)(N:ar)(cs:ai Cb)(T:W):Prop where
 S5:cS P N l=.j' cs
 aF:N=0->T=.aF
 tree:∀n,N=n+1->cS P n l=.mv T
def z67{P:ai Cb}  (h:∀k∈l,∃c∈P,k∈dW c):∃d,d<=l.aj/\(∃x,cS P d l=.j' x)/\∀i,i<d->∃t,cS P i l=.mv t:=by
 refine Nb (λn=>cS P n l) l.aj ?_
 let⟨cs,h1,h2,h3⟩:=Oa P l h;cases q:cS P l.aj l with
 |j' x=>exact⟨x,rfl⟩
 |mv t=>exact(MR P _ l t q cs h1 h2 h3).oP
def nn(c:Cb):ar:=(c.TV λo=>o==none).aj
theorem OS:∀{c:Cb}{r:ai fC}{j:ar},mt c r=true->mt (rj c j) r=true\/c.aj<=j
 |[],r,j,_=>.mv (w1b _)
 |o::c,[],j,_=>.j' (by cases j<;>rfl)
 |o::c,b::r,0,h=>by
  have h:((o==none||o==ab b)&&mt c r)=true:=h;rw[w0t]at h;refine .j' ?_;show((none==(none:fv fC)||none==ab b)&&mt c r)=true;rw[h.2];rfl
 |o::c,b::r,j+1,h=>by
  have h:((o==none||o==ab b)&&mt c r)=true:=h;rw[w0t]at h;rcases OS (j:=j) h.2 with z|z
  .refine .j' ?_;show((o==none||o==ab b)&&mt (rj c j) r)=true;rw[h.1,z];rfl
  .exact .mv (by simp;exact z)
end
theorem Ph:∀{c:Cb}{j:ar},(c.g6 j none != none)=true->nn (rj c j)=nn c+1
 |[],j,h=>by simp at h
 |o::c,0,h=>by
  have h:(o != none)=true:=h;cases o with
  |none=>cases h
  |ab b=>rfl
 |o::c,j+1,h=>by
  have ih:=Ph (c:=c) (j:=j) h;show((o::rj c j).TV λo=>o==none).aj=((o::c).TV λo=>o==none).aj+1
  rw[w3v,w3v];unfold nn at ih;split
  .rw[w0v,w0v,ih]
  .exact ih
theorem SA(c):nn c<=c.aj:=w3s _ _
theorem MC{w:Cb}{k:ar}(hk:w.g6 k none=ab true):∀(f:ar)(c:Cb),c.aj<=nn c+f->iL c w=true->k∈dW c->∃d:Cb,d.aj=c.aj/\mI d w=true/\k∈dW d/\∀i∈dW c,i∈dW d
 |f,c,hf,h1,h2=>by
  by_cases ha:(qQ c).vb (λd=>iL d w)=true
  .let⟨d,d1,d2⟩:=w2q.mp ha;let⟨j,j1,rfl⟩:=w0o.mp d1;let⟨j2,zct⟩:=w1l.mp j1;have yl:=w0x.mp j2;have hnn:=Ph zct;have hle:=SA (rj c j);rw[zJ yl]at hle
   have pA:∀i∈dW c,i∈dW (rj c j):=λi hi=>by
    grind [fM,zJ,OS]
   cases f with
   |UQ=>omega
   |UI f=>
    let⟨d,e1,e2,e3,e4⟩:=MC hk f (rj c j) (by rw[zJ yl];omega) d2 (pA k h2);exact⟨d,by rw[e1,zJ yl],e2,e3,λi hi=>e4 i (pA i hi)⟩
  .refine⟨c,rfl,?_,h2,λi hi=>hi⟩
   have ht:AR c w=true:=w2q.uR ⟨k,h2,by rw[hk];rfl⟩;unfold mI;rw[h1,ht,w2v.uR ha];rfl
theorem Pj:∀r s:ai fC,r.aj=s.aj->(mt (r.aT ab) s=true↔r=s)
 |[],[],_=>⟨λ_=>rfl,λ_=>rfl⟩
 |a::r,b::s,h=>by
  have ih:=Pj r s (by simpa using h)
  simp_all [mt]
def z68  (hk:k<2^m)(hj:j<2^m)(h:br m k=br m j):k=j:=by
 grind [br,z07]
def zad{w:Cb}  (hw:w.aj=2^m)  (hk:k∈wr w):∃c∈Pm w m,k∈dW c:=by
 let⟨h1,h2⟩:=w1l.mp hk;have bR:k<2^m:=by rw[<- hw];exact w0x.mp h1
 have h2:w.g6 k none=ab true:=by simpa using h2
 have hl:((br m k).aT ab).aj=m:=by rw[w0a,mK]
 have oz:∀i,i∈dW ((br m k).aT ab)↔i=k:=λi=>by
  rw[fM,hl,Pj _ _ (by rw[mK,mK])];exact⟨fun⟨a1,a2⟩=>(z68 bR a1 a2).symm,λe=>by subst e;exact⟨bR,rfl⟩⟩
 have hf:iL ((br m k).aT ab) w=true:=w1c.uR λi hi=>by
  rw[(oz i).mp hi,h2];rfl
 let⟨d,e1,e2,e3,_⟩:=MC h2 m _ (by rw[hl];omega) hf ((oz k).uR rfl);exact⟨d,w1l.uR ⟨(sD m d).uR (by rw[e1,hl]),e2⟩,e3⟩
theorem Nd:∀l:ai ar,aX (l.aT nI)=true
 |[]=>rfl
 |_::l=>Nd l
theorem ID:∀c:Cb,aX (c.aT eo)=true
 |[]=>rfl
 |none::c=>ID c
 |ab _::c=>ID c
theorem Ng:∀P:ai Cb,aX (P.aT eJ)=true
 |[]=>rfl
 |c::P=>by
  show((aX (c.aT eo)&&(aX ((dW c).aT nI)&&true))&&aX (P.aT eJ))=true;rw[ID,Nd,Ng P];rfl
def z1l(n)  (hP:P.aj<=1000)(k:ar):mH K a (n+2) vJ [.aO (k:a6),.dI (P.aT eJ)]=.ok (.fr (.aO (gc P k:a6))):=by
 have hh:=MA (K:=K) (a:=a) n hP (k:a6);rw[VF,og (show[W.aO (k:a6),.dI (P.aT eJ)].aj=2 from rfl)];unfold BE;generalize mH K a (n+1)=r at hh |-
 simp only[w0k,w2k];rw?;rw[hh];rw?;rw[w0a];rfl
theorem Pk:∀l:ai ar,dQ (l.aT nI)=ab (l.aT fun(k:ar)=>(k:a6))
 |[]=>rfl
 |k::l=>by
  show(dQ (l.aT nI)).aT ((k:a6)::·)=_;rw[Pk l];rfl
theorem Ho   (hF:∀k:ar,F (k:a6)=ab (gc P k:a6)):∀(l:ai ar)(b:ar),fA F (l.aT fun(k:ar)=>(k:a6)) (ab ((b:a6),(gc P b:a6)))=ab (kH P b l:a6)
 |[],b=>rfl
 |k::l,b=>by
  show(match F (k:a6)with
   |ab n=>fA F (l.aT fun(k:ar)=>(k:a6)) (fj (ab ((b:a6),(gc P b:a6))) (k:a6) n)
   |none=>none)=_
  rw[hF];show fA F (l.aT fun(k:ar)=>(k:a6)) (if(gc P k:a6)<(gc P b:a6)then ab ((k:a6),(gc P k:a6))else ab ((b:a6),(gc P b:a6)))=ab ((if gc P k<gc P b then kH P k l else kH P b l:ar):a6)
  by_cases h:gc P k<gc P b
  .rw[og (by omega),og h,Ho hF l k]
  .rw[sU (by omega),sU h,Ho hF l b]
def MD(n)  (hP:P.aj<=1000)(k)(l):mH K a (n+3) IA [.dI (P.aT eJ),.dI ((k::l).aT nI)]=.ok (.fr (nI (qO P (k::l)))):=by
 have lr:=λk=>z1l (K:=K) (a:=a) n hP k
 rw[XF];unfold Ib;generalize mH K a (n+2)=r at lr |-
 rw?;show SR.fn (R.dr (pL r vJ _ (.dI ((k::l).aT nI)) (ab [.dI (P.aT eJ)])) _)=_;unfold pL;simp only[Pk];rw[og (show aX [W.dI (P.aT eJ)]=true by show(aX (P.aT eJ)&&true)=true;rw[Ng];rfl)];have hF:∀j:ar,fX (r vJ [.aO (j:a6),.dI (P.aT eJ)])=ab (gc P j:a6):=λj=>by rw[lr j];rfl
 have e:fA (λi=>fX (r vJ [.aO i,.dI (P.aT eJ)])) ((k::l).aT fun(k:ar)=>(k:a6)) none=ab (qO P (k::l):a6):=by
  show(match fX (r vJ [.aO (k:a6),.dI (P.aT eJ)])with
   |ab n=>fA (λi=>fX (r vJ [.aO i,.dI (P.aT eJ)])) (l.aT fun(k:ar)=>(k:a6)) (fj none (k:a6) n)
   |none=>none)=_
  rw[hF k];exact Ho hF l k
 rw[e];rfl
def iK(P:ai Cb)(l:ai ar)(xA num:ar)(sT:ai W)(z5 z6 z7:S):ai S:=[.fr (.dI (P.aT eJ)),.fr (.dI (l.aT nI)),.fr (.aO ((xA+1:ar):a6)),.fr (nI num),.ie none sT,z5,z6,z7]
def HS(P:ai Cb)(l:ai ar)(xA num:ar)(sT:ai W)(c:Cb):ai Cb ⊕ W->SR
 |.j' d=>.rt (.fr (bL (.j' (c::d)))) (iK P l xA num sT (.fr (aQ c)) (.fr (.dI ((dW c).aT nI))) (.fr (bL (.j' d))))
 |.mv t=>.nx (iK P l xA num (sT++[.gs [aQ c,t]]) (.fr (aQ c)) (.fr (.dI ((dW c).aT nI))) (.fr (bL (.mv t))))
def X_(r)   {xA num:ar}  {c:Cb}(h1:r wW [.dI (l.aT nI),.dI ((dW c).aT nI)]=.ok (.ie none ((lf l c).aT nI)))
  (h2:r pV [.dI (P.aT eJ),.dI ((lf l c).aT nI),.aO (xA:a6)]=.ok (.fr (bL g)))(hg:∀d,g=.j' d->d.aj<=1000)(sT)(ha:sT.aj<=1000)(z7):
  t7 K a r (iK P l xA num sT (.fr (aQ c)) (.fr (.dI ((dW c).aT nI))) z7)=HS P l xA num sT c g:=by
 unfold t7 iK;rw?;rw[h1];rw?;rw[show((xA+1:ar):a6)-1=(xA:a6) by omega,h2];rw?;cases g with
 |j' d=>
  have:=hg d rfl;unfold HS iK bL;rw?;rw[w0a,og (by omega)];rw?
  first|done|rfl
 |mv t=>
  unfold HS iK bL;rw?;rw[og (by omega)]
theorem ME(r:ar->ai W->FR){P:ai Cb}{l:ai ar}{xA num:ar}{go:Cb->ai Cb ⊕ W}(h1:∀c∈P,r wW [.dI (l.aT nI),.dI ((dW c).aT nI)]=.ok (.ie none ((lf l c).aT nI)))
  (h2:∀c∈P,r pV [.dI (P.aT eJ),.dI ((lf l c).aT nI),.aO (xA:a6)]=.ok (.fr (bL (go c))))(hg:∀c d,go c=.j' d->d.aj<=1000):∀(cs:ai Cb)(sT:ai W)(z5 z6 z7:S),(∀c∈cs,c∈P)->sT.aj+cs.aj<=1000 ->
  (∃d e,rn go num cs sT=.j' d/\dn 5 6 (t7 K a r) (cs.aT λc=>(aQ c,.dI ((dW c).aT nI))) (iK P l xA num sT z5 z6 z7)=.rt (.fr (bL (.j' d))) e) \/
  ∃nO wo z6' qR,nO.aj<=1000/\rn go num cs sT=.mv (.gs [nI num,.gs nO])/\dn 5 6 (t7 K a r) (cs.aT λc=>(aQ c,.dI ((dW c).aT nI))) (iK P l xA num sT z5 z6 z7)=.nx (iK P l xA num nO wo z6' qR)
 |[],sT,z5,z6,z7,_,hl=>.mv ⟨sT,z5,z6,z7,by simpa using hl,rfl,rfl⟩
 |c::cs,sT,z5,z6,z7,hc,hl=>by
  simp only[w0v]at hl;have Kz:=hc c w1h;have e:=X_ (K:=K) (a:=a) r (num:=num) (h1 c Kz) (h2 c Kz) (hg c) sT (by omega) z7;have u:∀x,t7 K a r (iK P l xA num sT (.fr (aQ c)) (.fr (.dI ((dW c).aT nI))) z7)=x->dn 5 6 (t7 K a r) ((c::cs).aT λc=>(aQ c,.dI ((dW c).aT nI))) (iK P l xA num sT z5 z6 z7)=x.dU (dn 5 6 (t7 K a r) (cs.aT λc=>(aQ c,.dI ((dW c).aT nI)))):=λx h=>by rw[<- h];rfl
  rw[u _ e];unfold rn;cases q:go c with
  |j' d=>exact .j' ⟨_,_,rfl,rfl⟩
  |mv t=>exact ME r h1 h2 hg cs (sT++[.gs [aQ c,t]]) _ _ _ (λd hd=>hc d (w0u _ hd)) (by rw[w1t];simp;omega)
theorem Of:∀cs:ai Cb,cj (cs.aT eJ)=ab (cs.aT λc=>(aQ c,.dI ((dW c).aT nI)))
 |[]=>rfl
 |c::cs=>by
  show(cj (cs.aT eJ)).aT ((aQ c,.dI ((dW c).aT nI))::·)=_;rw[Of cs];rfl
theorem X'     (hn:n<=1000)(h:cS P n l=.j' d):d.aj<=1000:=w0r (Cd P n l d h).2.1 hn
theorem Nh{P:ai Cb}(hP:P.aj<=81):∀(xA n:ar)(l:ai ar),l.aj<=100->xA<=100->mH K a (n+xA+4) pV [.dI (P.aT eJ),.dI (l.aT nI),.aO (xA:a6)]=.ok (.fr (bL (cS P xA l)))
 |xA,n,[],_,_=>by
  rw[Hn];unfold zX cS bL;rw?
 |0,n,k::l,_,_=>by
  have rr:=MD (K:=K) (a:=a) n (P:=P) (by omega) k l;rw[Hn];unfold zX cS bL;generalize mH K a (n+0+3)=r at rr |-
  have e1:cw bG (ae (af 1) ag) (Z3 8 [.dI (P.aT eJ),.dI ((k::l).aT nI),.aO ((0:ar):a6)])=.ok (.aO ((l.aj+1:ar):a6)) (Z3 8 [.dI (P.aT eJ),.dI ((k::l).aT nI),.aO ((0:ar):a6)]):=by
   unfold Z3;rw?;rw[w0a]
  rw?;rw[w0a,sU (by omega)];rw[w0k]at rr;rw[rr];rw?
 |xA+1,n,k::l,hl,ze4=>by
  have rr:=MD (K:=K) (a:=a) (n+xA+1) (P:=P) (by omega) k l;have hh:=MA (K:=K) (a:=a) (n+xA+3) (P:=P) (by omega) (qO P (k::l):a6);have h1:∀c∈P,mH K a (n+xA+4) wW [.dI ((k::l).aT nI),.dI ((dW c).aT nI)]=.ok (.ie none ((lf (k::l) c).aT nI)):=λc _=>WB (K:=K) (a:=a) (n+xA+3) (by omega)
  have h2:∀c∈P,mH K a (n+xA+4) pV [.dI (P.aT eJ),.dI ((lf (k::l) c).aT nI),.aO (xA:a6)]=.ok (.fr (bL (cS P xA (lf (k::l) c)))):=λc _=>Nh hP xA n _ (w0r (z1g _ c) hl) (by omega)
  have lp:=ME (K:=K) (a:=a) (mH K a (n+xA+4)) (num:=qO P (k::l)) h1 h2 (λc d h=>X' (by omega) h) (hv P (qO P (k::l):a6)) [] .no .no .no (λc hc=>(mB.mp hc).1) (by
   grind [hv])
  rw[show n+(xA+1)+4=n+xA+4+1 by omega,Hn];unfold zX cS;rw[show n+xA+1+3=n+xA+4 by omega]at rr;generalize mH K a (n+xA+4)=r at rr hh lp |-
  unfold iK at lp;rw[w0k]at rr lp |-
  rw?;rw[w0a,sU (by omega),rr];rw?;rw[sU (show ¬(((xA+1:ar):a6)=0) by omega)];rw[show r zU [.dI (P.aT eJ),nI (qO P (k::l))]=_ from hh];rw?;rw[Of];rw?;rcases lp with⟨d,e,b1,b2⟩|⟨nO,z5,z6,z7,b0,b1,b2⟩
  .rw[b2,b1];rfl
  .rw[b2,b1];unfold bL;rw?
def sc:fv fC->ar
 |none=>45
 |ab false=>48
 |ab true=>49
def R3(o):YS o=tx [sc o]:=by
 cases o with
 |none=>decide +kernel
 |ab b=>cases b<;>decide +kernel
def ē(c:Cb):(_q._D "" (c.aT YS)).Yl.vZ=c.aT sc:=by
 rw[show c.aT YS=(c.aT sc).aT λc=>tx [c] by rw[w0i];exact w1n λo _=>R3 o,z1h,z64]
theorem JD  (h:u<v):∀x:ai ar,x++u<x++v
 |[]=>h
 |a::x=>w2u.uR (.mv ⟨rfl,JD h x⟩)
theorem Ql:∀{x y:ai ar}(u v:ai ar),x.aj=y.aj->x<y->x++u<y++v
 |[],[],_,_,_,h=>(ai.lt_irrefl _ h).oP
 |a::x,b::y,u,v,hl,h=>by
  rcases w2u.mp h with h|⟨e,h⟩
  .exact w2u.uR (.j' h)
  .exact w2u.uR (.mv ⟨e,Ql u v (by simpa using hl) h⟩)
theorem Ni:∀m,(bu m).Zl λc d=>c.aT sc<d.aT sc
 |0=>ai.pairwise_singleton _ _
 |m+1=>by
  show((bu m).Ì lU).Zl _;rw[w4z];refine⟨λc _=>?_,?_⟩
  .unfold lU;simp only[w4h,w0g,w1d,ZM,w0q,ai.Zl.rA,Ŀ];refine⟨λx hx=>?_,λx hx=>?_,λ_ h=>(by cases h)⟩
   .rcases hx with rfl|rfl<;>(rw[w0q];exact JD (by decide) _)
   .subst hx;rw[w0q];exact JD (by decide) _
  .refine ai.Zl.ŕ (λ{c d} hc hd h x hx y hy=>?_) (Ni m)
   have lc:=(sD m c).mp hc;have ld:=(sD m d).mp hd;simp only[lU,w0g,w1d,ZM]at hx hy
   grind [Ql]
def jy(c:Cb):d3:=_q._D "" (c.aT YS)
theorem Qm  (hF:∀c:Cb,c.aj<=1000->F [aQ c]=.ok (.fr (.str (jy c)))):∀cs:ai Cb,(∀c∈cs,c.aj<=1000)->iC F (cs.aT aQ)=ab (cs.aT jy)
 |[],_=>rfl
 |c::cs,h=>by
  show(match nJ (F [aQ c]),iC F (cs.aT aQ)with
   |ab n,ab ns=>ab (n::ns)
   |_,_=>none)=_
  rw[hF c (h c w1h),Qm hF cs λd hd=>h d (w0u _ hd)]
  rfl
def gq(P cs:ai Cb):ai Cb:=P.TV λc=>cs._R c
theorem zak(w)(m)(cs):(gq (Pm w m) cs).x6:=ai.Zl.TV _ (ai.Zl.TV _ (LW m))
def gW   : c∈gq P cs↔c∈P/\c∈cs:=by
 unfold gq;rw[w1l];simp
theorem Nj    (h1:∀c∈cs,c∈Pm w m)(h2:cs.x6):(gq (Pm w m) cs).ZD cs:=
 (ai.perm_ext_iff_of_nodup (zak w m cs) h2).uR λc=>gW.ki ⟨λh=>h.2,λh=>⟨h1 c h,h⟩⟩
def z69  (hF:∀c:Cb,c.aj<=1000->F [aQ c]=.ok (.fr (.str (jy c))))   (hm:m<=4)  (h1:∀c∈cs,c∈Pm w m)(h2:cs.x6)(h3:cs.aj<64):sQ F (.dI (cs.aT aQ))=ab ((gq (Pm w m) cs).aT aQ):=by
 have v_:∀c∈cs,c.aj<=1000:=λc hc=>by rw[(JY w hm).2 c (h1 c hc)];omega
 show(if(cs.aT aQ).aj<64 then(iC F (cs.aT aQ)).r7 λns=>mS ns (cs.aT aQ)else none)=_
 rw[w0a,og h3,Qm hF cs v_];show mS (cs.aT jy) (cs.aT aQ)=_
 have hz:(cs.aT jy).wk (cs.aT aQ)=cs.aT λc=>(jy c,aQ c):=by
  rw[ai.zip_map',]
 have pm:=Nj h1 h2;rw[z6j (zs:=(gq (Pm w m) cs).aT λc=>(jy c,aQ c)) (by rw[w0a,w0a]) (by rw[hz];exact pm.aT _) ?_,w0i]
 .rfl
 .refine w3p.uR (ai.Zl.vW (λ{c d} h=>?_) (ai.Zl.TV _ (ai.Zl.TV _ (Ni m))))
  show(jy c).Yl.vZ<(jy d).Yl.vZ;unfold jy;rw[ē,ē];exact h
theorem Oh(R:ar->ai W->FR){P:ai Cb}{l:ai ar}(A:W)(hR:∀xA:ar,xA<=100->R pV [.dI (P.aT eJ),.dI (l.aT nI),.aO (xA:a6)]=.ok (.fr (bL (cS P xA l)))):∀(d j A7:ar)(T:W),(∃x,cS P (j+d) l=.j' x)->(∀i,i<d->∃t,cS P (j+i) l=.mv t)->j+d<=100->d<A7 ->
  ∃T',(d=0->T'=T)/\(∀e,d=e+1->cS P (j+e) l=.mv T')/\bg (yZ K a R) (BH K a R) A7 [.fr A,.fr (.dI (P.aT eJ)),.fr (.dI (l.aT nI)),.fr (.aO (j:a6)),.fr T,.fr (bL (cS P j l))]=.nx [.fr A,.fr (.dI (P.aT eJ)),.fr (.dI (l.aT nI)),.fr (.aO ((j+d:ar):a6)),.fr T',.fr (bL (cS P (j+d) l))]
 |0,j,A7+1,T,h1,_,_,_=>by
  let⟨x,hx⟩:=h1;refine⟨T,λ_=>rfl,λe he=>by omega,?_⟩
  simp only[w4j]at hx |-
  rw[sE,hx,show bL (.j' x)=.gs [.str "cover", .dI (x.aT aQ)]from rfl];unfold yZ;rw?
 |d+1,j,A7+1,T,h1,h2,h3,h4=>by
  let⟨t,ht⟩:=h2 0 (by omega);rw[w4j]at ht;have e1:j+(d+1)=j+1+d:=by omega
  rw[e1]at h1 |-
  let⟨T',a1,a2,a3⟩:=Oh R A hR d (j+1) A7 t h1 (λi hi=>by
   grind) (by omega) (by omega)
  refine⟨T',λz=>by omega,λe he=>?_,?_⟩
  .cases e with
   |UQ=>
    have:d=0:=by omega
    rw[a1 this,w4j];exact ht
   |UI e=>
    grind
  .rw[<- a3,sE,ht];have hr:=hR (j+1) (by omega)
   have ew:yZ K a R [.fr A,.fr (.dI (P.aT eJ)),.fr (.dI (l.aT nI)),.fr (.aO (j:a6)),.fr T,.fr (bL (.mv t))]=.ok true [.fr A,.fr (.dI (P.aT eJ)),.fr (.dI (l.aT nI)),.fr (.aO (j:a6)),.fr T,.fr (bL (.mv t))]:=by
    unfold yZ bL;rw?
   have el:BH K a R [.fr A,.fr (.dI (P.aT eJ)),.fr (.dI (l.aT nI)),.fr (.aO (j:a6)),.fr T,.fr (bL (.mv t))]=.nx [.fr A,.fr (.dI (P.aT eJ)),.fr (.dI (l.aT nI)),.fr (.aO ((j+1:ar):a6)),.fr t,.fr (bL (cS P (j+1) l))]:=by
    unfold BH;rw[show bL (.mv t)=.gs [.str "tree", t]from rfl];rw?;rw[show(j:a6)+1=((j+1:ar):a6) by omega,hr];rw?
   rw[ew,YA,og rfl,el];rfl
def zae(n:ar){w:Cb}{m:ar}(hw:w.aj=2^m)(hm:m<=4):∃N cs T,N<=16/\LC (Pm w m) (wr w) N cs T/\mH K a (n+120) FO [.dI (w.aT eo)]=.ok (.fr (.gs [.dI ((gq (Pm w m) cs).aT aQ),T])):=by
 have h16:(wr w).aj<=16:=by
  have:=R0 w;have:2^m<=16:=w0r (w0n (by decide) hm) (by decide);omega
 have hP:=(JY w hm).1;let⟨N,hN,⟨cs,rO⟩,ht⟩:=z67 (P:=Pm w m) (l:=wr w) λk hk=>zad hw hk
 have rr:=Xs (K:=K) (a:=a) (n+112) hw hm;have wi:=X9 (K:=K) (a:=a) (n+115) hw hm
 have tr:∀xA:ar,xA<=100->mH K a (n+119) pV [.dI ((Pm w m).aT eJ),.dI ((wr w).aT nI),.aO (xA:a6)]=.ok (.fr (bL (cS (Pm w m) xA (wr w)))):=λxA hc=>by
  have:=Nh (K:=K) (a:=a) hP xA (n+115-xA) (wr w) (by omega) hc
  rwa [show n+115-xA+xA+4=n+119 by omega]at this
 have tx:∀c:Cb,c.aj<=1000->mH K a (n+119) zu [aQ c]=.ok (.fr (.str (jy c))):=λc hc=>z1k (K:=K) (a:=a) (n+118) hc
 let⟨T,a1,a2,a3⟩:=Oh (K:=K) (a:=a) (mH K a (n+119)) (.dI (w.aT eo)) tr N 0 1000000 .aF (by rw[w1p];exact⟨cs,rO⟩) (λi hi=>by rw[w1p];exact ht i hi) (by omega) (by omega)
 rw[w1p]at a3;have L:LC (Pm w m) (wr w) N cs T:=⟨rO,a1,λe he=>by have:=a2 e he;rwa [w1p]at this⟩
 let⟨b1,b2,b3,b4⟩:=Cd _ _ _ _ rO;refine⟨N,cs,T,by omega,L,?_⟩;have sr:=z69 (F:=mH K a (n+119) zu) tx hm (λc hc=>(b1 c hc).1) b4 (by omega)
 rw[VM];unfold FZ;rw[show n+112+7=n+119 by omega]at rr;rw[show n+115+4=n+119 by omega]at wi;have t0:=tr 0 (by omega);generalize mH K a (n+119)=r at rr wi t0 a3 sr |-
 rw?;rw[rr];rw?;rw[wi];rw?;rw[show r pV [.dI (((bu m).TV λc=>mI c w).aT eJ),.dI ((wr w).aT nI),.aO 0]=_ from t0]
 rw?;rw[show((bu m).TV λc=>mI c w)=Pm w m from rfl,show(0:a6)=((0:ar):a6)from rfl,a3,rO]
 rw[show bL (.j' cs)=.gs [.str "cover", .dI (cs.aT aQ)]from rfl];rw?;rw[sr];rw?
set_option genInjectivity true in
inductive Fm where
 |is (b:fC)|at (p:ar)|not (f:Fm)|and (f g:Fm)|or (f g:Fm)|ZF (f g:Fm)
def uz:Fm->W
 |.is b=>.gs [.str "is", .bl b]
 |.at p=>.gs [.str "at", .aO p]
 |.not f=>.gs [.str "not", uz f]
 |.and f g=>.gs [.str "and", uz f,uz g]
 |.or f g=>.gs [.str "or", uz f,uz g]
 |.ZF f g=>.gs [.str "odd", uz f,uz g]
def Fm.vg:Fm->ar
 |.is _=>1
 |.at _=>1
 |.not f=>f.vg+1
 |.and f g=>max f.vg g.vg+1
 |.or f g=>max f.vg g.vg+1
 |.ZF f g=>max f.vg g.vg+1
inductive O3 where
 |a|o|d
def wd:O3->d3
 |.a=>"and"
 |.o=>"or"
 |.d=>"odd"
def EV:O3->Fm->Fm->Fm
 |.a=>.and
 |.o=>.or
 |.d=>.ZF
def Fm.oY:Fm->Fm
 |.is b=>.is (!b)
 |f=>.not f
def jA:O3->fC->Fm->Fm
 |.a,true,f=>f
 |.a,false,_=>.is false
 |.o,true,_=>.is true
 |.o,false,f=>f
 |.d,true,f=>f.oY
 |.d,false,f=>f
def Fm.e_(o:O3)(f g:Fm):Fm:=match f with
 |.is b=>jA o b g
 |f=>match g with
  |.is b=>jA o b f
  |g=>EV o f g
def z1m(n)(f):mH K a (n+1) Gp [uz f]=.ok (.fr (uz f.oY)):=by
 rw[Wf];unfold Gw;cases f<;>simp only[uz,Fm.oY]<;>rw?
def Ol(n)(o)(b)(f):mH K a (n+2) BJ [.str (wd o),.bl b,uz f]=.ok (.fr (uz (jA o b f))):=by
 rw[VX];unfold Ga;have h:=z1m (K:=K) (a:=a) n f;cases o<;>cases b<;>simp only[wd,jA]<;>rw?<;>first|rfl|(rw[h];rw?)
def Fm.hd:Fm->d3
 |.is _=>"is"
 |.at _=>"at"
 |.not _=>"not"
 |.and _ _=>"and"
 |.or _ _=>"or"
 |.ZF _ _=>"odd"
def Pl(f):aW (uz f) (.aO 0)=ab (.str f.hd):=by cases f<;>rfl
def CZ(f:Fm):f.hd="is"↔∃b,f=.is b:=by
 cases f with
 |is b=>exact⟨λ_=>⟨b,rfl⟩,λ_=>rfl⟩
 |_=>exact⟨λh=>uP h (by simp only[Fm.hd];decide),fun⟨b,h⟩=>by cases h⟩
theorem z7a    : Fm.e_ o (.is b) g=jA o b g:=rfl
def zL    (hf:¬∃b,f=.is b):Fm.e_ o f (.is b)=jA o b f:=by
 cases f with
 |is b=>exact uP ⟨b,rfl⟩ hf
 |_=>rfl
def qJ   (hf:¬∃b,f=.is b)(hg:¬∃b,g=.is b):Fm.e_ o f g=EV o f g:=by
 cases f with
 |is b=>exact uP ⟨b,rfl⟩ hf
 |_=>cases g with
  |is b=>exact uP ⟨b,rfl⟩ hg
  |_=>rfl
def z7b   : uz (EV o f g)=.gs [.str (wd o),uz f,uz g]:=by cases o<;>rfl
def Ce(n)(o)(f g):mH K a (n+3) qI [.str (wd o),uz f,uz g]=.ok (.fr (uz (f.e_ o g))):=by
 rw[Y9];unfold Jk;rw?;rw[Pl];rw?
 by_cases hf:∃b,f=.is b
 .let⟨b,rfl⟩:=hf;rw[og ((CZ (.is b)).uR ⟨b,rfl⟩),z7a];simp only[uz];rw?;rw[Ol n o b g];rw?
 .rw[sU (by rw[CZ];exact hf),Pl];rw?
  by_cases hg:∃b,g=.is b
  .let⟨b,rfl⟩:=hg;rw[og ((CZ (.is b)).uR ⟨b,rfl⟩),zL hf];simp only[uz];rw?;rw[Ol n o b f];rw?
  .rw[sU (by rw[CZ];exact hg),qJ hf hg,z7b]
def Fm.dt:Fm->ar
 |.is _=>1
 |.at _=>1
 |.not f=>f.dt+1
 |.and f g=>f.dt+g.dt+1
 |.or f g=>f.dt+g.dt+1
 |.ZF f g=>f.dt+g.dt+1
def Fm.yD(p:ar):Fm->fC
 |.is _=>false
 |.at q=>decide (q=p)
 |.not f=>f.yD p
 |.and f g=>f.yD p||g.yD p
 |.or f g=>f.yD p||g.yD p
 |.ZF f g=>f.yD p||g.yD p
theorem t6:∀(f:Fm),bN (uz f)<=f.vg
 |.is b=>by simp[uz,bN,bE,Fm.vg]
 |.at p=>by simp[uz,bN,bE,Fm.vg]
 |.not f=>by have:=t6 f;simp[uz,bN,bE,Fm.vg];omega
 |.and f g=>by have:=t6 f;have:=t6 g;simp[uz,bN,bE,Fm.vg];omega
 |.or f g=>by have:=t6 f;have:=t6 g;simp[uz,bN,bE,Fm.vg];omega
 |.ZF f g=>by have:=t6 f;have:=t6 g;simp[uz,bN,bE,Fm.vg];omega
def z1n(ws)(k:ar):fm ws none (ab (k:a6))=ws.vA k:=by
 unfold fm;rw[HT.eW];simp[HT.cz]
def z1o(ws)(k:ar)(h:k<=ws.aj):fm ws (ab (k:a6)) none=ws.wa k:=by
 grind [fm,HT.cz,ai.take_of_length_le]
def ZK(bs:ai fC):fC:=bs.tB λb=>b==bs.g6 0 false
def Fm.sf:Fm->fC
 |.is true=>true
 |_=>false
def fk(p:ar)(l h:Fm):Fm:=
 if l.sf=true then Fm.e_ .o (.not (.at p)) h
 else if h.sf=true then Fm.e_ .o (.at p) l
 else Fm.e_ .o (Fm.e_ .a (.not (.at p)) l) (Fm.e_ .a (.at p) h)
def ff:ar->ar->ai fC->Fm
 |0,_,bs=>.is (bs.g6 0 false)
 |m+1,p,bs=>
  if ZK bs=true then .is (bs.g6 0 false)
  else if bs.vA (2^m)=bs.wa (2^m)then ff m (p+1) (bs.vA (2^m))
  else if ZK (bs.vA (2^m))=false/\bs.wa (2^m)=(bs.vA (2^m)).aT not then .ZF (ff m (p+1) (bs.vA (2^m))) (.at p)
  else fk p (ff m (p+1) (bs.vA (2^m))) (ff m (p+1) (bs.wa (2^m)))
def fh(f:Fm):Prop:=¬∃b,f=.is b
theorem Qn  (h:ZK bs=true):∀b∈bs,b=bs.g6 0 false:=λb hb=>by
 have:=w1c.mp h b hb
 simpa using this
def JE   (h:∀b∈bs,b=c):ZK bs=true:=by
 unfold ZK;rw[w1c];intro b hb;cases bs with
 |rA=>cases hb
 |qY x xs=>
  have h1:=h x (by simp);have h2:=h b hb;simp[h1,h2]
def Hq(p)(l h)(hn:∀b,¬(l=.is b/\h=.is b)):
  (l=.is true/\h=.is false/\fk p l h=.not (.at p))\/(l=.is true/\fh h/\fk p l h=.or (.not (.at p)) h) \/
  (l=.is false/\h=.is true/\fk p l h=.at p)\/(fh l/\h=.is true/\fk p l h=.or (.at p) l) \/
  (l=.is false/\fh h/\fk p l h=.and (.at p) h)\/(fh l/\h=.is false/\fk p l h=.and (.not (.at p)) l) \/
  (fh l/\fh h/\fk p l h=.or (.and (.not (.at p)) l) (.and (.at p) h)):=by
 have nt:fh (.not (.at p)):=fun⟨b,e⟩=>by cases e
 have _s:fh (.at p):=fun⟨b,e⟩=>by cases e
 have kx:∀f:Fm,fh f->f.sf=false:=λf hf=>by
  cases f with
  |is b=>exact uP ⟨b,rfl⟩ hf
  |_=>rfl
 by_cases hl:∃b,l=.is b
 .let⟨b,rfl⟩:=hl
  by_cases hh:∃c,h=.is c
  .let⟨c,rfl⟩:=hh;cases b<;>cases c
   .exact uP ⟨rfl,rfl⟩ (hn false)
   .exact .mv (.mv (.j' ⟨rfl,rfl,rfl⟩))
   .exact .j' ⟨rfl,rfl,rfl⟩
   .exact uP ⟨rfl,rfl⟩ (hn true)
  .have hT:=kx h hh;cases b with
   |true=>
    refine .mv (.j' ⟨rfl,hh,?_⟩);unfold fk;rw[og (show(Fm.is true).sf=true from rfl),qJ nt hh];rfl
   |false=>
    refine .mv (.mv (.mv (.mv (.j' ⟨rfl,hh,?_⟩))));unfold fk;rw[sU (by decide),sU (by rw[hT];decide),zL nt,qJ _s hh];rfl
 .have lT:=kx l hl
  by_cases hh:∃c,h=.is c
  .let⟨c,rfl⟩:=hh;cases c with
   |true=>
    refine .mv (.mv (.mv (.j' ⟨hl,rfl,?_⟩)));unfold fk;rw[sU (by rw[lT];decide),og (show(Fm.is true).sf=true from rfl),qJ _s hl];rfl
   |false=>
    refine .mv (.mv (.mv (.mv (.mv (.j' ⟨hl,rfl,?_⟩)))));unfold fk;rw[sU (by rw[lT];decide),sU (by decide),zL _s,qJ nt hl];rfl
  .have hT:=kx h hh;refine .mv (.mv (.mv (.mv (.mv (.mv ⟨hl,hh,?_⟩)))));unfold fk;rw[sU (by rw[lT];decide),sU (by rw[hT];decide),qJ nt hl,qJ _s hh];rfl
def CP  {bs:ai fC}(h:bs.aj=2^(m+1)):(bs.vA (2^m)).aj=2^m/\(bs.wa (2^m)).aj=2^m:=by
 grind
theorem CQ(m):0<2^m:=w2j m
theorem xl:∀(m p:ar)(bs:ai fC),bs.aj=2^m->∀b,ff m p bs=.is b->∀x∈bs,x=b
 |0,p,bs,hl,b,h,x,hx=>by
  have:bs.g6 0 false=b:=by injection h
  obtain⟨y,rfl⟩:∃y,bs=[y]:=by
   match bs,hl with
   |[y],_=>exact⟨y,rfl⟩
  simp at hx this;rw[hx,this]
 |m+1,p,bs,hl,b,h,x,hx=>by
  let⟨t1,t2⟩:=CP hl;unfold ff at h
  by_cases c1:ZK bs=true
  .rw[og c1]at h;have e:bs.g6 0 false=b:=by injection h
   rw[<- e];exact Qn c1 x hx
  .rw[sU c1]at h
   by_cases c2:bs.vA (2^m)=bs.wa (2^m)
   .rw[og c2]at h;have ih:=xl m (p+1) _ t1 b h
    grind [ai.ĩ]
   .rw[sU c2]at h;exfalso
    by_cases c3:ZK (bs.vA (2^m))=false/\bs.wa (2^m)=(bs.vA (2^m)).aT not
    .rw[og c3]at h;cases h
    .rw[sU c3]at h
     have nn:∀b,¬(ff m (p+1) (bs.vA (2^m))=.is b/\ff m (p+1) (bs.wa (2^m))=.is b):=λb ⟨z1,z2⟩=>by
      have q1:=xl m (p+1) _ t1 b z1;have q2:=xl m (p+1) _ t2 b z2;refine c1 (JE (c:=b) λy hy=>?_)
      grind [ai.ĩ]
     grind [Hq]
theorem SD   (hl:bs.aj=2^(m+1))(c1:¬ZK bs=true):∀b,¬(ff m (p+1) (bs.vA (2^m))=.is b/\ff m (p+1) (bs.wa (2^m))=.is b):=λb ⟨z1,z2⟩=>by
 let⟨t1,t2⟩:=CP hl;have q1:=xl m (p+1) _ t1 b z1;have q2:=xl m (p+1) _ t2 b z2;refine c1 (JE (c:=b) λy hy=>?_)
 grind [ai.ĩ]
theorem CS{C:ar->ar->ai fC->Fm->Prop}(h0:∀m p bs,bs.aj=2^m->(∀x∈bs,x=bs.g6 0 false)->C m p bs (.is (bs.g6 0 false)))
  (h1:∀m p (bs l:ai fC),bs=l++l->l.aj=2^m->C m (p+1) l (ff m (p+1) l)->C (m+1) p bs (ff m (p+1) l))
  (h2:∀m p (bs l:ai fC),bs=l++l.aT not->l.aj=2^m->ZK l=false->C m (p+1) l (ff m (p+1) l)->C (m+1) p bs (.ZF (ff m (p+1) l) (.at p)))
  (h3:∀m p (bs l h:ai fC),bs=l++h->l.aj=2^m->h.aj=2^m->l≠h->C m (p+1) l (ff m (p+1) l)->C m (p+1) h (ff m (p+1) h)->(∀b,¬(ff m (p+1) l=.is b/\ff m (p+1) h=.is b))->C (m+1) p bs (fk p (ff m (p+1) l) (ff m (p+1) h))):
  ∀(m p:ar)(bs:ai fC),bs.aj=2^m->C m p bs (ff m p bs)
 |0,p,bs,hl=>by
  refine h0 0 p bs hl λx hx=>?_
  match bs,hl with
  |[y],_=>simpa using hx
 |m+1,p,bs,hl=>by
  let⟨t1,t2⟩:=CP hl;have e:bs=bs.vA (2^m)++bs.wa (2^m):=(w2f _ _).symm;have i1:=CS h0 h1 h2 h3 m (p+1) _ t1;have i2:=CS h0 h1 h2 h3 m (p+1) _ t2;unfold ff
  by_cases c1:ZK bs=true
  .rw[og c1];exact h0 _ _ _ hl (Qn c1)
  .rw[sU c1]
   by_cases c2:bs.vA (2^m)=bs.wa (2^m)
   .rw[og c2];exact h1 m p bs _ (by rw[<- c2]at e;exact e) t1 i1
   .rw[sU c2]
    by_cases c3:ZK (bs.vA (2^m))=false/\bs.wa (2^m)=(bs.vA (2^m)).aT not
    .rw[og c3];exact h2 m p bs _ (by rw[<- c3.2];exact e) t1 c3.1 i1
    .rw[sU c3];exact h3 m p bs _ _ e t1 t2 c2 i1 i2 (SD hl c1)
def Fm.hU:Fm->ar->ar
 |.is _,_=>0
 |.at _,_=>0
 |.not f,l=>f.hU 3+(if 3<l then 1 else 0)
 |.and f g,l=>max (f.hU 2) (g.hU 3)+(if 2<l then 1 else 0)
 |.or f g,l=>max (f.hU 0) (g.hU 1)+(if 0<l then 1 else 0)
 |.ZF f g,l=>max (f.hU 1) (g.hU 2)+(if 1<l then 1 else 0)
def Aa(f:Fm)(l):f.hU l<=f.hU 0+1:=by
 cases f<;>simp only[Fm.hU]<;>first|omega|(split<;>simp<;>omega)
structure xv(m p:ar)(F:Fm):Prop where
 d:F.vg<=3*m+1
 z:(∃b,F=.is b)\/(F.dt+6<=4*2^m)
 o:F.hU 0<=m
 i:∀q,F.yD q=true->p<=q/\q<p+m
def IU(m p)(bs)(hl:bs.aj=2^m):xv m p (ff m p bs):=by
 refine CS (C:=λm p bs F=>xv m p F) ?_ ?_ ?_ ?_ m p bs hl
 .intro m p bs _ _;exact⟨by simp[Fm.vg],.j' ⟨_,rfl⟩,by simp[Fm.hU],λq h=>by cases h⟩
 .intro m p bs l _ _ ih;have:=CQ m;refine⟨by have:=ih.d;omega,ih.z.vW id λh=>by rw[w1r];omega,by have:=ih.o;omega,λq h=>by have:=ih.i q h;omega⟩
 .intro m p bs l _ yn hc ih;have h0:=CQ m;have h1:=Aa (ff m (p+1) l) 1;refine⟨by have:=ih.d;simp only[Fm.vg];omega,.mv ?_,by have:=ih.o;simp(config:={decide:=true}) only[Fm.hU,Z2,_C];omega,λq h=>?_⟩
  .rw[w1r];simp only[Fm.dt];rcases ih.z with⟨b,hb⟩|hz
   .have:=JE (xl m (p+1) l yn b hb);rw[hc]at this;cases this
   .omega
  .have h:((ff m (p+1) l).yD q||decide (p=q))=true:=h;rcases w1q _ _ ▸ h with z|z
   .have:=ih.i q z;omega
   .have:=_X z;omega
 .intro m p bs l h _ _ _ _ il ih nn;have h0:=CQ m;have a1:=Aa (ff m (p+1) l) 1;have a3:=Aa (ff m (p+1) l) 3;have b1:=Aa (ff m (p+1) h) 1;have b3:=Aa (ff m (p+1) h) 3;have dl:=il.d;have dh:=ih.d;have ol:=il.o;have zfi:=ih.o;have zl:fh (ff m (p+1) l)->(ff m (p+1) l).dt+6<=4*2^m:=λn=>il.z.ϟ n
  have zh:fh (ff m (p+1) h)->(ff m (p+1) h).dt+6<=4*2^m:=λn=>ih.z.ϟ n
  have kl:=il.i;have kh:=ih.i;rcases Hq p _ _ nn with⟨e1,e2,e⟩|⟨e1,e2,e⟩|⟨e1,e2,e⟩|⟨e1,e2,e⟩|⟨e1,e2,e⟩|⟨e1,e2,e⟩|⟨e1,e2,e⟩<;>rw[e]
  .refine⟨by simp only[Fm.vg];omega,.mv (by simp only[Fm.dt];rw[w1r];omega),by simp(config:={decide:=true}) only[Fm.hU,Z2,_C];omega,λq hq=>?_⟩
   have:=_X (show decide (p=q)=true from hq);omega
  .have:=zh e2;refine⟨by simp only[Fm.vg];omega,.mv (by simp only[Fm.dt];rw[w1r];omega),by simp(config:={decide:=true}) only[Fm.hU,Z2,_C];omega,λq hq=>?_⟩
   rcases w1q _ _ ▸ (show(decide (p=q)||(ff m (p+1) h).yD q)=true from hq)with z|z
   .have:=_X z;omega
   .have:=kh q z;omega
  .refine⟨by simp only[Fm.vg];omega,.mv (by simp only[Fm.dt];rw[w1r];omega),by simp(config:={decide:=true}) only[Fm.hU,Z2,_C];omega,λq hq=>?_⟩
   have:=_X (show decide (p=q)=true from hq);omega
  .have:=zl e1;refine⟨by simp only[Fm.vg];omega,.mv (by simp only[Fm.dt];rw[w1r];omega),by simp(config:={decide:=true}) only[Fm.hU,Z2,_C];omega,λq hq=>?_⟩
   rcases w1q _ _ ▸ (show(decide (p=q)||(ff m (p+1) l).yD q)=true from hq)with z|z
   .have:=_X z;omega
   .have:=kl q z;omega
  .have:=zh e2;refine⟨by simp only[Fm.vg];omega,.mv (by simp only[Fm.dt];rw[w1r];omega),by simp(config:={decide:=true}) only[Fm.hU,Z2,_C];omega,λq hq=>?_⟩
   rcases w1q _ _ ▸ (show(decide (p=q)||(ff m (p+1) h).yD q)=true from hq)with z|z
   .have:=_X z;omega
   .have:=kh q z;omega
  .have:=zl e1;refine⟨by simp only[Fm.vg];omega,.mv (by simp only[Fm.dt];rw[w1r];omega),by simp(config:={decide:=true}) only[Fm.hU,Z2,_C];omega,λq hq=>?_⟩
   rcases w1q _ _ ▸ (show(decide (p=q)||(ff m (p+1) l).yD q)=true from hq)with z|z
   .have:=_X z;omega
   .have:=kl q z;omega
  .have:=zl e1;have:=zh e2;refine⟨by simp only[Fm.vg];omega,.mv (by simp only[Fm.dt];rw[w1r];omega),by simp(config:={decide:=true}) only[Fm.hU,Z2,_C];omega,λq hq=>?_⟩
   rcases w1q _ _ ▸ (show((decide (p=q)||(ff m (p+1) l).yD q)||(decide (p=q)||(ff m (p+1) h).yD q))=true from hq)with z|z
   all_goals grind
theorem CT   (g):∀(ws:ai W),(∀w∈ws,∃e,d (.fr w::pe)=.ok (g w) e)->cC bB d pe ws=ab (ws.aT g)
 |[],_=>rfl
 |w::ws,h=>by
  let⟨e,h1⟩:=h w (by simp);rw[B6];show(match d (.fr w::pe)with|.ok y _=>(cC bB d pe ws).aT (y::·)|_=>none)=_;rw[h1,CT g ws λu hu=>h u (by simp[hu])]
  rfl
theorem IV:∀as bs:ai fC,bP (as.aT .bl) (bs.aT .bl)=ab (decide (as=bs))
 |[],[]=>rfl
 |[],b::bs=>by simp[bP]
 |x::as,[]=>by simp[bP]
 |x::as,b::bs=>by
  rw[w0k,w0k];show(match eO (.bl x) (.bl b),bP (as.aT .bl) (bs.aT .bl)with|ab a,ab b=>ab (a&&b)|_,_=>none)=_;rw[IV as bs];show ab ((x==b)&&decide (as=bs))=_;congr 1;rw[w1w];simp
theorem Cf:∀r:ai fC,bE (r.aT .bl)=0
 |[]=>rfl
 |b::r=>by show max 0 (bE (r.aT .bl))=0;rw[Cf r];rfl
def Q3(as bs:ai fC):yN (.dI (as.aT .bl)) (.dI (bs.aT .bl))=ab (.bl (decide (as=bs))):=by
 show(if bE (as.aT .bl)+1<=150 then(bP (as.aT .bl) (bs.aT .bl)).aT W.bl else none)=_;rw[Cf,og (by omega),IV];rfl
def IW(n)(bs)(hl:bs.aj<=100000):mH K a (n+1) BC [.dI (bs.aT .bl)]=.ok (.fr (.bl (ZK bs))):=by
 rw[Vv];unfold FA;rw?;rw[og (by rw[w0a];omega)];simp only[cJ,gS,w0d,w0f];rw[CT (λw=>.bl (match w with|.bl b=>b==bs.g6 0 false|_=>false))]
 .rw?;have e:(bs.aT W.bl).aT (λw=>W.bl (match w with|.bl b=>b==bs.g6 0 false|_=>false))=(bs.aT λb=>b==bs.g6 0 false).aT W.bl:=by rw[w0i,w0i];rfl
  rw[e,JT];rw?;unfold ZK;rw[w4v];rfl
 .intro w hw;let⟨b,hb,rfl⟩:=w0o.mp hw;unfold Lo;rw?;have h0:0<bs.aj:=ai.length_pos_of_mem hb;have hx:(bs.aT W.bl)[0]?=ab (.bl (bs.g6 0 false)):=by simp[ai.g6,h0]
  rw[hx];rw?
  grind
def eqT:∀f:Fm,eO (uz f) (.gs [.str "is", .bl true])=ab f.sf:=by
 intro f
 match f with
 |.is b=>cases b<;>rfl
 |.at p=>rfl
 |.not f=>cases f<;>rfl
 |.and f g=>cases f<;>rfl
 |.or f g=>cases f<;>rfl
 |.ZF f g=>cases f<;>rfl
def xV(f)(hd:f.vg<=149):yN (uz f) (.gs [.str "is", .bl true])=ab (.bl f.sf):=by
 have:=t6 f;show(if bN (uz f)<=150 then(eO (uz f) (.gs [.str "is", .bl true])).aT W.bl else none)=_;rw[og (by omega),eqT];rfl
def z7c(n)(p:ar)(l h)(hd:l.vg<=149)(Zo:h.vg<=149):mH K a (n+4) Cp [.aO (p:a6),uz l,uz h]=.ok (.fr (uz (fk p l h))):=by
 rw[X2];unfold H_;rw?;rw[xV l hd];rw?;unfold fk;have eo:=λf g=>Ce (K:=K) (a:=a) n .o f g
 have ea:=λf g=>Ce (K:=K) (a:=a) n .a f g
 simp only[wd]at eo ea;have YY:(W.gs [.str "not", .gs [.str "at", .aO (p:a6)]])=uz (.not (.at p)):=rfl;have Kg:(W.gs [.str "at", .aO (p:a6)])=uz (.at p):=rfl;cases l.sf with
 |true=>
  rw[og rfl];rw?;rw[YY,eo];rw?
 |false=>
  rw[sU (by decide)];rw?;rw[xV h Zo];rw?;cases h.sf with
  |true=>
   rw[og rfl];rw?;rw[Kg,eo];rw?
  |false=>
   rw[sU (by decide)];rw?;rw[YY,ea];rw?;rw[Kg,ea];rw?;rw[eo];rw?
theorem Hr:∀(m n p:ar)(bs:ai fC),bs.aj=2^m->m<=10->mH K a (n+m+6) vH [.dI (bs.aT .bl),.aO (p:a6)]=.ok (.fr (uz (ff m p bs)))
 |0,n,p,bs,hl,hm=>by
  rw[show n+0+6=n+5+1 by omega,LO];unfold BY;rw?
  obtain⟨y,rfl⟩:∃y,bs=[y]:=by
   match bs,hl with
   |[y],_=>exact⟨y,rfl⟩
  rw[IW (n+4) [y] (by simp),show ZK [y]=true by cases y<;>rfl];rw?;rfl
 |m+1,n,p,bs,hl,hm=>by
  have uX:2^(m+1)<=2^10:=w0n (by decide) hm;let⟨t1,t2⟩:=CP hl;have hp:=CQ m;rw[show n+(m+1)+6=n+m+6+1 by omega,LO];unfold BY;rw?;rw[IW (n+m+5) bs (by omega)];rw?;unfold ff;cases hc:ZK bs with
  |true=>
   rw[og rfl];rw?;have h0:0<bs.aj:=by omega
   have hx:(bs.aT W.bl)[0]?=ab (.bl (bs.g6 0 false)):=by simp[ai.g6,h0]
   rw[hx];rw?;rfl
  |false=>
   rw[sU (by decide)];rw?;rw[w0a,hl];rw[show((2^(m+1):ar):a6) / 2=((2^m:ar):a6) by rw[w1r];omega];rw[z1n,z1o _ _ (by rw[w0a];omega),<- w3x,<- w3y];rw?;have i1:=Hr m n (p+1) (bs.vA (2^m)) t1 (by omega);have i2:=Hr m n (p+1) (bs.wa (2^m)) t2 (by omega);rw[show((p+1:ar):a6)=(p:a6)+1 by omega]at i1 i2;rw[i1];rw?;rw[Q3];rw?
   by_cases c2:bs.vA (2^m)=bs.wa (2^m)
   .rw[og c2,og c2]
   .rw[sU c2,sU c2];rw?;rw[IW (n+m+5) _ (by omega)];have d1:=(IU m (p+1) _ t1).d;have d2:=(IU m (p+1) _ t2).d
    have last:((((aJ (ao (mH K a (n+m+6) Cp) (ae (af 1) (ae (af 5) (ae (ao (mH K a (n+m+6) vH) (ae (af 4) (ae (ak bA (af 1) (dC (.aO 1))) ag))) ag)))))):ai S->SR) [.fr (.dI (bs.aT .bl)),.fr (.aO (p:a6)),.fr (.aO ((2^m:ar):a6)),.fr (.dI ((bs.vA (2^m)).aT .bl)),.fr (.dI ((bs.wa (2^m)).aT .bl)),.fr (uz (ff m (p+1) (bs.vA (2^m))))]).fn=.ok (.fr (uz (fk p (ff m (p+1) (bs.vA (2^m))) (ff m (p+1) (bs.wa (2^m)))))):=by
     rw?;rw[i2];rw?;rw[z7c (n+m+2) p _ _ (by omega) (by omega)];rw?
    cases c3:ZK (bs.vA (2^m))with
    |true=>
     rw[sU (λz=>by cases z.1)]
     revert last;rw?;exact id
    |false=>
     rw?;rw[og (by rw[w0a];omega)];rw[CT (λw=>match w with|.bl b=>.bl (!b)|w=>w)]
     .rw?;have e:((bs.vA (2^m)).aT W.bl).aT (λw=>match w with|.bl b=>W.bl (!b)|w=>w)=((bs.vA (2^m)).aT not).aT W.bl:=by rw[w0i,w0i];rfl
      rw[e,Q3];rw?
      by_cases c4:bs.wa (2^m)=(bs.vA (2^m)).aT not
      .rw[og c4,og (by first|exact c4|exact⟨rfl,c4⟩)];rw?;rfl
      .rw[sU c4,sU (by first|exact c4|exact λz=>c4 z.2)]
       revert last;rw?;exact id
     .intro w hw;let⟨b,hb,rfl⟩:=w0o.mp hw;unfold LG;rw?;exact⟨_,rfl⟩
def z1p(n:ar){m:ar}{bs:ai fC}(hl:bs.aj=2^m)(hm:m<=10):mH K a (n+17) Fb [.dI (bs.aT .bl)]=.ok (.fr (uz (ff m 0 bs))):=by
 rw[U6];unfold Fs;rw?
 have e:lg (bs.aT W.bl).aj=ab m:=by
  rw[w0a,hl];have:m=0\/m=1\/m=2\/m=3\/m=4\/m=5\/m=6\/m=7\/m=8\/m=9\/m=10:=by omega
  rcases this with rfl|rfl|rfl|rfl|rfl|rfl|rfl|rfl|rfl|rfl|rfl<;>decide
 rw[LQ (n+14),e];simp only[i0];rw?;have z:=Hr (K:=K) (a:=a) m (n+(10-m)) 0 bs hl hm;rw[show n+(10-m)+m+6=n+16 by omega]at z;have z:mH K a (n+16) vH [.dI (bs.aT .bl),.aO 0]=_:=z;rw[z];rw?
def lY:ar->Fm->ai (fv fC)->Fm
 |_,f,[]=>f
 |p,f,none::c=>lY (p+1) f c
 |p,f,ab true::c=>lY (p+1) (Fm.e_ .a f (.at p)) c
 |p,f,ab false::c=>lY (p+1) (Fm.e_ .a f (.not (.at p))) c
def rJ:Fm->ai (ai (fv fC))->Fm
 |f,[]=>f
 |f,c::cs=>rJ (Fm.e_ .o f (lY 0 (.is true) c)) cs
def Qo(o):j0 (eo o) (.bl true)=ab (.bl (o==ab true)):=by
 cases o with
 |none=>rfl
 |ab b=>cases b<;>rfl
def Qp(o):j0 (eo o) (.bl false)=ab (.bl (o==ab false)):=by
 cases o with
 |none=>rfl
 |ab b=>cases b<;>rfl
theorem MF(n)(cu):∀(c:ai (fv fC))(p:ar)(f:Fm)(z2 z3:S),∃y2 y3,dn 2 3 (vI K a (mH K a (n+3))) (b8 p (c.aT eo)) [.fr cu,.fr (uz f),z2,z3]=.nx [.fr cu,.fr (uz (lY p f c)),y2,y3]
 |[],p,f,z2,z3=>⟨_,_,rfl⟩
 |o::c,p,f,z2,z3=>by
  have ea:=λf g=>Ce (K:=K) (a:=a) n .a f g
  simp only[wd]at ea
  have e1:vI K a (mH K a (n+3)) [.fr cu,.fr (uz f),.fr (.aO p),.fr (eo o)]=.nx [.fr cu,.fr (uz (lY p f [o])),.fr (.aO p),.fr (eo o)]:=by
   unfold vI;rw?;rw[Qo];rw?;cases o with
   |none=>
    rw[sU (by decide)];rw[Qp];rw?;rfl
   |ab b=>
    cases b with
    |true=>
     rw[og (by decide)];rw[show W.gs [W.str "at", W.aO (p:a6)]=uz (.at p)from rfl,ea];rw?;rfl
    |false=>
     rw[sU (by decide),Qp];rw?;rw[og (by decide),show W.gs [W.str "not", W.gs [W.str "at", W.aO (p:a6)]]=uz (.not (.at p))from rfl,ea];rw?;rfl
  let⟨y2,y3,ih⟩:=MF n cu c (p+1) (lY p f [o]) (.fr (.aO p)) (.fr (eo o));refine⟨y2,y3,?_⟩;rw[w0k];show dn 2 3 (vI K a (mH K a (n+3))) ((W.aO (p:a6),eo o)::b8 (p+1) (c.aT eo)) _=_;rw[zaD];simp only[w0z,w1a];rw[e1];show dn 2 3 (vI K a (mH K a (n+3))) (b8 (p+1) (c.aT eo)) _=_;rw[ih];cases o with
  |none=>rfl
  |ab b=>cases b<;>rfl
def zbs(n)(c):mH K a (n+4) Fw [.gs (c.aT eo)]=.ok (.fr (uz (lY 0 (.is true) c))):=by
 rw[Vw];unfold FD;rw?;let⟨y2,y3,h⟩:=MF (K:=K) (a:=a) n (.gs (c.aT eo)) c 0 (.is true) .no .no;rw[show dn 2 3 (vI K a (mH K a (n+3))) (b8 0 (c.aT eo)) [S.fr (W.gs (c.aT eo)),S.fr (W.gs [W.str "is", W.bl true]),S.no,S.no]=_ from h];rw?
theorem Mh(n)(co):∀(cs:ai (ai (fv fC)))(f:Fm)(z:S),∃z',cy 2 (zc K a (mH K a (n+4))) (cs.aT aQ) [co,.fr (uz f),z]=.nx [co,.fr (uz (rJ f cs)),z']
 |[],f,z=>⟨_,rfl⟩
 |c::cs,f,z=>by
  have Ki:=λf g=>Ce (K:=K) (a:=a) (n+1) .o f g
  simp only[wd]at Ki
  have e1:zc K a (mH K a (n+4)) [co,.fr (uz f),.fr (aQ c)]=.nx [co,.fr (uz (Fm.e_ .o f (lY 0 (.is true) c))),.fr (aQ c)]:=by
   unfold zc aQ;rw?;rw[zbs n];rw?;rw[Ki];rw?
  let⟨z',ih⟩:=Mh n co cs (Fm.e_ .o f (lY 0 (.is true) c)) (.fr (aQ c));refine⟨z',?_⟩;rw[w0k,ub];simp only[w0z,w1a];rw[e1,w_];exact ih
def zal(n)(cs):mH K a (n+5) Fc [.dI (cs.aT aQ)]=.ok (.fr (uz (rJ (.is false) cs))):=by
 rw[U7];unfold Ft;rw?;let⟨z',h⟩:=Mh (K:=K) (a:=a) n (.fr (.dI (cs.aT aQ))) cs (.is false) .no;rw[show cy 2 (zc K a (mH K a (n+4))) (cs.aT aQ) [S.fr (W.dI (cs.aT aQ)),S.fr (W.gs [W.str "is", W.bl false]),S.no]=_ from h];rw?
theorem IX{i:ar}{b:ai S->SR}(I:ar->ai S->Prop):∀(ws:ai W)(k:ar)(e:ai S),I k e->(∀(j:ar)(w:W)(e:ai S),w∈ws->I j e->∃e',b (e.sx i (.fr w))=.nx e'/\I (j+1) e')->∃e',cy i b ws e=.nx e'/\I (k+ws.aj) e'
 |[],k,e,h0,_=>⟨e,rfl,h0⟩
 |w::ws,k,e,h0,h=>by
  let⟨e1,h1,h2⟩:=h k w e (by simp) h0;let⟨e2,h3,h4⟩:=IX I ws (k+1) e1 h2 λj u e hu=>h j u e (by simp[hu])
  grind [ub,w_]
def aB(bs:ai fC):W:=.gs (bs.aT .bl)
abbrev Pr:=ai fC×ar
structure Mc where
 m:ar
 rj:ar
 aa:ai (ai Pr)
structure Mc.Og(c:Mc):Prop where
 g9:c.m<=3
 wg:c.rj<=40
 gJ:0<c.aa.aj
 mo:c.aa.aj<=700
 st:∀s∈c.aa,s.aj=2^c.m
 pr:∀s∈c.aa,∀p∈s,p.1.aj=c.rj/\p.2<c.aa.aj
def Nk{l:ai α}(h):l.vA (j+1)=l.vA j++[l[j]]:=by
 simp_all
def a8(p:Pr):W:=.gs [aB p.1,.aO (p.2:a6)]
def av(s:ai Pr):W:=.dI (s.aT a8)
def aC(c:Mc):W:=.gs [.aO (c.m:a6),.aO (c.rj:a6),.dI (c.aa.aT av)]
def w6(n m:ar)(hm:m<=100):mH K a (n+1) pW [.aO (m:a6)]=.ok (.fr (.aO ((2^m:ar):a6))):=by
 rw[LN];unfold BX;rw?;rw[og (n5 (by omega) (by omega))];rw?
 let⟨e',h2,z,rfl⟩:=vL (b:=zo K a (mH K a n)) (i:=2) (lo:=0) (hi:=(m:a6)) m (by omega) (λj e=>∃z,e=[.fr (.aO (m:a6)),.fr (.aO ((2^j:ar):a6)),z]) [.fr (.aO (m:a6)),.fr (.aO 1),.no] ⟨.no,rfl⟩ (by
  rintro j e hj ⟨z,rfl⟩;unfold zo;rw?
  simp_all [w1r,w5q])
 rw[h2];rw?
def Xt(n)(c:Mc)(h:s<c.aa.aj):mH K a (n+1) GJ [aC c,.aO (s:a6)]=.ok (.fr (.bl true)):=by
 rw[WS];unfold GR aC;rw?
 grind
def B1(l:ai Pr):cj (l.aT a8)=ab (l.aT λp=>(aB p.1,W.aO (p.2:a6))):=by
 induction l with
 |rA=>rfl
 |qY p l ih=>
  grind [cj,a8]
theorem Om{i:ar}{b:ai S->SR}(I:ai S->Prop):∀(ps:ai (W×W))(e:ai S),I e->(∀p∈ps,∀e,I e->∃e',b ((e.sx i (.fr p.1)).sx j (.fr p.2))=.nx e'/\I e')->∃e',dn i j b ps e=.nx e'/\I e'
 |[],e,h,_=>⟨e,rfl,h⟩
 |p::ps,e,h,st=>by
  let⟨e1,h1,h2⟩:=st p (by simp) e h;let⟨e2,h3,h4⟩:=Om I ps e1 h2 (λq hq=>st q (by simp[hq]))
  refine⟨e2,?_,h4⟩;show(b ((e.sx i (.fr p.1)).sx j (.fr p.2))).dU (dn i j b ps)=_;rw[h1];exact h3
theorem Ab(c):aW (aC c) (.aO 0)=ab (.aO (c.m:a6)):=rfl
theorem xh(c):aW (aC c) (.aO 1)=ab (.aO (c.rj:a6)):=rfl
theorem pX(c):aW (aC c) (.aO 2)=ab (.dI (c.aa.aT av)):=rfl
def zbt(n)(c)(hc:c.Og):mH K a (n+2) Fp [aC c]=.ok (.fr .aF):=by
 rw[U8];unfold Fu;rw?;rw[pX];rw?;rw[Ab];rw?;rw[w6 n c.m (by have:=hc.g9;omega)];rw?;rw[w0a,sU (by have:=hc.gJ;omega)];rw?
 let⟨e',k1,z3,z4,z5,k2⟩:=IX (i:=3) (b:=Fh K a (mH K a (n+1))) (λ_ e=>∃z3 z4 z5,e=[.fr (aC c),.fr (.dI (c.aa.aT av)),.fr (.aO ((2^c.m:ar):a6)),z3,z4,z5]) (c.aa.aT av) 0 [.fr (aC c),.fr (.dI (c.aa.aT av)),.fr (.aO ((2^c.m:ar):a6)),.no,.no,.no] ⟨_,_,_,rfl⟩ (by
  rintro j w e hw ⟨z3,z4,z5,rfl⟩;let⟨s,hs,rfl⟩:=w0o.mp hw;unfold Fh;simp only[av];rw?;rw[w0a,hc.st s hs,sU (by simp)];rw?;rw[B1];rw?
  let⟨e1,h1,z4,z5,rfl⟩:=Om (i:=4) (j:=5) (b:=Ff K a (mH K a (n+1))) (λe=>∃z4 z5,e=[.fr (aC c),.fr (.dI (c.aa.aT av)),.fr (.aO ((2^c.m:ar):a6)),.fr (.dI (s.aT a8)),z4,z5]) (s.aT λp=>(aB p.1,W.aO (p.2:a6))) [.fr (aC c),.fr (.dI (c.aa.aT av)),.fr (.aO ((2^c.m:ar):a6)),.fr (.dI (s.aT a8)),z4,z5] ⟨_,_,rfl⟩ (by
   rintro q hq e ⟨z4,z5,rfl⟩;let⟨p,hp,rfl⟩:=w0o.mp hq;let⟨p1,p2⟩:=hc.pr s hs p hp;unfold Ff;simp only[aB];rw?;rw[xh];rw?;rw[w0a,p1,sU (by simp)];rw?;rw[Xt n c p2];rw?;exact⟨_,rfl,_,_,rfl⟩)
  rw[h1];exact⟨_,rfl,_,_,_,rfl⟩)
 rw[k1,k2];rfl
def xm{c:Mc}(hs:s<c.aa.aj):ee (c.aa.aT av) (s:a6)=ab (av (c.aa.g6 s [])):=by
 grind [oC]
def Y_:ai Kx->Kx->ar
 |[],_=>0
 |k::l,x=>if k=x then 0 else Y_ l x+1
theorem IE:∀{l:ai Kx},x∈l->l[Y_ l x]?=ab x
 |[],h=>nomatch h
 |k::l,h=>by
  unfold Y_
  by_cases e:k=x
  .rw[og e,e];rfl
  .rw[sU e,w0d];exact IE ((w0g.mp h).ϟ λz=>e z.symm)
theorem Pn(h:x∈l):Y_ l x<l.aj:=(w0c.mp (IE h)).1
theorem IF:∀{l:ai Kx},x∈l->Y_ (l++m) x=Y_ l x
 |[],h=>nomatch h
 |k::l,h=>by
  show(if k=x then 0 else Y_ (l++m) x+1)=(if k=x then 0 else Y_ l x+1)
  by_cases e:k=x
  .rw[og e,og e]
  .rw[sU e,sU e,IF ((w0g.mp h).ϟ λz=>e z.symm)]
theorem Oo:∀{l:ai Kx},x∉l->Y_ (l++[x]) x=l.aj
 |[],_=>by show(if x=x then 0 else _)=0;rw[og rfl]
 |k::l,h=>by
  show(if k=x then 0 else Y_ (l++[x]) x+1)=l.aj+1;rw[sU (λe=>h (by simp[e])),Oo (λz=>h (by simp[z]))]
def z1q(hx:x∈l)(hy:y∈l)(h:Y_ l x=Y_ l y):x=y:=by
 grind [IE]
def d_(o:ar):ar->ai W
 |0=>[]
 |n+1=>.aO (o:a6)::d_ (o+1) n
theorem Nm:∀(n o:ar),d_ o n++[.aO ((o+n:ar):a6)]=d_ o (n+1)
 |0,o=>rfl
 |n+1,o=>by
  show W.aO (o:a6)::(d_ (o+1) n++[W.aO ((o+(n+1):ar):a6)])=W.aO (o:a6)::d_ (o+1) (n+1);rw[show o+(n+1)=(o+1)+n by omega,Nm n (o+1)]
theorem Cq:∀(l:ai Kx)(o:ar),jC l (d_ o l.aj) x=if x∈l then ab (.aO ((o+Y_ l x:ar):a6))else none
 |[],o=>by rw[sU (by simp)];rfl
 |k::l,o=>by
  show(if k=x then ab (W.aO (o:a6))else jC l (d_ (o+1) l.aj) x)=_
  by_cases e:k=x
  .simp_all [Y_]
  .rw[sU e,Cq l (o+1),show Y_ (k::l) x=Y_ l x+1 from sU e]
   grind
def b_(l:ai Kx)(x:Kx):ai Kx:=if x∈l then l else l++[x]
def z1r(l)(x):∃m,b_ l x=l++m:=by
 unfold b_;split
 all_goals simp_all
def Po(l)(x):x∈b_ l x:=by
 grind [b_]
def z1s(l)(x):(b_ l x).aj<=l.aj+1:=by
 unfold b_;split<;>simp
theorem IG:∀(xs l:ai Kx),∃m,xs.ym b_ l=l++m
 |[],l=>⟨[],by simp⟩
 |x::xs,l=>by
  let⟨m1,h1⟩:=z1r l x;let⟨m2,h2⟩:=IG xs (b_ l x)
  grind
theorem zY:∀(xs l:ai Kx),∀x∈xs,x∈xs.ym b_ l
 |[],_,_,h=>nomatch h
 |y::xs,l,x,h=>by
  rw[w1v];rcases w0g.mp h with rfl|h
  .let⟨m,e⟩:=IG xs (b_ l x)
   grind [Po]
  .exact zY xs _ x h
theorem fq:∀(xs l:ai Kx),(xs.ym b_ l).aj<=l.aj+xs.aj
 |[],l=>by simp
 |x::xs,l=>by
  rw[w1v];have:=fq xs (b_ l x)
  grind [z1s]
def nr(ks:ai ar)(p:Pr):Kx:=.gs [.gs (p.1.aT .bl),.aO ((ks.g6 p.2 0:ar):a6)]
def Yj(ks:ai ar)(s:ai Pr):Kx:=.gs (s.aT (nr ks))
def ye(c:Mc)(ks:ai ar):ai ar:=c.aa.aT λs=>Y_ ((c.aa.aT (Yj ks)).ym b_ []) (Yj ks s)
def z7d(c)(ks):(ye c ks).aj=c.aa.aj:=by simp[ye]
def Pp    (h:i<c.aa.aj):(ye c ks).g6 i 0=Y_ ((c.aa.aT (Yj ks)).ym b_ []) (Yj ks (c.aa.g6 i [])):=by
 unfold ye;simp[ai.g6,h]
def iR{c:Mc}(h:i<c.aa.aj):c.aa.g6 i []∈c.aa:=by
 grind
def R4(hi:i<c.aa.aj)(hj:j<c.aa.aj):(ye c ks).g6 i 0=(ye c ks).g6 j 0↔Yj ks (c.aa.g6 i [])=Yj ks (c.aa.g6 j []):=by
 rw[Pp hi,Pp hj];refine⟨λh=>z1q (zY _ _ _ (w2n (iR hi))) (zY _ _ _ (w2n (iR hj))) h,λh=>by rw[h]⟩
def R5:∀k∈ye c ks,k<c.aa.aj:=by
 intro k hk;unfold ye at hk;let⟨s,hs,rfl⟩:=w0o.mp hk;have h1:=Pn (zY (c.aa.aT (Yj ks)) [] _ (w2n hs))
 grind [fq]
def bS(c:Mc):ar->ai ar
 |0=>ai.v5 c.aa.aj 0
 |t+1=>ye c (bS c t)
theorem oD(c):∀t,(bS c t).aj=c.aa.aj
 |0=>w2t
 |t+1=>z7d c _
theorem CU(h:0<c.aa.aj):∀t,∀k∈bS c t,k<c.aa.aj
 |0,k,hk=>by
  have:=w4n hk;omega
 |t+1,k,hk=>R5 k hk
def kd(c:Mc)(t i:ar):ar:=(bS c t).g6 i 0
def zf(c:Mc)(i r:ar):ai fC:=((c.aa.g6 i []).g6 r ([],0)).1
def dq(c:Mc)(i r:ar):ar:=((c.aa.g6 i []).g6 r ([],0)).2
def l5(hc:c.Og)(hi:i<c.aa.aj)(hr:r<2^c.m):dq c i r<c.aa.aj:=by
 have hs:=iR hi;have hl:=hc.st _ hs;unfold dq;have tP:r<(c.aa.g6 i []).aj:=by omega
 have e:(c.aa.g6 i []).g6 r ([],0)=(c.aa.g6 i [])[r]:=by grind
 rw[e];exact(hc.pr _ hs _ (w1o tP)).2
def sH(c)(i):kd c 0 i=0:=by
 grind [kd,bS]
def z7e{p:Q.Pr}{q:Q.Pr}:nr ks p=nr ks q↔p.1=q.1/\ks.g6 p.2 0=ks.g6 q.2 0:=by
 grind [nr,ai.map_inj_right]
def xa(hc:c.Og)(hi:i<c.aa.aj)(hj:j<c.aa.aj):kd c (t+1) i=kd c (t+1) j↔∀r,r<2^c.m->zf c i r=zf c j r/\kd c t (dq c i r)=kd c t (dq c j r):=by
 show(ye c (bS c t)).g6 i 0=(ye c (bS c t)).g6 j 0↔_;rw[R4 hi hj];have l1:=hc.st _ (iR hi);have l2:=hc.st _ (iR hj);unfold Yj zf dq kd;generalize c.aa.g6 i []=s at l1;generalize c.aa.g6 j []=s' at l2
 have Z8:∀(s s':ai Pr),s.aj=s'.aj->(s.aT (nr (bS c t))=s'.aT (nr (bS c t))↔∀r,r<s.aj->nr (bS c t) (s.g6 r ([],0))=nr (bS c t) (s'.g6 r ([],0))):=by
  intro s s' hl;constructor
  .intro h r hr;have z:=_d (λl=>l[r]?) h
   grind
  .intro h;apply w2b
   grind
 grind [z7e]
theorem B'{c:Mc}(hc:c.Og):∀(t:ar){i j:ar},i<c.aa.aj->j<c.aa.aj->kd c (t+1) i=kd c (t+1) j->kd c t i=kd c t j
 |0,i,j,_,_,_=>by rw[sH,sH]
 |t+1,i,j,hi,hj,h=>by
  rw[xa hc hi hj]at h |-
  exact λr hr=>⟨(h r hr).1,B' hc t (l5 hc hi hr) (l5 hc hj hr) (h r hr).2⟩
theorem sI:∀(n:ar){l:ai ar},l.x6->(∀x∈l,x<n)->l.aj<=n
 |0,l,_,h=>by
  cases l with
  |rA=>simp
  |qY x l=>exact uP (h x (by simp)) (by omega)
 |n+1,l,hn,h=>by
  by_cases m:n∈l
  .have e:=w4m m
   have:=sI n (hn.erase n) (λx hx=>by
    grind)
   grind
  .have:=sI n hn (λx hx=>by
    grind)
   omega
theorem R6{l:ai ar}(hn:l.x6)(h:∀x∈l,x<n)(hl:n<=l.aj)(hy:y<n):y∈l:=τ.byContradiction λz=>by
 have:=sI n (l:=y::l) (w2s.uR ⟨z,hn⟩) (λx hx=>by
  grind)
 simp at this;omega
def aU(l:ai ar)(x:ar):ai ar:=if x∈l then l else l++[x]
def z1t(l)(x):∃m,aU l x=l++m:=by
 unfold aU;split
 all_goals simp_all
def Pq(l)(x):x∈aU l x:=by
 grind [aU]
def z7f(h:l.x6)(x):(aU l x).x6:=by
 grind [aU]
theorem Ca:∀(xs l:ai ar),∃m,xs.ym aU l=l++m
 |[],l=>⟨[],by simp⟩
 |x::xs,l=>by
  let⟨m1,h1⟩:=z1t l x;let⟨m2,h2⟩:=Ca xs (aU l x)
  grind
theorem Oq:∀(xs l:ai ar),∀x∈xs,x∈xs.ym aU l
 |[],_,_,h=>nomatch h
 |y::xs,l,x,h=>by
  rw[w1v];rcases w0g.mp h with rfl|h
  .let⟨m,e⟩:=Ca xs (aU l x)
   grind [Pq]
  .exact Oq xs _ x h
theorem Ot:∀(xs:ai ar){l:ai ar},l.x6->(xs.ym aU l).x6
 |[],_,h=>h
 |x::xs,l,h=>Ot xs (z7f h x)
theorem Nn:∀(xs l:ai ar),(∀x∈l,B x)->(∀x∈xs,B x)->∀x∈xs.ym aU l,B x
 |[],_,h,_=>h
 |y::xs,l,h,g=>Nn xs (aU l y) (λx hx=>by
   grind [aU]) λx hx=>g x (by simp[hx])
def R7{m:ai ar}(h:x∈l):(l++m).S3 x=l.S3 x:=by
 grind
theorem Q4{l:ai ar}(h:x∈l):l.S3 x<l.aj:=w2i.uR h
def Qy{l:ai ar}(h:x∈l):l.g6 (l.S3 x) 0=x:=by
 grind
def bf(g:ar->ai Pr)(b:ar):ar->ai ar
 |0=>[b]
 |i+1=>if i<(bf g b i).aj then((g ((bf g b i).g6 i 0)).aT (·.2)).ym aU (bf g b i)else bf g b i
def Ac(g)(b i):∃m,bf g b (i+1)=bf g b i++m:=by
 show ∃m,(if i<(bf g b i).aj then((g ((bf g b i).g6 i 0)).aT (·.2)).ym aU (bf g b i)else bf g b i)=_;split
 all_goals simp_all [Ca]
theorem Pt(g)(b i):∀d,∃m,bf g b (i+d)=bf g b i++m
 |0=>⟨[],by simp⟩
 |d+1=>by
  let⟨m1,h1⟩:=Pt g b i d;let⟨m2,h2⟩:=Ac g b (i+d)
  grind
theorem vT(g)(b):∀i,(bf g b i).x6
 |0=>by simp[bf]
 |i+1=>by
  unfold bf;split
  .exact Ot _ (vT g b i)
  .exact vT g b i
theorem sJ{B:ar->Prop}(h0:B b)(hs:∀x,B x->∀p∈g x,B p.2):∀i,∀x∈bf g b i,B x
 |0=>λx hx=>by
  grind [bf]
 |i+1=>by
  unfold bf;split
  .rename_i hi;refine Nn _ _ (sJ h0 hs i) λx hx=>?_
   let⟨p,hp,rfl⟩:=w0o.mp hx;refine hs _ (sJ h0 hs i _ ?_) p hp
   grind
  .exact sJ h0 hs i
def IY(g)(b i):∃m,bf g b i=b::m:=by
 let⟨m,h⟩:=Pt g b 0 i;rw[w1p]at h;exact⟨m,by rw[h];rfl⟩
def bH(T:ai ar)(s:ai Pr):ai Pr:=s.aT λp=>(p.1,T.S3 p.2)
def zbu{T:ai ar}(h:∀p∈s,p.2∈T):bH (T++m) s=bH T s:=by
 grind [bH,ai.zcL]
theorem JZ{g:ar->ai Pr}{b:ar}:∀i,i<=(bf g b i).aj->∀x∈(bf g b i).vA i,∀p∈g x,p.2∈bf g b i
 |0,_,x,hx=>by simp at hx
 |i+1,hl,x,hx=>by
  let⟨m,hm⟩:=Ac g b i;intro p hp
  by_cases hi:i<(bf g b i).aj
  .have tR:x∈(bf g b i).vA (i+1):=by
    grind
   rw[w3l hi]at tR;rcases w3i.mp tR with z|z
   .rw[hm];exact w3a _ (JZ i (by omega) x z p hp)
   .rw[w1e]at z;subst z;unfold bf;rw[og hi]
    grind [Oq]
  .have e:bf g b (i+1)=bf g b i:=by
    simp_all [bf,sU]
   rw[e]at hl;omega
def SE(hi:i<(bf g b i).aj):((bf g b (i+1)).vA (i+1)).aT (λx=>bH (bf g b (i+1)) (g x))=((bf g b i).vA i).aT (λx=>bH (bf g b i) (g x))++[bH (bf g b (i+1)) (g ((bf g b i).g6 i 0))]:=by
 let⟨m,hm⟩:=Ac g b i;have e:(bf g b i).g6 i 0=(bf g b i)[i]:=by simp[ai.g6,hi]
 have h1:(bf g b (i+1)).vA (i+1)=(bf g b i).vA i++[(bf g b i)[i]]:=by
  grind [ai.take_succ_eq_append_getElem]
 rw[h1,w0q,e];congr 1;refine w1n λx hx=>?_
 rw[hm];exact zbu (JZ i (by omega) x hx)
theorem Ou:∀{ks:ai ar},k∈ks->lB (k:a6) (ks.aT λk:ar=>(k:a6))=ab (ks.S3 k)
 |[],h=>nomatch h
 |y::ks,h=>by
  show(if(y:a6)=(k:a6)then ab 0 else(lB (k:a6) (ks.aT λk:ar=>(k:a6))).aT (·+1))=_
  by_cases e:y=k
  .grind
  .rw[sU (by omega),Ou ((w0g.mp h).ϟ λz=>e z.symm),w5c,beq_false_of_ne e]
   rfl
def aM(k:ar):W:=.aO (k:a6)
def aR(ks:ai ar):W:=.dI (ks.aT aM)
theorem J0:∀bs:ai fC,gf (bs.aT .bl)=ab (bs.aT .bl)
 |[]=>rfl
 |b::bs=>by
  show(match wM (.bl b),gf (bs.aT .bl)with|ab k,ab ks=>ab (k::ks)|_,_=>none)=_;rw[J0 bs];rfl
def fZ(ks:ai ar)(p:Pr):W:=.gs [aB p.1,aM (ks.g6 p.2 0)]
def SF(ks)(p):wM (fZ ks p)=ab (nr ks p):=by
 show(gf [aB p.1,aM (ks.g6 p.2 0)]).aT Kx.gs=_
 have e:gf [aB p.1,aM (ks.g6 p.2 0)]=ab [.gs (p.1.aT .bl),.aO ((ks.g6 p.2 0:ar):a6)]:=by
  show(match(gf (p.1.aT .bl)).aT Kx.gs,(ab [Kx.aO ((ks.g6 p.2 0:ar):a6)]:fv (ai Kx))with|ab k,ab ks=>ab (k::ks)|_,_=>none)=_;rw[J0];rfl
 rw[e];rfl
theorem Qz(ks):∀s:ai Pr,gf (s.aT (fZ ks))=ab (s.aT (nr ks))
 |[]=>rfl
 |p::s=>by
  show(match wM (fZ ks p),gf (s.aT (fZ ks))with|ab k,ab ks=>ab (k::ks)|_,_=>none)=_;rw[SF,Qz ks s];rfl
def JF(ks)(s):ig (.gs (s.aT (fZ ks)))=ab (Yj ks s):=by
 show(gf (s.aT (fZ ks))).aT Kx.gs=_;rw[Qz];rfl
theorem IZ:∀bs:ai fC,kU (bs.aT .bl) .bl
 |[]=>trivial
 |_::bs=>⟨trivial,IZ bs⟩
theorem JG:∀bs:ai fC,Kx.cI (bs.aT .bl)=0
 |[]=>rfl
 |b::bs=>by show max 0 (Kx.cI (bs.aT .bl))=0;rw[JG bs];rfl
def I_(ks)(s):Z6 (Yj ks s) (.Yz (.gs [.Yz .bl,.aO])):=by
 have h1:∀s:ai Pr,kU (s.aT (nr ks)) (.gs [.Yz .bl,.aO]):=λs=>by
  induction s with
  |rA=>trivial
  |qY p s ih=>exact⟨⟨IZ p.1,trivial,trivial⟩,ih⟩
 have h2:∀s:ai Pr,Kx.cI (s.aT (nr ks))<=2:=λs=>by
  induction s with
  |rA=>exact w1b _
  |qY p s ih=>
   show max (max (Kx.cI (p.1.aT .bl)+1) (max 0 0)+1) (Kx.cI (s.aT (nr ks)))<=2;rw[JG];omega
 refine⟨h1 s,?_⟩;show Kx.cI (s.aT (nr ks))+1<=7;have:=h2 s;omega
def Dj(c:Mc)(ks:ai ar)(j:ar):ai Kx:=((c.aa.vA j).aT (Yj ks)).ym b_ []
def Pu(h):Dj c ks (j+1)=b_ (Dj c ks j) (Yj ks c.aa[j]):=by
 grind [Dj,Nk]
def R8(j):(Dj c ks j).aj<=j:=by
 grind [fq,Dj]
def R9(h:x∈Dj c ks j):Y_ ((c.aa.aT (Yj ks)).ym b_ []) x=Y_ (Dj c ks j) x:=by
 have e:(c.aa.aT (Yj ks)).ym b_ []=(((c.aa.wa j).aT (Yj ks)).ym b_ (Dj c ks j)):=by
  grind [Dj,ai.ĩ]
 rw[e];let⟨m,hm⟩:=IG ((c.aa.wa j).aT (Yj ks)) (Dj c ks j)
 grind [IF]
def o7(c:Mc)(ks:ai ar)(s:ai Pr):ar:=Y_ ((c.aa.aT (Yj ks)).ym b_ []) (Yj ks s)
def qK{ks:ai ar}(h:i<ks.aj):ee (ks.aT aM) (i:a6)=ab (aM (ks.g6 i 0)):=by
 grind [oC]
def zbv{c:Mc}(h:(c.aa.aT av)[j]?=ab w):∃hj:j<c.aa.aj,w=av c.aa[j]:=by
 grind
def zbw(n)(c)(hc:c.Og)(ks)(hk:ks.aj=c.aa.aj)(j)(hj)(wj)(ho:wj.aj<=1000)(w0)(z5):
  ∃wo,BI K a (mH K a n) [.fr w0,.fr (aR ks),.dw (.Yz (.gs [.Yz .bl,.aO])) (Dj c ks j) (d_ 0 (Dj c ks j).aj),.ie none (wj.aT aM),.fr (av c.aa[j]),z5] =
   .nx [.fr w0,.fr (aR ks),.dw (.Yz (.gs [.Yz .bl,.aO])) (Dj c ks (j+1)) (d_ 0 (Dj c ks (j+1)).aj),.ie none ((wj++[o7 c ks c.aa[j]]).aT aM),.fr (av c.aa[j]),wo]:=by
 have m7:=hc.mo;have hs:=hc.st _ (w1o hj);have yr:=hc.pr _ (w1o hj);have p8:2^c.m<=8:=w0r (w0n (by decide) hc.g9) (by decide);have oz:=Po (Dj c ks j) (Yj ks c.aa[j]);have mz:=R9 (c:=c) (ks:=ks) (j:=j+1) (x:=Yj ks c.aa[j]) (by grind [Pu]);have KD:=R8 (c:=c) (ks:=ks) j;have tQ:=Pu (c:=c) (ks:=ks) hj;generalize jI:c.aa[j]=s at *
 have zeE:ai.aT (λp:W×W=>W.gs [p.1,(aW (aR ks) p.2).g6 .aF]) (ai.TV (λ_=>true) (s.aT λp=>(aB p.1,W.aO (p.2:a6))))=s.aT (fZ ks):=by
  rw[w2m.uR (λ_ _=>rfl),w0i]
  refine w1n λp hp=>?_
  show W.gs [aB p.1,(ee (ks.aT aM) (p.2:a6)).g6 .aF]=fZ ks p;rw[qK (by grind)];rfl
 unfold BI;unfold av;rw?;rw[B1];rw?;rw[og (by grind)];simp only[cJ,gS,w0d,w0f];rw[zF (q:=λ_=>true) (g:=λp=>.gs [p.1,(aW (aR ks) p.2).g6 .aF])]
 .rw?;rw[zeE,Qc (JF ks s) (I_ ks s),Cq]
  have app:∀D:ai Kx,D=b_ (Dj c ks j) (Yj ks s)->∃wo,(dZ 3 (ae (cZ (ak tT (af 2) (af 5))) ag)) [.fr w0,.fr (aR ks),.dw (.Yz (.gs [.Yz .bl,.aO])) D (d_ 0 D.aj),.ie none (wj.aT aM),.fr (.dI (s.aT a8)),.fr (.gs (s.aT (fZ ks)))] =
    .nx [.fr w0,.fr (aR ks),.dw (.Yz (.gs [.Yz .bl,.aO])) (Dj c ks (j+1)) (d_ 0 (Dj c ks (j+1)).aj),.ie none ((wj++[o7 c ks s]).aT aM),.fr (.dI (s.aT a8)),wo]:=by
   rintro D rfl;rw?;rw[JU (JF ks s) (I_ ks s),Cq,og oz];rw?;rw[og (by grind),tQ];refine⟨.fr (.gs (s.aT (fZ ks))),?_⟩;rw[tQ]at mz;rw[<- mz,w0q];rfl
  by_cases hm:Yj ks s∈Dj c ks j
  .rw[og hm];have e:b_ (Dj c ks j) (Yj ks s)=Dj c ks j:=og hm;have q:=app (Dj c ks j) e.symm;revert q;rw?;exact id
  .rw[sU hm];have e:b_ (Dj c ks j) (Yj ks s)=Dj c ks j++[Yj ks s]:=sU hm;have q:=app _ e.symm;revert q;rw?;intro q;rw[Pa (JF ks s) (by omega) (by rfl) (I_ ks s) (by rw[Cq,sU hm])];rw?;rw[show d_ 0 (Dj c ks j).aj++[W.aO ((Dj c ks j).aj:a6)]=d_ 0 (Dj c ks j++[Yj ks s]).aj by rw[w1t];have:=Nm (Dj c ks j).aj 0;grind];exact q
 .intro q hq;let⟨p,hp,rfl⟩:=w0o.mp hq;refine⟨_,rfl,λ_=>?_⟩
  unfold LB aR;rw?;rw[qK (by grind)];rw?;exact⟨_,rfl⟩
def Np(n)(c)(hc:c.Og)(ks)(hk:ks.aj=c.aa.aj):mH K a (n+1) BO [.dI (c.aa.aT av),aR ks]=.ok (.ie none ((ye c ks).aT aM)):=by
 have m7:=hc.mo;rw[VO];unfold F3;rw?
 let⟨e',h1,z4,z5,h2⟩:=Jz (b:=BI K a (mH K a n)) (i:=4) (λj e=>∃z4 z5,e=[.fr (.dI (c.aa.aT av)),.fr (aR ks),.dw (.Yz (.gs [.Yz .bl,.aO])) (Dj c ks j) (d_ 0 (Dj c ks j).aj),.ie none (((c.aa.vA j).aT (o7 c ks)).aT aM),z4,z5]) (c.aa.aT av) 0 [.fr (.dI (c.aa.aT av)),.fr (aR ks),.dw (.Yz (.gs [.Yz .bl,.aO])) [] [],.ie none [],.no,.no] ⟨_,_,rfl⟩ (by
  rintro j w e hw ⟨z4,z5,rfl⟩;let⟨hj,rfl⟩:=zbv hw;rw[w1p]at *;let⟨wo,q⟩:=zbw (K:=K) (a:=a) n c hc ks hk j hj ((c.aa.vA j).aT (o7 c ks)) (by simp;omega) _ z5;refine⟨_,q,.fr (av c.aa[j]),wo,?_⟩;rw[Nk hj,w0q (f:=o7 c ks)];rfl)
 rw[h1,h2];rw?;rw[w0a,w2d (by omega)];rfl
def iO(c:Mc)(t:ar):ai W:=(ai.zd (t+1)).aT λs=>aR (bS c s)
def Nq(c)(t):iO c (t+1)=iO c t++[aR (bS c (t+1))]:=by
 grind [iO,ai.range_succ]
def z1u(c)(t):(iO c t).aj=t+1:=by unfold iO;simp
def Ja{x:α}:ee (l++[x]) (-1)=ab x:=by
 unfold ee nh;rw[sU (by decide),og (by simp;omega)];have e:(-1+((l++[x]).aj:a6)).t8=l.aj:=by simp;omega
 simp_all
def Nr(c)(t):ee (iO c t) (-1)=ab (aR (bS c t)):=by
 cases t with
 |UQ=>exact Ja (l:=[])
 |UI t=>rw[Nq];exact Ja
def SG(m:ar)(h:m<=1000):n_ (.dI [.aO 0]) (.aO (m:a6))=ab (aR (ai.v5 m 0)):=by
 rw[RB,og ⟨n5 (by omega) (by omega),by simp;omega⟩,w1s]
 simp_all [aR,aM]
theorem QA(hc:c.Og)(t):bS c t≠[]:=λh=>by
 grind [oD,Mc.Og.gJ]
def dY(c:Mc)(L:ar):Prop:=∀i j,i<c.aa.aj->j<c.aa.aj->kd c L i=kd c L j->kd c (L+1) i=kd c (L+1) j
theorem IH{c:Mc}(hc:c.Og)(h:dY c L):∀(t i j:ar),i<c.aa.aj->j<c.aa.aj->kd c L i=kd c L j->kd c t i=kd c t j
 |0,i,j,_,_,_=>by rw[sH,sH]
 |t+1,i,j,hi,hj,e=>by
  have e1:=(xa hc hi hj).mp (h i j hi hj e);exact(xa hc hi hj).uR λr hr=>⟨(e1 r hr).1,IH hc h t _ _ (l5 hc hi hr) (l5 hc hj hr) (e1 r hr).2⟩
theorem Nt:∀(xs D:ai Kx),(∀k,k<D.aj->∃x∈D,Y_ D x=k)->∀k,k<(xs.ym b_ D).aj->∃x∈xs.ym b_ D,Y_ (xs.ym b_ D) x=k
 |[],D,h=>h
 |y::xs,D,h=>by
  rw[w1v];refine Nt xs (b_ D y) λk hk=>?_
  unfold b_ at hk |-
  by_cases hy:y∈D
  .grind
  .rw[sU hy]at hk |-
   by_cases kq:k<D.aj
   .let⟨x,hx,e⟩:=h k kq;exact⟨x,w3a _ hx,by rw[IF hx,e]⟩
   grind [Oo]
theorem Nu:∀(xs D:ai Kx),∀x∈xs.ym b_ D,x∈D\/x∈xs
 |[],D,x,h=>.j' h
 |y::xs,D,x,h=>by
  rw[w1v]at h;rcases Nu xs (b_ D y) x h with z|z
  all_goals grind [b_]
def pY(h:i<c.aa.aj):kd c t i∈bS c t:=by
 grind [oD,kd]
def R_(h:k∈bS c t):∃i,i<c.aa.aj/\kd c t i=k:=by
 let⟨i,hi,e⟩:=w3g h;refine⟨i,by grind [oD],?_⟩
 grind [kd]
theorem z1v{c:Mc}(hc:c.Og):∀(t:ar){M k:ar},M∈bS c t->k<=M->∃i,i<c.aa.aj/\kd c t i=k
 |0,M,k,hM,hk=>by
  have e:M=0:=w4n hM;exact⟨0,hc.gJ,by rw[sH];omega⟩
 |t+1,M,k,hM,hk=>by
  have Bf:M∈ye c (bS c t):=hM;unfold ye at Bf;let⟨s,hs,e⟩:=w0o.mp Bf;have h1:=Pn (zY (c.aa.aT (Yj (bS c t))) [] _ (w2n hs));let⟨x,hx,e2⟩:=Nt (c.aa.aT (Yj (bS c t))) [] (λk hk=>by simp at hk) k (by omega)
  rcases Nu _ _ x hx with z|z
  .simp at z
  .let⟨s',g_,rfl⟩:=w0o.mp z;refine R_ (t:=t+1) ?_
   grind [ye,bS]
def z7g  (hc:c.Og)  (hM:M∈bS c L)(Kr:∀k∈bS c L,k<=M)(Ks:∀k∈bS c (L+1),k<=M')(hle:M'<=M):dY c L:=by
 have Vk:=λk (hk:k<=M)=>z1v hc L hM hk
 let yB:ar->ar:=λk=>τ.epsilon λi=>i<c.aa.aj/\kd c L i=k
 have nW:∀k,k<=M->yB k<c.aa.aj/\kd c L (yB k)=k:=λk hk=>τ.epsilon_spec (p:=λi=>i<c.aa.aj/\kd c L i=k) (Vk k hk)
 have Uc:((ai.zd (M+1)).aT λk=>kd c (L+1) (yB k)).x6:=by
  refine w3p.uR (ai.Zl.ŕ (R:=(·≠·)) ?_ ai.nodup_range);intro x y hx hy iN e;refine iN ?_;have hx:=nW x (by have:=w0x.mp hx;omega);have hy:=nW y (by have:=w0x.mp hy;omega);have:=B' hc L hx.1 hy.1 e;rw[hx.2,hy.2]at this;exact this
 have Z8:∀i,i<c.aa.aj->kd c (L+1) i=kd c (L+1) (yB (kd c L i)):=λi hi=>by
  have hm:=R6 (n:=M+1) Uc (λx hx=>by
   let⟨k,hk,rfl⟩:=w0o.mp hx;have hk:=nW k (by have:=w0x.mp hk;omega);have:=Ks _ (pY (t:=L+1) hk.1);omega) (by simp) (y:=kd c (L+1) i) (by have:=Ks _ (pY (t:=L+1) hi);omega)
  let⟨k,hk,e⟩:=w0o.mp hm;have hk:=nW k (by have:=w0x.mp hk;omega);have:=B' hc L hk.1 hi e;rw[hk.2]at this;rw[<- this];exact e.symm
 intro i j hi hj e;rw[Z8 i hi,Z8 j hj,e]
def QB(h:ks≠[]):∃M:ar,kD [aR ks]=ab (.aO (M:a6))/\M∈ks/\∀k∈ks,k<=M:=by
 cases ks with
 |rA=>exact uP rfl h
 |qY k ks=>
  have e:kD [aR (k::ks)]=ab (.aO (eT (k:a6) (ks.aT λx:ar=>(x:a6)))):=by
   have:=Rq (n:=(k:a6)) (ns:=ks.aT λx:ar=>(x:a6))
   rw[w0k,w0i]at this;exact this
  let⟨h1,h2,h3⟩:=Jf (ks.aT λx:ar=>(x:a6)) (k:a6)
  have uZ:∀M:ar,eT (k:a6) (ks.aT λx:ar=>(x:a6))=(M:a6)->∀x∈k::ks,x<=M:=λM hM x hx=>by
   rcases w0g.mp hx with rfl|hx
   all_goals simp_all
  grind
def yB(c:Mc)(L k:ar):ar:=(bS c L).S3 k
def iQ(h:k∈bS c L):yB c L k<c.aa.aj:=by
 rw[<- oD c L];exact Q4 h
theorem n6(h:k∈bS c L):kd c L (yB c L k)=k:=Qy h
def bQ(c:Mc)(L k:ar):ai Pr:=(c.aa.g6 (yB c L k) []).aT λp=>(p.1,kd c L p.2)
theorem Cr(hc:c.Og)(h:k∈bS c L):∀p∈bQ c L k,p.2∈bS c L:=λp hp=>by
 unfold bQ at hp;let⟨q,hq,rfl⟩:=w0o.mp hp;exact pY (hc.pr _ (iR (iQ h)) q hq).2
def c8(c:Mc)(L:ar)(T:ai ar):Mc:=⟨c.m,c.rj,T.aT λk=>bH T (bQ c L k)⟩
structure Cl(c:Mc)(L:ar)(T:ai ar):Prop where
 nd:T.x6
 Ye:∀k∈T,k∈bS c L
 gJ:0<T.aj
 cl:∀k∈T,∀p∈bQ c L k,p.2∈T
theorem Cl.vn{T:ai ar}(hc:c.Og)(h:Cl c L T):T.aj<=c.aa.aj:=sI _ h.nd λk hk=>CU hc.gJ L k (h.Ye k hk)
theorem Cl.ok{T:ai ar}(hc:c.Og)(h:Cl c L T):(c8 c L T).Og where
 g9:=hc.g9
 wg:=hc.wg
 gJ:=by show 0<(T.aT _).aj;grind [gJ]
 mo:=by
  show(T.aT _).aj<=700;rw[w0a];have:=h.vn hc;have:=hc.mo;omega
 st:=λs hs=>by
  let⟨k,hk,rfl⟩:=w0o.mp hs;unfold bH bQ;rw[w0a,w0a];exact hc.st _ (iR (iQ (h.Ye k hk)))
 pr:=λs hs p hp=>by
  let⟨k,hk,rfl⟩:=w0o.mp hs;have KU:=hp;unfold bH at hp;let⟨q,hq,rfl⟩:=w0o.mp hp;have h2:=h.cl k hk q hq;unfold bQ at hq;let⟨q',Em,rfl⟩:=w0o.mp hq;refine⟨(hc.pr _ (iR (iQ (h.Ye k hk))) q' Em).1,?_⟩;show _<(T.aT _).aj
  grind
def nD:ar->ai ar->ai (Yg×Sv)
 |_,[]=>[]
 |o,x::T=>(.j' (x:a6),.j' (o:a6))::nD (o+1) T
theorem Pw:∀(T:ai ar)(o:ar),nD o (T++[x])=nD o T++[(.j' (x:a6),.j' ((o+T.aj:ar):a6))]
 |[],o=>rfl
 |y::T,o=>by
  show _::nD (o+1) (T++[x])=_::(nD (o+1) T++_);rw[Pw T (o+1),show o+1+T.aj=o+(y::T).aj by simp;omega]
theorem QC:∀(T:ai ar)(o:ar),(nD o T).aj=T.aj
 |[],_=>rfl
 |_::T,o=>by show(nD (o+1) T).aj+1=_;rw[QC T];rfl
theorem J1{x:ar}:∀(T:ai ar)(o:ar),lk (nD o T) (.j' (x:a6))=if x∈T then ab (.j' ((o+T.S3 x:ar):a6))else none
 |[],o=>by rw[sU (by simp)];rfl
 |y::T,o=>by
  unfold lk;rw[nD,w2c]
  by_cases e:y=x
  .subst e;simp
  .rw[ZZ (λz=>e (by grind))]
   show lk (nD (o+1) T) (.j' (x:a6))=_;rw[J1 T (o+1)]
   grind
def Sa{T:ai ar}(h:x∉T):Φ (nD 0 T) (.j' (x:a6)) (.j' (T.aj:a6))=nD 0 (T++[x]):=by
 have e:∀(T:ai ar)(o:ar),x∉T->((nD o T).vb λp=>decide (p.1=.j' (x:a6)))=false:=λT=>by
  induction T with
  |rA=>intro _ _;rfl
  |qY y T ih=>
   intro o h;show(decide ((ZW.j' (y:a6):Yg)=.j' (x:a6))||(nD (o+1) T).vb _)=false
   grind
 unfold Φ;rw[sU (by grind),Pw,w1p]
theorem z1w{n:a6}:jt i (.aO m) (.aO n) e (ab (.ba (.k kvs)))=if kvs.aj<16777216/\lL i e=true then .nx (e.sx i (.ba (.k (Φ kvs (.j' n) (.j' m)))))else .no:=rfl
def zbx(r)(w0 w1)(T)(hT:T.aj<=1000)(eg)(z5)(st:ai Pr)(jI:st.aj<=1000)(t)(f:ar):
  wY K a r [.fr w0,.fr w1,.ie none (T.aT aM),.ba (.k (nD 0 T)),.ie none eg,.fr z5,.ie none (st.aT a8),.fr (aB t),.fr (.aO (f:a6))] =
   .nx [.fr w0,.fr w1,.ie none ((aU T f).aT aM),.ba (.k (nD 0 (aU T f))),.ie none eg,.fr z5,.ie none ((st++[(t,(aU T f).S3 f)]).aT a8),.fr (aB t),.fr (.aO (f:a6))]:=by
 unfold wY;rw?;rw[J1]
 by_cases h:f∈T
 .have e:aU T f=T:=og h;rw[og h,sU (by simp)];rw?;rw[og (by rfl),og (by grind),w0q,e];rfl
 .have e:aU T f=T++[f]:=sU h;rw[sU h,og (by rfl),z1w,og ⟨by rw[QC];omega,by rfl⟩,w0a,Sa h];rw?;rw[og (by grind)];rw?;rw[J1,og (by simp)];rw?;rw[og (by rfl),og (by grind),w0q,e,w0q];rfl
theorem Ov(r:ar->ai W->FR)(w0 w1:W)(eg:ai W)(z5:W):∀(ps:ai Pr)(T:ai ar)(st:ai Pr)(z7 z8:S),T.aj+ps.aj<=1000->st.aj+ps.aj<=100 ->
  ∃qR sX,dn 7 8 (wY K a r) (ps.aT λp=>(aB p.1,W.aO (p.2:a6))) [.fr w0,.fr w1,.ie none (T.aT aM),.ba (.k (nD 0 T)),.ie none eg,.fr z5,.ie none (st.aT a8),z7,z8] =
   .nx [.fr w0,.fr w1,.ie none (((ps.aT (·.2)).ym aU T).aT aM),.ba (.k (nD 0 ((ps.aT (·.2)).ym aU T))),.ie none eg,.fr z5,.ie none ((st++bH ((ps.aT (·.2)).ym aU T) ps).aT a8),qR,sX]
 |[],T,st,z7,z8,_,_=>⟨z7,z8,by show SR.nx _=_;simp[bH]⟩
 |p::ps,T,st,z7,z8,h1,h2=>by
  have q:=zbx (K:=K) (a:=a) r w0 w1 T (by simp at h1;omega) eg z5 st (by simp at h2;omega) p.1 p.2;have hl:(aU T p.2).aj<=T.aj+1:=by unfold aU;split<;>simp
  let⟨qR,sX,g⟩:=Ov r w0 w1 eg z5 ps (aU T p.2) (st++[(p.1,(aU T p.2).S3 p.2)]) (.fr (aB p.1)) (.fr (.aO (p.2:a6))) (by simp at h1;omega) (by simp at h2 |-;omega);refine⟨qR,sX,?_⟩;show(wY K a r [.fr w0,.fr w1,.ie none (T.aT aM),.ba (.k (nD 0 T)),.ie none eg,.fr z5,.ie none (st.aT a8),.fr (aB p.1),.fr (.aO (p.2:a6))]).dU (dn 7 8 (wY K a r) (ps.aT λp=>(aB p.1,W.aO (p.2:a6))))=_
  rw[q];rw?;rw[g];show _=SR.nx [.fr w0,.fr w1,.ie none (((ps.aT (·.2)).ym aU (aU T p.2)).aT aM),.ba (.k (nD 0 ((ps.aT (·.2)).ym aU (aU T p.2)))),.ie none eg,.fr z5,.ie none ((st++bH ((ps.aT (·.2)).ym aU (aU T p.2)) (p::ps)).aT a8),qR,sX];let⟨m,hm⟩:=Ca (ps.aT (·.2)) (aU T p.2)
  have e:(st++[(p.1,(aU T p.2).S3 p.2)])++bH ((ps.aT (·.2)).ym aU (aU T p.2)) ps=st++bH ((ps.aT (·.2)).ym aU (aU T p.2)) (p::ps):=by
   simp_all [bH,R7,Pq]
  rw[e]
structure kg(K:Fg)(a:aI)(n:ar)(j:ar)(l:Lm)(aH:ai W)(g:ar->ai Pr)(B:ar->Prop):Prop where
 yd:∀x,B x->∀e,f7 lams (mH K a n) j l aH [.aO (x:a6)] e=.ok (av (g x)) e
 next:∀x,B x->∀p∈g x,B p.2
 g9:∀x,B x->x<700
 vn:∀x,B x->(g x).aj<=8
def jF(w0 w1:W)(g:ar->ai Pr)(b i:ar)(z5 z6 z7 z8:S):ai S:=[.fr w0,.fr w1,.ie none ((bf g b i).aT aM),.ba (.k (nD 0 (bf g b i))),.ie none ((((bf g b i).vA i).aT λx=>bH (bf g b i) (g x)).aT av),z5,z6,z7,z8]
theorem Nv(n:ar){l:Lm}{aH:ai W}{g:ar->ai Pr}(H:kg K a n j l aH g B)(w0:W)(b:ar)(hb:B b):∀(A7 i:ar)(z5 z6 z7 z8:S),i<=(bf g b i).aj->701<=i+A7 ->
  ∃(I:ar)(y5 y6 y7 y8:S),(bf g b I).aj=I/\bg (BZ K a (mH K a n)) (B0 K a (mH K a n)) (A7+1) (jF w0 (.fn j l aH) g b i z5 z6 z7 z8)=.nx (jF w0 (.fn j l aH) g b I y5 y6 y7 y8)
 |0,i,z5,z6,z7,z8,hi,hf=>by
  have:=sI 700 (vT g b i) (λx hx=>H.g9 x (sJ hb H.next i x hx))
  omega
 |A7+1,i,z5,z6,z7,z8,hi,hf=>by
  have hl:=sI 700 (vT g b i) (λx hx=>H.g9 x (sJ hb H.next i x hx))
  have ht:(((bf g b i).vA i).aT λx=>bH (bf g b i) (g x)).aj=i:=by grind
  have hw:BZ K a (mH K a n) (jF w0 (.fn j l aH) g b i z5 z6 z7 z8)=.ok (decide (i<(bf g b i).aj)) (jF w0 (.fn j l aH) g b i z5 z6 z7 z8):=by
   unfold BZ jF;rw?
   simp_all
  rw[sE,hw]
  by_cases h:i<(bf g b i).aj
  .have hB:B ((bf g b i).g6 i 0):=sJ hb H.next i _ (by grind);have hgl:=H.vn _ hB
   have he:bf g b (i+1)=((g ((bf g b i).g6 i 0)).aT (·.2)).ym aU (bf g b i):=by
    simp_all [bf]
   let⟨y7,y8,q⟩:=Ov (K:=K) (a:=a) (mH K a n) w0 (.fn j l aH) ((((bf g b i).vA i).aT λx=>bH (bf g b i) (g x)).aT av) (.aO ((bf g b i).g6 i 0:a6)) (g ((bf g b i).g6 i 0)) (bf g b i) [] z7 z8 (by omega) (by grind)
   rw[<- he]at q
   have DK:B0 K a (mH K a n) (jF w0 (.fn j l aH) g b i z5 z6 z7 z8)=.nx (jF w0 (.fn j l aH) g b (i+1) (.fr (.aO ((bf g b i).g6 i 0:a6))) (.fr (av (bH (bf g b (i+1)) (g ((bf g b i).g6 i 0))))) y7 y8):=by
    unfold B0 jF;rw?;rw[w0a,ht,qK h];unfold aM at q |-
    rw?;rw[H.yd _ hB];unfold av at q |-
    rw?;rw[B1];rw?;rw[show([]:ai W)=([]:ai Pr).aT a8 from rfl,q];rw?;rw[og (by grind),SE h,w0q];rfl
   rw[Æ h];rw?;rw[DK];rw?;let⟨m,hm⟩:=Ac g b i
   exact Nv n H w0 b hb A7 (i+1) _ _ _ _ (by
    grind) (by omega)
  .rw[ZZ h];rw?
   grind
def Ow(n)(H:kg K a n j l aH g B)(b)(hb:B b):∃I:ar,(bf g b I).aj=I /\
  mH K a (n+1) B8 [.aO (b:a6),.fn j l aH]=.ok (.fr (.gs [.dI (((bf g b I).aT λx=>bH (bf g b I) (g x)).aT av),.dI ((bf g b I).aT aM)])):=by
 rw[Xe];unfold Hl;rw?;let⟨I,y5,y6,y7,y8,h1,h2⟩:=Nv (K:=K) (a:=a) n H (.aO (b:a6)) b hb 999999 0 .no .no .no .no (by simp) (by omega);rw[show(1000000:ar)=999999+1 from rfl];have e:([S.fr (W.aO (b:a6)),.fr (.fn j l aH),.ie none [W.aO (b:a6)],.ba (.k [(.j' (b:a6),.j' 0)]),.ie none [],.no,.no,.no,.no]:ai S)=jF (.aO (b:a6)) (.fn j l aH) g b 0 .no .no .no .no:=rfl;rw[e,h2];unfold jF;rw?
 grind
theorem Sb(t)(hi:i<c.aa.aj):ee ((bS c t).aT aM) (i:a6)=ab (.aO ((kd c t i:ar):a6)):=qK (by rw[oD];exact hi)
def zam(n:ar)(c:Mc)(hc:c.Og):∀(A7 t M:ar),kD [aR (bS c t)]=ab (.aO (M:a6))->M∈bS c t->(∀k∈bS c t,k<=M)->t<=M->M<c.aa.aj->c.aa.aj<=t+A7 ->
  ∃(L:ar)(z:S),dY c L/\L<c.aa.aj/\bg (BA K a (mH K a (n+1))) (E_ K a (mH K a (n+1))) (A7+1) [.fr (.dI (c.aa.aT av)),.ie none (iO c t),.fr (aR (bS c (t+1)))]=.nx [.fr (.dI (c.aa.aT av)),.ie none (iO c L),z]:=by
 intro A7
 induction A7 with
 |UQ=>grind
 |UI A7 ih=>
  intro t M h1 Tt Kr h2 h3 h4;have m7:=hc.mo;let⟨M',m1,m2,m3⟩:=QB (QA hc (t+1));have Bf:=CU hc.gJ (t+1) M' m2
  have hw:BA K a (mH K a (n+1)) [.fr (.dI (c.aa.aT av)),.ie none (iO c t),.fr (aR (bS c (t+1)))]=.ok (decide ((M:a6)<(M':a6))) [.fr (.dI (c.aa.aT av)),.ie none (iO c t),.fr (aR (bS c (t+1)))]:=by
   unfold BA;rw?;rw[m1];rw?;rw[Nr];rw?;rw[h1];rw?
  rw[sE,hw];rw?
  by_cases bR:(M:a6)<(M':a6)
  .rw[og bR];unfold E_;rw?;rw[og (by rw[z1u];omega)];rw?;rw[Np n c hc (bS c (t+1)) (oD c (t+1))];rw?;have q:=ih (t+1) M' m1 m2 m3 (by omega) Bf (by omega);rw[Nq]at q;exact q
  .rw[sU bR];exact⟨t,_,z7g hc Tt Kr m3 (by omega),by omega,rfl⟩
def z1x(n)(c)(hc:c.Og):∃L:ar,dY c L/\L<c.aa.aj/\mH K a (n+2) Fd [.dI (c.aa.aT av)]=.ok (.ie none (iO c L)):=by
 have m7:=hc.mo;have mz:=hc.gJ;rw[U3];unfold Fi;rw?;rw[w0a,SG _ (by omega)];rw?;rw[show ee [aR (ai.v5 c.aa.aj 0)] (-1)=ab (aR (bS c 0)) by exact Ja (l:=[])];rw?;rw[Np n c hc (bS c 0) (oD c 0)];rw?;let⟨M,m1,m2,m3⟩:=QB (QA hc 0);have hM:=CU hc.gJ 0 M m2;let⟨L,z,q0,q1,q2⟩:=zam (K:=K) (a:=a) n c hc 999999 0 M m1 m2 m3 (by omega) hM (by omega);have e:([aR (ai.v5 c.aa.aj 0)]:ai W)=iO c 0:=rfl;rw[e];rw[show(W.dI (ai.aT aM (ye c (bS c 0))))=aR (bS c 1)from rfl];rw[show(1000000:ar)=999999+1 from rfl];rw[q2];rw?
 grind
theorem Px:∀ks:ai ar,dQ (ks.aT aM)=ab (ks.aT λk:ar=>(k:a6))
 |[]=>rfl
 |k::ks=>by
  show(dQ (ks.aT aM)).aT _=_;rw[Px ks];rfl
def Nw{ks:ai ar}(h:k∈ks):h_ (.dI (ks.aT aM)) [.aO (k:a6)]=ab (.aO ((ks.S3 k:ar):a6)):=by
 show(match dQ (ks.aT aM)with
  |ab ys=>match lB (k:a6) ys with
   |ab j=>ab (W.aO (j:a6))
   |none=>none
  |none=>none)=_
 grind [Px,Ou]
theorem Q5:∀bs:ai fC,aX (bs.aT .bl)=true
 |[]=>rfl
 |b::bs=>by show(true&&aX (bs.aT .bl))=true;rw[Q5 bs];rfl
def SH(p):Yb (a8 p)=true:=by
 show(aX (p.1.aT .bl)&&(true&&true))=true;rw[Q5];rfl
theorem CV{f:α->W}(h:∀x,Yb (f x)=true):∀l:ai α,aX (l.aT f)=true
 |[]=>rfl
 |x::l=>by show(Yb (f x)&&aX (l.aT f))=true;rw[h x,CV h l];rfl
theorem SJ(s):Yb (av s)=true:=CV SH s
theorem CM(l:ai (ai Pr)):Yb (.dI (l.aT av))=true:=CV SJ l
theorem vw(ks:ai ar):Yb (.dI (ks.aT aM))=true:=CV (λ_=>rfl) ks
def RG(n)(c)(hc:c.Og)(L k)(hk:k∈bS c L):mH K a (n+1) Fq [.dI (c.aa.aT av),aR (bS c L),.aO (k:a6)]=.ok (.ie none ((bQ c L k).aT a8)):=by
 have hr:=iQ hk;have hs:=iR hr;have yr:=hc.pr _ hs;have hl:=hc.st _ hs;have p8:2^c.m<=8:=w0r (w0n (by decide) hc.g9) (by decide);rw[U9];unfold Fv aR;rw?;rw[Nw hk];rw?;rw[show(((bS c L).S3 k:ar):a6)=((yB c L k:ar):a6)from rfl,xm hr];unfold bQ;generalize c.aa.g6 (yB c L k) []=s at *;unfold av;rw?;rw[B1];rw?;rw[og (by grind)];simp only[cJ,gS,w0d,w0f];rw[zF (q:=λ_=>true) (g:=λp=>.gs [p.1,(aW (aR (bS c L)) p.2).g6 .aF])]
 .rw?;rw[w2m.uR (λ_ _=>rfl),w0i,w0i]
  congr 2;refine w1n λp hp=>?_
  show W.gs [aB p.1,(ee ((bS c L).aT aM) (p.2:a6)).g6 .aF]=_;rw[qK (by rw[oD];exact(yr p hp).2)];rfl
 .intro q hq;let⟨p,hp,rfl⟩:=w0o.mp hq;refine⟨_,rfl,λ_=>?_⟩
  unfold Lk aR;rw?;rw[qK (by rw[oD];exact(yr p hp).2)];rw?;exact⟨_,rfl⟩
theorem RH(n)(c)(hc:c.Og)(L):kg K a (n+2) FQ w5 [.dI (c.aa.aT av),aR (bS c L)] (bQ c L) (·∈bS c L) where
 yd:=λx hx e=>by
  refine GV WM rfl (by show(Yb (.dI (c.aa.aT av))&&(Yb (aR (bS c L))&&true))=true;grind [CM,aR,vw]) ?_;show mH K a (n+2) FQ [.aO (x:a6),.dI (c.aa.aT av),aR (bS c L)]=_;rw[VQ];unfold BQ;rw?;rw[RG n c hc L x hx];rw?;rfl
 next:=λx hx=>Cr hc hx
 g9:=λx hx=>by
  have:=CU hc.gJ L x hx;have:=hc.mo;omega
 vn:=λx hx=>by
  have p8:2^c.m<=8:=w0r (w0n (by decide) hc.g9) (by decide);unfold bQ;rw[w0a,hc.st _ (iR (iQ hx))];exact p8
theorem RI(n)(c:Mc)(hc:c.Og):kg K a (n+1) FT wZ [.dI (c.aa.aT av)] (λx=>c.aa.g6 x []) (·<c.aa.aj) where
 yd:=λx hx e=>by
  refine GV WN rfl (by show(Yb (.dI (c.aa.aT av))&&true)=true;rw[CM];rfl) ?_;show mH K a (n+1) FT [.aO (x:a6),.dI (c.aa.aT av)]=_;rw[VR];unfold BR;rw?;rw[xm hx];rw?;rfl
 next:=λx hx p hp=>(hc.pr _ (iR hx) p hp).2
 g9:=λx hx=>by
  have:=hc.mo;omega
 vn:=λx hx=>by
  have p8:2^c.m<=8:=w0r (w0n (by decide) hc.g9) (by decide);rw[hc.st _ (iR hx)];exact p8
theorem C0(hc:c.Og)(h:(bf (bQ c L) (kd c L 0) I).aj=I):Cl c L (bf (bQ c L) (kd c L 0) I) where
 nd:=vT _ _ _
 Ye:=sJ (B:=(·∈bS c L)) (pY hc.gJ) (λx hx=>Cr hc hx) I
 gJ:=by
  let⟨m,e⟩:=IY (bQ c L) (kd c L 0) I;rw[e];simp
 cl:=λk hk=>JZ I (by omega) k (by grind)
theorem z7h{T:ai ar}(hc:c.Og)(hs:dY c L)(h:Cl c L T)(h0:kd c L 0∈T)(i):∀x∈bf (λx=>c.aa.g6 x []) 0 i,x<c.aa.aj/\kd c L x∈T:=
 sJ (B:=λx=>x<c.aa.aj/\kd c L x∈T) ⟨hc.gJ,h0⟩ (λx hx p hp=>by
  have hl:=hc.st _ (iR hx.1);have Ek:=(hc.pr _ (iR hx.1) p hp).2;refine⟨Ek,?_⟩;let⟨r,hr,e⟩:=w3g hp;have hk:=pY (t:=L) hx.1
  have e1:dq c x r=p.2:=by
   grind [dq]
  have q:=((xa hc (iQ hk) hx.1).mp (hs _ _ (iQ hk) hx.1 (n6 hk)) r (by omega)).2;rw[e1]at q;rw[<- q];have yn:=hc.st _ (iR (iQ hk));refine h.cl _ hx.2 (((c.aa.g6 (yB c L (kd c L x)) []).g6 r ([],0)).1,kd c L (dq c (yB c L (kd c L x)) r)) ?_
  grind [bQ,dq]) i
def z7i(m:ar)(h:m<=1000):sM (.dI [.aF]) (.aO (m:a6))=ab (ai.v5 m .aF):=by
 show(if n0 (m:a6)=true/\([W.aF]:ai W).aj*(m:a6).t8<=16777216 then ab (ai.v5 (m:a6).t8 [W.aF]).Ym else none)=_;rw[og ⟨n5 (by omega) (by omega),by rw[w1s];simp;omega⟩,w1s,w3m]
def zby(n)(c)(L)(T:ai ar)(w0 w1 w3)(x)(hx:x<c.aa.aj)(hk:kd c L x∈T)(ws)(hw:ws.aj=c.aa.aj):
  ∃ws':ai W,ws'.aj=c.aa.aj/\B9 K a (mH K a n) [.fr w0,.fr w1,.fr (aR (bS c L)),.fr (.gs [w3,.dI (T.aT aM)]),.ie none ws,.fr (.aO (x:a6))]=.nx [.fr w0,.fr w1,.fr (aR (bS c L)),.fr (.gs [w3,.dI (T.aT aM)]),.ie none ws',.fr (.aO (x:a6))]:=by
 unfold B9 aR;rw?;rw[Sb L hx];rw?;rw[Nw hk];rw?;rw[show nh ws.aj (x:a6)=ab x by simp_all [nh]];rw?
 grind
def Hs(n)(c)(hc:c.Og):∃(L I:ar)(ws:ai W),dY c L/\L<c.aa.aj/\(bf (bQ c L) (kd c L 0) I).aj=I/\mH K a (n+4) uf [aC c]=.ok (.fr (.gs [aC (c8 c L (bf (bQ c L) (kd c L 0) I)),.dI ws])):=by
 have m7:=hc.mo;have mz:=hc.gJ;let⟨L,hS,hL,k1⟩:=z1x (K:=K) (a:=a) (n+1) c hc;let⟨I,hI,c1⟩:=Ow (K:=K) (a:=a) (n+2) (RH n c hc L) (kd c L 0) (pY hc.gJ);let⟨J,hJ,c2⟩:=Ow (K:=K) (a:=a) (n+2) (RI (n+1) c hc) 0 hc.gJ;have eI:=C0 hc hI
 have h0:kd c L 0∈bf (bQ c L) (kd c L 0) I:=by
  let⟨m,e⟩:=IY (bQ c L) (kd c L 0) I;rw[e];simp
 have TN:=z7h hc hS eI h0 J;rw[Y'];unfold Jm;rw?;rw[zbt (n+1) c hc];rw?;rw[pX];rw?;rw[k1];rw?;rw[Nr];rw?;rw[show aW (aR (bS c L)) (.aO 0)=ab (.aO ((kd c L 0:ar):a6))from qK (i:=0) (by rw[oD];exact mz)];rw?;generalize hT:bf (bQ c L) (kd c L 0) I=T at *;rw[show cB [1,2] [S.fr (aC c),S.fr (W.dI (ai.aT av c.aa)),S.fr (aR (bS c L)),S.no,S.no,S.no]=ab [.dI (c.aa.aT av),aR (bS c L)]from rfl,Fl,c1,GW (by show(Yb (.dI ((T.aT λx=>bH T (bQ c L x)).aT av))&&(Yb (.dI (T.aT aM))&&true))=true;rw[CM,vw];rfl)]
 rw?;rw[w0a,z7i _ (by omega)];rw?;rw[show ∀s3 s4:S,cB [1] [S.fr (aC c),S.fr (W.dI (ai.aT av c.aa)),S.fr (aR (bS c L)),s3,s4,S.no]=ab [.dI (c.aa.aT av)]from λ_ _=>rfl,Fl]
 rw[show(W.aO 0)=W.aO ((0:ar):a6)from rfl,c2,GW (by show(Yb (.dI _)&&(Yb (.dI _)&&true))=true;rw[CM,vw];rfl)];rw?
 let⟨e',f1,ws,z5,f2,rfl⟩:=IX (b:=B9 K a (mH K a (n+3))) (i:=5) (λ_ e=>∃(ws:ai W)(z5:S),ws.aj=c.aa.aj/\e=[S.fr (aC c),S.fr (W.dI (ai.aT av c.aa)),S.fr (aR (bS c L)),S.fr (W.gs [W.dI (ai.aT av (ai.aT (λx=>bH T (bQ c L x)) T)),W.dI (ai.aT aM T)]),S.ie none ws,z5])
  (ai.aT aM (bf (λx=>c.aa.g6 x []) 0 J)) 0 [S.fr (aC c),S.fr (W.dI (ai.aT av c.aa)),S.fr (aR (bS c L)),S.fr (W.gs [W.dI (ai.aT av (ai.aT (λx=>bH T (bQ c L x)) T)),W.dI (ai.aT aM T)]),S.ie none (ai.v5 c.aa.aj W.aF),S.no] ⟨_,_,w2t,rfl⟩ (by
  rintro j w e hw ⟨ws,z5,h1,rfl⟩;let⟨x,hx,rfl⟩:=w0o.mp hw;let⟨x1,x2⟩:=TN x hx;let⟨ws',w1,w2⟩:=zby (K:=K) (a:=a) (n+3) c L T (aC c) (W.dI (ai.aT av c.aa)) (W.dI (ai.aT av (ai.aT (λx=>bH T (bQ c L x)) T))) x x1 x2 ws h1
  exact⟨_,w2,ws',_,w1,rfl⟩)
 rw[f1];rw?;rw[Ab];rw?;rw[xh];rw?;refine⟨L,I,ws,hS,hL,by rw[hT];exact hI,?_⟩;rw[hT];rfl
def cG(s:ar):ar->ar->ar
 |k,0=>k
 |k,f+1=>if s<=2^k then k else cG s (k+1) f
def cN(s:ar):ar:=cG s 0 12
theorem Py(s):∀(f k:ar),s<=2^(k+f)->s<=2^cG s k f/\cG s k f<=k+f/\∀j,k<=j->j<cG s k f->2^j<s
 |0,k,h=>⟨h,w0e _,λj h1 h2=>uP h2 (by simp only[cG];omega)⟩
 |f+1,k,h=>by
  unfold cG;split
  .rename_i q;exact⟨q,by omega,λj h1 h2=>by omega⟩
  .rename_i q;let⟨a1,a2,a3⟩:=Py s f (k+1) (by rw[show k+1+f=k+(f+1) by omega];exact h)
   grind
theorem qh  (h:s<=700):s<=2^(0+12):=w0r h (by decide)
def Jb  (h:s<=700):s<=2^cN s/\cN s<=12/\∀j,j<cN s->2^j<s:=by
 let⟨a1,a2,a3⟩:=Py s 12 0 (qh h);exact⟨a1,by unfold cN;omega,λj hj=>a3 j (w1b _) hj⟩
theorem Mw(n:ar)(c:Mc):∀(f k A7:ar),c.aa.aj<=2^(k+f)->f<A7->k+f<=50 ->
  bg (BU K a (mH K a (n+1))) (F4 K a (mH K a (n+1))) A7 [.fr (aC c),.fr (.aO (k:a6))]=.nx [.fr (aC c),.fr (.aO ((cG c.aa.aj k f:ar):a6))]
 |f,k,0,_,h,_=>by omega
 |f,k,A7+1,h1,h2,h3=>by
  have e:BU K a (mH K a (n+1)) [.fr (aC c),.fr (.aO (k:a6))]=.ok (decide (2^k<c.aa.aj)) [.fr (aC c),.fr (.aO (k:a6))]:=by
   unfold BU;rw?;rw[w6 n k (by omega)];rw?;rw[pX];rw?;simp only[w0a,w5r]
  rw[sE,e]
  by_cases q:c.aa.aj<=2^k
  .rw[ZZ (by omega)];rw?;cases f with
   |UQ=>rfl
   |UI f=>unfold cG;rw[og q]
  .cases f with
   |UQ=>exact uP (by simpa using h1) q
   |UI f=>
    rw[Æ (by omega)];rw?;unfold F4;rw?;unfold cG;rw[sU q];exact Mw n c f (k+1) A7 (by rw[show k+1+f=k+(f+1) by omega];exact h1) (by omega) (by omega)
def Ht(n)(c)(h:c.aa.aj<=700):mH K a (n+2) zx [aC c]=.ok (.fr (.aO ((cN c.aa.aj:ar):a6))):=by
 rw[Wj];unfold GA;rw?;rw[show S.fr (W.aO 0)=S.fr (W.aO ((0:ar):a6))from rfl,Mw n c 12 0 1000000 (qh h) (by omega) (by omega)];rw?;rfl
def tr(c:Mc)(k q:ar):ai (fv fC):=if q%2^k<c.aa.aj then(br k (dq c (q%2^k) (q / 2^k))++zf c (q%2^k) (q / 2^k)).aT ab else ai.v5 (k+c.rj) none
def II  (hc:c.Og)(hi:i<c.aa.aj)(hr:r<2^c.m):(zf c i r).aj=c.rj:=by
 have hs:=iR hi;have hl:=hc.st _ hs;unfold zf;have tP:r<(c.aa.g6 i []).aj:=by omega
 rw[show(c.aa.g6 i []).g6 r ([],0)=(c.aa.g6 i [])[r] by grind];exact(hc.pr _ hs _ (w1o tP)).1
def Ae  (h:q<2^(m+k)):q / 2^k<2^m:=by
 rw[w5k]at h;exact ar.div_lt_of_lt_mul (by rwa [w3h]at h)
def RJ  (hc:c.Og)  (hq:q<2^(c.m+k)):(tr c k q).aj=k+c.rj:=by
 grind [tr,mK,II,Ae]
def zdP(m:ar)(h:m<=1000):mQ (.gs [.aF]) (.aO (m:a6))=ab (.gs ((ai.v5 m none).aT eo)):=by
 show(if n0 (m:a6)=true/\[W.aF]≠[]/\[W.aF].aj*(m:a6).t8<=16777216 then ab (W.gs (ai.v5 (m:a6).t8 [W.aF]).Ym)else none)=_;rw[og ⟨n5 (by omega) (by omega),by simp,by simp;omega⟩];simp[eo]
def z7j(l:ai fC):(l.aT ab).aT eo=l.aT .bl:=by
 rw[w0i];rfl
def SK{c:Mc}{r:ar}(hc:c.Og)(hi:i<c.aa.aj)(hr:r<2^c.m):ee ((c.aa.g6 i []).aT a8) (r:a6)=ab (.gs [.gs ((zf c i r).aT .bl),.aO (dq c i r:a6)]):=by
 have hs:=iR hi;have hl:=hc.st _ hs;have tP:r<(c.aa.g6 i []).aj:=by omega
 refine oC ?_;rw[w0w,w0b tP];unfold zf dq;rw[show(c.aa.g6 i []).g6 r ([],0)=(c.aa.g6 i [])[r] by grind];rfl
def RK{x:ar}(h:x<=2^5):(x:a6)<1073741824:=by
 have:(2:ar)^5=32:=by decide
 omega
theorem AZ{x:ar}(h:x<=1000000000):n0 (x:a6)=true:=n5 (by omega) (by omega)
def zan(n)(c:Mc)(hc:c.Og)(hk:k<=5)(hs:c.aa.aj<=2^k)(hq:q<2^(c.m+k)):mH K a (n+2) Gs [aC c,.aO (k:a6),.aO (q:a6)]=.ok (.fr (.gs ((tr c k q).aT eo))):=by
 have hw:=hc.wg;have hm:=hc.g9;have hp:0<2^k:=w2j k;have h1:2^(c.m+k)<=2^8:=w0n (by decide) (by omega);have h2:2^k<=2^5:=w0n (by decide) hk;rw[Wr];unfold GC;rw?;rw[w6 n k (by omega)];rw?;rw[pX];rw?;rw[og (a6.natCast_pos.uR hp),w0a];have hb:q%2^k<2^k:=ar.mod_lt _ hp
 by_cases h:q%2^k<c.aa.aj
 .have hd:=Ae hq;have tl:=II hc h hd;have nl:=l5 hc h hd;rw[sU (by rw[<- w3w];omega),pX];rw?;rw[<- w3w,xm h];rw?;rw[w6 n k (by omega)];unfold av;rw?;rw[og ⟨a6.natCast_pos.uR hp,RK h2⟩];rw?;rw[<- a6.natCast_ediv,SK hc h hd];rw?;rw[Pg n (by omega) (by omega)];rw?;rw[og (by rw[w0a,w0a,mK,tl];omega),<- w0q];unfold tr;rw[og h,z7j]
 .rw[og (by rw[<- w3w];omega),xh];rw?;rw[show((k:a6)+(c.rj:a6))=((k+c.rj:ar):a6)from rfl,zdP _ (by omega)];rw?;unfold tr;rw[sU h]
def oj(c:Mc)(k p:ar):ai (fv fC):=(ai.zd (2^(c.m+k))).aT λq=>(tr c k q).g6 p none
def z7k(c)(k p):(oj c k p).aj=2^(c.m+k):=by unfold oj;rw[w0a,w1u]
def Hu(m:ar):bK 0 (m:a6)=(ai.zd m).aT fun(q:ar)=>W.aO (q:a6):=by
 unfold bK;simp
def z7l{l:ai (fv fC)}  (h:p<l.aj):ee (l.aT eo) (p:a6)=ab (eo (l.g6 p none)):=by
 refine oC ?_;rw[w0w,w0b h]
 grind
def zao(n)(c)(hc:c.Og)(hk:cN c.aa.aj<=4)(hs:c.aa.aj<=700):
  mH K a (n+3) Gr [aC c]=.ok (.ie none ((ai.zd (cN c.aa.aj+c.rj)).aT λp=>W.dI ((oj c (cN c.aa.aj) p).aT eo))):=by
 have hw:=hc.wg;have hm:=hc.g9;have g_:=(Jb hs).1;have ck:=Ht (K:=K) (a:=a) n c hs;generalize cN c.aa.aj=k at hk g_ ck |-
 have h8:2^(c.m+k)<=2^7:=w0n (by decide) (by omega);rw[Wq];unfold GB;rw?;rw[ck];rw?;rw[Ab];rw?;rw[show((c.m:a6)+(k:a6))=((c.m+k:ar):a6)from rfl,w6 (n+1) (c.m+k) (by omega)];rw?;have h7:(2:ar)^7=128:=by decide
 rw[og (AZ (by omega)),Hu];rw?
 rw[og (by rw[w0a,w1u];omega),mM (g:=λq=>W.gs ((tr c k q).aT eo)) (ai.zd (2^(c.m+k))) (λq hq=>⟨_,by
  unfold LM;rw?;simp only[cJ,gS,w0d,w0f,w1a,w0z];rw?;rw[zan n c hc (by omega) g_ (w0x.mp hq)];rw?;rfl⟩)]
 rw?;simp only[cJ,gS,w0d,w0f,w1a,w0z];rw?;rw[xh];rw?;rw[show((k:a6)+(c.rj:a6))=((k+c.rj:ar):a6)from rfl,og (n5 (by omega) (by omega)),Hu];rw?
 rw[og (by rw[w0a,w1u];omega),mM (g:=λp=>W.dI ((oj c k p).aT eo)) (ai.zd (k+c.rj)) (λp hp=>⟨_,by
  unfold LL;rw?;simp only[cJ,gS,w0d,w0f,w1a,w0z];rw?
  rw[og (by rw[w0a,w1u];omega),mM (g:=λq=>eo ((tr c k q).g6 p none)) (ai.zd (2^(c.m+k))) (λq hq=>⟨_,by
   unfold LK;rw?;simp only[cJ,gS,w0d,w0f,w1a,w0z];rw?;rw[z7l (by rw[RJ hc (w0x.mp hq)];exact w0x.mp hp)];rfl⟩)]
  rw?;unfold oj;rw[w0i];rfl⟩)]
 rw?
def mx(c k:a6):a6:=((c*48271+(k+1)*1299721)%2147483647)^5%2147483647
theorem Tb(x):-18446744073709551616<x%2147483647/\x%2147483647<18446744073709551616:=⟨by omega,by omega⟩
def Nx(n)(c k):mH K a (n+1) B3 [.aO c,.aO k]=.ok (.fr (.aO (mx c k))):=by
 rw[V2];unfold Gg;rw?;rw[og (Tb _)];rfl
def Bv:=
 (ah (b7 5 (cQ ag))
  (ah (eC 6 eV (ae (af 4) ag)
  (y_ K a r))
  (aJ (aV (ae (af 2) (ae (af 3) (ae (af 5) ag)))))))
def EU:=
 (ah (a9 (qy (iH (ay (ak yN (af 2) (dC (.aO 2)))) (iH (ay (ak kP (af 4) (dC (.aO 4)))) (ay (ak kP (ak bY (ak cx (af 1) (dC (.aO 768))) (dC (.aO 4))) (dC (.aO 0)))))) (ay (ak kP (af 4) (dC (.aO 8)))))
  (aD 2 (ak bY (af 2) (dC (.aO 2))))
  c_)
  (Bv K a r))
def ET:=
 (ah (a9 (ay (ak yN (ak bY (ak cx (af 1) (dC (.aO 96))) (dC (.aO 8))) (dC (.aO 6))))
  (ah (aD 2 (dC (.aO 3)))
  (ah (aD 4 (ak bA (dC (.aO 1)) (ak bY (af 4) (dC (.aO 4)))))
  (aD 3 (ak bY (af 3) (ak bA (ak bA (dC (.aO 1)) (ak gR (cw jk (ae (ak l4 (af 4) (dC (.aO 3))) ag)) (dC (.aO 6)))) (cw jk (ae (ak kP (af 4) (dC (.aO 2))) ag)))))))
  c_)
  (EU K a r))
def Bu:=
 (ah (a9 (ay (ak yN (ak bY (ak cx (af 1) (dC (.aO 96))) (dC (.aO 8))) (dC (.aO 5))))
  (aD 4 (ak bA (af 4) (dC (.aO 8))))
  c_)
  (ET K a r))
theorem UY(K:Fg)(a:aI)(r:ar->ai W->FR):Fj K a r =
 (ah (aD 1 (ao (r zj) (ae (af 0) (ae (dC (.aO 0)) ag))))
  (ah (aD 2 (ak bY (af 1) (dC (.aO 3))))
  (ah (aD 3 (ak bA (ak bY (ak cx (af 1) (dC (.aO 3))) (dC (.aO 4))) (ak gR (dC (.aO 3)) (cw jk (ae (ak yN (ak bY (ak cx (af 1) (dC (.aO 768))) (dC (.aO 5))) (dC (.aO 1))) ag)))))
  (ah (aD 4 (ak bA (dC (.aO 1)) (ak bY (ak cx (af 1) (dC (.aO 12))) (dC (.aO 8)))))
  (Bu K a r))))):=rfl
def lG(cn:a6)(rj r:ar):ai fC:=(ai.zd rj).aT fun(q:ar)=>decide (mx cn (9*(r:a6)+(q:a6))%5<2)
def pH(cn:a6)(rj v8 r:ar):Pr:=(lG cn rj r,(mx cn (70+(r:a6))%(v8:a6)).t8)
def z1y(n)(cn:a6){rj v8 r:ar}(hw:rj<=12)(h0:0<v8)(z0 z1 z2 z5 z6 wm)(st:ai Pr)(hl:st.aj<=100):
  y0 K a (mH K a (n+1)) [z0,z1,z2,.fr (.aO (rj:a6)),.fr (.aO (v8:a6)),z5,z6,.fr (.aO cn),.ie none (st.aT a8),.fr (.aO (r:a6)),wm]=.nx [z0,z1,z2,.fr (.aO (rj:a6)),.fr (.aO (v8:a6)),z5,z6,.fr (.aO cn),.ie none ((st++[pH cn rj v8 r]).aT a8),.fr (.aO (r:a6)),.fr (aB (lG cn rj r))]:=by
 unfold y0;rw?;rw[og (AZ (by omega)),Hu];rw?
 rw[og (by rw[w0a,w1u];omega),mM (g:=fun(q:ar)=>W.bl (decide (mx cn (9*(r:a6)+(q:a6))%5<2))) (ai.zd rj) (λq _=>⟨_,by
  unfold Lj;simp only[gm,bo,cJ,gS,w0d,w0f,w1a,w0z,w0k,w2k];rw?;rw[Nx n];rw?;rfl⟩)]
 rw?;simp only[cJ,gS,w0d,w0f,w1a,w0z];rw?;rw[Nx n];rw?;rw[og (show(0:a6)<(v8:a6) by omega)];rw?;rw[og (by rw[w0a];omega),w0q];have h1:=w4c (mx cn (70+(r:a6))) (show(v8:a6)≠0 by omega);unfold aB lG pH a8 aB lG;simp only[w2o h1,w0i,ai.map_singleton];rfl
structure A8(m rj v8:ar)(s:ai Pr):Prop where
 l:s.aj=2^m
 p:∀q∈s,q.1.aj=rj/\q.2<v8
def z7m(cn){rj v8:ar}(h0:0<v8)(r):(pH cn rj v8 r).1.aj=rj/\(pH cn rj v8 r).2<v8:=by
 have h1:=w4c (mx cn (70+(r:a6))) (show(v8:a6)≠0 by omega);have h2:=w4k (mx cn (70+(r:a6))) (show(0:a6)<(v8:a6) by omega)
 grind [pH,lG]
def SM{m:ar}(hm:m<=3):ee [W.aO 1,W.aO 2,W.aO 4,W.aO 8] (m:a6)=ab (.aO ((2^m:ar):a6)):=by
 rcases(show m=0\/m=1\/m=2\/m=3 by omega)with rfl|rfl|rfl|rfl<;>rfl
theorem p8{m:ar}(hm:m<=3):2^m<=8:=w0n (by decide) hm
def zbz(n)(cn:a6){m rj v8:ar}(hm:m<=3)(hw:rj<=12)(h0:0<v8)(z0 z1 z5 z6 z9 wm):
  ∃st A1 qv,A8 m rj v8 st/\cy 9 (y0 K a (mH K a (n+1))) (bK 0 ((2^m:ar):a6)) [z0,z1,.fr (.aO (m:a6)),.fr (.aO (rj:a6)),.fr (.aO (v8:a6)),z5,z6,.fr (.aO cn),.ie none [],z9,wm]=.nx [z0,z1,.fr (.aO (m:a6)),.fr (.aO (rj:a6)),.fr (.aO (v8:a6)),z5,z6,.fr (.aO cn),.ie none (st.aT a8),A1,qv]:=by
 have h8:=p8 hm;obtain⟨N,hN⟩:∃N,N=2^m:=⟨_,rfl⟩;rw[<- hN]at h8 |-
 let⟨e',h2,st,y9,qt,g1,g2,rfl⟩:=vL (b:=y0 K a (mH K a (n+1))) (i:=9) (lo:=0) (hi:=(N:a6)) N (by omega) (λj e=>∃(st:ai Pr)(y9 qt:S),st.aj=j/\(∀q∈st,q.1.aj=rj/\q.2<v8)/\e=[z0,z1,.fr (.aO (m:a6)),.fr (.aO (rj:a6)),.fr (.aO (v8:a6)),z5,z6,.fr (.aO cn),.ie none (st.aT a8),y9,qt]) [z0,z1,.fr (.aO (m:a6)),.fr (.aO (rj:a6)),.fr (.aO (v8:a6)),z5,z6,.fr (.aO cn),.ie none [],z9,wm] ⟨[],z9,wm,rfl,by simp,rfl⟩ (by
  rintro j e hj ⟨st,y9,qt,g1,g2,rfl⟩;simp only[w1a,w0z,w5s];rw[z1y n cn hw h0 _ _ _ _ _ _ _ (by omega)]
  grind [z7m])
 exact⟨st,y9,qt,⟨g1.ki hN,g2⟩,h2⟩
def zbA(n)(ns:ai a6){m rj v8:ar}(hm:m<=3)(hw:rj<=12)(h0:0<v8)(eg:ai (ai Pr))(hs:eg.aj=j)(hj:j<=100)(ho:∀s∈eg,A8 m rj v8 s)(z1 qR sX A1 qv):
  ∃s z7 z8 z9 wm,A8 m rj v8 s/\y_ K a (mH K a (n+1)) [.fr (.dI (ns.aT .aO)),z1,.fr (.aO (m:a6)),.fr (.aO (rj:a6)),.fr (.aO (v8:a6)),.ie none (eg.aT av),.fr (.aO (j:a6)),qR,sX,A1,qv]=.nx [.fr (.dI (ns.aT .aO)),z1,.fr (.aO (m:a6)),.fr (.aO (rj:a6)),.fr (.aO (v8:a6)),.ie none ((eg++[s]).aT av),.fr (.aO (j:a6)),z7,z8,z9,wm]:=by
 unfold y_;rw?;rw[NR n ns (show(0:a6)<=2+(j:a6) by omega)];rw?;generalize ns.g6 (2+(j:a6)).t8 0+13*(j:a6)=cn
 by_cases h:cn%4=3/\0<(j:a6)
 .rw[og h.1];rw?;rw[og h.2];rw?;have KN:(0:a6)<(j:a6):=h.2;have h1:=w4c (cn / 4) (show(j:a6)≠0 by omega);have h2:=w4k (cn / 4) KN;obtain⟨k,hk⟩:∃k:ar,cn / 4%(j:a6)=(k:a6):=⟨_,(w2o h1).symm⟩;rw[og KN,hk];have kq:k<eg.aj:=by omega
  have e:ee (eg.aT av) (k:a6)=ab (av eg[k]):=oC (by rw[w0w,w0b kq];rfl);rw[e];unfold av;rw?;rw[og (by rw[w0a];omega)];refine⟨eg[k],.fr (.aO cn),sX,A1,qv,ho _ (w1o kq),?_⟩;rw[w0q];rfl
 .have h8:=p8 hm;let⟨st,y9,qt,g,hf⟩:=zbz (K:=K) (a:=a) n cn hm hw h0 (.fr (.dI (ns.aT .aO))) z1 (.ie none (eg.aT av)) (.fr (.aO (j:a6))) A1 qv
  by_cases h3:cn%4=3
  all_goals
   first|rw[sU h3]|(rw[og h3];rw?;rw[sU λz=>h ⟨h3,z⟩])
   rw?;rw[SM hm];rw?;rw[og (AZ (by omega))];rw?;rw[hf];rw?;rw[og (by rw[w0a];omega)];refine⟨st,.fr (.aO cn),.fr (.dI (st.aT a8)),y9,qt,g,?_⟩;rw[w0q];rfl
def W3(n)(ns:ai a6){m rj v8:ar}(hm:m<=3)(hw:rj<=12)(h0:0<v8)(hc:v8<=100)(z1):
  ∃c:Mc,c.Og/\c.m=m/\c.rj=rj/\c.aa.aj=v8/\(Bv K a (mH K a (n+1)) [.fr (.dI (ns.aT .aO)),z1,.fr (.aO (m:a6)),.fr (.aO (rj:a6)),.fr (.aO (v8:a6)),.no,.no,.no,.no,.no,.no]).fn=.ok (.fr (aC c)):=by
 unfold Bv;rw?;rw[og (AZ (by omega))];rw?
 let⟨e',h2,eg,y6,y7,y8,y9,qt,g1,g2,rfl⟩:=vL (b:=y_ K a (mH K a (n+1))) (i:=6) (lo:=0) (hi:=(v8:a6)) v8 (by omega) (λj e=>∃(eg:ai (ai Pr))(y6 y7 y8 y9 qt:S),eg.aj=j/\(∀s∈eg,A8 m rj v8 s)/\e=[.fr (.dI (ns.aT .aO)),z1,.fr (.aO (m:a6)),.fr (.aO (rj:a6)),.fr (.aO (v8:a6)),.ie none (eg.aT av),y6,y7,y8,y9,qt]) [.fr (.dI (ns.aT .aO)),z1,.fr (.aO (m:a6)),.fr (.aO (rj:a6)),.fr (.aO (v8:a6)),.ie none [],.no,.no,.no,.no,.no] ⟨[],_,_,_,_,_,rfl,by simp,rfl⟩ (by
  rintro j e hj ⟨eg,y6,y7,y8,y9,qt,g1,g2,rfl⟩;simp only[w1a,w0z,w5s];let⟨s,q7,q8,q9,q10,g3,h⟩:=zbA (K:=K) (a:=a) n ns hm hw h0 eg g1 (by omega) g2 z1 y7 y8 y9 qt
  grind)
 rw[h2];rw?;exact⟨⟨m,rj,eg⟩,⟨hm,by show rj<=40;omega,by show 0<eg.aj;omega,by show eg.aj<=700;omega,λs hs=>(g2 s hs).l,λs hs p hp=>by show _/\_<eg.aj;rw[g1];exact(g2 s hs).p p hp⟩,rfl,rfl,g1,rfl⟩
structure zei(c:Mc):Prop where
 zcY:c.Og
 wd:c.rj<=6
 g9:c.aa.aj<=16
def MB(K:Fg)(a:aI)(R:FR):Prop:=∃c,zei c/\R=.ok (.fr (aC c))
def Pz(n)(ns:ai a6){m rj v8:ar}(hm:m<=3)(hw:rj<=6)(h0:0<v8)(hc:v8<=16)(z1):
  MB K a (Bv K a (mH K a (n+1)) [.fr (.dI (ns.aT .aO)),z1,.fr (.aO (m:a6)),.fr (.aO (rj:a6)),.fr (.aO (v8:a6)),.no,.no,.no,.no,.no,.no]).fn:=by
 let⟨c,h1,h2,h3,h4,h5⟩:=W3 (K:=K) (a:=a) n ns hm (w0r hw (by decide)) h0 (by omega) z1;exact⟨c,⟨h1,by rw[h3];exact hw,by rw[h4];exact hc⟩,h5⟩
def Jc(n)(ns:ai a6){m rj v8:ar}(hm:m<=3)(hw:rj<=6)(h0:0<v8)(hc:v8<=16)(c:a6):
  MB K a (EU K a (mH K a (n+1)) [.fr (.dI (ns.aT .aO)),.fr (.aO c),.fr (.aO (m:a6)),.fr (.aO (rj:a6)),.fr (.aO (v8:a6)),.no,.no,.no,.no,.no,.no]).fn:=by
 have A:=Pz (K:=K) (a:=a) n ns hm hw h0 hc (.fr (.aO c));have B:=Pz (K:=K) (a:=a) n ns (show m%2<=3 by omega) hw h0 hc (.fr (.aO c));rw[w3w]at B;unfold EU;rw?
 repeat' split
 all_goals first|exact A|exact B
def PB(n)(ns:ai a6){m rj v8:ar}(hm:m<=3)(hw:rj<=6)(h0:0<v8)(hc:v8<=16)(c:a6):
  MB K a (ET K a (mH K a (n+1)) [.fr (.dI (ns.aT .aO)),.fr (.aO c),.fr (.aO (m:a6)),.fr (.aO (rj:a6)),.fr (.aO (v8:a6)),.no,.no,.no,.no,.no,.no]).fn:=by
 have A:=Jc (K:=K) (a:=a) n ns hm hw h0 hc c;unfold ET;rw?;split
 .by_cases q:v8%4<2
  .have B:=Jc (K:=K) (a:=a) n ns (show 3<=3 by decide) (show rj%7<=6 by omega) (show 0<1+v8%4 by omega) (by omega) c
   grind
  .have B:=Jc (K:=K) (a:=a) n ns (show 3<=3 by decide) (show rj%2<=6 by omega) (show 0<1+v8%4 by omega) (by omega) c
   grind
 .exact A
def z7n(n)(ns:ai a6){m rj v8:ar}(hm:m<=3)(hw:rj<=6)(h0:0<v8)(hc:v8<=8)(c:a6):
  MB K a (Bu K a (mH K a (n+1)) [.fr (.dI (ns.aT .aO)),.fr (.aO c),.fr (.aO (m:a6)),.fr (.aO (rj:a6)),.fr (.aO (v8:a6)),.no,.no,.no,.no,.no,.no]).fn:=by
 have A:=PB (K:=K) (a:=a) n ns hm hw h0 (by omega) c;have B:=PB (K:=K) (a:=a) n ns hm hw (show 0<v8+8 by omega) (by omega) c;unfold Bu;rw?
 grind
def WC(n)(ns:ai a6):MB K a (mH K a (n+2) Fe [.dI (ns.aT .aO)]):=by
 rw[U4,UY];rw?;rw[NR n ns (by decide)];rw?;show MB K a (Bu K a (mH K a (n+1)) [.fr (.dI (ns.aT .aO)),.fr (.aO (ns.g6 0 0)),.fr (.aO (ns.g6 0 0%3)),.fr (.aO (ns.g6 0 0 / 3%4+3*if ns.g6 0 0 / 768%5=1 then 1 else 0)),.fr (.aO (1+ns.g6 0 0 / 12%8)),.no,.no,.no,.no,.no,.no]).fn;generalize ns.g6 0 0=c;obtain⟨m,hm⟩:∃m:ar,c%3=(m:a6):=⟨_,(w2o (by omega)).symm⟩;obtain⟨rj,hw⟩:∃m:ar,(c / 3%4+3*if c / 768%5=1 then 1 else 0)=(m:a6):=⟨_,(w2o (by split<;>omega)).symm⟩;obtain⟨v8,hc⟩:∃m:ar,1+c / 12%8=(m:a6):=⟨_,(w2o (by omega)).symm⟩
 grind [z7n]
def W4(n s:ar):∀(f k A7:ar)(P:a6),P=((2^k:ar):a6)->s<=2^(k+f)->f<A7->k+f<=50 ->
  ∃z,bg (wU K a (mH K a n)) (Fo K a (mH K a n)) A7 [.fr (.aO (s:a6)),.fr (.aO (k:a6)),.fr (.aO P)]=.nx [.fr (.aO (s:a6)),.fr (.aO ((cG s k f:ar):a6)),z]:=by
 intro f
 induction f with
 |UQ=>
  intro k A7 P hP h1 h2 h3;cases A7 with
  |UQ=>omega
  |UI A7=>
   have e:wU K a (mH K a n) [.fr (.aO (s:a6)),.fr (.aO (k:a6)),.fr (.aO P)]=.ok (decide (P<(s:a6))) [.fr (.aO (s:a6)),.fr (.aO (k:a6)),.fr (.aO P)]:=by
    unfold wU;rw?
   rw[sE,e,ZZ (by rw[hP];exact a6.ė.uR (a6.ofNat_le.uR h1))];rw?;exact⟨_,rfl⟩
 |UI f ih=>
  intro k A7 P hP h1 h2 h3;cases A7 with
  |UQ=>omega
  |UI A7=>
   have e:wU K a (mH K a n) [.fr (.aO (s:a6)),.fr (.aO (k:a6)),.fr (.aO P)]=.ok (decide (P<(s:a6))) [.fr (.aO (s:a6)),.fr (.aO (k:a6)),.fr (.aO P)]:=by
    unfold wU;rw?
   rw[sE,e];unfold cG
   by_cases q:s<=2^k
   .rw[ZZ (by rw[hP];exact a6.ė.uR (a6.ofNat_le.uR q)),og q];rw?;exact⟨_,rfl⟩
   .rw[Æ (by rw[hP];exact w5r.uR (by omega)),sU q];have hk:(2:ar)^k<=2^50:=w0n (by decide) (by omega);rw?;unfold Fo;rw?;exact ih (k+1) A7 (P*2) (by rw[hP,w1r];rfl) (by rw[show k+1+f=k+(f+1) by omega];exact h1) (by omega) (by omega)
def zap(n:ar){s:ar}(h:s<=700):mH K a (n+1) F_ [.aO (s:a6)]=.ok (.fr (.aO ((cN s:ar):a6))):=by
 rw[V4];unfold Gi;rw?;let⟨z,hz⟩:=W4 (K:=K) (a:=a) n s 12 0 1000000 1 rfl (qh h) (by omega) (by omega);rw[show S.fr (W.aO 0)=S.fr (W.aO ((0:ar):a6))from rfl,hz];rw?;rfl
def Yi(tl:ai ar)(s:ai Pr):ai Pr:=s.aT λp=>(p.1,tl.g6 p.2 0)
def oq(c:Mc)(tl:ai ar):ai ar:=(c.aa.aT (Yi tl)).aT λk=>(c.aa.aT (Yi tl)).S3 k
def fT(c:Mc):ar->ai ar
 |0=>ai.v5 c.aa.aj 0
 |t+1=>oq c (fT c t)
def z7o(c)(tl):(oq c tl).aj=c.aa.aj:=by unfold oq;rw[w0a,w0a]
theorem Jp(c):∀t,(fT c t).aj=c.aa.aj
 |0=>w2t
 |t+1=>z7o c _
def W5(n)(c:Mc)(hc:c.Og)(tl:ai ar)(hl:tl.aj=c.aa.aj)(z0 z3 z4):
  ∃oG,BG K a (mH K a n) [z0,.fr (.dI (c.aa.aT av)),.fr (aR tl),z3,z4]=.nx [z0,.fr (.dI (c.aa.aT av)),.fr (aR (oq c tl)),z3,oG]:=by
 have hm:=hc.mo;unfold BG;rw?
 rw[og (by rw[w0a];omega),mM (g:=λs=>av (Yi tl s)) c.aa λs hs=>⟨_,by
  have KP:=hc.st s hs;have h8:=p8 hc.g9;unfold Ls av;simp only[gm,bo,cJ,gS,w0d,w0f,w1a,w0z,w0k,w2k];rw?
  rw[og (by rw[w0a];omega),mM (g:=λp:Pr=>a8 (p.1,tl.g6 p.2 0)) s λp hp=>⟨_,by
   have hq:=(hc.pr s hs p hp).2;unfold Lr a8;simp only[gm,bo,cJ,gS,w0d,w0f,w1a,w0z,w0k,w2k];rw?;unfold aR;rw?;rw[qK (by omega)];rfl⟩]
  rw?;unfold Yi;rw[w0i];rfl⟩]
 rw?;simp only[cJ,gS,w0d,w0f,w1a,w0z];rw?
 rw[og (by rw[w0a];omega),show(c.aa.aT λs=>av (Yi tl s))=(c.aa.aT (Yi tl)).aT av by rw[w0i];rfl,mM (g:=λk=>aM ((c.aa.aT (Yi tl)).S3 k)) (c.aa.aT (Yi tl)) λk hk=>⟨_,by
  unfold Lq;simp only[gm,bo,cJ,gS,w0d,w0f,w1a,w0z,w0k,w2k];rw?;rw[show ia (.dI ((c.aa.aT (Yi tl)).aT av)) [av k]=ab (.aO ((c.aa.aT (Yi tl)).S3 k:ar))from Y7 hk];rw?;rfl⟩]
 rw?;refine⟨.fr (.dI ((c.aa.aT (Yi tl)).aT av)),?_⟩;simp only[oq,aR,w0i];rfl
def W6(n)(c:Mc)(hc:c.Og):mH K a (n+1) Fy [aC c]=.ok (.fr (aR (fT c c.aa.aj))):=by
 have hm:=hc.mo;rw[VE];unfold Fn;rw?;rw[pX];rw?
 rw[og (by rw[w0a];omega),mM (g:=λ_=>W.aO 0) c.aa λs hs=>⟨_,by
  unfold Lu;rw?;rfl⟩]
 rw?;rw?;rw[w0a,og (AZ (by omega))];rw?
 let⟨e',h2,z3,z4,rfl⟩:=vL (b:=BG K a (mH K a n)) (i:=3) (lo:=0) (hi:=(c.aa.aj:a6)) c.aa.aj (by omega) (λj e=>∃z3 z4,e=[.fr (aC c),.fr (.dI (c.aa.aT av)),.fr (aR (fT c j)),z3,z4]) [.fr (aC c),.fr (.dI (c.aa.aT av)),.fr (.dI (c.aa.aT λ_=>W.aO 0)),.no,.no] ⟨_,_,by
   unfold fT aR;rw[w5n,ai.map_const'];rfl⟩ (by
  rintro j e hj ⟨z3,z4,rfl⟩;simp only[w1a,w0z,w5s];let⟨oG,h⟩:=W5 (K:=K) (a:=a) n c hc (fT c j) (Jp c j) (.fr (aC c)) (.fr (.aO (j:a6))) z4;exact⟨_,h,_,_,rfl⟩)
 rw[h2];rw?
def PD [BEq α] [ĺ α]{l:ai α}{x:α}(h:l[j]?=ab x):l.S3 x<=j:=by
 refine ar.zcC λbR=>?_
 have hj:=(w0c.mp h);have:=w4t (p:=(·==x)) bR
 grind
def Ox{β:Type} [BEq α] [ĺ α] [BEq β] [ĺ β]{A:ai α}{B:ai β}(hl:A.aj=B.aj)(h:∀i j,i<A.aj->j<A.aj->(A[i]?=A[j]?↔B[i]?=B[j]?)){x:α}{y:β}(hx:A[i]?=ab x)(hy:B[i]?=ab y):A.S3 x=B.S3 y:=by
 have hi:=(w0c.mp hx).1;have hp:A.S3 x<A.aj:=w2i.uR (w0s hx);have hq:B.S3 y<B.aj:=w2i.uR (w0s hy);have e1:A[A.S3 x]?=ab x:=by rw[w0b hp,w5o]
 have e2:B[B.S3 y]?=ab y:=by rw[w0b hq,w5o]
 refine ar.le_antisymm (PD ?_) (PD ?_)
 all_goals grind
def JH{c:Mc}(hi:i<c.aa.aj):(oq c tl).g6 i 0=(c.aa.aT (Yi tl)).S3 (Yi tl (c.aa.g6 i [])):=by
 grind [oq]
def QD{c:Mc}(hi:i<c.aa.aj)(hj:j<c.aa.aj):(oq c tl).g6 i 0=(oq c tl).g6 j 0↔Yi tl (c.aa.g6 i [])=Yi tl (c.aa.g6 j []):=by
 rw[JH hi,JH hj];refine⟨λh=>?_,λh=>by rw[h]⟩
 have e:∀k,k<c.aa.aj->(c.aa.aT (Yi tl))[(c.aa.aT (Yi tl)).S3 (Yi tl (c.aa.g6 k []))]?=ab (Yi tl (c.aa.g6 k [])):=λk hk=>by
  grind
 grind
def RL{c:Mc}(hc:c.Og)(hi:i<c.aa.aj)(hj:j<c.aa.aj):Yi tl (c.aa.g6 i [])=Yi tl (c.aa.g6 j [])↔∀r,r<2^c.m->zf c i r=zf c j r/\tl.g6 (dq c i r) 0=tl.g6 (dq c j r) 0:=by
 have l1:=hc.st _ (iR hi);have l2:=hc.st _ (iR hj);unfold Yi zf dq;generalize c.aa.g6 i []=s at l1;generalize c.aa.g6 j []=s' at l2;constructor
 .intro h r hr;have z:=_d (λl=>l[r]?) h
  grind
 .intro h;apply w2b;intro r
  by_cases hr:r<2^c.m
  .have:=h r hr
   grind
  .grind
theorem QE{c:Mc}(hc:c.Og):∀(t:ar){i j:ar},i<c.aa.aj->j<c.aa.aj->((fT c t).g6 i 0=(fT c t).g6 j 0↔kd c t i=kd c t j)
 |0,i,j,hi,hj=>by
  rw[sH,sH];unfold fT;simp[ai.g6,hi,hj]
 |t+1,i,j,hi,hj=>by
  rw[xa hc hi hj];show(oq c (fT c t)).g6 i 0=(oq c (fT c t)).g6 j 0↔_;rw[QD hi hj,RL hc hi hj];exact zci λr=>imp_congr_right λhr=>and_congr_right λ_=>QE hc t (l5 hc hi hr) (l5 hc hj hr)
theorem Q6{c:Mc}(hc:c.Og)(hi:i<c.aa.aj)(hj:j<c.aa.aj):∀d,kd c (L+d) i=kd c (L+d) j->kd c L i=kd c L j
 |0,h=>h
 |d+1,h=>Q6 hc hi hj d (B' hc (L+d) hi hj h)
def RM{c:Mc}(hc:c.Og)(hL:L<=c.aa.aj)(hs:dY c L)(hi:i<c.aa.aj)(hj:j<c.aa.aj):(fT c c.aa.aj).g6 i 0=(fT c c.aa.aj).g6 j 0↔kd c L i=kd c L j:=by
 grind [QE,Q6,ar.add_sub_cancel',IH]
def JI{c:Mc}(hc:c.Og)(hL:L<=c.aa.aj)(hs:dY c L)(hi:i<c.aa.aj):(fT c c.aa.aj).g6 i 0=yB c L (kd c L i):=by
 have mz:=hc.gJ;obtain⟨t,ht⟩:∃t,c.aa.aj=t+1:=⟨c.aa.aj-1,by omega⟩;have eI:=λ{i j:ar}=>RM hc hL hs (i:=i) (j:=j)
 rw[ht]at eI |-
 show(oq c (fT c t)).g6 i 0=_;rw[JH hi];unfold yB
 have A':∀k,k<c.aa.aj->(c.aa.aT (Yi (fT c t)))[k]?=ab (Yi (fT c t) (c.aa.g6 k [])):=λk hk=>by
  rw[w0w,w0b hk]
  grind
 have at2:∀k,k<c.aa.aj->(bS c L)[k]?=ab (kd c L k):=λk hk=>by
  grind [kd,oD]
 refine Ox (by rw[w0a,oD]) (λp q hp hq=>?_) (A' i hi) (at2 i hi)
 rw[w0a]at hp hq;rw[A' p hp,A' q hq,at2 p hp,at2 q hq,fv.ab.injEq,fv.ab.injEq,<- QD hp hq];exact eI (by omega) (by omega)
def z7p(f:ar)(F:ai ar):kF (.aO (f:a6)) (.dI (F.aT aM))=ab (.bl (!decide (f∈F))):=by
 have h1:∀F:ai ar,(F.aT aM).tB a_=true:=λF=>by
  grind [aM,a_]
 have h2:∀F:ai ar,((F.aT aM).vb λy=>lX y (.aO (f:a6)))=decide (f∈F):=λF=>by
  induction F with
  |rA=>rfl
  |qY x F ih=>
   show(lX (.aO (x:a6)) (.aO (f:a6))||(F.aT aM).vb _)=_;rw[ih];show(decide ((x:a6)=(f:a6))||decide (f∈F))=_
   grind
 show(if a_ (.aO (f:a6))=true/\(F.aT aM).tB a_=true then ab (W.bl (!(F.aT aM).vb λy=>lX y (.aO (f:a6))))else none)=_
 rw[og ⟨rfl,h1 F⟩,h2]
def zbB(r:ar->ai W->FR)(z0 z3)(tl T:ai ar)(hT:T.aj<=100)(p:Pr)(hp:p.2<tl.aj):
  BK K a r [z0,.fr (aR tl),.ie none (T.aT aM),z3,.fr (a8 p)]=.nx [z0,.fr (aR tl),.ie none ((aU T (tl.g6 p.2 0)).aT aM),z3,.fr (a8 p)]:=by
 have e:ee (tl.aT aM) (p.2:a6)=ab (aM (tl.g6 p.2 0)):=qK hp;have hn:=z7p (tl.g6 p.2 0) T;unfold aM at hn e;unfold BK a8 aR aM;rw?;rw[e];rw?;rw[hn];rw?
 by_cases h:tl.g6 p.2 0∈T
 .simp_all [aU]
 .rw[ZZ h,show aU T (tl.g6 p.2 0)=T++[tl.g6 p.2 0]from sU h];rw?;rw[e];rw?
  grind
theorem Oy(r:ar->ai W->FR)(z0 z3)(tl:ai ar):∀(s:ai Pr)(T:ai ar)(z4:S),T.aj+s.aj<=100->(∀p∈s,p.2<tl.aj) ->
  ∃oG,cy 4 (BK K a r) (s.aT a8) [z0,.fr (aR tl),.ie none (T.aT aM),z3,z4]=.nx [z0,.fr (aR tl),.ie none (((s.aT λp=>tl.g6 p.2 0).ym aU T).aT aM),z3,oG]
 |[],T,z4,_,_=>⟨z4,rfl⟩
 |p::s,T,z4,h,hp=>by
  have hl:(aU T (tl.g6 p.2 0)).aj<=T.aj+1:=by unfold aU;split<;>simp
  have q:=zbB (K:=K) (a:=a) r z0 z3 tl T (by simp at h;omega) p (hp p (by simp));let⟨oG,g⟩:=Oy r z0 z3 tl s (aU T (tl.g6 p.2 0)) (.fr (a8 p)) (by simp at h;omega) λx hx=>hp x (by simp[hx])
  refine⟨oG,?_⟩;rw[w0k,ub];simp only[w1a,w0z];rw[q];exact g
def gC(c:Mc)(tl:ai ar)(x:ar):ai Pr:=Yi tl (c.aa.g6 x [])
def PH(tl s):(Yi tl s).aT (·.2)=s.aT λp=>tl.g6 p.2 0:=by
 unfold Yi;rw[w0i];rfl
def zbC(n)(c:Mc)(hc:c.Og)(dJ:c.aa.aj<=16)(tl:ai ar)(hl:tl.aj=c.aa.aj)(b i:ar)(hn:∀x∈bf (gC c tl) b i,x<c.aa.aj)(hi:i<(bf (gC c tl) b i).aj)(z4):
  ∃oG,BN K a (mH K a n) [.fr (aC c),.fr (aR tl),.ie none ((bf (gC c tl) b i).aT aM),.fr (.aO (i:a6)),z4]=.nx [.fr (aC c),.fr (aR tl),.ie none ((bf (gC c tl) b (i+1)).aT aM),.fr (.aO ((i+1:ar):a6)),oG]:=by
 have hT:=sI c.aa.aj (vT (gC c tl) b i) hn;obtain⟨x,hx⟩:∃x,(bf (gC c tl) b i).g6 i 0=x:=⟨_,rfl⟩;have K2:x<c.aa.aj:=hn x (by grind);have hs:=iR K2;have h8:=p8 hc.g9;have Eo:=hc.st _ hs;have e:ee ((bf (gC c tl) b i).aT aM) (i:a6)=ab (aM x):=by rw[qK hi,hx]
 let⟨oG,h⟩:=Oy (K:=K) (a:=a) (mH K a n) (.fr (aC c)) (.fr (.aO (i:a6))) tl (c.aa.g6 x []) (bf (gC c tl) b i) z4 (by omega) (λp hp=>by rw[hl];exact(hc.pr _ hs p hp).2)
 refine⟨oG,?_⟩;rw[<- PH]at h
 have hb:bf (gC c tl) b (i+1)=((gC c tl x).aT (·.2)).ym aU (bf (gC c tl) b i):=by
  simp_all [bf]
 rw[hb];unfold BN;rw?;rw[pX];rw?;rw[e];unfold aM at h |-
 rw?;rw[xm K2];unfold av;rw?;rw[show gC c tl x=Yi tl (c.aa.g6 x [])from rfl,h];rw?;rfl
theorem xb{g:ar->ai Pr}{b J:ar}(h:(bf g b J).aj=J):∀d,bf g b (J+d)=bf g b J
 |0=>rfl
 |d+1=>by
  show(if J+d<(bf g b (J+d)).aj then _ else bf g b (J+d))=_;rw[sU (by rw[xb h d];omega),xb h d]
theorem Ny(n)(c:Mc)(hc:c.Og)(dJ:c.aa.aj<=16)(tl:ai ar)(hl:tl.aj=c.aa.aj)(b:ar)(hn:∀i,∀x∈bf (gC c tl) b i,x<c.aa.aj):
  ∀(A7 i:ar)(z4),i<=(bf (gC c tl) b i).aj->18<=i+A7 ->
  ∃I z,(bf (gC c tl) b I).aj=I/\bg (BL K a (mH K a n)) (BN K a (mH K a n)) A7 [.fr (aC c),.fr (aR tl),.ie none ((bf (gC c tl) b i).aT aM),.fr (.aO (i:a6)),z4]=.nx [.fr (aC c),.fr (aR tl),.ie none ((bf (gC c tl) b I).aT aM),.fr (.aO (I:a6)),z]
 |0,i,z4,h1,h2=>by
  have hT:=sI c.aa.aj (vT (gC c tl) b i) (hn i);omega
 |A7+1,i,z4,h1,h2=>by
  have e:BL K a (mH K a n) [.fr (aC c),.fr (aR tl),.ie none ((bf (gC c tl) b i).aT aM),.fr (.aO (i:a6)),z4]=.ok (decide (i<(bf (gC c tl) b i).aj)) [.fr (aC c),.fr (aR tl),.ie none ((bf (gC c tl) b i).aT aM),.fr (.aO (i:a6)),z4]:=by
   unfold BL;rw?;simp only[w0a,w5r]
  rw[sE,e]
  by_cases q:i<(bf (gC c tl) b i).aj
  .rw[Æ q];rw?;let⟨oG,h⟩:=zbC (K:=K) (a:=a) n c hc dJ tl hl b i (hn i) q z4;rw[h];rw?;let⟨m,hm⟩:=Ac (gC c tl) b i;exact Ny n c hc dJ tl hl b hn A7 (i+1) oG (by rw[hm,w1t];omega) (by omega)
  .rw[ZZ q];rw?;exact⟨i,z4,by omega,rfl⟩
def z1z{f:ar->ar}(hf:∀x y,B x->B y->f x=f y->x=y){T:ai ar}{x:ar}(hT:∀t∈T,B t)(hx:B x):(aU T x).aT f=aU (T.aT f) (f x):=by
 unfold aU
 grind
theorem OA{f:ar->ar}{B:ar->Prop}(hf:∀x y,B x->B y->f x=f y->x=y):∀(xs T:ai ar),(∀t∈T,B t)->(∀x∈xs,B x)->(xs.ym aU T).aT f=(xs.aT f).ym aU (T.aT f)
 |[],_,_,_=>rfl
 |x::xs,T,h1,h2=>by
  rw[w1v,w0k,w1v,<- z1z hf h1 (h2 x (by simp))];refine OA hf xs _ (λt ht=>?_) λy hy=>h2 y (by simp[hy])
  grind [aU]
theorem Jq{c:Mc}(hc:c.Og)(L i:ar):∀x∈bf (bQ c L) (kd c L 0) i,x∈bS c L:=sJ (B:=(·∈bS c L)) (pY hc.gJ) (λx hx p hp=>Cr hc hx p hp) i
theorem JJ{c:Mc}(hc:c.Og)(hL:L<=c.aa.aj)(hs:dY c L):∀i,bf (gC c (fT c c.aa.aj)) ((fT c c.aa.aj).g6 0 0) i=(bf (bQ c L) (kd c L 0) i).aT (yB c L)
 |0=>by
  show[_]=[_];rw[JI hc hL hs hc.gJ]
 |i+1=>by
  have ih:=JJ hc hL hs i;show(if i<(bf (gC c (fT c c.aa.aj)) _ i).aj then _ else bf _ _ i)=ai.aT _ (if i<(bf (bQ c L) (kd c L 0) i).aj then _ else bf _ _ i);rw[ih,w0a]
  by_cases h:i<(bf (bQ c L) (kd c L 0) i).aj
  .rw[og h,og h];have hk:(bf (bQ c L) (kd c L 0) i).g6 i 0∈bS c L:=Jq hc L i _ (by rw[w1f,w0b h];exact w1o h)
   rw[show((bf (bQ c L) (kd c L 0) i).aT (yB c L)).g6 i 0=yB c L ((bf (bQ c L) (kd c L 0) i).g6 i 0) by
    rw[w1f,w1f,w0w,w0b h];rfl]
   generalize (bf (bQ c L) (kd c L 0) i).g6 i 0=k at hk;have hr:=iQ hk
   rw[OA (B:=(·∈bS c L)) (λx y hx hy e=>by rw[<- n6 hx,<- n6 hy,e]) _ _ (Jq hc L i) (λx hx=>by
    let⟨p,h1,rfl⟩:=w0o.mp hx;exact Cr hc hk p h1)]
   congr 1;unfold gC;rw[PH];unfold bQ;rw[w0i,w0i];exact w1n λp hp=>JI hc hL hs (hc.pr _ (iR hr) p hp).2
  .rw[sU h,sU h]
def zbD(n)(c:Mc)(hc:c.Og)(dJ:c.aa.aj<=16){I:ar}(hL:L<=c.aa.aj)(hs:dY c L)(hI:(bf (bQ c L) (kd c L 0) I).aj=I):
  mH K a (n+1) F9 [aC c,aR (fT c c.aa.aj)]=.ok (.ie none (((bf (bQ c L) (kd c L 0) I).aT (yB c L)).aT aM)):=by
 have eI:=Jp c c.aa.aj
 have hn:∀i,∀x∈bf (gC c (fT c c.aa.aj)) ((fT c c.aa.aj).g6 0 0) i,x<c.aa.aj:=λi x hx=>by
  rw[JJ hc hL hs]at hx;let⟨k,h1,rfl⟩:=w0o.mp hx;exact iQ (Jq hc L i k h1)
 have h0:((fT c c.aa.aj).aT aM)[0]?=ab (aM ((fT c c.aa.aj).g6 0 0)):=by
  rw[w0w,w1f,w0b (by rw[eI];exact hc.gJ)];rfl
 let⟨J,z,hJ,h⟩:=Ny (K:=K) (a:=a) n c hc dJ _ eI ((fT c c.aa.aj).g6 0 0) hn 1000000 0 .no (w1b _) (by omega);rw[V3];unfold Gh aR;rw?;rw[h0];rw?;rw[show S.ie none [aM ((fT c c.aa.aj).g6 0 0)]=.ie none ((bf (gC c (fT c c.aa.aj)) ((fT c c.aa.aj).g6 0 0) 0).aT aM)from rfl,show S.fr (W.aO 0)=S.fr (W.aO ((0:ar):a6))from rfl,show S.fr (W.dI ((fT c c.aa.aj).aT aM))=S.fr (aR (fT c c.aa.aj))from rfl,h];rw?;rw[JJ hc hL hs]at hJ |-
 rw[w0a]at hJ
 have e:bf (bQ c L) (kd c L 0) J=bf (bQ c L) (kd c L 0) I:=by
  rcases ar.le_total I J with tN|tN
  .rw[<- w4d tN,xb hI]
  .rw[<- w4d tN,xb hJ]
 rw[e]
def Fm.jZ(m:ar):Fm->Prop
 |.is _=>kc
 |.at p=>p<m
 |.not f=>f.jZ m
 |.and f g=>f.jZ m/\g.jZ m
 |.or f g=>f.jZ m/\g.jZ m
 |.ZF f g=>f.jZ m/\g.jZ m
def Fm.uO(n9:ai fC):Fm->fC
 |.is b=>b
 |.at p=>n9.g6 p false
 |.not f=>!f.uO n9
 |.and f g=>f.uO n9&&g.uO n9
 |.or f g=>f.uO n9||g.uO n9
 |.ZF f g=>f.uO n9 != g.uO n9
theorem Fm.size_pos:∀f:Fm,1<=f.dt
 |.is _=>w0e _
 |.at _=>w0e _
 |.not f=>by simp only[Fm.dt];omega
 |.and f g=>by simp only[Fm.dt];omega
 |.or f g=>by simp only[Fm.dt];omega
 |.ZF f g=>by simp only[Fm.dt];omega
def EX(f:Fm):Prop:=¬∃b,f=.is b
structure oO(m:ar)(g:Fm):Prop where
 n:EX g
 o:∀l,l<=3->g.hU l=0
 d:g.vg<=2
 z:g.dt<=2
 i:g.jZ m
theorem RN{m:ar}(h:p<m):oO m (.at p):=⟨fun⟨b,e⟩=>(nomatch e),λ_ _=>rfl,by simp[Fm.vg],by simp[Fm.dt],h⟩
theorem z7q{m:ar}(h:p<m):oO m (.not (.at p)):=⟨fun⟨b,e⟩=>(nomatch e),λl hl=>by simp only[Fm.hU];rw[sU (by omega)],by simp[Fm.vg],by simp[Fm.dt],h⟩
inductive i5(m p:ar)(f:Fm):Prop where
 |ZG (h:f=.is true):i5 m p f
 |mk (n:EX f) (o:∀l,l<=2->f.hU l=0) (d:f.vg<=p+1) (z:f.dt<=3*p) (i:f.jZ m):i5 m p f
def i5.up{m:ar}{f:Fm}(h:i5 m p f):i5 m (p+1) f:=by
 cases h with
 |ZG h=>exact .ZG h
 |mk n o d z i=>exact .mk n o (by omega) (by omega) i
def i5.lit{m:ar}{f g:Fm}(h:i5 m p f)(k:oO m g):i5 m (p+1) (Fm.e_ .a f g):=by
 cases h with
 |ZG h=>
  subst h;exact .mk k.n (λl hl=>k.o l (by omega)) (by have:=k.d;show g.vg<=_;omega) (by have:=k.z;show g.dt<=_;omega) k.i
 |mk n o d z i=>
  rw[qJ n k.n];refine .mk (fun⟨b,e⟩=>(nomatch e)) (λl hl=>?_) ?_ ?_ ⟨i,k.i⟩
  .show max (f.hU 2) (g.hU 3)+(if 2<l then 1 else 0)=0;rw[o 2 (by omega),k.o 3 (by omega),sU (by omega)];rfl
  .have:=k.d;have:=f.size_pos;show max f.vg g.vg+1<=_;omega
  .have:=k.z;show f.dt+g.dt+1<=_;omega
theorem CN{m:ar}:∀(c:ai (fv fC))(p:ar)(f:Fm),p+c.aj=m->i5 m p f->i5 m m (lY p f c)
 |[],p,f,h,k=>by
  have:p=m:=by simpa using h
  subst this;exact k
 |none::c,p,f,h,k=>CN c (p+1) f (by simp only[w0v]at h;omega) k.up
 |ab true::c,p,f,h,k=>CN c (p+1) _ (by simp only[w0v]at h;omega) (k.lit (RN (by simp only[w0v]at h;omega)))
 |ab false::c,p,f,h,k=>CN c (p+1) _ (by simp only[w0v]at h;omega) (k.lit (z7q (by simp only[w0v]at h;omega)))
inductive l8(m j:ar)(f:Fm):Prop where
 |ZG (b:fC) (h:f=.is b):l8 m j f
 |mk (n:EX f) (o:f.hU 0=0) (d:f.vg<=m+1+j) (z:f.dt<=j*(3*m+1)) (i:f.jZ m):l8 m j f
def l8.cu{m:ar}{f g:Fm}(h:l8 m j f)(k:i5 m m g):l8 m (j+1) (Fm.e_ .o f g):=by
 cases k with
 |ZG hg=>
  subst hg
  by_cases hf:∃b,f=.is b
  .let⟨b,rfl⟩:=hf;cases b
   .exact .ZG true rfl
   .exact .ZG true rfl
  .rw[zL hf];exact .ZG true rfl
 |mk gn go gd gz gi=>
  cases h with
  |ZG b h=>
   subst h;cases b
   .exact .mk gn (go 0 (by omega)) (by show g.vg<=_;omega) (by show g.dt<=_;rw[w5t];omega) gi
   .exact .ZG true rfl
  |mk n o d z i=>
   rw[qJ n gn];refine .mk (fun⟨b,e⟩=>(nomatch e)) ?_ ?_ ?_ ⟨i,gi⟩
   .show max (f.hU 0) (g.hU 1)+0=0;rw[o,go 1 (by omega)];rfl
   .show max f.vg g.vg+1<=_;omega
   .show f.dt+g.dt+1<=_;rw[w5t];omega
theorem QF{m:ar}:∀(cs:ai (ai (fv fC)))(j:ar)(f:Fm),(∀c∈cs,c.aj=m)->l8 m j f->l8 m (j+cs.aj) (rJ f cs)
 |[],j,f,_,k=>k
 |c::cs,j,f,h,k=>by
  have:=QF cs (j+1) _ (λx hx=>h x (by simp[hx])) (k.cu (CN c 0 (.is true) (by simpa using h c (by simp)) (.ZG rfl)))
  rw[w0v,show j+(cs.aj+1)=j+1+cs.aj by omega];exact this
def By:O3->fC->fC->fC
 |.a,x,y=>x&&y
 |.o,x,y=>x||y
 |.d,x,y=>x != y
def z11(f:Fm)(n9:ai fC):f.oY.uO n9=!f.uO n9:=by cases f<;>rfl
def Nz(o:O3)(b:fC)(f:Fm)(n9:ai fC):(jA o b f).uO n9=By o b (f.uO n9):=by
 cases o<;>cases b
 .rfl
 .show f.uO n9=(true&&f.uO n9);simp
 .show f.uO n9=(false||f.uO n9);simp
 .rfl
 .show f.uO n9=(false != f.uO n9);simp
 .show f.oY.uO n9=(true != f.uO n9);rw[z11];simp
def z12(o:O3)(x y:fC):By o x y=By o y x:=by cases o<;>cases x<;>cases y<;>rfl
def IJ(o:O3)(f g:Fm)(n9:ai fC):(Fm.e_ o f g).uO n9=By o (f.uO n9) (g.uO n9):=by
 by_cases hf:∃b,f=.is b
 .let⟨b,rfl⟩:=hf;exact Nz o b g n9
 .by_cases hg:∃b,g=.is b
  .let⟨b,rfl⟩:=hg;rw[zL hf,Nz,z12];rfl
  .rw[qJ hf hg];cases o<;>rfl
def tY:ar->ai (fv fC)->ai fC->fC
 |_,[],_=>true
 |p,o::c,n9=>(o==none||o==ab (n9.g6 p false))&&tY (p+1) c n9
theorem Ct(n9:ai fC):∀(c:ai (fv fC))(p:ar)(f:Fm),(lY p f c).uO n9=(f.uO n9&&tY p c n9)
 |[],p,f=>by show f.uO n9=(f.uO n9&&true);simp
 |none::c,p,f=>by
  show(lY (p+1) f c).uO n9=_;rw[Ct n9 c];rfl
 |ab true::c,p,f=>by
  show(lY (p+1) _ c).uO n9=_;rw[Ct n9 c,IJ];show((f.uO n9&&n9.g6 p false)&&tY (p+1) c n9)=(f.uO n9&&((ab true==none||ab true==ab (n9.g6 p false))&&tY (p+1) c n9));cases n9.g6 p false<;>simp
 |ab false::c,p,f=>by
  show(lY (p+1) _ c).uO n9=_;rw[Ct n9 c,IJ];show((f.uO n9&&!n9.g6 p false)&&tY (p+1) c n9)=(f.uO n9&&((ab false==none||ab false==ab (n9.g6 p false))&&tY (p+1) c n9));cases n9.g6 p false<;>simp
theorem QG:∀(c:ai (fv fC))(p:ar)(n9:ai fC),p+c.aj=n9.aj->tY p c n9=mt c (n9.wa p)
 |[],p,n9,h=>by
  have:p=n9.aj:=by simpa using h
  subst this;rw[w3f];rfl
 |o::c,p,n9,h=>by
  simp only[w0v]at h;rw[w3c (by omega)];show(_&&tY (p+1) c n9)=_;rw[QG c (p+1) n9 (by omega),show n9.g6 p false=n9[p]from by grind];rfl
theorem PJ(n9:ai fC):∀(cs:ai (ai (fv fC)))(f:Fm),(∀c∈cs,c.aj=n9.aj)->(rJ f cs).uO n9=(f.uO n9||cs.vb λc=>mt c n9)
 |[],f,_=>by show f.uO n9=(f.uO n9||false);simp
 |c::cs,f,h=>by
  show(rJ (Fm.e_ .o f (lY 0 (.is true) c)) cs).uO n9=_;rw[PJ n9 cs _ λx hx=>h x (by simp[hx]),IJ,Ct,QG c 0 n9 (by simpa using h c (by simp)),ai.drop_zero,w2x]
  show((f.uO n9||(true&&mt c n9))||_)=_;rw[fC.true_and,fC.or_assoc]
def nm(n9:ai fC):ar->ar->ar
 |0,_=>0
 |m+1,p=>(if n9.g6 p false=true then 2^m else 0)+nm n9 m (p+1)
theorem Jr(n9:ai fC)(m p:ar):nm n9 (m+1) p=(if n9.g6 p false=true then 2^m else 0)+nm n9 m (p+1):=rfl
theorem C1(n9:ai fC):∀m p,nm n9 m p<2^m
 |0,p=>by simp[nm]
 |m+1,p=>by
  have:=C1 n9 m (p+1);rw[Jr];rw[w1r];split<;>omega
def RO{l h:ai fC}{k:ar}(hk:k<l.aj):(l++h).g6 k false=l.g6 k false:=by
 simp[ai.g6,w1g hk]
def RP{l h:ai fC}{k:ar}:(l++h).g6 (l.aj+k) false=h.g6 k false:=by
 simp[ai.g6,w1i]
def JK{l h:ai fC}{m:ar}(n9:ai fC)(hl:l.aj=2^m):(l++h).g6 (nm n9 (m+1) p) false=if n9.g6 p false=true then h.g6 (nm n9 m (p+1)) false else l.g6 (nm n9 m (p+1)) false:=by
 have hn:=C1 n9 m (p+1);rw[Jr];split
 .rw[<- hl,RP]
 .rw[w1p,RO (by omega)]
def Sd(n9:ai fC)(m p:ar)(bs:ai fC)(hl:bs.aj=2^m):(ff m p bs).uO n9=bs.g6 (nm n9 m p) false:=by
 refine CS (C:=λm p bs F=>F.uO n9=bs.g6 (nm n9 m p) false) ?_ ?_ ?_ ?_ m p bs hl
 .intro m p bs h0 hc;have hn:=C1 n9 m p
  have:bs.g6 (nm n9 m p) false∈bs:=by
   grind
  exact(hc _ this).symm
 .intro m p bs l e h1 ih;rw[ih,e,JK n9 h1,ite_self]
 .intro m p bs l e h1 _ ih;show((ff m (p+1) l).uO n9 != n9.g6 p false)=_
  grind [C1,JK]
 .intro m p bs l h e h1 h2 iN il ih nn;rw[e,JK n9 h1,<- il,<- ih]
  grind [Hq,Fm.uO]
theorem OB:∀(m:ar)(n:a6)(j:ar),j<m->(Zu m n)[j]?=ab (decide (n / 2^j%2=1))
 |0,n,j,h=>by omega
 |m+1,n,0,h=>by simp[Zu]
 |m+1,n,j+1,h=>by
  rw[Zu,w0d,OB m (n / 2) j (by omega)];rw[a6.ediv_ediv_of_nonneg (by decide),w4i,w5q (2^j) 2]
def OC{m k:ar}(h:p<m):(br m k).g6 p false=decide (k / 2^(m-1-p)%2=1):=by
 grind [br,zS,OB]
theorem QH(M k:ar):∀(m p:ar),p+m=M->nm (br M k) m p=k%2^m
 |0,p,_=>by simp[nm,ar.mod_one]
 |m+1,p,h=>by
  rw[Jr,QH M k m (p+1) (by omega),OC (by omega),show M-1-p=m by omega];have e:k%2^(m+1)=k%2^m+2^m*(k / 2^m%2):=by rw[w1r,ar.mod_mul]
  grind
theorem ud:∀(f:Fm)(m:ar),f.jZ m↔∀p,f.yD p=true->p<m
 |.is b,m=>⟨λ_ p h=>(by cases h),λ_=>trivial⟩
 |.at q,m=>⟨λh p e=>(_X e) ▸ h,λh=>h q (by simp[Fm.yD])⟩
 |.not f,m=>ud f m
 |.and f g,m=>by
  show f.jZ m/\g.jZ m↔∀p,(f.yD p||g.yD p)=true->p<m;rw[ud f m,ud g m]
  grind
 |.or f g,m=>by
  show f.jZ m/\g.jZ m↔∀p,(f.yD p||g.yD p)=true->p<m;rw[ud f m,ud g m]
  grind
 |.ZF f g,m=>by
  show f.jZ m/\g.jZ m↔∀p,(f.yD p||g.yD p)=true->p<m;rw[ud f m,ud g m]
  grind
structure i7(w:Cb)(m:ar)(f:Fm):Prop where
 d:f.vg<=60
 z:f.dt<=1000
 i:f.jZ m
 v:∀q,q<2^m->∀b,w.g6 q none=ab b->f.uO (br m q)=b
 o:4<m->∀q,q<2^m->w.g6 q none=none->f.uO (br m q)=false
def z13{w:Cb}{m N:ar}{cs:ai Cb}{T:W}(hw:w.aj=2^m)(hm:m<=4)(hN:N<=16)(h:LC (Pm w m) (wr w) N cs T):i7 w m (rJ (.is false) (gq (Pm w m) cs)):=by
 let⟨c1,c2,c3,c4⟩:=Cd _ _ _ _ h.S5;have hp:=Nj (λc hc=>(c1 c hc).1) c4
 have v_:∀c∈gq (Pm w m) cs,c.aj=m:=λc hc=>(JY w hm).2 c (gW.mp hc).1
 have hl:(gq (Pm w m) cs).aj<=16:=by rw[hp.length_eq];omega
 have hv:∀q,(rJ (.is false) (gq (Pm w m) cs)).uO (br m q)=(gq (Pm w m) cs).vb λc=>mt c (br m q):=λq=>by
  rw[PJ _ _ _ λc hc=>by rw[v_ c hc,mK]]
  rfl
 have k:=QF (m:=m) (gq (Pm w m) cs) 0 (.is false) v_ (.ZG false rfl)
 have KZ:∀q,q<2^m->∀b,w.g6 q none=ab b->(rJ (.is false) (gq (Pm w m) cs)).uO (br m q)=b:=λq hq b hb=>by
  rw[hv];cases b with
  |true=>
   have Em:q∈wr w:=w1l.uR ⟨w0x.uR (by omega),by rw[hb];rfl⟩;let⟨c,hc,hr⟩:=c3 q Em;have hs:=gW.uR ⟨(c1 c hc).1,hc⟩;have:=(fM.mp hr).2;rw[v_ c hs]at this;exact w2q.uR ⟨c,hs,this⟩
  |false=>
   refine w2v.uR λhn=>?_
   let⟨c,hs,hr⟩:=w2q.mp hn;have hpm:=(w1l.mp (gW.mp hs).1).2
   simp_all [mI,iL,fM]
 cases k with
 |ZG b e=>exact⟨by rw[e];simp[Fm.vg],by rw[e];simp[Fm.dt],by rw[e];trivial,KZ,λh4=>by omega⟩
 |mk n o d z i=>
  refine⟨by omega,?_,i,KZ,λh4=>by omega⟩
  have:(0+(gq (Pm w m) cs).aj)*(3*m+1)<=16*13:=ar.mul_le_mul (by omega) (by omega);omega
def z7r{w:Cb}{m:ar}(hw:w.aj=2^m)(hm:m<=7):i7 w m (ff m 0 (w.aT λo=>o==ab true)):=by
 have hl:(w.aT λo=>o==ab true).aj=2^m:=by rw[w0a,hw]
 have k:=IU m 0 _ hl;have hp:2^m<=2^7:=w0n (by decide) hm
 have hv:∀q,q<2^m->(ff m 0 (w.aT λo=>o==ab true)).uO (br m q)=(w.g6 q none==ab true):=λq hq=>by
  grind [Sd,QH,ar.zcN]
 refine⟨by have:=k.d;omega,?_,(ud _ _).uR λp hp=>by have:=(k.i p hp).2;omega,λq hq b hb=>by rw[hv q hq,hb];cases b<;>rfl,λ_ q hq hb=>by rw[hv q hq,hb];rfl⟩
 rcases k.z with⟨b,e⟩|hz
 .rw[e];simp[Fm.dt]
 .omega
def zbE(n : ar){w : Cb}{m : ar}(hw : w.aj = 2 ^ m)(hm : m <= 7) : ∃ f : Fm, i7 w m f /\ mH K a (n + 121) Fx [.dI (w.aT eo)] = .ok (.fr (uz f)) := by
  have uX : (2 : ar) ^ 10 = 1024 := by decide
  have hp : 2 ^ m <= 2 ^ 10 := w0n (by decide) (by omega);rw [Vy];unfold FG;rw?;rw [show W.aO 4 = W.aO ((4 : ar) : a6) from rfl, w6 (n + 119) 4 (by decide)];rw?;rw [w0a, hw]
  by_cases h : m <= 4
  . have h4 : 2 ^ m <= 2 ^ 4 := w0n (by decide) h
    rw [og (by omega)];let⟨N, cs, T, hN, L, k1⟩:= zae (K := K) (a := a) n hw h;rw [k1];rw?;rw [zal (n + 115)];rw?;exact ⟨_, z13 hw h hN L, rfl⟩
  . have h5 : 2 ^ 5 <= 2 ^ m := w0n (by decide) (by omega)
    rw [sU (by have : (2 : ar) ^ 5 = 32 := by decide
               omega)]
    rw?
    rw [og (by omega), mM (g := λo => W.bl (o == ab true)) w (λo _ => ⟨_, by
      unfold Lp;rw?;rw [Qo];rfl⟩)]
    rw?;rw [show (w.aT λo => W.bl (o == ab true)) = (w.aT λo => (o == ab true)).aT W.bl by rw [w0i]; rfl, z1p (n + 103) (by rw [w0a, hw]) (by omega)]
    rw?;exact ⟨_, z7r hw hm, rfl⟩
def zaq(n:ar){l:Mc}{m x:W}(hs:mH K a (n+2) uf [m]=.ok (.fr (.gs [aC l,x])))(hl:l.aa.aj<=700)(h4:cN l.aa.aj<=4)(h6:l.rj<=6):
  mH K a (n+3) BD [m]=.ok (.fr (aC l)):=by
 rw[Vx];unfold FE;rw?;rw[hs];rw?;rw[Ht n l hl];rw?;rw[sU (by omega),xh];rw?;rw[sU (by omega)]
def Ê(m k:ar)(fs:ai Fm):W:=.gs [.aO (m:a6),.gs ((fs.vA k).aT λf=>.gs [.bl false,uz f]),.gs ((fs.wa k).aT uz)]
structure hV(l:Mc)(k:ar)(fs:ai Fm):Prop where
 vn:fs.aj=k+l.rj
 ok:∀p,p<k+l.rj->i7 (oj l k p) (l.m+k) (fs.g6 p (.is false))
theorem NA(n:ar){l:Mc}{k:ar}(hk:l.m+k<=7):∀ps:ai ar,∃fs:ai Fm,cC bB (BF K a (mH K a (n+121))) [] (ps.aT λp=>W.dI ((oj l k p).aT eo))=ab (fs.aT uz)/\fs.aj=ps.aj/\∀j p,ps[j]?=ab p->i7 (oj l k p) (l.m+k) (fs.g6 j (.is false))
 |[]=>⟨[],rfl,rfl,λj p h=>nomatch h⟩
 |p::ps=>by
  let⟨f,hf,hr⟩:=zbE (K:=K) (a:=a) n (z7k l k p) hk;let⟨fs,h1,h2,h3⟩:=NA n hk ps;refine⟨f::fs,?_,by simp[h2],λj q hq=>?_⟩
  .rw[w0k,B6]
   have e:BF K a (mH K a (n+121)) [.fr (.dI ((oj l k p).aT eo))]=.ok (uz f) [.fr (.dI ((oj l k p).aT eo))]:=by
    unfold BF;rw?;rw[hr];rfl
   grind [bB]
  grind
def Se{n9:ai fC}(h:p<n9.aj):ee (n9.aT W.bl) (p:a6)=ab (.bl (n9.g6 p false)):=by
 refine oC ?_;simp[ai.g6,h]
def rB:ar->ar->ai fC
 |0,_=>[]
 |j+1,n=>decide (n / 2^j%2=1)::rB j n
theorem JL:∀j n,(rB j n).aj=j
 |0,_=>rfl
 |j+1,n=>by show(rB j n).aj+1=j+1;rw[JL j n]
theorem QI:∀(j d c x:ar),rB j (c*2^(j+d)+x)=rB j x
 |0,_,_,_=>rfl
 |j+1,d,c,x=>by
  have e:(c*2^(j+1+d)+x) / 2^j=c*2^(1+d)+x / 2^j:=by
   rw[show j+1+d=j+(1+d) by omega,w5k,<- w5p,w3h c,w5p,w5d (w2j j)]
  show decide ((c*2^(j+1+d)+x) / 2^j%2=1)::rB j (c*2^(j+1+d)+x)=decide (x / 2^j%2=1)::rB j x;rw[e,show j+1+d=j+(1+d) by omega,QI j (1+d) c x,show c*2^(1+d)=2*(c*2^d) by grind,ar.mul_add_mod]
theorem QJ:∀(m j k x:ar),x<2^j->rB (m+j) (k*2^j+x)=rB m k++rB j x
 |0,j,k,x,h=>by rw[w1p];exact QI j 0 k x
 |m+1,j,k,x,h=>by
  have e:(k*2^j+x) / 2^(m+j)=k / 2^m:=by
   rw[ar.add_comm m j,w5k,<- ar.div_div_eq_div_mul,w3h k,w5d (w2j j),ar.zb6 h,w4j]
  rw[show m+1+j=m+j+1 by omega];show decide ((k*2^j+x) / 2^(m+j)%2=1)::rB (m+j) (k*2^j+x)=decide (k / 2^m%2=1)::(rB m k++rB j x);rw[e,QJ m j k x h]
theorem QK:∀(m k p:ar),p<m->(rB m k).g6 p false=decide (k / 2^(m-1-p)%2=1)
 |m+1,k,0,_=>rfl
 |m+1,k,p+1,h=>by
  show(rB m k).g6 p false=_;rw[QK m k p (by omega),show m+1-1-(p+1)=m-1-p by omega]
def Cu(m k:ar):rB m k=br m k:=by
 apply w2b;intro p
 by_cases h:p<m
 .have e1:=QK m k p h;have e2:=OC (k:=k) h;rw[<- e2,w1f,w1f]at e1;have l1:p<(rB m k).aj:=by rw[JL];exact h
  have l2:p<(br m k).aj:=by rw[mK];exact h
  grind
 grind [JL,mK]
def Sf{l:Mc}{k:ar}(hq:q<2^(l.m+k)):(oj l k p).g6 q none=(tr l k q).g6 p none:=by
 grind [oj]
def Hx{m k j x:ar}(hk:k<2^m)(hx:x<2^j):k*2^j+x<2^(m+j)/\(k*2^j+x)%2^j=x/\(k*2^j+x) / 2^j=k:=by
 refine⟨?_,?_,?_⟩
 .rw[w5k];have:=w5f (2^j) (show k+1<=2^m from hk);rw[w5t]at this;omega
 .rw[w3h,ar.mul_add_mod,ar.zcN hx]
 .rw[w3h,w5d (w2j j),ar.zb6 hx,w4j]
def z7s{l:Mc}(hl:l.Og){fs:ai Fm}(hF:hV l j fs)(hs:l.aa.aj<=2^j){k x:ar}(hx:x<l.aa.aj)(hk:k<2^l.m):
  fs.aT (λf=>f.uO (rB l.m k++rB j x))=br j (dq l x k)++zf l x k:=by
 let⟨h1,h2,h3⟩:=Hx (j:=j) hk (show x<2^j by omega);have ht:=II hl hx hk;have hr:rB l.m k++rB j x=br (l.m+j) (k*2^j+x):=by rw[<- QJ _ _ _ _ (by omega),Cu]
 apply w2b;intro p
 by_cases hp:p<j+l.rj
 .have hf:=hF.ok p hp;have v_:(br j (dq l x k)++zf l x k).aj=j+l.rj:=by rw[w1t,mK,ht]
  have e:(oj l j p).g6 (k*2^j+x) none=ab ((br j (dq l x k)++zf l x k)[p]'(by omega)):=by
   rw[Sf h1];unfold tr
   grind
  have:=hf.v _ h1 _ e
  grind [hV.vn]
 grind [hV.vn,mK]
structure Dg(c l:Mc)(tl _Z:ai ar):Prop where
 m:c.m=l.m
 vn:_Z.aj=l.aa.aj
 tn:tl.aj=c.aa.aj
 lt:∀x,x<_Z.aj->_Z.g6 x 0<c.aa.aj
 td:∀x k,x<_Z.aj->k<2^l.m->zf c (_Z.g6 x 0) k=zf l x k
 nx:∀x k,x<_Z.aj->k<2^l.m->tl.g6 (dq c (_Z.g6 x 0) k) 0∈_Z/\_Z.S3 (tl.g6 (dq c (_Z.g6 x 0) k) 0)=dq l x k
def Qu{c:Mc}(hc:c.Og){k:ar}(hi:i<c.aa.aj)(hk:k<2^c.m):(c.aa.g6 i [])[k]?=ab (zf c i k,dq c i k):=by
 have hl:=hc.st _ (iR hi)
 grind [zf,dq]
def Sg{T:ai ar}(hx:x<T.aj):(c8 c L T).aa.g6 x []=bH T (bQ c L (T.g6 x 0)):=by
 show(T.aT _).g6 x []=_;simp[ai.g6,hx]
def JM{T:ai ar}(hc:c.Og)(h:Cl c L T)(hx:x<T.aj)(hr:r<2^c.m):zf (c8 c L T) x r=zf c (yB c L (T.g6 x 0)) r/\dq (c8 c L T) x r=T.S3 (kd c L (dq c (yB c L (T.g6 x 0)) r)):=by
 have hk:T.g6 x 0∈bS c L:=h.Ye _ (by grind);have hl:=hc.st _ (iR (iQ hk))
 grind [zf,dq,Sg,bH,bQ]
def Sm(c d:Mc):ar->ar->ar->Prop
 |0,_,_=>kc
 |t+1,i,j=>∀r,r<2^c.m->zf c i r=zf d j r/\Sm c d t (dq c i r) (dq d j r)
def Al(c d:Mc)(i j:ar):Prop:=∀t,Sm c d t i j
theorem Cg{c d e:Mc}(h:c.m=d.m):∀{t i j k:ar},Sm c d t i j->Sm d e t j k->Sm c e t i k
 |0,_,_,_,_,_=>trivial
 |t+1,_,_,_,h1,h2=>λr hr=>⟨(h1 r hr).1.ki (h2 r (by rw[<- h];exact hr)).1,Cg h (h1 r hr).2 (h2 r (by rw[<- h];exact hr)).2⟩
theorem PK{c d:Mc}(h:c.m=d.m):∀{t i j:ar},Sm c d t i j->Sm d c t j i
 |0,_,_,_=>trivial
 |t+1,_,_,h1=>λr hr=>⟨(h1 r (by rw[h];exact hr)).1.symm,PK h (h1 r (by rw[h];exact hr)).2⟩
theorem Al.ki{c d e:Mc}(h:c.m=d.m){k:ar}(h1:Al c d i j)(h2:Al d e j k):Al c e i k:=λt=>Cg h (h1 t) (h2 t)
theorem Al.symm{c d:Mc}(h:c.m=d.m)(h1:Al c d i j):Al d c j i:=λt=>PK h (h1 t)
theorem Al.Zy{c d:Mc}{r:ar}(h:Al c d i j)(hr:r<2^c.m):zf c i r=zf d j r/\Al c d (dq c i r) (dq d j r):=⟨(h 1 r hr).1,λt=>(h (t+1) r hr).2⟩
theorem A0{c:Mc}(hc:c.Og):∀{t i j:ar},i<c.aa.aj->j<c.aa.aj->(Sm c c t i j↔kd c t i=kd c t j)
 |0,i,j,_,_=>⟨λ_=>by rw[sH,sH],λ_=>trivial⟩
 |t+1,i,j,hi,hj=>by
  rw[xa hc hi hj];exact zci λr=>⟨λh hr=>⟨(h hr).1,(A0 hc (l5 hc hi hr) (l5 hc hj hr)).mp (h hr).2⟩,λh hr=>⟨(h hr).1,(A0 hc (l5 hc hi hr) (l5 hc hj hr)).uR (h hr).2⟩⟩
theorem xi{c:Mc}(hc:c.Og)(hs:dY c L)(hi:i<c.aa.aj)(hj:j<c.aa.aj):Al c c i j↔kd c L i=kd c L j:=
 ⟨λh=>(A0 hc hi hj).mp (h L),λh t=>(A0 hc hi hj).uR (IH hc hs t i j hi hj h)⟩
inductive F2(P:ar->ar->Prop):ai ar->ai ar->Prop
 |rA:F2 P [] []
 |qY {x y l m}:P x y->F2 P l m->F2 P (x::l) (y::m)
theorem F2.vn{P:ar->ar->Prop}:∀{l m:ai ar},F2 P l m->l.aj=m.aj
 |_,_,.rA=>rfl
 |_,_,.qY _ h=>by rw[w0v,w0v,h.vn]
theorem F2.Df{P:ar->ar->Prop}:∀{l m:ai ar}{i:ar},F2 P l m->i<l.aj->P (l.g6 i 0) (m.g6 i 0)
 |_,_,_,.rA,h=>by cases h
 |_,_,0,.qY p _,_=>p
 |_,_,i+1,.qY _ h,hi=>by
  have:=h.Df (i:=i) (by simpa using hi)
  simpa using this
theorem F2.Ϡ{P:ar->ar->Prop}{x y:ar}(p:P x y):∀{l m:ai ar},F2 P l m->F2 P (l++[x]) (m++[y])
 |_,_,.rA=>.qY p .rA
 |_,_,.qY q h=>.qY q (F2.Ϡ p h)
theorem F2.Ye{P:ar->ar->Prop}(u:∀x y x' y',P x y->P x' y'->(x=x'↔y=y')){x y:ar}(p:P x y):∀{l m:ai ar},F2 P l m->(x∈l↔y∈m)
 |_,_,.rA=>by simp
 |_,_,.qY q h=>by rw[w0g,w0g,F2.Ye u p h,u _ _ _ _ p q]
theorem F2.ix{P:ar->ar->Prop}(u:∀x y x' y',P x y->P x' y'->(x=x'↔y=y')){x y:ar}(p:P x y):∀{l m:ai ar},F2 P l m->l.S3 x=m.S3 y
 |_,_,.rA=>rfl
 |x'::l,y'::m,.qY q h=>by
  rw[w5c,w5c,F2.ix u p h]
  grind
def F2.add{P:ar->ar->Prop}(u:∀x y x' y',P x y->P x' y'->(x=x'↔y=y')){x y:ar}(p:P x y){l m:ai ar}(h:F2 P l m):F2 P (aU l x) (aU m y):=by
 unfold aU
 by_cases e:x∈l
 .rw[og e,og ((h.Ye u p).mp e)];exact h
 .rw[sU e,sU λz=>e ((h.Ye u p).uR z)];exact h.Ϡ p
theorem F2.fold{P:ar->ar->Prop}(u:∀x y x' y',P x y->P x' y'->(x=x'↔y=y')):∀{xs ys l m:ai ar},F2 P xs ys->F2 P l m->F2 P (xs.ym aU l) (ys.ym aU m)
 |[],[],_,_,_,h=>h
 |[],_::_,_,_,q,_=>nomatch q
 |_::_,[],_,_,q,_=>nomatch q
 |x::xs,y::ys,l,m,q,h=>by
  cases q with
  |qY p q=>exact F2.fold (xs:=xs) (ys:=ys) (l:=aU l x) (m:=aU m y) u q (h.add u p)
theorem F2.yK{P:ar->ar->Prop}{f g:α->ar}:∀{l:ai α},(∀x∈l,P (f x) (g x))->F2 P (l.aT f) (l.aT g)
 |[],_=>.rA
 |x::l,h=>.qY (h x (by simp)) (F2.yK λy hy=>h y (by simp[hy]))
theorem F2.tX{P:ar->ar->Prop}{f g:ar->α}(e:∀x y,P x y->f x=g y):∀{l m:ai ar},F2 P l m->l.aT f=m.aT g
 |_,_,.rA=>rfl
 |_,_,.qY p h=>by rw[w0k,w0k,e _ _ p,F2.tX e h]
theorem F2.bf{P:ar->ar->Prop}(u:∀x y x' y',P x y->P x' y'->(x=x'↔y=y')){g g':ar->ai Pr}{b b':ar}(p:P b b')(hg:∀x y,P x y->F2 P ((g x).aT (·.2)) ((g' y).aT (·.2))):∀i,F2 P (Q.bf g b i) (Q.bf g' b' i)
 |0=>.qY p .rA
 |i+1=>by
  have h:=F2.bf u p hg i;show F2 P (if i<(Q.bf g b i).aj then _ else _) (if i<(Q.bf g' b' i).aj then _ else _)
  by_cases e:i<(Q.bf g b i).aj
  .rw[og e,og (by rw[<- h.vn];exact e)];exact F2.fold u (hg _ _ (h.Df e)) h
  .rw[sU e,sU (by rw[<- h.vn];exact e)];exact h
def F2.stop{P:ar->ar->Prop}(u:∀x y x' y',P x y->P x' y'->(x=x'↔y=y')){g g':ar->ai Pr}{b b':ar}(p:P b b')(hg:∀x y,P x y->F2 P ((g x).aT (·.2)) ((g' y).aT (·.2))){I I':ar}(hI:(Q.bf g b I).aj=I)(xZ:(Q.bf g' b' I').aj=I'):F2 P (Q.bf g b I) (Q.bf g' b' I'):=by
 have h:=F2.bf u p hg;rcases ar.le_total I I' with le|le
 .have l1:(Q.bf g' b' I).aj=I:=by rw[<- (h I).vn];exact hI
  have:=xb l1 (I'-I)
  grind
 .have l1:(Q.bf g b I').aj=I':=by rw[(h I').vn];exact xZ
  have:=xb l1 (I-I')
  grind
def z14{c:Mc}(hc:c.Og)(hi:i<c.aa.aj):c.aa.g6 i []=(ai.zd (2^c.m)).aT λr=>(zf c i r,dq c i r):=by
 have hl:=hc.st _ (iR hi);unfold zf dq;generalize c.aa.g6 i []=s at hl |-
 refine ai.ext_getElem (by simp[hl]) λr h1 h2=>?_
 simp[ai.g6,h1]
def zI{c:Mc}(hc:c.Og){k:ar}(hk:k∈bS c L):bQ c L k=(ai.zd (2^c.m)).aT λr=>(zf c (yB c L k) r,kd c L (dq c (yB c L k) r)):=by
 unfold bQ;rw[z14 hc (iQ hk),w0i];rfl
structure Rk(c d:Mc)(L L' x y:ar):Prop where
 cm:x∈bS c L
 dm:y∈bS d L'
 a:Al c d (yB c L x) (yB d L' y)
def Q7{c d:Mc}(hc:c.Og)(hd:d.Og)(hm:c.m=d.m)(hs:dY c L)(g_:dY d L')(hi:i<c.aa.aj)(hj:j<d.aa.aj)(h:Al c d i j):Rk c d L L' (kd c L i) (kd d L' j):=by
 have k1:=pY (t:=L) hi;have k2:=pY (t:=L') hj;refine⟨k1,k2,?_⟩;have a1:=(xi hc hs (iQ k1) hi).uR (n6 k1);have a2:=(xi hd g_ hj (iQ k2)).uR (n6 k2).symm;exact a1.ki rfl (h.ki hm a2)
theorem Si{c d:Mc}(hc:c.Og)(hd:d.Og)(hm:c.m=d.m)(hs:dY c L)(g_:dY d L'):∀x y x' y',Rk c d L L' x y->Rk c d L L' x' y'->(x=x'↔y=y'):=λx y x' y' p q=>by
 constructor
 .rintro rfl;have:=(xi hd g_ (iQ p.dm) (iQ q.dm)).mp ((p.a.symm hm).ki hm.symm q.a)
  rwa [n6 p.dm,n6 q.dm]at this
 .rintro rfl;have:=(xi hc hs (iQ p.cm) (iQ q.cm)).mp (p.a.ki hm (q.a.symm hm))
  rwa [n6 p.cm,n6 q.cm]at this
def PL{c d:Mc}(hc:c.Og)(hd:d.Og)(hm:c.m=d.m)(hs:dY c L)(g_:dY d L'){x y r:ar}(p:Rk c d L L' x y)(hr:r<2^c.m):zf c (yB c L x) r=zf d (yB d L' y) r/\Rk c d L L' (kd c L (dq c (yB c L x) r)) (kd d L' (dq d (yB d L' y) r)):=by
 let⟨h1,h2⟩:=p.a.Zy hr
 grind [Q7,l5,iQ,Rk.cm,Rk.dm]
def canon{c d:Mc}(hc:c.Og)(hd:d.Og)(hm:c.m=d.m)(hw:c.rj=d.rj)(hs:dY c L)(g_:dY d L')(h:Al c d 0 0){I I':ar}(hI:(bf (bQ c L) (kd c L 0) I).aj=I)(xZ:(bf (bQ d L') (kd d L' 0) I').aj=I'):
  F2 (Rk c d L L') (bf (bQ c L) (kd c L 0) I) (bf (bQ d L') (kd d L' 0) I')/\c8 c L (bf (bQ c L) (kd c L 0) I)=c8 d L' (bf (bQ d L') (kd d L' 0) I'):=by
 have u:=Si hc hd hm hs g_
 have f:=F2.stop u (Q7 hc hd hm hs g_ hc.gJ hd.gJ h) (λx y p=>by
  rw[zI hc p.cm,zI hd p.dm,w0i,w0i,<- hm];exact F2.yK λr hr=>(PL hc hd hm hs g_ p (w0x.mp hr)).2) hI xZ
 refine⟨f,?_⟩;unfold c8;rw[hm,hw];congr 1;refine F2.tX (λx y p=>?_) f
 unfold bH;rw[zI hc p.cm,zI hd p.dm,w0i,w0i,<- hm]
 grind [ai.zcL,PL,F2.ix]
def SY{c:Mc}(hc:c.Og){I:ar}(hL:L<=c.aa.aj)(hs:dY c L)(hI:(bf (bQ c L) (kd c L 0) I).aj=I):
  Dg c (c8 c L (bf (bQ c L) (kd c L 0) I)) (fT c c.aa.aj) ((bf (bQ c L) (kd c L 0) I).aT (yB c L)):=by
 have h:=C0 hc hI;generalize bf (bQ c L) (kd c L 0) I=T at h;have La:∀x y,x∈T->y∈T->yB c L x=yB c L y->x=y:=λx y hx hy e=>by rw[<- n6 (h.Ye x hx),<- n6 (h.Ye y hy),e]
 have DJ:∀x,x<T.aj->(T.aT (yB c L)).g6 x 0=yB c L (T.g6 x 0):=λx hx=>by
  grind
 have rV:∀x,x<T.aj->T.g6 x 0∈T:=λx hx=>by
  grind
 have D9:∀x k,x<T.aj->k<2^c.m->kd c L (dq c (yB c L (T.g6 x 0)) k)∈T:=λx k hx hk=>by
  have hr:=iQ (h.Ye _ (rV x hx))
  exact h.cl _ (rV x hx) (zf c (yB c L (T.g6 x 0)) k,kd c L (dq c (yB c L (T.g6 x 0)) k)) (by
   unfold bQ;exact w0o.uR ⟨_,w0s (Qu hc hr hk),rfl⟩)
 refine⟨rfl,by rw[w0a];show _=(T.aT _).aj;rw[w0a],Jp c _,λx hx=>?_,λx k hx hk=>?_,λx k hx hk=>?_⟩
 all_goals rw[w0a]at hx
 .rw[DJ x hx];exact iQ (h.Ye _ (rV x hx))
 .rw[DJ x hx];exact(JM hc h hx hk).1.symm
 .have hr:=iQ (h.Ye _ (rV x hx));have hn:=l5 hc hr hk;have kq:=D9 x k hx hk;rw[DJ x hx,JI hc hL hs hn,(JM hc h hx hk).2];refine⟨w2n kq,?_⟩;let⟨i,hi,e⟩:=w1z.mp kq;refine Ox (by rw[w0a]) (λp q hp hq=>?_) (i:=i) (by rw[w0w,w0b hi,e];rfl) (by rw[w0b hi,e])
  grind
def Dp{s:ar}(h:s<=16):cN s<=4:=by
 grind [Jb]
def z15(l:ai (ai Pr)):bP (l.aT av) (l.aT av)=ab true:=by
 induction l with
 |rA=>rfl
 |qY a x ih=>
  show(match eO (gv a) (gv a),bP (x.aT av) (x.aT av)with|ab p,ab q=>ab (p&&q)|_,_=>none)=_;rw[xg,ih];simp
def wB(b:fC):ar:=if b=true then 1 else 0
def pP(n9:ai fC):ar:=n9.ym (λn b=>2*n+wB b) 0
theorem PM:∀(r:ai fC)(n:ar),r.ym (λn b=>2*n+wB b) n<(n+1)*2^r.aj
 |[],n=>by simp
 |b::r,n=>by
  have ih:=PM r (2*n+wB b);rw[w1v,w0v,w1r];have hb:wB b<=1:=by unfold wB;split<;>omega
  have:(2*n+wB b+1)*2^r.aj<=(n+1)*2*2^r.aj:=w5f _ (by omega);rw[w3h (2^r.aj) 2,<- w5p];omega
def z7t(r:ai fC):pP r<2^r.aj:=by
 have:=PM r 0;rw[w1p,ar.one_mul]at this;exact this
theorem N6:∀r:ai fC,r.aj<=4->br r.aj (pP r)=r
 |[],_=>rfl
 |[a],_=>by cases a<;>rfl
 |[a,b],_=>by cases a<;>cases b<;>rfl
 |[a,b,c],_=>by cases a<;>cases b<;>cases c<;>rfl
 |[a,b,c,d],_=>by cases a<;>cases b<;>cases c<;>cases d<;>rfl
 |_::_::_::_::_::_,h=>by simp at h
def z16{r s:ai fC}(h:r.aj=s.aj)(hl:r.aj<=4)(e:pP r=pP s):r=s:=by
 rw[<- N6 r hl,<- N6 s (by omega),h,e]
def zar(n:ar){n9:ai fC}(h:p<n9.aj):mH K a (n+1) GH [.gs (n9.aT .bl),.aO p]=.ok (.fr (.bl (n9.g6 p false))):=by
 rw[WQ];unfold GP;rw?;rw[sU (by omega),sU (by simpa using h)];rw?;rw[Se h];rw?
theorem t_:∀(f:Fm)(n:ar){n9:ai fC},f.vg<=n->f.jZ n9.aj->mH K a (n+1) vP [uz f,.gs (n9.aT .bl)]=.ok (.fr (.bl (f.uO n9)))
 |.is b,n,n9,hd,hb=>by
  rw[w4];unfold uc;simp only[uz];rw?;rfl
 |.at p,n,n9,hd,hb=>by
  rw[w4];unfold uc;simp only[uz];rw?;obtain⟨n,rfl⟩:∃k,n=k+1:=⟨n-1,by simp only[Fm.vg]at hd;omega⟩;rw[zar n hb];rw?;rfl
 |.not f,n,n9,hd,hb=>by
  rw[w4];unfold uc;simp only[uz];rw?;obtain⟨n,rfl⟩:∃k,n=k+1:=⟨n-1,by simp only[Fm.vg]at hd;omega⟩;rw[t_ f n (by simp only[Fm.vg]at hd;omega) hb];rw?;rfl
 |.and f g,n,n9,hd,hb=>by
  rw[w4];unfold uc;simp only[uz];rw?;obtain⟨n,rfl⟩:∃k,n=k+1:=⟨n-1,by simp only[Fm.vg]at hd;omega⟩;rw[t_ f n (by simp only[Fm.vg]at hd;omega) hb.1];rw?;rw[t_ g n (by simp only[Fm.vg]at hd;omega) hb.2];rw?;simp only[Fm.uO];cases f.uO n9<;>simp
 |.or f g,n,n9,hd,hb=>by
  rw[w4];unfold uc;simp only[uz];rw?;obtain⟨n,rfl⟩:∃k,n=k+1:=⟨n-1,by simp only[Fm.vg]at hd;omega⟩;rw[t_ f n (by simp only[Fm.vg]at hd;omega) hb.1];rw?;rw[t_ g n (by simp only[Fm.vg]at hd;omega) hb.2];rw?;simp only[Fm.uO];cases f.uO n9<;>simp
 |.ZF f g,n,n9,hd,hb=>by
  rw[w4];unfold uc;simp only[uz];rw?;obtain⟨n,rfl⟩:∃k,n=k+1:=⟨n-1,by simp only[Fm.vg]at hd;omega⟩;rw[t_ f n (by simp only[Fm.vg]at hd;omega) hb.1];rw?;rw[t_ g n (by simp only[Fm.vg]at hd;omega) hb.2];rw?;simp only[Fm.uO];cases f.uO n9<;>cases g.uO n9<;>rfl
structure Cc where
 m:ar
 xY:ai (fC×Fm)
 Z9:ai Fm
def oZ(p:fC×Fm):W:=.gs [.bl p.1,uz p.2]
def bF(c:Cc):W:=.gs [.aO (c.m:a6),.gs (c.xY.aT oZ),.gs (c.Z9.aT uz)]
def Bx(q:ar)(f:Fm):Prop:=f.jZ q/\f.vg<=100/\f.dt<=1000
structure Cc.Ok(c:Cc):Prop where
 g9:c.m+c.xY.aj<=12
 mm:c.m<=3
 cc:c.xY.aj<=4
 zfj:c.Z9.aj<=10
 Z9:c.Z9.aj<=100
 zbZ:∀p∈c.xY,Bx (c.m+c.xY.aj) p.2
 of:∀f∈c.Z9,Bx (c.m+c.xY.aj) f
def Mx(l:ai (fC×Fm)):cj (l.aT oZ)=ab (l.aT λp=>(W.bl p.1,uz p.2)):=by
 induction l with
 |rA=>rfl
 |qY p l ih=>
  show(cj (l.aT oZ)).aT ((W.bl p.1,uz p.2)::·)=_;rw[ih];rfl
def V'(n:ar)(c:Cc)(hc:c.Ok):mH K a (n+1) F7 [bF c]=.ok (.ie none ((c.xY.aT Prod.snd).aT uz)):=by
 have:=hc.g9;rw[VZ];unfold Gd bF;rw?;rw[Mx];rw?;rw[og (by rw[w0a];omega),D.zF (q:=λ_=>true) (g:=λp=>p.2)]
 .rw?;rw[w2m.uR (λ_ _=>rfl),w0i,w0i]
  rfl
 .intro p hp;unfold Lw;rw?;exact⟨_,rfl,λ_=>⟨_,rfl⟩⟩
def ik(c:Cc)(st n9:ai fC):W:=.gs [.gs ((c.Z9.aT λf=>f.uO (n9++st)).aT .bl),.gs ((c.xY.aT λp=>p.2.uO (n9++st)).aT .bl)]
def zbm(n:ar)(c:Cc)(hc:c.Ok)(st n9:ai fC)(hs:st.aj=c.xY.aj)(hr:n9.aj=c.m):mH K a (n+102) Jj [bF c,.gs (st.aT .bl),.gs (n9.aT .bl)]=.ok (.fr (ik c st n9)):=by
 have h1:=hc.g9;have h2:=hc.Z9;rw[zaj];unfold Jl;have D7:aW (bF c) (.aO 2)=ab (.gs (c.Z9.aT uz)):=rfl;rw?;rw[og (by simp only[w0a];omega)];rw?;rw[D7];rw?;rw[og (by rw[w0a];omega)];simp only[cJ,gS,w0d,w0f];rw[<- w0q]
 have uO:∀(l:ai Fm),(∀f∈l,Bx (c.m+c.xY.aj) f)->cC bB (vM K a (mH K a (n+101))) [.fr (.gs ((n9++st).aT .bl))] (l.aT uz)=ab ((l.aT λf=>f.uO (n9++st)).aT .bl):=by
  intro l
  induction l with
  |rA=>intro _;rfl
  |qY f l ih=>
   intro h;have hf:=h f (by simp);rw[w0k,B6];show(match vM K a (mH K a (n+101)) [.fr (uz f),.fr (.gs ((n9++st).aT .bl))]with|.ok y _=>(cC bB (vM K a (mH K a (n+101))) [.fr (.gs ((n9++st).aT .bl))] (l.aT uz)).aT (y::·)|_=>none)=_;rw[ih λg hg=>h g (by simp[hg])]
   have e1:vM K a (mH K a (n+101)) [.fr (uz f),.fr (.gs ((n9++st).aT .bl))]=.ok (.bl (f.uO (n9++st))) [.fr (uz f),.fr (.gs ((n9++st).aT .bl))]:=by
    unfold vM;rw?;rw[t_ f (n+100) (by have:=hf.2.1;omega) (by rw[w1t,hr,hs];exact hf.1)];rw?
   rw[e1];rfl
 have S9:MM K a (mH K a (n+101))=vM K a (mH K a (n+101)):=rfl;rw[uO _ hc.of];rw?;rw[V' (n+100) c hc];rw?;rw[og (by simp only[w0a];omega)];simp only[cJ,gS,w0d,w0f];rw[S9,uO _ (λf hf=>by let⟨p,hp,rfl⟩:=w0o.mp hf;exact hc.zbZ p hp)]
 rw?;unfold ik;simp only[w0i];rfl
def jq(c:Cc)(st n9:ai fC):ai fC:=c.Z9.aT λf=>f.uO (n9++st)
def jn(c:Cc)(st n9:ai fC):ai fC:=c.xY.aT λp=>p.2.uO (n9++st)
theorem zbn(c:Cc)(st n9:ai fC):ik c st n9=.gs [aB (jq c st n9),aB (jn c st n9)]:=rfl
def bX(c:Cc):ai fC:=c.xY.aT Prod.fst
def zbo(n:ar)(c:Cc)(hc:c.Ok):mH K a (n+1) FP [bF c]=.ok (.fr (aB (bX c))):=by
 have:=hc.g9;rw[VN];unfold F1 bF;rw?;rw[Mx];rw?;rw[og (by rw[w0a];omega),D.zF (q:=λ_=>true) (g:=λp=>p.1)]
 .rw?;rw[w2m.uR (λ_ _=>rfl)]
  unfold aB bX;simp only[w0i];rfl
 .intro p hp;unfold LA;rw?;exact⟨_,rfl,λ_=>⟨_,rfl⟩⟩
def bU(m:ar):ai (ai fC):=(ai.zd (2^m)).aT (br m)
def WD(n:ar){m:ar}(hm:m<=3):mH K a (n+2) zt [.aO (m:a6)]=.ok (.ie none ((bU m).aT aB)):=by
 rw[LV n (by omega)];unfold bU;rw[w0i];rfl
abbrev uH:=ai fC×ai fC
def uQ(p:uH):W:=.gs [aB p.1,aB p.2]
def zas(l:ai uH):cj (l.aT uQ)=ab (l.aT λp=>(aB p.1,aB p.2)):=by
 induction l with
 |rA=>rfl
 |qY p l ih=>
  show(cj (l.aT uQ)).aT _=_;rw[ih];rfl
def cY(x:ai fC):Kx:=.gs (x.aT .bl)
abbrev HE:Sh:=.Yz .bl
def zN(x:ai fC):ig (aB x)=ab (cY x):=by
 show(gf (x.aT .bl)).aT Kx.gs=_;rw[J0];rfl
theorem Ad(x:ai fC):Z6 (cY x) HE:=⟨IZ x,by show Kx.cI (x.aT .bl)+1<=7;rw[JG];decide⟩
def N7{x y:ai fC}(h:cY x=cY y):x=y:=by
 unfold cY at h;injection h with h
 exact(w4g (λx y h=>by injection h)).mp h
def iP:ar->ai (ai fC)->ai W
 |_,[]=>[]
 |o,_::T=>.aO (o:a6)::iP (o+1) T
theorem Hv(x:ai fC):∀(T:ai (ai fC))(o:ar),iP o (T++[x])=iP o T++[.aO ((o+T.aj:ar):a6)]
 |[],o=>rfl
 |y::T,o=>by
  show _::iP (o+1) (T++[x])=_::(iP (o+1) T++_);rw[Hv x T (o+1),show o+1+T.aj=o+(y::T).aj by simp;omega]
theorem N8{x:ai fC}:∀(T:ai (ai fC))(o:ar),x∉T->jC (T.aT cY) (iP o T) (cY x)=none
 |[],_,_=>rfl
 |y::T,o,h=>by
  show(if cY y=cY x then _ else jC (T.aT cY) (iP (o+1) T) (cY x))=_;rw[sU λz=>h (by rw[N7 z];simp)]
  exact N8 T (o+1) λz=>h (by simp[z])
theorem IK{x:ai fC}:∀(T:ai (ai fC))(o:ar),x∈T->∃j:ar,T[j]?=ab x/\jC (T.aT cY) (iP o T) (cY x)=ab (.aO ((o+j:ar):a6))
 |[],_,h=>nomatch h
 |y::T,o,h=>by
  by_cases e:y=x
  .subst e;refine⟨0,rfl,?_⟩;show(if cY y=cY y then ab (W.aO (o:a6))else _)=_;rw[og rfl];rfl
  .let⟨j,h1,h2⟩:=IK T (o+1) ((w0g.mp h).ϟ λz=>e z.symm)
   refine⟨j+1,h1,?_⟩;show(if cY y=cY x then _ else jC (T.aT cY) (iP (o+1) T) (cY x))=_;rw[sU λz=>e (N7 z),h2,show o+1+j=o+(j+1) by omega]
def lK(T:ai (ai fC)):S:=.dw HE (T.aT cY) (iP 0 T)
def Tl(T:ai (ai fC))(s:ai Pr)(g:ai uH):Prop:=s.aj=g.aj/\∀(k:ar)(p:Pr)(y:uH),s[k]?=ab p->g[k]?=ab y->p.1=y.1/\T[p.2]?=ab y.2
def Js{x y:ai fC}(h:T[i]?=ab y)(T2:ai (ai fC)):(T++T2)[i]?=ab y:=by
 rw[w1g (w0c.mp h).1];exact h
theorem Tl.pre{s:ai Pr}{g:ai uH}(h:Tl T s g)(T2:ai (ai fC)):Tl (T++T2) s g:=⟨h.1,λk p y a b=>⟨(h.2 k p y a b).1,Js (x:=y.2) (h.2 k p y a b).2 T2⟩⟩
structure NB(q:ar)(T:ai (ai fC)):Prop where
 nd:T.x6
 vn:∀x∈T,x.aj=q
def NB._W(hq:q<=4)(h:NB q T):T.aj<=16:=by
 have:=sI 16 (l:=T.aT pP) (w3p.uR (ai.Zl.ŕ (λ{x y} hx hy iN e=>iN (z16 (by rw[h.vn x hx,h.vn y hy]) (by rw[h.vn x hx];exact hq) e)) h.nd)) λz hz=>by
  let⟨x,hx,rfl⟩:=w0o.mp hz;have h1:=z7t x;rw[h.vn x hx]at h1;exact w0y h1 (w0r (w0n (by decide) hq) (by decide))
 rwa [w0a]at this
def mh(w0 w1:W)(T:ai (ai fC))(eg:ai W)(z5:S)(st:ai Pr)(z7 z8:S):ai S:=[.fr w0,.fr w1,.ie none (T.aT aB),lK T,.ie none eg,z5,.ie none (st.aT a8),z7,z8]
def zbp(r:ar->ai W->FR)(w0 w1:W)(hq:q<=4)(hT:NB q T)(eg:ai W)(z5:W)(st:ai Pr)(jI:st.aj<=100)(t y:ai fC)(hy:y.aj=q):
  ∃(T2:ai (ai fC))(k:ar),NB q (T++T2)/\(T++T2)[k]?=ab y/\wV K a r (mh w0 w1 T eg (.fr z5) st (.fr (aB t)) (.fr (aB y)))=.nx (mh w0 w1 (T++T2) eg (.fr z5) (st++[(t,k)]) (.fr (aB t)) (.fr (aB y))):=by
 have hl:=hT._W hq;have en:=Qc (fz:=false) (sh:=HE) (ks:=T.aT cY) (ws:=iP 0 T) (zN y) (Ad y);unfold wV mh lK;rw?;rw[en];rw?
 by_cases oz:y∈T
 .let⟨j,h1,h2⟩:=IK T 0 oz;rw[w1p]at h2;rw[h2];rw?;rw[sU (by simp),JU (zN y) (Ad y),h2];rw?;rw[og (by rw[w0a];omega)];exact⟨[],j,by rw[w1k];exact hT,by rw[w1k];exact h1,by rw[w1k,w0q];rfl⟩
 .have hn:NB q (T++[y]):=⟨ai.nodup_append.uR ⟨hT.nd,by simp,fun u hu v hv e=>by
    rw[w1e]at hv;rw[e,hv]at hu;exact oz hu⟩,λx hx=>by
    rcases w3i.mp hx with z|z
    .exact hT.vn x z
    .rw[w1e.mp z];exact hy⟩
  have lk:=N8 T 0 oz;let⟨j,h1,h2⟩:=IK (T++[y]) 0 (w0h T (w1e.uR rfl));rw[w1p,Hv,w0q,w1p]at h2;have h2:jC (T.aT cY++[cY y]) (iP 0 T++[.aO (T.aj:a6)]) (cY y)=ab (.aO (j:a6)):=h2;rw[lk];rw?;rw[og (by rfl),w0a,Pa (zN y) (by rw[w0a];omega) (by rfl) (Ad y) lk];rw?;rw[og (by rw[w0a];omega)];rw?;rw[JU (zN y) (Ad y),h2];rw?;rw[og (by rw[w0a];omega)];refine⟨[y],j,hn,h1,?_⟩;rw[w0q,w0q,w0q,Hv,w1p];rfl
theorem N9(r:ar->ai W->FR)(w0 w1:W)(hq:q<=4)(eg:ai W)(z5:W):∀(g2 g1:ai uH)(T:ai (ai fC))(st:ai Pr)(z7 z8:S),NB q T->(∀p∈g2,p.2.aj=q)->g1.aj+g2.aj<=100->Tl T st g1 ->
  ∃(T2:ai (ai fC))(lR:ai Pr)(qR sX:S),NB q (T++T2)/\Tl (T++T2) lR (g1++g2)/\dn 7 8 (wV K a r) (g2.aT λp=>(aB p.1,aB p.2)) (mh w0 w1 T eg (.fr z5) st z7 z8)=.nx (mh w0 w1 (T++T2) eg (.fr z5) lR qR sX)
 |[],g1,T,st,z7,z8,hT,_,_,ht=>⟨[],st,z7,z8,by rw[w1k];exact hT,by rw[w1k,w1k];exact ht,by rw[w1k];rfl⟩
 |p::g2,g1,T,st,z7,z8,hT,hp,hl,ht=>by
  have Eo:=ht.1;rw[w0v]at hl;let⟨T2,k,i1,k1,e⟩:=zbp (K:=K) (a:=a) r w0 w1 hq hT eg z5 st (by omega) p.1 p.2 (hp p (by simp))
  have u_:Tl (T++T2) (st++[(p.1,k)]) (g1++[p]):=by
   refine⟨by simp[Eo],λi u y h1 h2=>?_⟩
   by_cases hi:i<st.aj
   .rw[w1g hi]at h1;rw[w1g (by omega)]at h2;exact(ht.pre T2).2 i u y h1 h2
   .have rS:st.aj<=i:=w2z.mp hi;rw[w1i rS]at h1;rw[w1i (by omega),<- Eo]at h2;cases hj:i-st.aj with
    |UQ=>
     rw[hj]at h1 h2;cases h1;cases h2;exact⟨rfl,k1⟩
    |UI j=>rw[hj]at h1;simp at h1
  let⟨T3,qP,y7,y8,i2,t2,e2⟩:=N9 r w0 w1 hq eg z5 g2 (g1++[p]) (T++T2) (st++[(p.1,k)]) (.fr (aB p.1)) (.fr (aB p.2)) i1 (λu hu=>hp u (by simp[hu])) (by simp;omega) u_
  refine⟨T2++T3,qP,y7,y8,by rw[<- w2h];exact i2,by rw[<- w2h];simpa using t2,?_⟩;show(wV K a r (mh w0 w1 T eg (.fr z5) st (.fr (aB p.1)) (.fr (aB p.2)))).dU (dn 7 8 (wV K a r) (g2.aT λp=>(aB p.1,aB p.2)))=_
  rw[e,<- w2h];exact e2
theorem Jt:∀bs:ai fC,aX (bs.aT .bl)=true
 |[]=>rfl
 |b::bs=>by show(true&&aX (bs.aT .bl))=true;rw[Jt bs];rfl
theorem vO{f:α->W}(h:∀x,Yb (f x)=true):∀l:ai α,aX (l.aT f)=true
 |[]=>rfl
 |x::l=>by show(Yb (f x)&&aX (l.aT f))=true;rw[h x,vO h l];rfl
theorem sL:∀f:Fm,Yb (uz f)=true
 |.is b=>rfl
 |.at p=>rfl
 |.not f=>by show(true&&(Yb (uz f)&&true))=true;rw[sL f];rfl
 |.and f g=>by show(true&&(Yb (uz f)&&(Yb (uz g)&&true)))=true;rw[sL f,sL g];rfl
 |.or f g=>by show(true&&(Yb (uz f)&&(Yb (uz g)&&true)))=true;rw[sL f,sL g];rfl
 |.ZF f g=>by show(true&&(Yb (uz f)&&(Yb (uz g)&&true)))=true;rw[sL f,sL g];rfl
def EZ(c:Cc):Yb (bF c)=true:=by
 show(true&&(aX (c.xY.aT oZ)&&(aX (c.Z9.aT uz)&&true)))=true;rw[vO (f:=oZ) λp=>by show(true&&(Yb (uz p.2)&&true))=true;rw[sL];rfl,vO (f:=uz) sL];rfl
theorem vv(b:ai fC):Yb (aB b)=true:=Jt b
theorem E2(s:ai Pr):Yb (av s)=true:=vO (f:=a8) (λp=>by show(aX (p.1.aT .bl)&&(true&&true))=true;rw[Jt];rfl) s
def o8(c:Cc)(st:ai fC):ai uH:=(bU c.m).aT λr=>(jq c st r,jn c st r)
def Ju(c:Cc)(st:ai fC):(o8 c st).aj=2^c.m:=by unfold o8 bU;simp
theorem Qv(c:Cc)(st:ai fC):∀p∈o8 c st,p.1.aj=c.Z9.aj/\p.2.aj=c.xY.aj:=λp hp=>by
 let⟨r,_,rfl⟩:=w0o.mp hp;exact⟨by unfold jq;simp,by unfold jn;simp⟩
theorem AS{c:Cc}(hc:c.Ok):2^c.m<=8:=w0r (w0n (by decide) hc.mm) (by decide)
def HU:W->fC
 |.bl b=>b
 |_=>false
def gM(c:Cc)(st:ai fC):W->W
 |.gs ws=>ik c st (ws.aT HU)
 |w=>w
def Qw(c:Cc)(st r:ai fC):gM c st (.gs (r.aT .bl))=ik c st r:=by
 show ik c st ((r.aT .bl).aT HU)=_;rw[w0i,show(HU ∘ W.bl)=id from rfl,ai.map_id]
def zbq(n:ar)(c:Cc)(hc:c.Ok)(st:ai fC)(hs:st.aj=c.xY.aj)(e:ai S):f7 lams (mH K a (n+103)) oE mJ [bF c,.dI ((bU c.m).aT aB)] [aB st] e=.ok (.dI ((o8 c st).aT uQ)) e:=by
 refine GV U5 (by show(Yb (aB st)&&true)=true;rw[vv];rfl) (by show(Yb (bF c)&&(aX ((bU c.m).aT aB)&&true))=true;rw[EZ,vO vv];rfl) ?_;show mH K a (n+103) oE [aB st,bF c,.dI ((bU c.m).aT aB)]=_;have p8:=AS hc;have hl:((bU c.m).aT aB).aj<=8:=by unfold bU;simp;exact p8
 rw[U1];unfold BB;rw?;rw[og (by omega)];simp only[cJ,gS,w0d,w0f];rw[D.Ip (g:=gM c st)]
 .rw?;unfold o8;rw[w0i,w0i];show FR.ok (S.fr (W.dI _))=FR.ok (S.fr (W.dI _));congr 3;refine w1n λr _=>?_
  show gM c st (.gs (r.aT .bl))=_;rw[Qw,zbn];rfl
 .intro w hw;let⟨r,hr,rfl⟩:=w0o.mp hw;let⟨k,_,rfl⟩:=w0o.mp hr;have zcO:=zbm (K:=K) (a:=a) n c hc st (br c.m k) hs (mK _ _);unfold Li aB;rw?;rw[zcO,Qw];rw?;exact⟨_,rfl⟩
structure CB(c:Cc)(T:ai (ai fC))(ss:ai (ai Pr)):Prop where
 nb:NB c.xY.aj T
 hd:T[0]?=ab (bX c)
 le:ss.aj<=T.aj
 st:∀(i:ar) s x,ss[i]?=ab s->T[i]?=ab x->Tl T s (o8 c x)
def Dm{x:ai fC}(h:T[i]?=ab x):ee (T.aT aB) (i:a6)=ab (aB x):=by
 refine oC ?_;rw[w0w,h];rfl
theorem NC(n:ar)(c:Cc)(hc:c.Ok)(w0:W):∀(A7:ar)(T:ai (ai fC))(ss:ai (ai Pr))(z5 z6 z7 z8:S),CB c T ss->17<=ss.aj+A7 ->
  ∃(T':ai (ai fC))(HG:ai (ai Pr))(y5 y6 y7 y8:S),CB c T' HG/\HG.aj=T'.aj/\bg (zq K a (mH K a (n+103))) (zi K a (mH K a (n+103))) (A7+1) [.fr w0,.fr (.fn oE mJ [bF c,.dI ((bU c.m).aT aB)]),.ie none (T.aT aB),lK T,.ie none (ss.aT av),z5,z6,z7,z8] =
   .nx [.fr w0,.fr (.fn oE mJ [bF c,.dI ((bU c.m).aT aB)]),.ie none (T'.aT aB),lK T',.ie none (HG.aT av),y5,y6,y7,y8]
 |0,T,ss,z5,z6,z7,z8,hC,hf=>by
  have:=hC.nb._W hc.cc;have:=hC.le;omega
 |A7+1,T,ss,z5,z6,z7,z8,hC,hf=>by
  have hl:=hC.nb._W hc.cc;have hle:=hC.le
  have hw:zq K a (mH K a (n+103)) [.fr w0,.fr (.fn oE mJ [bF c,.dI ((bU c.m).aT aB)]),.ie none (T.aT aB),lK T,.ie none (ss.aT av),z5,z6,z7,z8]=.ok (decide (ss.aj<T.aj)) [.fr w0,.fr (.fn oE mJ [bF c,.dI ((bU c.m).aT aB)]),.ie none (T.aT aB),lK T,.ie none (ss.aT av),z5,z6,z7,z8]:=by
   unfold zq;rw?;rw[w0a,w0a];congr 1;rw[decide_eq_decide];omega
  rw[sE,hw]
  by_cases h:ss.aj<T.aj
  .obtain⟨x,hx⟩:∃x,T[ss.aj]?=ab x:=⟨_,w0b h⟩;have K3:=hC.nb.vn x (w0s hx);have p8:=AS hc;let⟨T2,i4,y7,y8,i1,t1,g⟩:=N9 (K:=K) (a:=a) (mH K a (n+103)) w0 (.fn oE mJ [bF c,.dI ((bU c.m).aT aB)]) hc.cc (ss.aT av) (aB x) (o8 c x) [] T [] z7 z8 hC.nb (λp hp=>(Qv c x p hp).2) (by rw[Ju,w5a];omega) ⟨rfl,λk p y h _=>by simp at h⟩
   rw[w5b]at t1
   have DK:zi K a (mH K a (n+103)) [.fr w0,.fr (.fn oE mJ [bF c,.dI ((bU c.m).aT aB)]),.ie none (T.aT aB),lK T,.ie none (ss.aT av),z5,z6,z7,z8]=.nx [.fr w0,.fr (.fn oE mJ [bF c,.dI ((bU c.m).aT aB)]),.ie none ((T++T2).aT aB),lK (T++T2),.ie none ((ss++[i4]).aT av),.fr (aB x),.fr (av i4),y7,y8]:=by
    unfold mh at g;unfold zi;rw?;rw[w0a,Dm hx];rw?;rw[zbq n c hc x K3];rw?;rw[zas];rw?;rw[w2k]at g;rw[g];rw?;rw[og (by rw[w0a];omega)];simp only[w0q];rfl
   rw[Æ h];rw?;rw[DK];rw?
   have Tr:CB c (T++T2) (ss++[i4]):=⟨i1,Js (x:=bX c) hC.hd T2,by simp;omega,λi s y h1 h2=>by
    by_cases hi:i<ss.aj
    .rw[w1g hi]at h1;rw[w1g (by omega)]at h2;exact(hC.st i s y h1 h2).pre T2
    .have rS:ss.aj<=i:=w2z.mp hi;rw[w1i rS]at h1;cases hj:i-ss.aj with
     |UQ=>
      rw[hj]at h1;cases h1;obtain rfl:i=ss.aj:=by omega
      rw[Js (x:=x) hx T2]at h2;cases h2;exact t1
     |UI j=>rw[hj]at h1;simp at h1⟩
   exact NC n c hc w0 A7 (T++T2) (ss++[i4]) _ _ _ _ Tr (by simp;omega)
  .rw[ZZ h];rw?;exact⟨T,ss,z5,z6,z7,z8,hC,by omega,rfl⟩
def zbr(n:ar)(c:Cc)(hc:c.Ok):∃(T:ai (ai fC))(ss:ai (ai Pr)),CB c T ss/\ss.aj=T.aj/\mH K a (n+104) GK [aB (bX c),.fn oE mJ [bF c,.dI ((bU c.m).aT aB)]]=.ok (.fr (.gs [.dI (ss.aT av),.dI (T.aT aB)])):=by
 have h0:CB c [bX c] []:=⟨⟨by simp,λx hx=>by rw[w1e.mp hx];unfold bX;simp⟩,rfl,by simp,λi s x h _=>by simp at h⟩
 let⟨T,ss,y5,y6,y7,y8,k1,k2,g⟩:=NC (K:=K) (a:=a) n c hc (aB (bX c)) 999999 [bX c] [] .no .no .no .no h0 (by simp);have g:bg (zq K a (mH K a (n+103))) (zi K a (mH K a (n+103))) 1000000 [.fr (aB (bX c)),.fr (.fn oE mJ [bF c,.dI ((bU c.m).aT aB)]),.ie none [aB (bX c)],.dw (.Yz .bl) [cY (bX c)] [.aO 0],.ie none [],.no,.no,.no,.no]=_:=g;rw[WT];unfold GS;rw?;rw[zN,show ∀e:ai S,ju 3 (.Yz .bl) (.aO 0) e (ab (cY (bX c)))=.nx (e.sx 3 (.dw (.Yz .bl) [cY (bX c)] [.aO 0]))from λe=>og (Ad _)]
 rw?;rw[g];rw?;exact⟨T,ss,k1,k2,rfl⟩
def z7u(n:ar)(c:Cc)(hc:c.Ok):∃(T:ai (ai fC))(ss:ai (ai Pr)),CB c T ss/\ss.aj=T.aj/\mH K a (n+105) B2 [bF c]=.ok (.fr (.gs [aC ⟨c.m,c.Z9.aj,ss⟩,.dI (T.aT aB)])):=by
 let⟨T,ss,k1,k2,g⟩:=zbr (K:=K) (a:=a) n c hc;refine⟨T,ss,k1,k2,?_⟩;have zbN:=WD (K:=K) (a:=a) (n+102) hc.mm;have fr:=zbo (K:=K) (a:=a) (n+103) c hc;rw[V0];unfold Ge;rw?;rw[show aW (bF c) (.aO 0)=ab (.aO (c.m:a6))from rfl];rw?;rw[zbN];rw?;rw[fr];rw?
 rw[show cB [0,1] [S.fr (bF c),S.fr (W.dI ((bU c.m).aT aB)),S.no]=ab [bF c,.dI ((bU c.m).aT aB)]from rfl,Fl,g,GW (by
  show(aX (ss.aT av)&&(aX (T.aT aB)&&true))=true;rw[vO E2,vO vv];rfl)]
 rw?;rw[show aW (bF c) (.aO 0)=ab (.aO (c.m:a6))from rfl];rw?;rw[show aW (bF c) (.aO 2)=ab (.gs (c.Z9.aT uz))from rfl];rw?;rw[w0a];rfl
def N_{l:ai ar}(h:j<l.aj):l.g6 j 0∈l:=by
 rw[show l.g6 j 0=l[j] by simp[ai.g6,h]];exact w1o h
theorem Qx{c:Mc}(hc:c.Og)(hs:dY c L){T:ai ar}(h:Cl c L T):∀(t x:ar),x<T.aj->Sm c (c8 c L T) t (yB c L (T.g6 x 0)) x
 |0,_,_=>trivial
 |t+1,x,hx=>λr hr=>by
  have hk:=h.Ye _ (N_ hx);let⟨e1,e2⟩:=JM hc h hx hr;have hn:=l5 hc (iQ hk) hr
  have oz:kd c L (dq c (yB c L (T.g6 x 0)) r)∈T:=h.cl _ (N_ hx) (zf c (yB c L (T.g6 x 0)) r,kd c L (dq c (yB c L (T.g6 x 0)) r)) (by
   rw[zI hc hk];exact w0o.uR ⟨r,w0x.uR hr,rfl⟩)
  refine⟨e1.symm,?_⟩;rw[e2];have ih:=Qx hc hs h t _ (Q4 oz);rw[Qy oz]at ih;have k1:=pY (t:=L) hn;exact Cg rfl ((xi hc hs hn (iQ k1)).uR (n6 k1).symm t) ih
theorem z7v{c:Mc}(hc:c.Og){I:ar}(hs:dY c L)(hI:(bf (bQ c L) (kd c L 0) I).aj=I):Al c (c8 c L (bf (bQ c L) (kd c L 0) I)) 0 0:=λt=>by
 have h:=C0 hc hI;have:=Qx hc hs h t 0 h.gJ;let⟨m,hm⟩:=IY (bQ c L) (kd c L 0) I;have e:(bf (bQ c L) (kd c L 0) I).g6 0 0=kd c L 0:=by rw[hm];rfl
 rw[e]at this;have k1:=pY (t:=L) hc.gJ;exact Cg rfl ((xi hc hs hc.gJ (iQ k1)).uR (n6 k1).symm t) this
def hW(l:Mc)(j:ar)(fs:ai Fm):Cc:=⟨l.m,(fs.vA j).aT λf=>(false,f),fs.wa j⟩
def z7w(l:Mc)(j:ar)(fs:ai Fm):bF (hW l j fs)=Ê l.m j fs:=by
 unfold bF hW Ê;rw[w0i];rfl
theorem Q8{l:Mc}{fs:ai Fm}(hF:hV l j fs):∀f∈fs,Bx (l.m+j) f:=λf hf=>by
 let⟨q,hq,rfl⟩:=w1z.mp hf;have h:=hF.ok q (by rw[<- hF.vn];exact hq);rw[show fs.g6 q (.is false)=fs[q] by rw[w1f,w0b hq];rfl]at h;exact⟨h.i,w0r h.d (by decide),h.z⟩
def Hw{l:Mc}{fs:ai Fm}(hF:hV l j fs):(hW l j fs).xY.aj=j:=by
 have:=hF.vn;unfold hW;rw[w0a,w2p];omega
def IL{l:Mc}{fs:ai Fm}(hF:hV l j fs):(hW l j fs).Z9.aj=l.rj:=by
 have:=hF.vn;unfold hW;rw[w3t];omega
def Sj{l:Mc}(hl:l.Og)(hw:l.rj<=6)(hj:j<=4){fs:ai Fm}(hF:hV l j fs):(hW l j fs).Ok:=by
 have h1:=Hw hF;have h2:=IL hF;have hm:(hW l j fs).m=l.m:=rfl;have:=hl.g9;refine⟨by omega,by omega,by omega,by omega,by omega,λp hp=>?_,λf hf=>?_⟩
 .let⟨f,hf,rfl⟩:=w0o.mp hp;rw[h1];exact Q8 hF f (ai.mem_of_mem_take hf)
 .rw[h1];exact Q8 hF f (ai.mem_of_mem_drop hf)
def z7x{l:Mc}(hl:l.Og){fs:ai Fm}(hF:hV l j fs)(hs:l.aa.aj<=2^j){k x:ar}(hx:x<l.aa.aj)(hk:k<2^l.m):
  jq (hW l j fs) (br j x) (br l.m k)=zf l x k/\jn (hW l j fs) (br j x) (br l.m k)=br j (dq l x k):=by
 have hv:=z7s hl hF hs hx hk;rw[Cu,Cu]at hv;constructor
 .unfold jq hW;rw[w3y,hv,ai.drop_left' (mK _ _)]
 .unfold jn hW;rw[w0i];show(fs.vA j).aT (λf=>f.uO (br l.m k++br j x))=_
  rw[w3x,hv,ai.take_left' (mK _ _)]
def z17{m k:ar}(hk:k<2^m):(bU m)[k]?=ab (br m k):=by
 unfold bU;rw[w0w,w4b hk];rfl
def N'(j:ar):br j 0=ai.v5 j false:=by
 rw[<- Cu]
 induction j with
 |UQ=>rfl
 |UI j ih=>
  show decide (0 / 2^j%2=1)::rB j 0=_;rw[ih,ar.zero_div];rfl
def ND{l:Mc}{fs:ai Fm}(hF:hV l j fs):bX (hW l j fs)=br j 0:=by
 have h1:=Hw hF;rw[N'];unfold bX;refine ai.eq_replicate_iff.uR ⟨by rw[w0a];exact h1,λb hb=>?_⟩
 let⟨p,hp,rfl⟩:=w0o.mp hb;unfold hW at hp;let⟨f,_,rfl⟩:=w0o.mp hp;rfl
def S0{l:Mc}{fs:ai Fm}{ss:ai (ai Pr)}(hC:CB (hW l j fs) T ss)(v_:ss.aj=T.aj){r:ar}{st:ai fC}(hi:T[i]?=ab st)(hr:r<2^l.m):
  zf ⟨l.m,l.rj,ss⟩ i r=jq (hW l j fs) st (br l.m r)/\T[dq ⟨l.m,l.rj,ss⟩ i r]?=ab (jn (hW l j fs) st (br l.m r)):=by
 have Z1:=(w0c.mp hi).1;have KL:i<ss.aj:=by omega
 let⟨h1,h2⟩:=hC.st i _ _ (w0b KL) hi;rw[Ju]at h1;have KW:r<(ss[i]).aj:=by rw[h1];exact hr
 have hy:(o8 (hW l j fs) st)[r]?=ab (jq (hW l j fs) st (br l.m r),jn (hW l j fs) st (br l.m r)):=by
  unfold o8;rw[w0w,show(hW l j fs).m=l.m from rfl,z17 hr];rfl
 have h3:=h2 r _ _ (w0b KW) hy
 have e:(ss.g6 i []).g6 r ([],0)=ss[i][r]:=by
  rw[w1f,w1f,w0b KL];show(ss[i][r]?).g6 _=_;rw[w0b KW];rfl
 unfold zf dq;show((ss.g6 i []).g6 r ([],0)).1=_/\T[((ss.g6 i []).g6 r ([],0)).2]?=_;rw[e];exact h3
theorem Q9{l:Mc}(hl:l.Og){fs:ai Fm}(hF:hV l j fs)(hs:l.aa.aj<=2^j){ss:ai (ai Pr)}(hC:CB (hW l j fs) T ss)(v_:ss.aj=T.aj):∀(t i x:ar),T[i]?=ab (br j x)->x<l.aa.aj->Sm ⟨l.m,l.rj,ss⟩ l t i x
 |0,_,_,_,_=>trivial
 |t+1,i,x,hi,hx=>λr hr=>by
  let⟨h1,h2⟩:=S0 hC v_ hi hr;let⟨g1,g2⟩:=z7x hl hF hs hx hr;rw[g2]at h2;exact⟨h1.ki g1,Q9 hl hF hs hC v_ t _ _ h2 (l5 hl hx hr)⟩
theorem S1{l:Mc}(hl:l.Og){fs:ai Fm}(hF:hV l j fs)(hs:l.aa.aj<=2^j){ss:ai (ai Pr)}(hC:CB (hW l j fs) T ss)(v_:ss.aj=T.aj):Al ⟨l.m,l.rj,ss⟩ l 0 0:=
 λt=>Q9 hl hF hs hC v_ t 0 0 (by rw[hC.hd,ND hF]) hl.gJ
def S2{l:Mc}(hl:l.Og)(hj:j<=4){fs:ai Fm}(hF:hV l j fs){ss:ai (ai Pr)}(hC:CB (hW l j fs) T ss)(v_:ss.aj=T.aj):Mc.Og ⟨l.m,l.rj,ss⟩:=by
 have hm:=hC.nb._W (by rw[Hw hF];exact hj);have h0:0<T.aj:=(w0c.mp hC.hd).1
 have each:∀s∈ss,∃x,Tl T s (o8 (hW l j fs) x):=λs hs=>by
  let⟨i,hi⟩:=w5g hs;have bR:=(w0c.mp hi).1;exact⟨T[i]'(by omega),hC.st i s _ hi (w0b (by omega))⟩
 refine⟨hl.g9,hl.wg,by show 0<ss.aj;omega,by show ss.aj<=700;omega,λs hs=>?_,λs hs p hp=>?_⟩
 .let⟨x,hx⟩:=each s hs;rw[hx.1,Ju];rfl
 .let⟨x,hx⟩:=each s hs;let⟨k,hk⟩:=w5g hp;have bR:=(w0c.mp hk).1;have hg:k<(o8 (hW l j fs) x).aj:=by rw[<- hx.1];exact bR
  let⟨e1,e2⟩:=hx.2 k p _ hk (w0b hg);refine⟨by rw[e1,(Qv (hW l j fs) x _ (w1o hg)).1,IL hF],?_⟩;show p.2<ss.aj;have:=(w0c.mp e2).1;omega
def W7(n:ar){l:Mc}{m:W}(hl:l.Og)(h4:cN l.aa.aj<=4)(h:mH K a (n+121) BD [m]=.ok (.fr (aC l))):
  ∃fs,hV l (cN l.aa.aj) fs/\mH K a (n+122) F8 [m]=.ok (.fr (Ê l.m (cN l.aa.aj) fs)):=by
 have hw:=hl.wg;have hm:=hl.g9;rw[V1];unfold Gf;rw?;rw[h];rw?;rw[Ht (n+119) l hl.mo];rw?;rw[zao (n+118) l hl h4 hl.mo];generalize cN l.aa.aj=k at h4 |-
 rw?;let⟨fs,f1,f2,f3⟩:=NA (K:=K) (a:=a) n (l:=l) (k:=k) (by omega) (ai.zd (k+l.rj));rw[w1u]at f2;refine⟨fs,⟨f2,λp hp=>f3 p p (by rw[w4b hp])⟩,?_⟩
 rw[og (by rw[w0a,w1u];omega),f1];rw?;rw[Qt (by rw[w0a];omega)]
 rw[og (by rw[w2p,w0a];omega),CT (λw=>.gs [.bl false,w]) ((fs.aT uz).vA k) (λw _=>⟨_,by
  unfold Lx;rw?;rfl⟩)]
 rw?;rw[Ab];rw?;rw[NU (by rw[w0a];omega)];unfold Ê;rw[<- w3x,w0i,<- w3y];rfl
def rM(c:Mc)(z:a6):ar:=(z%((2^c.m:ar):a6)).t8
def Q_(c:Mc)(z:a6):rM c z<2^c.m/\z%((2^c.m:ar):a6)=((rM c z:ar):a6):=by
 have hp:0<2^c.m:=w2j _;unfold rM;generalize 2^c.m=N at hp |-
 have h1:=w4k z (show(0:a6)<(N:a6) by omega);have h2:=w4c z (show(N:a6)≠0 by omega);omega
def o_(c:Mc):ar->ai a6->ai (ai fC)
 |_,[]=>[]
 |i,z::zs=>zf c i (rM c z)::o_ c (dq c i (rM c z)) zs
theorem QL{c d:Mc}(hm:c.m=d.m):∀(zs:ai a6){i k:ar},Al c d i k->o_ c i zs=o_ d k zs
 |[],_,_,_=>rfl
 |z::zs,i,k,h=>by
  let⟨e1,e2⟩:=h.Zy (r:=rM c z) (Q_ c z).1;have e:rM d z=rM c z:=by unfold rM;rw[hm]
  unfold o_;rw[e,e1,QL hm zs e2]
theorem NF(r:ar->ai W->FR){c:Mc}(hc:c.Og)(w1:W):∀(zs:ai a6)(i:ar)(sT:ai (ai fC))(z4 z5:S),i<c.aa.aj->sT.aj+zs.aj<=1000 ->
  ∃(i':ar)(y4 y5:S),cy 4 (zp K a r) (zs.aT .aO) [.fr (aC c),.fr w1,.fr (.aO (i:a6)),.ie none (sT.aT aB),z4,z5]=.nx [.fr (aC c),.fr w1,.fr (.aO (i':a6)),.ie none ((sT++o_ c i zs).aT aB),y4,y5]
 |[],i,sT,z4,z5,hi,hl=>⟨i,z4,z5,by rw[show o_ c i []=[]from rfl,w1k];rfl⟩
 |z::zs,i,sT,z4,z5,hi,hl=>by
  let⟨hk,e1⟩:=Q_ c z;have Bj:=hc.st _ (iR hi);have yr:=Qu hc hi hk;rw[<- Bj]at e1;rw[w0v]at hl;have h8:=p8 hc.g9;have mz:0<2^c.m:=w2j _;let⟨i',y4,y5,g⟩:=NF r hc w1 zs (dq c i (rM c z)) (sT++[zf c i (rM c z)]) (.fr (.aO z)) (.fr (a8 (zf c i (rM c z),dq c i (rM c z)))) (l5 hc hi hk) (by rw[w1t,w4x];omega)
  have hb:zp K a r [.fr (aC c),.fr w1,.fr (.aO (i:a6)),.ie none (sT.aT aB),.fr (.aO z),z5]=.nx [.fr (aC c),.fr w1,.fr (.aO (dq c i (rM c z):ar)),.ie none ((sT++[zf c i (rM c z)]).aT aB),.fr (.aO z),.fr (a8 (zf c i (rM c z),dq c i (rM c z)))]:=by
   unfold zp;rw?;rw[pX];rw?;rw[xm hi];rw?;rw[pX];rw?;rw[xm hi];unfold av;rw?;rw[w0a,og (by omega),e1];rw?;rw[show ee ((c.aa.g6 i []).aT a8) ((rM c z:ar):a6)=ab (a8 (zf c i (rM c z),dq c i (rM c z)))from oC (by rw[w0w,yr];rfl)];unfold a8;rw?;rw[og (by rw[w0a];omega),w0q];rfl
  rw[w0k,ub];simp only[w1a,w0z];rw[hb,w_];refine⟨i',y4,y5,?_⟩;rw[g,show o_ c i (z::zs)=zf c i (rM c z)::o_ c (dq c i (rM c z)) zs from rfl,w2h];rfl
def NG(n:ar){c:Mc}(hc:c.Og)(ns:ai a6)(hl:ns.aj<=63):mH K a (n+1) wX [aC c,.dI (ns.aT .aO)]=.ok (.ie none ((o_ c 0 ((ns.vA 40).wa 10)).aT aB)):=by
 rw[Ws];unfold GD;rw?
 have Kw:fm (ns.aT W.aO) (ab 10) (ab 40)=((ns.vA 40).wa 10).aT W.aO:=by
  unfold fm;rw[show(ab 10:fv a6)=ab ((10:ar):a6)from rfl,show(ab 40:fv a6)=ab ((40:ar):a6)from rfl,HT.eW,HT.eW,w0a,<- w3y,<- w3x,ai.drop_take];congr 1
  by_cases h1:ns.aj<=10
  .rw[w4u (show ns.aj<=10 from h1),w4u (by omega),ai.take_nil,ai.take_nil]
  .rw[w4a (by omega:10<=ns.aj)]
   by_cases h2:ns.aj<=40
   .rw[ar.min_eq_right h2,w2d (by simp),w2d (by simp;omega)]
   .rw[w4a (by omega)]
 let⟨i',y4,y5,g⟩:=NF (K:=K) (a:=a) (mH K a n) hc (.dI (ns.aT .aO)) ((ns.vA 40).wa 10) 0 [] .no .no hc.gJ (by rw[w3t,w2p,w5a];omega);rw[w5b]at g;rw[Kw,show cy 4 (zp K a (mH K a n)) (((ns.vA 40).wa 10).aT W.aO) [.fr (aC c),.fr (.dI (ns.aT .aO)),.fr (.aO 0),.ie none [],.no,.no]=_ from g];rw?
def zat(n)(c:Mc)(hc:c.Og):mH K a (n+1) BP [aC c]=.ok (.fr (aC c)):=by
 have hm:=hc.mo;rw[VP];unfold F5;rw?;rw[Ab];rw?;rw[xh];rw?;rw[pX];rw?
 rw[og (by rw[w0a];omega),mM (g:=av) c.aa λs hs=>⟨_,by
  have hl:=hc.st s hs;have h8:=p8 hc.g9;unfold LD av;rw?;rfl⟩]
 rw?;rfl
def Dw(l:Mc):eO (aC l) (aC l)=ab true:=by
 show(match eO (.aO (l.m:a6)) (.aO (l.m:a6)),bP [.aO (l.rj:a6),.dI (l.aa.aT av)] [.aO (l.rj:a6),.dI (l.aa.aT av)]with|ab p,ab q=>ab (p&&q)|_,_=>none)=_;rw[show bP [.aO (l.rj:a6),.dI (l.aa.aT av)] [.aO (l.rj:a6),.dI (l.aa.aT av)]=(match eO (.aO (l.rj:a6)) (.aO (l.rj:a6)),bP [.dI (l.aa.aT av)] [.dI (l.aa.aT av)]with|ab p,ab q=>ab (p&&q)|_,_=>none)from rfl];rw[show bP [W.dI (l.aa.aT av)] [.dI (l.aa.aT av)]=(match bP (l.aa.aT av) (l.aa.aT av),ab true with|ab p,ab q=>ab (p&&q)|_,_=>none)from rfl,z15];rw[show eO (.aO (l.m:a6)) (.aO (l.m:a6))=ab ((l.m:a6)==(l.m:a6))from rfl,show eO (.aO (l.rj:a6)) (.aO (l.rj:a6))=ab ((l.rj:a6)==(l.rj:a6))from rfl];simp
def zen(l:Mc):bN (aC l)<=150:=by
 have hd:bE (l.aa.aT av)<=3:=by
  generalize l.aa=X
  induction X with
  |rA=>exact w1b _
  |qY a x ih=>exact ar.Ś.uR ⟨Qq a,ih⟩
 show max 0 (max 0 (max (bE (l.aa.aT av)+1) 0))+1<=150;omega
def EY(l:Mc):Zx (aC l) (aC l)=ab (.bl false):=by
 show(if bN (aC l)<=150 then(eO (aC l) (aC l)).aT λb=>W.bl (!b)else none)=_
 rw[og (zen l),Dw];rfl
def QM(x:ai fC):eO (aB x) (aB x)=ab true:=by
 show bP (x.aT .bl) (x.aT .bl)=_;rw[IV];simp
def zey(x:ai fC):Zx (aB x) (aB x)=ab (.bl false):=by
 show(if bE (x.aT .bl)+1<=150 then(eO (aB x) (aB x)).aT λb=>W.bl (!b)else none)=_
 rw[Cf,QM];rfl
def zdI(l:ai (ai fC)):yN (.dI (l.aT aB)) (.dI (l.aT aB))=ab (.bl true):=by
 have hd:bE (l.aT aB)<=1:=by
  induction l with
  |rA=>exact w1b _
  |qY x l ih=>exact ar.Ś.uR ⟨by show bE (x.aT .bl)+1<=1;rw[Cf];decide,ih⟩
 have he:bP (l.aT aB) (l.aT aB)=ab true:=by
  induction l with
  |rA=>rfl
  |qY x l ih=>
   show(match eO (aB x) (aB x),bP (l.aT aB) (l.aT aB)with|ab p,ab q=>ab (p&&q)|_,_=>none)=_;rw[QM,ih (w0r (ar.le_max_right _ _) hd)];rfl
 show(if bE (l.aT aB)+1<=150 then(bP (l.aT aB) (l.aT aB)).aT W.bl else none)=_;rw[og (by omega),he];rfl
theorem z7y{c:Mc}(hc:c.Og):Al c c 0 0:=λt=>(A0 hc hc.gJ hc.gJ).uR rfl
def z18(M:qX K mg a)(ns)(hl:A3 ns):mH K a 149 JV [.dI (ns.aT .aO)]=.ok (.fr (.bl true)):=by
 let⟨c,hc,h1⟩:=WC (K:=K) (a:=a) 146 ns;have my:=hc.zcY;let⟨L,I,ws,hs,hL,hI,hr⟩:=Hs (K:=K) (a:=a) 144 c my;let⟨L',I',ws',g_,_,xZ,tP⟩:=Hs (K:=K) (a:=a) 142 c my;rw[(canon my my rfl rfl g_ hs (z7y my) xZ hI).2]at tP;have eI:=C0 my hI;have rT:=eI.ok my;have hk:=SY my (w3q hL) hs hI;have ho:=zbD (K:=K) (a:=a) 147 c my hc.g9 (w3q hL) hs hI;have h2:=W6 (K:=K) (a:=a) 147 c my;have h4:=zat (K:=K) (a:=a) 147 c my;have TK:=z7v my hs hI
 have dJ:(c8 c L (bf (bQ c L) (kd c L 0) I)).aa.aj<=16:=by
  have:=eI.vn my;have:=hc.g9;show(ai.aT _ _).aj<=16;rw[w0a];omega
 have v_:(bf (bQ c L) (kd c L 0) I).aj=(c8 c L (bf (bQ c L) (kd c L 0) I)).aa.aj:=by
  show _=(ai.aT _ _).aj;rw[w0a]
 have h3:=zap (K:=K) (a:=a) 147 (s:=(c8 c L (bf (bQ c L) (kd c L 0) I)).aa.aj) (by omega);have Ez:(c8 c L (bf (bQ c L) (kd c L 0) I)).rj<=6:=hc.wd;have hj:=Dp dJ;have oA:=(Jb (s:=(c8 c L (bf (bQ c L) (kd c L 0) I)).aa.aj) (by omega)).1;let⟨fs,hF,TM⟩:=W7 26 rT hj (zaq 144 tP (by omega) hj hc.wd);let⟨T,ss,hC,Ku,Bk⟩:=z7u (K:=K) (a:=a) 43 _ (Sj rT Ez hj hF);rw[z7w,IL hF]at Bk;have DG:=S2 rT hj hF hC Ku;have Tp:=S1 rT hF oA hC Ku;let⟨L2,I2,Vu,iW,_,Ts,Bo⟩:=Hs (K:=K) (a:=a) 144 _ DG;have ya:Al c ⟨(c8 c L (bf (bQ c L) (kd c L 0) I)).m,(c8 c L (bf (bQ c L) (kd c L 0) I)).rj,ss⟩ 0 0:=Al.ki (show c.m=(c8 c L (bf (bQ c L) (kd c L 0) I)).m from rfl) TK (Al.symm (show(⟨(c8 c L (bf (bQ c L) (kd c L 0) I)).m,(c8 c L (bf (bQ c L) (kd c L 0) I)).rj,ss⟩:Mc).m=(c8 c L (bf (bQ c L) (kd c L 0) I)).m from rfl) Tp);have D':=(canon my DG rfl rfl hs iW ya hI Ts).2;rw[<- D']at Bo;have g1:=NG (K:=K) (a:=a) 147 DG ns hl.1;have g2:=NG (K:=K) (a:=a) 147 my ns hl.1;rw[<- QL (show c.m=(⟨(c8 c L (bf (bQ c L) (kd c L 0) I)).m,(c8 c L (bf (bQ c L) (kd c L 0) I)).rj,ss⟩:Mc).m from rfl) _ ya]at g1
 have zdF:(T.aT aB)[0]?=ab (aB (ai.v5 (cN (c8 c L (bf (bQ c L) (kd c L 0) I)).aa.aj) false)):=by
  rw[<- N',<- ND hF,w0w,hC.hd];rfl
 have nW:∀j:ar,j<=4->mQ (.gs [.bl false]) (.aO (j:a6))=ab (aB (ai.v5 j false)):=λj hj=>by
  show(if n0 (j:a6)=true/\[W.bl false]≠[]/\[W.bl false].aj*(j:a6).t8<=16777216 then ab (W.gs (ai.v5 (j:a6).t8 [W.bl false]).Ym)else none)=_;rw[og ⟨n5 (by omega) (by omega),by simp,by rw[w1s];show 1*j<=_;omega⟩,w1s,w3m];unfold aB;rw[w5n]
 generalize hTT:c8 c L (bf (bQ c L) (kd c L 0) I)=l at *;rw[z6q];unfold JW;rw?;rw[h1];rw?;rw[h4];rw?;rw[TM];rw?;have Bk:mH K a 148 B2 [Ê l.m (cN l.aa.aj) fs]=.ok (.fr (.gs [aC ⟨l.m,l.rj,ss⟩,.dI (T.aT aB)])):=Bk;have Bo:mH K a 148 uf [aC ⟨l.m,l.rj,ss⟩]=.ok (.fr (.gs [aC l,.dI Vu])):=Bo;have hr:mH K a 148 uf [aC c]=.ok (.fr (.gs [aC l,.dI ws])):=hr;rw[Bk];rw?;rw[Bo];rw?;rw[h2];rw?;rw[ho];rw?;rw[h4];rw?;rw[hr];rw?;rw[EY];rw?;rw[pX];rw?;have yn:(l.aa.aT av).aj=((bf (bQ c L) (kd c L 0) I).aT (yB c L)).aj:=by rw[w0a,w0a,v_]
 rw[w0a (f:=aM),<- yn,w0a];rw?;rw[zdF];rw?;rw[h3];rw?;rw[nW _ hj];rw?;rw[zey];rw?;have g1:mH K a 148 wX [aC ⟨l.m,l.rj,ss⟩,.dI (ns.aT .aO)]=.ok (.ie none ((o_ c 0 ((ns.vA 40).wa 10)).aT aB)):=g1;have g2:mH K a 148 wX [aC c,.dI (ns.aT .aO)]=.ok (.ie none ((o_ c 0 ((ns.vA 40).wa 10)).aT aB)):=g2;rw[g1];rw?;rw[g2];rw?;rw[zdI];rw?
theorem walk{l:oa.W.δ}{q:wO}{Ρ:ai d3}{XP:(d3->fv dS)->gw->Prop}{YP:vq->gw->Prop}{d:ĸ}{K:â->Fg}{xR:ai (f'×d3)}(hn:l._W=ab 63)(rP:d.r5.Ç=[])
  (hY:∀(w:vq)(h:gw),YP w h->(K w.r5).In h)(hT:∀(w:vq)(h:gw),YP w h->∀P∈xR.aT (·.1),h.g0 P=ab (ϳ #[]))
  (hG:∀w:vq,((D.dE (K w.r5)).gr Yr).Bt=true)(x9:∀w:vq,gj (K w.r5)=true)(hd:xR.tB (λp=>xR.gr p.1==ab p.2)=true)
  (hK:∀w:vq,xR.tB (λp=>((D.dE (K w.r5)).gr p.1).isNone)=true)(hc:∀w:vq,∀p∈xR,∃c,ë (K w.r5) c p.1=true)
  (F:∀(w:vq)(mg:d3->fv dS)(fa:f')(h:gw),(D.c9 (D.dE (K w.r5)) xR).In h->h.Ns Yr mg->mg d.name=ab (.bj fa) ->
   ∃fd:ZT,(∀(s:oU)(u:dS),_L s fd ⟨[u],[]⟩ [("_law_script", u)])/\∀j3:gw,(D.c9 (D.dE (K w.r5)) xR).In j3->j3.Ns Yr mg->_J j3 mg->ei l.jd w (D.c9 (D.dE (K w.r5)) xR) mg j3 (eh l.jd w) 151 fa fd ["_law_script"] (kK (D.c9 (D.dE (K w.r5)) xR))):
  oa.W.å q Ρ XP YP l.n9.ϡ d [] (λf vs=>oa.yd f vs):=
 L2.Y2 (K:=λp=>D.c9 (D.dE (K p)) xR) (xR:=xR) (n:=63) (k:=151) (x:="_law_script") (CX:=λw=>eh l.jd w) (sp:=λw=>kK (D.c9 (D.dE (K w.r5)) xR)) hn (by decide) rP ⟨rfl,by decide,by decide,rfl⟩ (λw h Y=>D.ED (hG w) (D.z0f (hY w h Y))) F (λ_ _ a ns hl hb hS=>⟨a,ns,rfl,hS,⟨hl,hb⟩,λ_=>rfl⟩) (λ_ _ _ _ _ z=>z9x z)
  (λw=>D.XY (D.W_ (x9 w)) hd) (λw h Y=>D.z58 (hY w h Y) (hT w h Y) (hc w)) (λw=>D.j9 (hG w) (hK w))
end Q
open PySem PySem.W PyProof.Rows
set_option maxRecDepth 100000 in
set_option maxHeartbeats 0 in
theorem PySem.Challenge.cw_circuits_k69_whole_back_holds : PySem.Challenge.rw_circuits_k69_whole_back.Holds := by
 w_on; o_law; k_head; (case hw => w_witness2)
 k_fill
 refine Q.walk (l := PySem.Challenge.rw_circuits_k69_whole_back) (tabs := [(267, ("rarest" ++ ".<locals>.") ++ "<lambda>"), (334, ("small" ++ ".<locals>.") ++ "<lambda>"), (308, ("machine_of" ++ ".<locals>.") ++ "<lambda>")]) rfl rfl (fun w h Y => PySem.W.km_in_of Y) (fun w h Y => PySem.W.km_tabs_of Y) (fun w => by kernel_rfl) (fun w => by kernel_rfl) (by decide +kernel) (fun w => by kernel_rfl) (fun w => w2a.mpr ⟨⟨271, by kernel_rfl⟩, w2a.mpr ⟨⟨338, by kernel_rfl⟩, w2a.mpr ⟨⟨312, by kernel_rfl⟩, fun _ h => nomatch h⟩⟩⟩) ?F
 case F =>
  intro w mg fa h KX G hmg;refine' Q.mk hmg ?zA ?zB ?zM ?zK 148 ?hL
  (case zA =>
   intro i h
   (iterate 58 (rcases i with _ | i; · exact Q.at_k KX G (D.ns_m (D.q1x (by k_is) (by kernel_rfl))) (D.q4d (D.q0x (by k_is) (by kernel_rfl))) (D.Q2d (D.x9d (by k_is) (by kernel_rfl))) (D.Q2e (by kernel_rfl)) fun _ _ _ _ _ _ => by first | exact Q.us1 fun _ => rfl | exact Q.us2 fun _ _ => rfl | exact Q.us3 fun _ _ _ => rfl))
   exact absurd h (by omega))
  (case zB => constructor <;> first | exact mg_none_of KX G (D.ns_m (D.q1x (by k_is) (by kernel_rfl))) | exact ⟨_, mg_of KX G (D.ns_m (D.q1x (by k_is) (by kernel_rfl))), ⟨⟨_, (D.q4d (D.q0x (by k_is) (by kernel_rfl))), by kernel_rfl⟩⟩⟩)
  (case zM => constructor <;> first | trivial | exact mg_of KX G (D.ns_m (D.q1x (by k_is) (by kernel_rfl))) | exact D.no_m (by kernel_rfl) D.z0g | kernel_rfl)
  (case zK => exact w2a.mpr ⟨Q.mk_k (st := Q.s8 29) KX G (D.ns_m (D.q1x (by k_is) (by kernel_rfl))) (D.q4d (D.q0x (by k_is) (by kernel_rfl))) rfl (show codeHdIn _ _ 267 = true by kernel_rfl) (w0h _ (by simp; rfl)), w2a.mpr ⟨Q.mk_k (st := Q.s8 36) KX G (D.ns_m (D.q1x (by k_is) (by kernel_rfl))) (D.q4d (D.q0x (by k_is) (by kernel_rfl))) rfl (show codeHdIn _ _ 308 = true by kernel_rfl) (w0h _ (by simp; rfl)), w2a.mpr ⟨Q.mk_k (st := Q.s8 41) KX G (D.ns_m (D.q1x (by k_is) (by kernel_rfl))) (D.q4d (D.q0x (by k_is) (by kernel_rfl))) rfl (show codeHdIn _ _ 334 = true by kernel_rfl) (w0h _ (by simp; rfl)), fun _ h => nomatch h⟩⟩⟩)
  (case hL => exact fun a M ns hl => Q.z18 M ns hl)
