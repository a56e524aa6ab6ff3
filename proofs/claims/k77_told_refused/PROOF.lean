import PyProof.Rows.All
import Wide.FinOn
import Wide.Line
import Wide.Tac
import Wide.Pins
import Open.Line
import OpenK.KLine
import OpenK.KMake
import KE.KDictText
import KE.KLam
import KE.KNestM
import KE.KItem
import PyProof.TupleKey
import PyProof.EqAt
import PyProof.EqKinds
import Wide.Seal
import Lean
import PyProof.TupleCall
import KE.KTryMore
import KE.KRevIter
import PyProof.CollectIter
import PyProof.ConsumeWalk
import PyProof.TupleOfStr
import KE.KIsAll
import PyProof.ExcArgs
import PyProof.ExcAttrAll.ValueError
import PyProof.CompUse
import PyProof.NeKinds
import PyProof.EnumIter
import PyProof.EnumFor
import PyProof.EnumMake
import PyProof.EnumStmt
import PyProof.ListMulRoad
import PyProof.ZipIter
import PyProof.TupleIter
import PyProof.Rows.SortWalk
import PyProof.SetKind
import PyProof.Rows.SetFrom
import PyProof.FactsAll.set_1
import KE.KDictSum
import PyProof.FactsAll.set_2
import PyProof.FactsAll.tuple_2
import PyProof.ReprRoads
import PyProof.Rows.SeqMore
import PyProof.ReprLen
import PyProof.WalkInts
import PyProof.SeqI3
import PyProof.Rows.TupIter
import PyProof.ListRange
import PyProof.SumWalk
import PyProof.DictIter
import PyProof.DictWalks
import PyProof.Draws
import PyProof.StrBlockI
import PyProof.StrLawsIn
import PyProof.StrOps2
import PyProof.ReprStr
import KE.KTops
import PyProof.StrCalls6
import PyProof.DictRoadsH
import PyProof.DictTruth
import KE.KDictList
import PyProof.Rows.TupDisplay
import PyProof.DictUpdate
import PyProof.ListNew
import PyProof.Rows.SortRev
import KE.KRevSl
import KE.KMinKey
import PyProof.Rows.SortStr
import PyProof.Rows.SortRunsK
import PyProof.Rows.SortKeyStr
import KE.RegMulBits
import PyProof.CallStr
import PySem.Challenge.RW_circuits_k77_told_refused
set_option Elab.async false
set_option linter.all false
set_option maxRecDepth 100000
set_option maxHeartbeats 1000000
local macro_rules | `(tactic| cases $h:ident) => `(tactic| first | (guard_hyp $h : _ = _; first | subst $h:ident | (injection $h:ident; done) | (injection $h:ident with z1 z2 z3; cases z1; cases z2; cases z3) | (injection $h:ident with z1 z2; cases z1; cases z2) | (injection $h:ident with z1; cases z1)) | cases ($h))
local macro_rules | `(tactic| omega) => `(tactic| first | with_reducible assumption | decide | with_reducible exact Nat.le_refl _ | with_reducible exact Nat.zero_le _ | lia)
set_option genSizeOf false
set_option genInjectivity false
set_option compiler.extract_closed false
local macro_rules | `(tactic| walk_at "1") => `(tactic| (first | exact Or.inl rfl | exact Or.inr (Or.inl rfl) | exact Or.inr (Or.inr rfl)))
local macro_rules | `(tactic| walk_at "2") => `(tactic| (first | exact .inl rfl | exact .inr rfl | assumption))
local macro_rules | `(tactic| walk_at "3") => `(tactic| (first | exact Or.inl rfl | exact Or.inr rfl))
open PySem.W (callWith_K cellsFrom_some codeHdIn exmOne findIn hideAll_get keepIn kia_one kitOne kla_fn kla_obj methodObj pyHash_slot specialIn tabObj takesIn)
def w0a:=@List.getElem?_eq_getElem
def w0b:=@List.length_map
def w0c:=@List.getElem?_eq_some_iff
def w0d:=@Nat.le_refl
def w0e:=@List.mem_append_right
def w0f:=@List.mem_cons_of_mem
def w0g:=@List.length_append
def w0h:=@List.mem_cons
def w0i:=@List.size_toArray
def w0j:=@List.map_cons
def w0k:=@List.append_assoc
def w0l:=@List.mem_cons_self
def w0m:=@List.map_append
def w0n:=@List.getD_eq_getElem?_getD
def w0o:=@List.getElem?_set_ne
def w0p:=@Option.map_eq_some_iff
def w0q:=@Bool.and_eq_true
def w0r:=@List.length_cons
def w0s:=@List.append_nil
def w0t:=@List.getElem?_set_self
def w0u:=@List.mem_singleton
def w0v:=@List.getElem?_cons_succ
def w0w:=@List.mem_append
def w0x:=@List.getElem?_append_left
def w0y:=@Nat.ne_of_lt
def w0z:=@List.getElem?_append_right
def w1a:=@Nat.lt_of_lt_of_le
def w1b:=@List.not_mem_nil
def w1c:=@List.getElem?_map
def w1d:=@Nat.le_trans
def w1e:=@List.mem_map
def w1f:=@List.map_map
def w1g:=@List.foldl_cons
def w1h:=@List.mem_append_left
def w1i:=@List.length_take
def w1j:=@List.length_drop
def w1k:=@Nat.zero_le
def w1l:=@List.all_eq_true
def w1m:=@List.mem_of_getElem?
def w1n:=@List.cons_append
def w1o:=@List.getElem?_cons_zero
def w1p:=@List.foldl_append
def w1q:=@Int.emod_lt_of_pos
def w1r:=@List.set_cons_succ
def w1s:=@List.set_cons_zero
def w1t:=@List.nil_append
def w1u:=@List.take_of_length_le
def w1v:=@Nat.lt_succ_of_lt
def w1w:=@Bool.false_ne_true
def w1x:=@Int.emod_nonneg
def w1y:=@List.map_congr_left
def w1z:=@List.getElem_mem
def w2a:=@Array.length_toList
def w2b:=@List.length_singleton
def w2c:=@List.reverse_cons
def w2d:=@List.nodup_append
def w2e:=@List.mem_range
def w2f:=@List.nodup_cons
def w2g:=@List.drop_eq_getElem_cons
def w2h:=@Nat.lt_irrefl
def w2i:=@List.filter_eq_self
def w2j:=@Int.toNat_natCast
def w2k:=@Array.getElem?_append_left
def w2l:=@List.replicate_succ
def w2m:=@Option.isSome_map
def w2n:=@List.forIn_cons
def w2o:=@List.getElem?_eq_none
def w2p:=@List.take_append_drop
def w2q:=@List.filter_cons
def w2r:=@List.getElem?_replicate
def w2s:=@Option.bind_eq_some_iff
def w2t:=@Nat.zero_add
def w2u:=@Nat.min_eq_left
def w2v:=@Array.getElem?_eq_some_iff
def w2w:=@List.lookup_cons
def w2x:=@List.map_eq_cons_iff
def w2y:=@List.mem_of_mem_drop
def w2z:=@Nat.pow_le_pow_right
def w3a:=@List.mem_of_mem_take
def w3b:=@Bool.or_eq_true
def w3c:=@List.find?_cons
def w3d:=@List.map_nil
def w3e:=@List.map_take
def w3f:=@List.take_length
def w3g:=@List.forIn_nil
def w3h:=@List.map_eq_append_iff
def w3i:=@Bool.false_eq_true
def w3j:=@List.mem_filterMap
def w3k:=@Nat.ne_of_gt
def w3l:=@Bool.eq_iff_iff
def w3m:=@List.length_zip
def w3n:=@List.length_nil
def w3o:=@List.all_cons
def w3p:=@Bool.not_eq_true'
def w3q:=@Nat.not_lt
def w3r:=@List.take_add_one
def w3s:=@List.flatMap_cons
def w3t:=@List.forall_mem_cons
def w3u:=@List.getElem?_zip_eq_some
def w3v:=@List.map_eq_singleton_iff
def w3w:=@List.drop_length
def w3x:=@Option.isSome_iff_exists
def w3y:=@Array.forIn_toList
def w3z:=@List.of_mem_zip
def w4a:=@List.any_cons
def w4b:=@List.length_eq_zero_iff
def w4c:=@List.filter_cons_of_pos
def w4d:=@List.filter_cons_of_neg
def w4e:=@Nat.add_sub_cancel_left
def w4f:=@Bool.eq_false_iff
def w4g:=@List.take_sublist
def w4h:=@List.flatten_cons
def w4i:=@List.length_replicate
def w4j:=@Nat.le_of_ble_eq_true
def w4k:=@List.singleton_append
def w4l:=@Int.mul_le_mul_of_nonneg_left
def w4m:=@List.eq_nil_of_length_eq_zero
def w4n:=@List.take_append_of_le_length
def w4o:=@List.countP_eq_length_filter
def w4p:=@List.map_drop
def w4q:=@List.getElem_of_mem
def w4r:=@List.length_reverse
def w4s:=@Nat.add_le_add_left
def w4t:=@List.takeWhile_cons
def w4u:=@List.flatMap_append
def w4v:=@List.length_pos_iff
def w4w:=@List.getElem?_range
def w4x:=@List.length_flatMap
def w4y:=@List.range_succ
def w4z:=@Nat.one_ne_zero
def w5a:=@Nat.lt_or_ge
def w5b:=@List.mem_replicate
def w5c:=@Int.zero_add
def w5d:=@Array.getElem?_eq_getElem
def w5e:=@List.drop_zero
def w5f:=@List.getLast?_eq_some_iff
def w5g:=@List.length_erase_of_mem
def w5h:=@Nat.le_succ
def w5i:=@List.sum_cons
def w5j:=@Nat.min_le_right
def w5k:=@Nat.le_add_right
def w5l:=@Nat.succ_ne_self
def w5m:=@Nat.lt_succ_self
def w5n:=@List.length_eq_one_iff
def w5o:=@List.drop_eq_nil_of_le
def w5p:=@Array.getElem?_toList
def w5q:=@List.dropLast_eq_take
def w5r:=@Nat.ble_eq_true_of_le
def w5s:=@Int.pow_succ
def w5t:=@List.contains_iff_mem
def w5u:=@Option.map_some
def w5v:=@List.take_left'
def w5w:=@List.length_filter_le
def w5x:=@Nat.zero_lt_one
def w5y:=@Array.toArray_toList
def w5z:=@List.getElem?_append
def w6a:=@List.mem_of_getLast?
def w6b:=@Nat.mul_le_mul_right
def w6c:=@List.getElem?_of_mem
def w6d:=@Bool.and_false
def w6e:=@List.foldl_nil
def w6f:=@List.drop_drop
def w6g:=@List.filterMap_cons
def w6h:=@Array.toList_append
def w6i:=@Array.append_assoc
def w6j:=@Array.find?_toList
def w6k:=@Bool.and_true
def w6l:=@List.map_inj_right
def w6m:=@List.lookup_append
def w6n:=@Option.toList_some
def w6o:=@List.filter_append
def w6p:=@Nat.le_of_lt
def w6q:=@Nat.lt_trans
def w6r:=@Bool.true_or
theorem jJ0(_:True:=by rfl):True:=trivial
def jJ:=jJ0._auto_1
theorem jK0(_:True:=by decide):True:=trivial
def jK:=jK0._auto_1
theorem jL0(_:True:=by walk_at "2"):True:=trivial
def jL:=jL0._auto_1
theorem jM0(_:True:=by walk_at "1"):True:=trivial
def jM:=jM0._auto_1
theorem jN0(_:True:=by walk_at "3"):True:=trivial
def jN:=jN0._auto_1
abbrev Fg:=PySem.W.Frag
def jQz:="L List O some J length dt Nat d0 int d_ heap eh Str ei ref ej map el env eG size eS pins eW Int e5 Value e6 objs ff tup fh Addr fi autoParam fj scope fy lst fG Option fH Heap fI lookup fJ Bool fZ pos f6 get? f' ins gD own gE if_pos gF Den g0 base g8 Inv g9 run g_ prog hJ type h8 inl ie cls iA rel iD trans i6 wpAny_bind je Name j' inr kd PySem ke elim kl if_neg kx Shared ky toArray kX wpAny lg data ll mono lq starEach lH names l4 outer l5 upd l_ Expr mx seq my set mE enc mF getD mG model mI sub mZ cell m6 cons m7 acc m8 nil m9 drop m_ Rel nL free nQ Rep nR bind nS absurd nT items nU Obj nV push nW toks n0 qual n5 take n9 toList oo wpAny_pure oq Builtin ot RelV oK Vals oM rest oN out oO len oP all oQ refl oR toNat oS replicate oY depth o3 body pg sizeLine pQ imp pR pure pS row pT World pU keep pV False pW kitOne pX any pY Call pZ extBut p7 params p9 Nodup qM Program qY Pos qZ dict q_ get?_push_of_some rh eq2 ri Rows rj mpr rl bool rn builtin ro okN rq cps rW iter rX tabs rY eq_false rZ new r5 slot r7 units r8 backTo r_ cLine sf lt_size so range sE inj sG isSome sP kind tf Around tB old tN val tO cells tP Array tY Env t_ foldl uu zip uD PyProof uW encC u3 fresh vd hlen vj word vr ifs vt namesOf vv Stmt vx SeqAt vM get?_push_size vN sizeLine_eq vP Scope vR fin vW kindOf vX elt wd reverse wg laid wq grow wz keys wB Key wC bare wD list wF Txt wK calm wY tok w7 True x6 fields yl mod yr ret yt holds yw isEmpty yM isList y' line zb tuple zc zero zd IsPair zf stack zp apos zt exc zx slots zD succ zG target zN call AN keeps AO pos' AW NameKind BX get CZ obj EO mainGlobals ET String EU locals EY more E1 odd Hz Subscript JJ Tuple LO deeper Mk eq_true Nn flatMap Nr handled Nx in1 NK kept NV key N3 StrLaws N' append Ot envOfC Ou need OB pin O9 EqAt Q1 doc Tn filter T4 loc Vq Compare VF Good VU IsTuple V8 SmallTypes Ww ent WE there WH Loc WL fuel WS one Xz or_false XD start Ya typeIs Yb BoolOp Yc congrArg Yd cur Ye slice Yf turn Yg hd2 Yh swapsWith Yi wpAny_field Yj ListComp Yk has Yl look Ym ne2 Yn outs Yo putK Yp rem Yq Calls Yr Keyword Ys assignEach Yt flatten Yu frames Yv func Yw gens Yx mapSeq Yy ofString Yz Assign YB IsZip YC fst YD mem YE noFn YF step YG strKind YI taken YJ update YK Lambda YL Sum YM above YN codeAny YO compareOp YQ dropLast YR eq1 YS foldedSetIterable YT glob YU size_push YV tab YW value YX wpAny_mono YY IsTup YZ Paired Y_ behindInMarks Zb binaryOp Zc function Zd item Ze Dict Zf TypeIs Zg bits Zh init Zi par Zj up1 Zk wpAny_holding Zm Apart Zn Attribute Zo Constant Zp FuncData Zq SameBut Zr Sem Zs Slice Zu brk Zv cont Zw fits Zx lex Zy liftT Zz nextOf ZA rawInt ZC sep ZD assign ZE beq_iff_eq ZF callerA ZG empty ZH field ZI if_true ZJ mem_of_lookup ZK most ZL not_or ZM pieces ZN pyNext ZO turned ZP AllBare ZQ BMain ZR Binds ZS IsCell ZT again ZU excIn ZV exmOne ZW hash ZX hit ZY keepIn ZZ sysModules Z0 wpAny_newObj_type Z1 Ends Z4 IsList Z5 IsPart Z6 IsTupleIter Z7 NotIn Z8 Tok Z_ attributeBase _a bootBuiltins _b call_meets _c code _d codeIn _e decide_eq_false _g endLine _h findIn _i if_false _j nsIn _k strSub _l sum _m whole _n wide _o wpAny_seqItems _p And _q BinOp _r BindsTo _s Meets _t blank _u decide_eq_true _v fnOf _w getItem _x move _y natAbs _z relabel _A Arguments _B Data _C Looks _D backToKw _E blt _F callWith_type1 _G keywordEach _H kla_obj _I lay _J occurrences _K of_wp _L pop _M putL _N rule _O tail _P wpAny_Call_Name_kw _Q write _R Boot _S FlyingW _T Mod _U OpenLaw _V PassesOwn _W RcAt _X Turn _Y UnaryOp _Z Walk Α atKey Β behind Γ bindArgs Δ bindC Ε bindL Ζ binds Η builtins Θ col Ι elts Κ eqIsQuiet_byValue Λ filterMap Μ frame Ν heq Ξ holding Ο join Ρ ln2 Τ loose Υ many Φ of_decide_eq_true Χ ownedTupleIsFree Ψ resolve_left Ω slot_zip_next γ tupleExact δ wpAny_callSpecial?_slot ε wpAny_call_entry ζ wpAny_pyIter_tuple η wpAny_truthy_bool θ DecidableEq ι ForInStep μ FunFrames ν Mult ξ Return ο addW π andThen ρ codeAny_builtin ς codeAny_mono τ error υ globals χ kia_one ψ mroIn ω part ϊ putAll ϋ reprText ό sameBut ύ sliceBounds ώ slot_tuple_getitem Ϗ snoc ϐ tabObj ϑ toRowW ϒ typeIs_str ϓ vals1 ϔ wpAny_passesOwn ϕ wpAny_setField_rec ϖ wpAny_typeOf ϗ Char Ϙ CmpOp ϙ Decidable Ϛ DictOf ϛ ExcAt Ϝ FormattedValue ϝ IntsAre Ϟ NoLimit ϟ OldK Ϡ RcNeAt ϡ Txt2 Ϣ after ϣ all1 Ϥ beq_eq_false_iff_ne ϥ bne_iff_ne Ϧ builtinLookup_eq_fast ϧ builtinsNs Ϩ cellsFrom ϩ codeAmong Ϫ core ϫ decide_eq_true_eq Ϭ drawn ϭ ellipsis Ϯ forIn ϯ good ϰ hints ϱ isTrue ϲ loop ϳ max2 ϴ nolimit ϵ of_eq ϶ sameAt Ϸ signs ϸ standAt Ϲ typeLookup Ϻ typeLookup_type ϻ under_plainId À wpAny_attempt Á wpAny_call Â wpAny_of_eq Ã wpAny_pyIter_list Ä wpAny_rule Å wpAny_specialOf Æ yield Ç Call_ È Classical É Function Ê IsListIter Ë IsSliceOf Ì ItemsOf Í Maker Î Moved Ï Params Ð Slot Ñ ToldF Ò Unit Ó UpToSlots Ô WData Õ WShape Ö Walks Ø back Ù bool_bool Ú closure Û codeHdIn Ü collect Ý defaults Þ get?_update_other ß get?_update_self à isCoroutine á isGenerator ã kla_fn ä letOwnedTupleGo å pinned æ plainId_quiet ç plain_extend_loop è retS é seen ê slot_tuple_mul ë spliced ì tracked í typeOf î valueAt ï wpAny_execs_nil ð wpAny_ite_split ñ wpAny_loadPart' ò wpAny_standAt ó Challenge ô DictEntry õ FunctionDef ö IsEnum ø Pairwise ù WalkO ú args_zip_next_1 û beq_self_eq_true ü bool_none ý callType_new þ closureFor ÿ clsIn Ā compEnvC ā concat_meets Ă contains ă decide_eq_decide Ą entry_zip_next ą eq_of_beq Ć find? ć getLast? Ĉ hideAll_get ĉ int_int Ċ int_str ċ isCodeTable Č listExtendWith č listSameRef Ď listTooLong ď merged Đ newFunctionEnv đ none_bool Ē of_decide_eq_false ē plain_list_iadd Ĕ putAt ĕ rJoin Ė setItem ė slicePlaces Ę slot_str_split ę slot_tuple_iterator_next Ě specialIn ě spliced_cons Ĝ spliced_nil ĝ storedH Ğ strKind_is ğ str_int Ġ str_str ġ sublist Ģ subscripted ģ tail_any Ĥ vals2 ĥ wpAny_isInstance Ħ wpAny_onRaise ħ wpAny_pyIter_enum Ĩ wpAny_updateSeq ĩ DefRec Ī GenState ī IsRevIter Ĭ IsStrIter ĭ PlainAttrs Į PyData į Result İ Subscript_ ı TriplesOk Ĳ args_object_init_2 ĳ args_str_split_2 Ĵ args_tuple_add_2 ĵ args_tuple_mul_2 Ķ bool_int ķ bool_str ĸ callWith_K Ĺ cellOf ĺ cellsFrom_some Ļ compLoop ļ compPost Ľ comp_def ľ decide_eq_true_iff Ŀ decide_false ŀ defaultsOf Ł entry_str_split ł entry_tuple_add Ń entry_tuple_mul ń eqBool Ņ evalPairs ņ findBy Ň findIdx? ň frames_deeper ŉ freeze Ŋ glued_eq_join ŋ int_bool Ō int_none ō isInstance Ŏ isSubtype_type ŏ length_append Ő loadIfAlive ő looks_findIn Œ methodObj œ mul_comm Ŕ ne_true_of_eq_false ŕ noFill_tuple_add Ŗ none_int ŗ none_str Ř occ_head ř operate Ś partsBetween_eq ś partsFrom Ŝ plainAttrs_list ŝ plainAttrs_str Ş propext ş pyIter Š recursionLimit š seqIndex_neg Ţ seqIndex_of ţ seq_tuple_add Ť size_update ť sliceAdjust Ŧ slot_dict_getitem ŧ slot_tuple_add Ũ some_of ũ stored Ū str_bool ū str_none Ŭ sub_zero ŭ subscriptTail Ů takesIn ů toInCall Ű truthy ű tuples Ų typeIs_int ų unaryOp Ŵ updateSeq ŵ wpAny_Name Ŷ wpAny_letGo ŷ wpAny_load Ÿ wpAny_updateSeq_pair Ź ClassData ź Constant_str Ż ExactDict ż ExceptHandler Ž IsRangeIter ž JoinedStr ſ Name_function_global zbS args_tuple_getitem zbT args_tuple_iterator_next_1 zbU boot_enumerate zbV byContradiction zbW callWith_builtin zbX called_tuple zbY checkBuiltinCall zbZ codeAny_call_builtin zb0 codeAny_call_function zb1 codeAny_compStart_list zb2 codeAny_func zb5 data_mapFields zcd entry_extend_loop zce entry_list_iadd zcf entry_proto_collect zcg entry_tuple_getitem zch entry_tuple_iterator_next zci entry_tuple_new zcj evalArgs_plain zck evalPairs_cons zcl evalPairs_nil zcm evalPart_none zcn excAttr_ValueError zco ext_getElem? zcv false_implies zcy firstArgMember zcH get?_none_of_le zcO implies_true zcP init_tuple_lookup zcQ intBits_le_64 zcR isSubtype_stop zc0 length_range zc1 listLengthHint zc2 lists_lengths zc3 lt_of_succ_lt zc4 madeHere_tuple zc7 newCall_tuple_1 zc' ofString_eq_toList zdd ownedTupleHandOut zdg pairwise_map zdh partsBetween zdi plain_proto_collect zdj propDecidable zdt setIfInBounds zdu sliceApplied zdv slicePart_none zdw slot_dict_update zdx slot_int_rmul zdy slot_list_append zdz slot_list_extend zdA slot_list_getitem zdB slot_list_pop zdC slot_str_getitem zdD slot_str_partition zdE slot_tuple_rmul zdG strSliceIndices zdH sub_tuple_self zdI subscriptTail_builtinR zdJ swappedStores zdK swapsWithSole zdQ tupleItemsOf zdR tupleItemsOf_ zdS tupleTooMany zdT typeCall_tuple_1 zeb wpAny_Compare1 zec wpAny_Dict_any zed wpAny_comprehension_free zee wpAny_execs_cons zef wpAny_formatField_str zeg wpAny_getItem_of zeh wpAny_isTrue_Compare1 zei wpAny_ite_true zej wpAny_layCells zek wpAny_letOwnedTupleGo_enum zel wpAny_newFunctionEnv zem wpAny_newFunctionEnv_cells zen wpAny_newTuple zeo wpAny_runValue zep wpAny_sequenceKey zeq wpAny_setField zer wpAny_storeName_cell"
def jSz:List String->List (String×String)
 |a::b::l=>(a,b)::jSz l
 |_=>[]
def jRz{k}(d:Lean.TSyntax k):Lean.Syntax:=
 let t:=Std.HashMap.ofList (jSz (jQz.splitOn " "))
 let rec g:Lean.Name->Lean.Name
  |.str p s=>.str (g p) (t.getD s s)
  |.num p n=>.num (g p) n
  |n=>n
 d.raw.rewriteBottomUp fun|.ident i r n p=>.ident i r (g n) p|s=>s
local macro_rules
|`(Lean.Parser.Command.declaration|$m:declModifiers $d)=>do
 let e:=jRz d
 if e==d.raw then Lean.Macro.throwUnsupported
 return .node .none ``Lean.Parser.Command.declaration #[m,e]
|`(variable $b*)=>do
 let e:=b.map fun x=>(jRz x)
 if e==b.map (·.raw) then Lean.Macro.throwUnsupported
 return .node .none ``Lean.Parser.Command.variable #[.atom .none "variable",.node .none `null e]
local macro_rules|`(Lean.Parser.Command.declaration|$m:declModifiers $d)=>do
 unless m.raw.getArgs.all (·.isNone) do Lean.Macro.throwUnsupported
 let d:=d.raw
 if d[3][1].isOfKind ``Lean.Parser.Term.byTactic&&d.isOfKind ``Lean.Parser.Command.definition then return .node .none ``Lean.Parser.Command.declaration #[m,.node .none ``Lean.Parser.Command.theorem #[.atom .none "theorem",d[1],.node .none ``Lean.Parser.Command.declSig #[d[2][0],d[2][1][0]],d[3]]]
 unless d.isOfKind ``Lean.Parser.Command.definition||d.isOfKind ``Lean.Parser.Command.abbrev do Lean.Macro.throwUnsupported
 return .node .none ``Lean.Parser.Command.declaration #[m.raw.setArg 4 (.node .none `null #[.node .none ``Lean.Parser.Command.noncomputable #[.atom .none "noncomputable"]]),d]
local macro_rules|`(tactic|let ⟨$p,*⟩:=$e)=>do
 let rec go:Nat->Lean.Syntax->Lean.MacroM (Lean.TSyntax `Lean.Parser.Tactic.rcasesPatLo)
  |n+1,t=>do
   let p:Lean.TSyntax `rcasesPat←match t with
    |`(⟨$p,*⟩)=>do
     let q←p.getElems.mapM (go n ·.raw)
     `(rcasesPat|⟨$q,*⟩)
    |`($i:ident)=>`(rcasesPat|$i:ident)
    |_=>`(rcasesPat|_)
   `(Lean.Parser.Tactic.rcasesPatLo|$p:rcasesPat)
  |_,_=>Lean.Macro.throwUnsupported
 let q←p.getElems.mapM (go 9 ·.raw)
 `(tactic|obtain ⟨$q,*⟩:=$e)
structure PySem.W.Fast:Prop where
 (tw9949381952125162707 tw12497940604747555375 tw10805690600834372145 tw14594968859920909604 tw10168904582750773674 tw11234410761849229824 tw992150984483836730 tw11884679997276109587 tw16206865678268085115 tw14221589744948170252 tw11065479979347911783 tw14163991184402037997 tw6941554231820129868 tw12501232302738308073 tw17035636114129113582 tw5860374518343589253 tw11748349554182675978 tw2812158363470188681 tw16467564121868946364 tw14899489625544464889 tw2582575026823532484 tw9611588311606436777 tw3925659766003931911 tw2229487068374824891 tw15074422222469395249 tw12358466454889552339 tw1419911923777961137 tw12786844718233235923 tw16054090437045531878 tw1885885131403700240 tw1375126887871655631 tw7624194845102690567 tw17266891175998797041 tw12048072454512569779 tw4588458562854834418 tw10562335156389144448 tw15104861213873678013 tw27785549479586127 tw16460724252475816593 tw51330242291954370 tw9913610342483820367 tw4227006339628142932 tw7732597849438059497 tw687395864170647236 tw5014020347150142595 tw9361085867772705357 tw13251932264733771908 tw1940022715485024702 tw7924901747965100654 tw2739228292734274073 tw14520204213133541787 tw12681263218241752586 tw8909314436905986362 tw2952475627913550755 tw9327527746735963130 tw9243891661789721308 tw1397944324711341773 tw4125807119168046878 tw16549417480096049125 tw2404622733002990520 tw9991865576410258458 tw14428973036538624316 tw13683168542362861704 tw2070942010160252462 tw11646482598281253963 tw5597113376567963915 tw4795201556089147916 tw18163114007047216803 tw16020197481228627866 tw3691172723465457902 tw10867058616735544789 tw2014267456308566088 tw17480199920082413743 tw4451030580122889064 tw1633838398690831970 tw14859309073220894020 tw3520147914227186350 tw6150878094205036013 tw10802744358147460345 tw3369791677800233247 tw12804476883550817869 tw2861202148187489194 tw10382333822426044658 tw7475234836806325074 tw5605132166090547986 tw928934412968161040 tw14693654018864864142 tw14490825994153247219 tw9491533710640352712 tw1050811772804667879 tw2979872279097045932 tw9269540047211708206 tw2016500922817792686 tw14600404454335750594 tw16792861975476389283 tw14118253133160256948 tw1777677554827911683 tw148304886471769584 tw17990994941415756723 tw11557209218509971681 tw8794078555946356788 tw13065612254096993211 tw15022969720789320211 tw12525256219491398296 tw1352503772432867327 tw7983781767123445356 tw10272498428809209460 tw460876930305638448 tw3986143552429979038 tw11626487240723378783 tw2502411735232844221 tw8875679061034276355 tw5266426962599928029 tw10451670994646038808 tw3982051207217417583 tw1933181146693736589 tw9339001816376556058 tw2765538536741520244 tw13114394431897907961 tw12155554523924318333 tw10723065063804031833 tw842592752763340464 tw17301794329533713425 tw4469081757253029130 tw13370050408392393045 tw13685909939531082008 tw1751879542622686434 tw15083083798054946491 tw9197515483473546639 tw8400181038387575733 tw18246885671660864454 tw1706155127325901641 tw13898879129464051525 tw8881859860772217641 tw17995262249751879711 tw7549947109127293009 tw12046383558921714399 tw3716667095911666658 tw16011398975401313204 tw10826400841298615131 tw10356930751966134001 tw3371253103765455930 tw14966647027852574696 tw6946869658149814425 tw2240025446847360491 tw11017703588781133360 tw7395105657342733619 tw10057355877264946970 tw15636974821402317995 tw9705166165656312826 tw4731584461272525470 tw3129589894012992938 tw2300051785718315812 tw1660844305989200449 tw12915719748165836127 tw1102092407077240682 tw11540430454335520403 tw12148174917317790567 tw4127622597357681928 tw9450483311134024778 tw5046000919538450741 tw1399230399201029759 tw4539716041799247419 tw4473488489842199314 tw17137237562502991328 tw10295015590944341143 tw9092807228118674107 tw2274693614061734345 tw16917029781520471079 tw8611378805618780185 tw2019738528673516291 tw18323260180459157864 tw17783193240140225777 tw12048830942170061476 tw12475167386604109058 tw6167820981907748998 tw4281292314510202866 tw18123784809953711348 tw15650839792895085767 tw9971072206754809348 tw2461162007207429689 tw16721973375134825796 tw12037819375171354962 tw7964800707584347978 tw5980491018874469654 tw1487638939460531397 tw10475623158586200352 tw4236192753721649756 tw4079569855920180634 tw6636918997820247735 tw9320638265428498944 tw9027719803007635775 tw16600103400846345493 tw16203052458099197620 tw11164585140657038315 tw11058084060152081533 tw11043979686655583546 tw9188493060575118134 tw3046695002566407723 tw7647775385108156721:True)
namespace L2
open PySem PySem.Spec PyProof.Rows
variable{C a:fh}{A:tf}{op:Ϙ}{c e tg:l_}{fd:Zp}{g0 h h':fH}{eS:L (fh×nU)}{ch fp:L fh}{es:L l_}{N:L eh}{us:L e5}{M:Model}{i t':dt}{p fZ:qY}{g_:qM}{K:Fg}{s:kx}{x:eh}{mg:eh->fG e5}{u:e5}{E:e5->kx->Prop}{f:e5->e5->Zr e5}{w:pT}
set_option genInjectivity true in
inductive Kx where
 |aH|bl (b:fJ)|d0 (i:eW)|str (x:eh)|ff (ks:L Kx)
inductive Sh where
 |ob|bl|d0|str|ff (ss:L Sh)|Υ (s:Sh)
noncomputable instance:θ Kx:=λ_ _=>È.zdj _
mutual
noncomputable def Kx.depth:Kx->Nat
 |.tup ks=>Kx.eF ks+1
 |_=>0
noncomputable def Kx.eF:List Kx->Nat
 |[]=>0
 |k::ks=>max k.depth (Kx.eF ks)
end
mutual
noncomputable def eX:Kx->Sh->Prop
 |.aH,.ob=>True
 |.bl _,.ob=>True
 |.bl _,.bl=>True
 |.int _,.int=>True
 |.str _,.str=>True
 |.tup ks,.tup ss=>sy ks ss
 |.tup ks,.many s=>pB ks s
 |_,_=>False
noncomputable def sy:List Kx->List Sh->Prop
 |[],[]=>True
 |k::ks,s::ss=>eX k s/\sy ks ss
 |_,_=>False
noncomputable def pB:List Kx->Sh->Prop
 |[],_=>True
 |k::ks,s=>eX k s/\pB ks s
end
mutual
noncomputable def qD(h:Heap):Kx->Value->Prop
 |.aH,v=>v=.none
 |.bl b,v=>v=.bool b
 |.int i,v=>∃t,v=.int i t
 |.str x,v=>∃t,v=.str x t
 |.tup ks,v=>∃a o items n,v=.ref a/\h.get? a=some o/\o.cls=.type "tuple" /\ o.data=.seq items n/\ik h ks items.toList
noncomputable def ik(h:Heap):List Kx->List Value->Prop
 |[],vs=>vs=[]
 |k::ks,vs=>∃v r,vs=v::r/\qD h k v/\ik h ks r
end
mutual
theorem Rj{h:Heap}:∀(k k':Kx){v:Value},qD h k v->qD h k' v->k=k'
 |.aH,k',v,x,y=>by
  cases(show v=.none from x);cases k' with
  |aH=>rfl
  |bl c=>cases(show Value.none=.bool c from y)
  |int i=>let⟨t,e⟩:=y;cases e
  |str i=>let⟨t,e⟩:=y;cases e
  |tup ks=>let⟨_,_,_,_,e,_⟩:=y;cases e
 |.bl b,k',v,x,y=>by
  cases(show v=.bool b from x);cases k' with
  |aH=>cases(show Value.bool b=.none from y)
  |bl c=>cases(show Value.bool b=.bool c from y);rfl
  |int i=>let⟨t,e⟩:=y;cases e
  |str i=>let⟨t,e⟩:=y;cases e
  |tup ks=>let⟨_,_,_,_,e,_⟩:=y;cases e
 |.int b,k',v,x,y=>by
  let⟨t,rfl⟩:=x;cases k' with
  |aH=>cases y
  |bl c=>cases y
  |int i=>let⟨t,e⟩:=y;cases e;rfl
  |str i=>let⟨t,e⟩:=y;cases e
  |tup ks=>let⟨_,_,_,_,e,_⟩:=y;cases e
 |.str b,k',v,x,y=>by
  let⟨t,rfl⟩:=x;cases k' with
  |aH=>cases y
  |bl c=>cases y
  |int i=>let⟨t,e⟩:=y;cases e
  |str i=>let⟨t,e⟩:=y;cases e;rfl
  |tup ks=>let⟨_,_,_,_,e,_⟩:=y;cases e
 |.tup ks,k',v,x,y=>by
  let⟨a,o,it,n,rfl,h1,h2,h3,h4⟩:=x;cases k' with
  |aH=>cases y
  |bl c=>cases y
  |int i=>let⟨t,e⟩:=y;cases e
  |str i=>let⟨t,e⟩:=y;cases e
  |tup ks'=>
   let⟨a',o',Fe,n',e,g1,g2,g3,g4⟩:=y;cases e;rw[h1]at g1;cases g1;rw[h3]at g3;injection g3 with e1 _
   subst e1;rw[Lw ks ks' h4 g4]
theorem Lw{h:Heap}:∀(ks ks':List Kx){vs:List Value},ik h ks vs->ik h ks' vs->ks=ks'
 |[],ks',vs,x,y=>by
  cases(show vs=[]from x);cases ks' with
  |nil=>rfl
  |cons k ks'=>let⟨v,r,e,_⟩:=y;cases e
 |k::ks,ks',vs,x,y=>by
  let⟨v,r,rfl,h1,h2⟩:=x;cases ks' with
  |nil=>cases(show v::r=[]from y)
  |cons k' ks'=>
   let⟨v',r',e,g1,g2⟩:=y;cases e;rw[Rj k k' h1 g1,Lw ks ks' h2 g2]
end
mutual
theorem PN{h h':Heap}(hk:∀a o,h.get? a=some o->o.cls=.type "tuple"->(∃it n,o.data=.seq it n)->h'.get? a=some o):∀(k:Kx){v:Value},qD h k v->qD h' k v
 |.aH,v,x=>x
 |.bl b,v,x=>x
 |.int b,v,x=>x
 |.str b,v,x=>x
 |.tup ks,v,x=>by
  let⟨a,o,it,n,rfl,h1,h2,h3,h4⟩:=x;exact⟨a,o,it,n,rfl,hk a o h1 h2 ⟨it,n,h3⟩,h2,h3,Pk hk ks h4⟩
theorem Pk{h h':Heap}(hk:∀a o,h.get? a=some o->o.cls=.type "tuple"->(∃it n,o.data=.seq it n)->h'.get? a=some o):∀(ks:List Kx){vs:List Value},ik h ks vs->ik h' ks vs
 |[],vs,x=>x
 |k::ks,vs,x=>by
  let⟨v,r,rfl,h1,h2⟩:=x;exact⟨v,r,rfl,PN hk k h1,Pk hk ks h2⟩
end
theorem ik.J:∀(ks:L Kx){vs:L e5},ik h ks vs->vs.J=ks.J
 |[],vs,x=>by cases(show vs=[]from x);rfl
 |k::ks,vs,x=>by
  let⟨v,r,rfl,h1,h2⟩:=x;rw[w0r,w0r,ik.J ks h2]
mutual
noncomputable def lG(w:World):Kx->Int
 |.aH=>PySem.W.hashW w.params .none
 |.bl b=>reduceHash (if b=true then 1 else 0)
 |.int i=>hashInt i
 |.str x=>hashStr w x
 |.tup ks=>reduceHash (Builtin.Tuple.tupleHashOf (iC w ks))
noncomputable def iC(w:World):List Kx->List Int
 |[]=>[]
 |k::ks=>lG w k::iC w ks
end
mutual
noncomputable def l9:Kx->Nat
 |.tup ks=>â ks+1
 |_=>1
noncomputable def â:List Kx->Nat
 |[]=>0
 |k::ks=>l9 k+â ks
end
mutual
theorem Rk:∀(k:Kx)(v:Value)(A:Around)(s:Shared)(Q:Int->Shared->Prop),qD s.heap k v->A.units+k.depth<cLine->Q (lG w k) {s with toks:=s.toks+l9 k}->wpAny (model prog w) A (pyHash v) Q E s
 |.aH,v,A,s,Q,x,hu,h=>by
  cases(show v=.none from x);exact pyHash_slot (T:="NoneType") rfl F.slot_NoneType_hash F.entry_NoneType_hash (F.args_NoneType_hash_1 _) (beq_builtin_none _) (.inr (by omega)) (wpAny_bind (wpAny_pure (wpAny_bind (wpAny_mkInt (wpAny_pure ⟨_,_,rfl,h⟩)))))
 |.bl b,v,A,s,Q,x,hu,h=>by
  cases(show v=.bool b from x);refine pyHash_slot (T:="bool") rfl F.slot_bool_hash entry_int_hash (args_int_hash _) (beq_builtin_none _) (.inr (by omega)) ?_;cases b
  .exact(show wpAny _ _ (do ret (<- mkInt 0)) _ _ s from wpAny_bind (wpAny_mkInt (wpAny_pure ⟨_,_,rfl,h⟩)))
  .exact(show wpAny _ _ (do ret (<- mkInt 1)) _ _ s from wpAny_bind (wpAny_mkInt (wpAny_pure ⟨_,_,rfl,h⟩)))
 |.int i,v,A,s,Q,x,hu,h=>by
  let⟨t,rfl⟩:=x;exact wpAny_pyHash_int h
 |.str i,v,A,s,Q,x,hu,h=>by
  let⟨t,rfl⟩:=x;exact wpAny_pyHash_str h
 |.tup ks,v,A,s,Q,x,hu,h=>by
  let⟨a,o,it,n,rfl,h1,h2,h3,h4⟩:=x;refine pyHash_slot (T:="tuple") ⟨_,h1,h2⟩ F.slot_tuple_hash F.entry_tuple_hash (F.args_tuple_hash_1 _) (beq_builtin_none _) (.inr (by omega)) ?_;show wpAny _ _ (Builtin.Tuple.tupleItemsOf (.ref a) >>= _) _ _ s;refine wpAny_bind (wpAny_tupleItemsOf h1 h3 ?_);refine wpAny_bind ?_;rw[<- w3y];refine PQ ks it.toList A.in1 s #[] _ h4 (by simp only[Kx.depth,Around.in1_units]at hu |-;omega) λb hb=>?_
  show wpAny _ _ (retInt (Builtin.Tuple.tupleHashOf b.toList)) _ _ _;rw[hb];exact wpAny_bind (wpAny_mkInt (wpAny_pure ⟨_,_,rfl,by simpa [lG,l9,Nat.add_assoc]using h⟩))
theorem PQ:∀(ks:List Kx)(vs:List Value)(A:Around)(s:Shared)(b:Array Int)(Q:Array Int->Shared->Prop),ik s.heap ks vs->A.units+Kx.eF ks<cLine ->
  (∀b',b'.toList=b.toList++iC w ks->Q b' {s with toks:=s.toks+â ks}) ->
  wpAny (model prog w) A (forIn vs b λx r=>do let h <- pyHash x;pure PUnit.unit;pure (ForInStep.yield (r.push h))) Q E s
 |[],vs,A,s,b,Q,x,hu,h=>by
  cases(show vs=[]from x);exact wpAny_pure (h b (by simp[iC]))
 |k::ks,vs,A,s,b,Q,x,hu,h=>by
  let⟨v,r,rfl,h1,h2⟩:=x;simp only[Kx.eF]at hu;rw[w2n];refine wpAny_bind (wpAny_bind (Rk k v A s _ h1 (by omega) ?_));refine wpAny_bind (wpAny_pure (wpAny_pure ?_))
  exact PQ ks r A _ _ Q h2 (by omega) λb' hb=>by
   have:=h b' (by simp[hb,iC])
   simpa [â,Nat.add_assoc]using this
end
def Rl(a b):decide (Kx.bl a=Kx.bl b)=(a==b):=by
 grind
def y5s(a b):decide (Kx.d0 a=Kx.d0 b)=(a==b):=by
 grind
def y5t(a b):decide (Kx.str a=Kx.str b)=(a==b):=by
 grind
def ϶(ks ks':L Kx)(j:dt):fJ:=decide (ks[j]?=ks'[j]?)
def y5u:∀ks ks':L Kx,((L.so (min ks.J ks'.J)).oP (϶ ks ks')&&ks.J==ks'.J)=decide (Kx.ff ks=Kx.ff ks'):=by
 intro ks ks'
 by_cases e:ks=ks'
 .grind [϶]
 .rw[_e (λz=>e (by injection z))]
  rw[fJ.and_eq_false_iff]
  by_cases hl:ks.J=ks'.J
  .left
   rw[w4f];intro ha;refine e (L.zco λj=>?_)
   by_cases hj:j<ks.J
   .have:=w1l.mp ha j (w2e.rj (by omega));exact Φ this
   grind
  grind
theorem Gh:∀(ks:L Kx){vs:L e5},ik h ks vs->∀(j:dt)(v:e5),vs[j]?=O v->∃k,ks[j]?=O k/\qD h k v
 |[],vs,x,j,v,e=>by cases(show vs=[]from x);simp at e
 |k::ks,vs,x,j,v,e=>by
  let⟨u,r,rfl,h1,h2⟩:=x;cases j with
  |zc=>cases e;exact⟨k,rfl,h1⟩
  |zD j=>exact Gh ks h2 j v (by simpa using e)
theorem Le:∀(ks:L Kx)(j:dt)(k:Kx),ks[j]?=O k->k.oY<=Kx.eF ks
 |[],j,k,e=>by simp at e
 |x::ks,j,k,e=>by
  simp only[Kx.eF];cases j with
  |zc=>cases e;omega
  |zD j=>have:=Le ks j k (by simpa using e);omega
theorem Lf:∀(ks:L Kx)(ss:L Sh),sy ks ss->∀(j:dt)(k:Kx),ks[j]?=O k->∃s,ss[j]?=O s/\eX k s
 |[],ss,_,j,k,e=>by simp at e
 |x::ks,[],c,j,k,e=>c.ke
 |x::ks,s::ss,c,j,k,e=>by
  cases j with
  |zc=>cases e;exact⟨s,rfl,c.1⟩
  |zD j=>exact Lf ks ss c.2 j k (by simpa using e)
theorem Lg:∀(ks:L Kx)(s:Sh),pB ks s->∀(j:dt)(k:Kx),ks[j]?=O k->eX k s
 |[],s,_,j,k,e=>by simp at e
 |x::ks,s,c,j,k,e=>by
  cases j with
  |zc=>cases e;exact c.1
  |zD j=>exact Lg ks s c.2 j k (by simpa using e)
def UT(s:kx):∀(n:dt)(k k':Kx)(sh:Sh)(v v':e5)(A:tf),k.oY<=n->eX k sh->eX k' sh->qD s.d_ k v->qD s.d_ k' v'->A.r7+n<r_->vx.O9 A s v v' (decide (k=k')):=by
 intro n
 induction n with
 |zc=>
  intro k k' sh v v' A hd c c' x y hu;cases k with
  |aH=>
   cases sh with
   |ob=>
    cases k' with
    |aH=>cases(show v=.none from x);cases(show v'=.none from y);rw[_u rfl];exact .same _
    |bl b=>cases(show v=.none from x);cases(show v'=.rl b from y);rw[_e (λz=>nomatch z)];exact .đ b
    |_=>exact c'.ke
   |_=>exact c.ke
  |bl a=>
   cases sh with
   |ob=>
    cases k' with
    |aH=>cases(show v=.rl a from x);cases(show v'=.none from y);rw[_e (λz=>nomatch z)];exact .ü a
    |bl b=>cases(show v=.rl a from x);cases(show v'=.rl b from y);rw[Rl];exact .Ù a b
    |_=>exact c'.ke
   |bl=>
    cases k' with
    |bl b=>cases(show v=.rl a from x);cases(show v'=.rl b from y);rw[Rl];exact .Ù a b
    |_=>exact c'.ke
   |_=>exact c.ke
  |d0 a=>
   cases sh with
   |d0=>
    cases k' with
    |d0 b=>let⟨t,rfl⟩:=x;let⟨u,rfl⟩:=y;rw[y5s];exact .ĉ a t b u
    |_=>exact c'.ke
   |_=>exact c.ke
  |str a=>
   cases sh with
   |str=>
    cases k' with
    |str b=>let⟨t,rfl⟩:=x;let⟨u,rfl⟩:=y;rw[y5t];exact .Ġ a t b u
    |_=>exact c'.ke
   |_=>exact c.ke
  |ff ks=>simp only[Kx.oY]at hd;omega
 |zD n ih=>
  intro k k' sh v v' A hd c c' x y hu;cases k with
  |aH=>exact ih .aH k' sh v v' A (w1k _) c c' x y (by omega)
  |bl a=>exact ih (.bl a) k' sh v v' A (w1k _) c c' x y (by omega)
  |d0 a=>exact ih (.d0 a) k' sh v v' A (w1k _) c c' x y (by omega)
  |str a=>exact ih (.str a) k' sh v v' A (w1k _) c c' x y (by omega)
  |ff ks=>
   let⟨a,o,it,m,rfl,h1,h2,h3,h4⟩:=x
   have _O:∀ks',k'=.ff ks'->(∀(j:dt)(u u':Kx),ks[j]?=O u->ks'[j]?=O u'->∃s,eX u s/\eX u' s)->vx.O9 A s (.ei a) v' (decide (Kx.ff ks=k')):=by
    rintro ks' rfl hc;let⟨b,o',Fe,m',rfl,g1,g2,g3,g4⟩:=y
    by_cases vC:a=b
    .subst vC;rw[h1]at g1;cases g1;rw[h3]at g3;injection g3 with e1 _
     subst e1;rw[Lw ks ks' h4 g4,_u rfl];exact .same _
    .have l1:=ik.J ks h4;have l2:=ik.J ks' g4;rw[<- y5u]
     have:=vx._W.ű (A:=A) (s:=s) (e:=϶ ks ks') (show s.d_.VU a it from⟨o,h1,h2,m,h3⟩) (show s.d_.VU b Fe from⟨o',g1,g2,m',g3⟩) (by omega) (λj j1 j2=>by
      let⟨u,u1,u2⟩:=Gh ks h4 j it[j] (by simp[j1]);let⟨u',Pe,XF⟩:=Gh ks' g4 j Fe[j] (by simp[j2]);let⟨Xw,c1,c2⟩:=hc j u u' u1 Pe;have hdj:=Le ks j u u1;simp only[Kx.oY]at hd;have z:=ih u u' Xw _ _ A.Nx (by omega) c1 c2 u2 XF (by rw[tf.in1_units];omega)
      have e:϶ ks ks' j=decide (u=u'):=by
       unfold ϶;rw[u1,Pe]
       by_cases q:u=u'
       .rw[q];simp
       .rw[_e q,_e (λz=>q (fG.O.sE z))]
      rw[e];exact z)
     rw[show it.eG=ks.J by simpa using l1,show Fe.eG=ks'.J by simpa using l2]at this;exact .of_refs vC this
   cases sh with
   |ff ss=>
    cases k' with
    |ff ks'=>
     refine _O ks' rfl λj u u' e1 e2=>?_
     let⟨s1,q1,q2⟩:=Lf ks ss c j u e1;let⟨s2,q3,q4⟩:=Lf ks' ss c' j u' e2;rw[q1]at q3;cases q3;exact⟨s1,q2,q4⟩
    |_=>exact c'.ke
   |Υ s1=>
    cases k' with
    |ff ks'=>exact _O ks' rfl λj u u' e1 e2=>⟨s1,Lg ks s1 c j u e1,Lg ks' s1 c' j u' e2⟩
    |_=>exact c'.ke
   |_=>exact c.ke
def y5v:∀(n:dt)(k:Kx)(v:e5)(s:kx)(Q:fJ->kx->Prop),k.oY<=n->qD s.d_ k v->Q true s->kX (mG g_ w) A (eqIsQuiet n v) Q E s:=by
 intro n
 induction n with
 |zc=>
  intro k v s Q hd x h;cases k with
  |aH=>cases(show v=.none from x);rw[Κ _ rfl];exact oo h
  |bl b=>cases(show v=.rl b from x);rw[Κ _ rfl];exact oo h
  |d0 i=>let⟨t,rfl⟩:=x;rw[Κ _ rfl];exact oo h
  |str i=>let⟨t,rfl⟩:=x;rw[Κ _ rfl];exact oo h
  |ff ks=>simp only[Kx.oY]at hd;omega
 |zD n ih=>
  intro k v s Q hd x h;cases k with
  |aH=>cases(show v=.none from x);rw[Κ _ rfl];exact oo h
  |bl b=>cases(show v=.rl b from x);rw[Κ _ rfl];exact oo h
  |d0 i=>let⟨t,rfl⟩:=x;rw[Κ _ rfl];exact oo h
  |str i=>let⟨t,rfl⟩:=x;rw[Κ _ rfl];exact oo h
  |ff ks=>
   let⟨a,o,it,m,rfl,h1,h2,h3,h4⟩:=x;have hT:s.Zf (.ei a) "tuple":=⟨o,h1,h2⟩;unfold eqIsQuiet;refine i6 (Å hT F.slot_tuple_eq.fI ?_);show kX _ _ (ō (.ei a) (.hJ "tuple") >>= _) _ _ s;refine i6 (ĥ hT isSubtype_tuple_tuple ?_);simp only[fJ.not_true,w3i,_i];refine i6 (_o h1 h3 ?_);refine i6 ?_;show kX _ _ (Ϯ it _ _) _ _ s;rw[<- w3y];refine wpAny_forIn_list _ (λoM r s'=>r.1=none/\s'=s/\∀v∈oM,∃k:Kx,k.oY<=n/\qD s.d_ k v) _ ?_ ?_ _ _ ⟨rfl,rfl,λv hv=>?_⟩
   .rintro v oM r s' ⟨hr,rfl,vD⟩;let⟨k,k1,k2⟩:=vD v w0l;refine i6 (ih k v _ _ k1 k2 ?_);simp only[fJ.not_true,w3i,_i];exact oo ⟨rfl,rfl,λu Jc=>vD u (w0f _ Jc)⟩
   .rintro⟨r1,r2⟩ s' ⟨hr,rfl,_⟩;simp only at hr;subst hr;exact oo h
   .let⟨j,hj,e⟩:=L.mem_iff_getElem.mp hv;let⟨k,k1,k2⟩:=Gh ks h4 j v (by rw[w0a hj,e]);have:=Le ks j k k1;simp only[Kx.oY]at hd;exact⟨k,by omega,k2⟩
def d9(g_)(w)(sh:Sh):HeapKind g_ w Kx where
 is:=λh k a=>qD h k (.ei a)/\eX k sh/\k.oY<=7
 ZW:=lG w
 draws:=l9
 room:=λA=>A.r7+8<r_
 sE:=λhx hy=>Rj _ _ hx.1 hy.1
 AN:=λ{h h' k a d o es ep} x ho hd hs=>⟨PN (λb ob e1 e2 e3=>by
  have fY:b≠d:=by
   grind
  exact(hs.2 b fY).iD e1) _ x.1,x.2⟩
 pyHash:=λ{A E s k a Q} hu hk h=>Rk k _ A s Q hk.1 (by have:=hk.2.2;omega) h
 ń:=λ{A E s x y a b Q} hu hx hy h=>UT s 7 x y sh _ _ A hx.2.2 hx.2.1 hy.2.1 hx.1 hy.1 (by omega) g_ w E Q h
 quiet:=λ{A E s k a Q} hk h=>y5v 8 k _ s Q (by have:=hk.2.2;omega) hk.1 h
set_option Elab.async false
set_option linter.all false
set_option maxRecDepth 100000
abbrev wB:=YL eW eh
def iE:wB->e5->fJ
 |.h8 k,v=>e5.isInt k v
 |.j' x,v=>e5.isStrOf x v
def Jq(w:pT):wB->eW
 |.h8 k=>hashInt k
 |.j' x=>hashStr w x
theorem bf:∀{k:wB}{v:e5},iE k v=true->(∃i t,k=YL.h8 i/\v=e5.d0 i t)\/(∃x t,k=YL.j' x/\v=e5.str x t)
 |.h8 i,v,h=>by
  let⟨t,e⟩:=e5.isInt_shape (k:=i) (v:=v) h;exact .h8 ⟨i,t,rfl,e⟩
 |.j' x,v,h=>by
  let⟨t,e⟩:=e5.isStrOf_shape (x:=x) (v:=v) h;exact .j' ⟨x,t,rfl,e⟩
def zba(i)(t):iE (.h8 i) (.d0 i t)=true:=by simp[iE,e5.isInt]
def za3(x)(t):iE (.j' x) (.str x t)=true:=by simp[iE,e5.isStrOf]
def z6j(a b):decide ((YL.h8 a:wB)=YL.h8 b)=(a==b):=by
 grind
def z6k(a b):decide ((YL.j' a:wB)=YL.j' b)=decide (a=b):=by
 grind
theorem z6l(a)(b):decide ((YL.h8 a:wB)=YL.j' b)=false:=_e (λq=>nomatch q)
theorem z6m(a)(b):decide ((YL.j' a:wB)=YL.h8 b)=false:=_e (λq=>nomatch q)
def cU(g_:qM)(w:pT):kd.KeyKind g_ w wB where
 is:=iE
 ZW:=Jq w
 sE:=λv a b ha hb=>by
  rcases bf ha with⟨i,t,rfl,rfl⟩|⟨x,t,rfl,rfl⟩
  .rcases bf hb with⟨j,u,rfl,e⟩|⟨y,u,rfl,e⟩
   .injection e with e1 _;rw[e1]
   .exact nomatch e
  .rcases bf hb with⟨j,u,rfl,e⟩|⟨y,u,rfl,e⟩
   .exact nomatch e
   .injection e with e1 _;rw[e1]
 byValue:=λk v h=>by
  rcases bf h with⟨i,t,rfl,rfl⟩|⟨x,t,rfl,rfl⟩<;>rfl
 pyHash:=λhv h=>by
  rcases bf hv with⟨i,t,rfl,rfl⟩|⟨x,t,rfl,rfl⟩
  .exact wpAny_pyHash_int h
  .exact wpAny_pyHash_str h
 ń:=λhu hv h=>by
  rcases bf hu with⟨i,t,rfl,rfl⟩|⟨x,t,rfl,rfl⟩
  .rcases bf hv with⟨j,u,rfl,rfl⟩|⟨y,u,rfl,rfl⟩
   .rw[z6j]at h;exact wpAny_eqBool_int h
   .rw[z6l]at h;exact vx.O9.Ċ i t y u _ _ _ _ h
  .rcases bf hv with⟨j,u,rfl,rfl⟩|⟨y,u,rfl,rfl⟩
   .rw[z6m]at h;exact vx.O9.ğ x t j u _ _ _ _ h
   .rw[z6k]at h;exact wpAny_eqBool_str h
 «strs»:=λk x t v h=>by
  rcases bf h with⟨i,u,rfl,e⟩|⟨y,u,rfl,e⟩
  .exact nomatch e
  .injection e with e1 _
   subst e1;cases v<;>rfl
theorem Y2(g_)(w)(i)(t):(cU g_ w).is (.h8 i) (.d0 i t)=true:=zba i t
theorem Y3(g_)(w)(x)(t):(cU g_ w).is (.j' x) (.str x t)=true:=za3 x t
set_option genInjectivity true in
inductive V where
 |aH|bl (b:fJ)|d0 (i:eW)|str (x:eh)|wX (b:tP UInt8)|qN (b:UInt64)|ei (a:fh)|ty (n:ET)
 deriving θ
variable{xs:L V}{v:V}
def ot:V->e5->Prop
 |.aH,u=>u=e5.none
 |.bl b,u=>u=e5.rl b
 |.d0 i,u=>∃t,u=e5.d0 i t
 |.str x,u=>∃t,u=e5.str x t
 |.wX b,u=>∃t,u=e5.bytes b t
 |.qN b,u=>∃t,u=e5.float b t
 |.ei a,u=>u=e5.ei a
 |.ty n,u=>u=e5.hJ n
abbrev oK:L V->L e5->Prop:=YZ ot
theorem oK.J(r:oK xs us):xs.J=us.J:=YZ.J r
theorem oK.BX:∀{xs:L V}{us:L e5}{i:dt}{x:V},oK xs us->xs[i]?=O x->∃u,us[i]?=O u/\ot x u
 |_,_,_,_,.m8,e=>by simp at e
 |_,_,0,_,.m6 r _,e=>by simp at e;subst e;exact⟨_,rfl,r⟩
 |_,_,i+1,x,.m6 _ t,e=>by
  let⟨u,h1,h2⟩:=oK.BX (i:=i) (x:=x) t (by simpa using e);exact⟨u,by simpa using h1,h2⟩
theorem oK.my{x:V}(r:ot x u):∀{xs:L V}{us:L e5}(i:dt),oK xs us->oK (xs.my i x) (us.my i u)
 |_,_,_,.m8=>.m8
 |_,_,0,.m6 _ t=>.m6 r t
 |_,_,i+1,.m6 q t=>.m6 q (oK.my r i t)
theorem oK.N':∀{xs ys:L V}{us ws:L e5},oK xs us->oK ys ws->oK (xs++ys) (us++ws)
 |_,_,_,_,.m8,s=>s
 |_,_,_,_,.m6 r t,s=>.m6 r (oK.N' t s)
theorem oK.n5:∀{xs:L V}{us:L e5}(n:dt),oK xs us->oK (xs.n5 n) (us.n5 n)
 |_,_,0,_=>.m8
 |_,_,_+1,.m8=>.m8
 |_,_,n+1,.m6 r t=>.m6 r (oK.n5 n t)
theorem oK.m9:∀{xs:L V}{us:L e5}(n:dt),oK xs us->oK (xs.m9 n) (us.m9 n)
 |_,_,0,r=>r
 |_,_,_+1,.m8=>.m8
 |_,_,n+1,.m6 _ t=>oK.m9 n t
def kU:fG V->fG e5->Prop
 |O v,O u=>ot v u
 |none,none=>w7
 |_,_=>pV
def KV{κ:Type}:L (κ×V)->L (κ×e5)->Prop:=YZ fun(p:κ×V) (q:κ×e5)=>p.1=q.1/\ot p.2 q.2
def kV:wB->V
 |.h8 i=>.d0 i
 |.j' x=>.str x
inductive HO where
 |fy (xs:L V)
 |ff (xs:L V)
 |dK (kvs:L (wB×V))|dT (sh:Sh) (kvs:L (Kx×V)) (bC:L fh)
 |my (S:eW->fJ) (n:dt)
 |f' (C dx:fh) (fs:L (eh×V))
 |gD (x:fh)
 |xd (fs:L (eh×V))
 |met (f x:fh)
 |LM (lo hi:eW)
 |jn (o:nU) (u:HO)
 |qy (ps:tP e5)
 |ext (φ:fH->Prop)
abbrev Hp:=fh->fG HO
variable{H H':Hp}
def gq:HO->Prop
 |.ff _=>w7
 |.jn _ (.ff _)=>w7
 |.jn _ (.gD _)=>w7
 |_=>pV
mutual
noncomputable def cx(H:Hp):Kx->V->Prop
 |.aH,v=>v=.aH
 |.bl b,v=>v=.bl b
 |.int i,v=>v=.int i
 |.str x,v=>v=.str x
 |.tup ks,v=>∃a xs,v=.ref a/\(H a=some (.tup xs)\/∃o,H a=some (.jn o (.tup xs)))/\fu H ks xs
noncomputable def fu(H:Hp):List Kx->List V->Prop
 |[],vs=>vs=[]
 |k::ks,vs=>∃v r,vs=v::r/\cx H k v/\fu H ks r
end
mutual
theorem cx.keeps{H H':Hp}(ht:∀b u,gq u->H b=some u->H' b=some u):∀(k:Kx){v:V},cx H k v->cx H' k v
 |.aH,_,x=>x
 |.bl _,_,x=>x
 |.int _,_,x=>x
 |.str _,_,x=>x
 |.tup ks,_,x=>by
  let⟨a,xs,e,q,r⟩:=x;refine⟨a,xs,e,?_,fu.keeps ht ks r⟩;rcases q with q|⟨o,q⟩
  .exact .inl (ht _ _ True.intro q)
  .exact .inr ⟨o,ht _ _ True.intro q⟩
theorem fu.keeps{H H':Hp}(ht:∀b u,gq u->H b=some u->H' b=some u):∀(ks:List Kx){vs:List V},fu H ks vs->fu H' ks vs
 |[],_,x=>x
 |k::ks,_,x=>by
  let⟨v,r,e,h1,h2⟩:=x;exact⟨v,r,e,cx.keeps ht k h1,fu.keeps ht ks h2⟩
end
def l5(H:Hp)(a:fh)(o:HO):Hp:=λb=>if b=a then O o else H b
def cI:l5 H a o a=O o:=by simp_all [l5]
def bg(h:b≠a):l5 H a o b=H b:=by unfold l5;rw[kl h]
def z0u{o u:HO}:l5 (l5 H a o) a u=l5 H a u:=by
 funext b;unfold l5;split<;>rfl
def qr{u:HO}(h:H a=O o)(h':H b=O u)(d:o≠u):a≠b:=by
 grind
def gQ(h:H a=O o)(h':H b=none):a≠b:=by
 grind
section
variable(P:qM)(w:pT)
def BD(h:fH)(a:fh):Prop:=∃o,h.f6 a=O o/\o.qZ=none
def bh(H:Hp)(h:fH)(a:fh):HO->Prop
 |.fy xs=>xs.J<=pg/\∃(aC:L e5)(n:dt),oK xs aC/\h.f6 a=O {ie:=.hJ "list", lg:=.mx aC.ky n}
 |.ff xs=>xs.J<=pg/\∃aC:L e5,oK xs aC/\YY h a aC.ky/\BD h a
 |.dK kvs=>kvs.J<=pg/\(a==ZZ)=false/\∃vs,KV kvs vs/\h.Ϛ (cU P w) a vs
 |.dT sh kvs bC=>kvs.J<=pg/\(a==ZZ)=false/\∃xs:L (Kx×fh×e5),
   YZ (fun(p:Kx×V) (q:Kx×fh×e5)=>p.1=q.1/\(cx H p.1 (.ei q.2.1)/\eX p.1 sh/\p.1.oY<=7)/\ot p.2 q.2.2) kvs xs/\xs.ej (·.2.1)=bC /\
   ∃o es ep,h.f6 a=O o/\o.Ż/\o.lg=.qZ es ep/\es.n9=xs.ej (entryOfKey (d9 P w sh))/\(xs.ej (·.1)).p9
 |.my S n=>h.SetOf (intKind P w) a S n
 |.f' C dx fs=>H dx=O (.gD a)/\fs.J<=1000/\dx≠a/\h.f6 a=O (kd.W.instObj C dx) /\
   ∃mA,h.Ns1 dx mA/\(∀f,kU (fs.fI f) (mA f))/\kd.Within mA (fs.ej (·.1))
 |.gD _=>∃o,h.f6 a=O o
 |.xd fs=>∃mA,h.Ns1 a mA/\∀f,kU (fs.fI f) (mA f)
 |.LM lo hi=>∃t u v,h.f6 a=O {ie:=.hJ "range", lg:=.x6 #[.d0 lo t,.d0 hi u,.d0 1 v]}
 |.jn o u=>h.f6 a=O o/\bh H h a u
 |.qy ps=>(∃(q:eh)(qs:tP e5),ps[0]?=O (.rl true)/\ps[1]?=O (.str q 0)/\h.f6 a=O {ie:=.none,lg:=.x6 qs}/\ı qs.n9/\∀(fZ:qY)(cv:e5),ϩ fZ qs.n9=O cv ->
   ∃(c:fh)(oc:nU)(vs:tP e5)(t:Z8),cv=.ei c/\H c=O (.jn oc (.gD 0))/\oc.lg=.x6 vs/\vs[1]?=O (.str q t)) \/
   ∃(q:eh)(c:fh)(oc ob:nU)(vs:tP e5)(t:Z8),ps[0]?=O (.rl false)/\ps[1]?=O (.str q 0)/\ps[2]?=O (.ei c)/\H c=O (.jn oc (.gD 0))/\oc.lg=.x6 vs/\vs[1]?=O (.str q t)/\h.f6 a=O ob
 |.met f x=>h.f6 a=O (Œ (.ei f) (.ei x))
 |.ext φ=>φ h/\(∃o,h.f6 a=O o)/\∀h1 h2:fH,φ h1->(∀o,h1.f6 a=O o->h2.f6 a=O o)->φ h2
def dD(H:Hp)(h:fH):Prop:=∀a o,H a=O o->bh P w H h a o
end
section
variable{P:qM}{o:HO}
def bh.BX(x:bh P w H h a o):∃ob,h.f6 a=O ob:=by
 cases o with
 |fy xs=>let⟨_,_,_,_,e⟩:=x;exact⟨_,e⟩
 |ff xs=>let⟨_,_,_,p,_⟩:=x;let⟨o,e,_⟩:=p;exact⟨o,e⟩
 |dK kvs=>let⟨_,_,_,_,o,_,_,e,_⟩:=x;exact⟨_,e⟩
 |dT sh kvs bC=>let⟨_,_,_,_,_,o,_,_,e,_⟩:=x;exact⟨_,e⟩
 |my S n=>let⟨o,_,_,_,e,_⟩:=x;exact⟨_,e⟩
 |f' C dx fs=>let⟨_,_,_,e,_⟩:=x;exact⟨_,e⟩
 |gD y=>let⟨_,e⟩:=x;exact⟨_,e⟩
 |xd fs=>let⟨_,⟨_,_,_,e,_⟩,_⟩:=x;exact⟨_,e⟩
 |LM lo hi=>let⟨_,_,_,e⟩:=x;exact⟨_,e⟩
 |jn ob u=>let⟨e,_⟩:=x;exact⟨_,e⟩
 |qy ps=>rcases x with⟨_,_,_,_,e,_⟩|⟨_,_,_,_,_,_,_,_,_,_,_,_,e⟩<;>exact⟨_,e⟩
 |met f y=>exact⟨_,(show h.f6 a=O _ from x)⟩
 |ext φ=>let⟨_,⟨_,e⟩,_⟩:=x;exact⟨_,e⟩
def bh.lt(x:bh P w H h a o):a<h.e6.eG:=by
 let⟨_,e⟩:=x.BX;exact fH.sf e
theorem YZ.zE{α β:Type}{F G:α->β->Prop}:∀{CW:L α}{CY:L β},YZ F CW CY->(∀a b,F a b->G a b)->YZ G CW CY
 |_,_,.m8,_=>.m8
 |_,_,.m6 r t,f=>.m6 (f _ _ r) (YZ.zE t f)
def bh.fK(x:bh P w H h a o)(k:∀b u,(b=a\/H b=O (.gD a))->h.f6 b=O u->h'.f6 b=O u)
  (ho:∀b,H b=O (.gD a)->H' b=O (.gD a))(ht:∀b u,gq u->H b=O u->H' b=O u):bh P w H' h' a o:=by
 induction o with
 |fy xs=>let⟨z,aC,n,r,e⟩:=x;exact⟨z,aC,n,r,k _ _ (.h8 rfl) e⟩
 |ff xs=>let⟨z,aC,r,⟨ob,e,c⟩,⟨o2,e2,c2⟩⟩:=x;exact⟨z,aC,r,⟨ob,k _ _ (.h8 rfl) e,c⟩,⟨o2,k _ _ (.h8 rfl) e2,c2⟩⟩
 |dK kvs=>let⟨z,y,vs,r,ob,es,ep,e,c⟩:=x;exact⟨z,y,vs,r,ob,es,ep,k _ _ (.h8 rfl) e,c⟩
 |dT sh kvs bC=>
  let⟨z,y,xs,r,ka,ob,es,ep,e,c⟩:=x;exact⟨z,y,xs,YZ.zE r λp q z=>⟨z.1,⟨cx.AN ht _ z.2.1.1,z.2.1.2⟩,z.2.2⟩,ka,ob,es,ep,k _ _ (.h8 rfl) e,c⟩
 |my S n=>let⟨ob,es,ep,t,e,c⟩:=x;exact⟨ob,es,ep,t,k _ _ (.h8 rfl) e,c⟩
 |f' C dx fs=>
  let⟨d,z,ne,e,mA,⟨od,es,ep,e2,c⟩,r⟩:=x;exact⟨ho _ d,z,ne,k _ _ (.h8 rfl) e,mA,⟨od,es,ep,k _ _ (.j' d) e2,c⟩,r⟩
 |gD y=>let⟨ob,e⟩:=x;exact⟨ob,k _ _ (.h8 rfl) e⟩
 |xd fs=>let⟨mA,⟨od,es,ep,e,c⟩,r⟩:=x;exact⟨mA,⟨od,es,ep,k _ _ (.h8 rfl) e,c⟩,r⟩
 |LM lo hi=>let⟨t,u,v,e⟩:=x;exact⟨t,u,v,k _ _ (.h8 rfl) e⟩
 |jn ob u ih=>let⟨e,q⟩:=x;exact⟨k _ _ (.h8 rfl) e,ih q⟩
 |qy ps=>
  rcases x with⟨q,qs,p0,p1,e,tr,cd⟩|⟨q,c,oc,ob,vs,t,p0,p1,p2,h3,h4,h5,e⟩
  .refine .h8 ⟨q,qs,p0,p1,k _ _ (.h8 rfl) e,tr,λfZ cv z=>?_⟩
   let⟨c,oc,vs,t,h1,h3,h4,h5⟩:=cd fZ cv z;exact⟨c,oc,vs,t,h1,ht _ _ w7.intro h3,h4,h5⟩
  .exact .j' ⟨q,c,oc,ob,vs,t,p0,p1,p2,ht _ _ w7.intro h3,h4,h5,k _ _ (.h8 rfl) e⟩
 |met f y=>
  have e:h.f6 a=O (Œ (.ei f) (.ei y)):=x;show h'.f6 a=O (Œ (.ei f) (.ei y));exact k a _ (.h8 rfl) e
 |ext φ=>let⟨p,⟨o,e⟩,st⟩:=x;exact⟨st _ _ p λo q=>k _ _ (.h8 rfl) q,⟨o,k _ _ (.h8 rfl) e⟩,st⟩
theorem dD.lt(x:dD P w H h)(e:H a=O o):a<h.e6.eG:=(x a o e).lt
def dD.u3(x:dD P w H h)(e:h.e6.eG<=a):H a=none:=by
 cases q:H a with
 |none=>rfl
 |O u=>exact nS (w1a (x.lt q) e) (w2h _)
theorem dD.NK(x:dD P w H h)(k:∀b u,h.f6 b=O u->h'.f6 b=O u):dD P w H h':=λa o e=>
 (x a o e).fK (λb u _ q=>k b u q) (λ_ q=>q) λ_ _ _ q=>q
theorem dD.wg(x:dD P w H h)(k:∀b u,h.f6 b=O u->h'.f6 b=O u)(hp:h.e6.eG<=a)(rZ:bh P w (l5 H a o) h' a o):dD P w (l5 H a o) h':=λb u e=>by
 have hn:=x.u3 hp
 by_cases hb:b=a
 .grind [cI]
 .rw[bg hb]at e;exact(x b u e).fK (λc v _ q=>k c v q) (λc q=>by rw[bg (gQ q hn)];exact q) λc xs _ q=>by rw[bg (gQ q hn)];exact q
end
def Rd(H:Hp)(a:fh)(u:HO):Prop:=H a=O u\/∃o,H a=O (.jn o u)
def Rd.ok{u:HO}(r:Rd H a u)(x:dD P w H h):bh P w H h a u:=by
 rcases r with r|⟨o,r⟩
 .exact x a u r
 .let⟨_,q⟩:=x a _ r;exact q
def BO:fG HO->Prop
 |O (.fy _)=>w7
 |O (.dK _)=>w7
 |O (.dT _ _ _)=>w7
 |O (.my _ _)=>w7
 |O (.f' _ _ _)=>w7
 |O (.ext _)=>w7
 |_=>pV
section
variable{P:qM}{x e:fh}{o':HO}
theorem dD._Q(ok:dD P w H h)(mu:BO (H x))(he:e=x\/H e=O (.gD x))(k:∀b u,b≠e->h.f6 b=O u->h'.f6 b=O u)(vF:∃u,h'.f6 e=O u)
  (rZ:bh P w (l5 H x o') h' x o'):dD P w (l5 H x o') h':=λb u q=>by
 have JM:∀c y,H c=O (.gD y)->c≠x:=λc y r z=>by subst z;rw[r]at mu;exact mu
 have zfk:∀c u,gq u->H c=O u->c≠x:=λc u t r z=>by
  subst z;rw[r]at mu;cases u<;>first|exact mu|exact t
 by_cases hb:b=x
 .grind [cI]
 .rw[bg hb]at q
  by_cases NS:b=e
  .have q':H b=O (.gD x):=by
    grind
   rw[q]at q';cases q';let⟨v,hv⟩:=vF;exact⟨v,by rw[NS];exact hv⟩
  .refine(ok b u q).fK (λc v hc r=>k c v ?_ r) (λc r=>by grind [bg]) λc xs t r=>by grind [bg]
   rcases hc with rfl|hc
   .exact NS
   .rintro rfl;rcases he with z|z
    .exact JM c b hc z
    .rw[hc]at z;cases z;exact hb rfl
end
structure Un(fs ex:L fh)(H H':Hp)(h h':fH):Prop where
 pU:∀b o,h.f6 b=O o->H b=none->b∉fs->b∉ex->h'.f6 b=O o
 r5:∀b o,h.f6 b=O o->H b=none->b∈fs->b∉ex->∃sl,h'.f6 b=O {o with zx:=sl}
 nL:∀b o,h.f6 b=O o->H b=none->b∉ex->H' b=none
 WE:∀b o,h.f6 b=O o->b∉ex->∃o',h'.f6 b=O o'
 gj:∀b xs,H b=O (.ff xs)->H' b=O (.ff xs)
 bt:∀b o u,H b=O (.jn o u)->H' b=O (.jn o u)
 eU:∀b ps,H b=O (.qy ps)->∃EY,H' b=O (.qy (ps++EY))
section
variable{fs yG ex NI:L fh}{H1 H2:Hp}{h1 h2:fH}{x e:fh}{o:HO}
def Un.pX(u:Un fs ex H H1 h h1)(q:h.f6 b=O ob)(n:H b=none)(hx:b∉ex):∃sl,h1.f6 b=O {ob with zx:=sl}:=by
 by_cases hb:b∈fs
 .exact u.r5 b ob q n hb hx
 .exact⟨ob.zx,u.pU b ob q n hb hx⟩
theorem Un.NK(k:∀b u,h.f6 b=O u->h'.f6 b=O u):Un fs ex H H h h':=
 ⟨λb ob q _ _ _=>k b ob q,λb ob q _ _ _=>⟨ob.zx,k b ob q⟩,λ_ _ _ n _=>n,λb ob q _=>⟨ob,k b ob q⟩,λ_ _ q=>q,λ_ _ _ q=>q,λ_ ps q=>⟨#[],by rw[q];simp⟩⟩
theorem Un.oQ:Un fs ex H H h h:=Un.NK λ_ _ q=>q
theorem Un.wg(k:∀b u,h.f6 b=O u->h'.f6 b=O u)(hp:h.e6.eG<=a)(hn:H a=none):Un fs ex H (l5 H a o) h h' where
 pU:=λb u q _ _ _=>k b u q
 r5:=λb u q _ _ _=>⟨u.zx,k b u q⟩
 nL:=λb u q n _=>by rw[bg (w0y (w1a (fH.sf q) hp))];exact n
 WE:=λb u q _=>⟨u,k b u q⟩
 gj:=λb xs q=>by rw[bg (gQ q hn)];exact q
 bt:=λb u xs q=>by rw[bg (gQ q hn)];exact q
 eU:=λb ps q=>⟨#[],by rw[bg (gQ q hn),q];simp⟩
def Un._Q(mu:BO (H x))(he:e=x\/H e=O (.gD x))(k:∀b u,b≠e->h.f6 b=O u->h'.f6 b=O u)(vF:∃u,h'.f6 e=O u):Un fs ex H (l5 H x o) h h':=by
 have hx:∀b,H b=none->b≠x:=λb n z=>by subst z;rw[n]at mu;exact mu
 have hb:∀b,H b=none->b≠e:=λb n z=>by
  grind
 have hm:∀b u,H b=O u->¬BO (O u)->b≠x:=λb u q nm z=>by grind
 refine⟨λb u q n _ _=>k b u (hb b n) q,λb u q n _ _=>⟨u.zx,k b u (hb b n) q⟩,λb u q n _=>by grind [bg],λb u q _=>?_,
  λb xs q=>by rw[bg (hm b _ q λz=>z)];exact q,λb u xs q=>by rw[bg (hm b _ q λz=>z)];exact q,λb ps q=>⟨#[],by rw[bg (hm b _ q λz=>z),q];simp⟩⟩
 grind
end
def ph(h:fH)(H:Hp):L fh:=(L.so h.e6.eG).Tn λa=>(H a).sG
def gZ(h:fH)(H:Hp):fH:=kd.W.hideAll h (ph h H)
theorem PR(h)(H):(gZ h H).e6.eG=h.e6.eG:=kd.W.hideAll_size _ _
theorem Qz(e:h.f6 b=O o)(n:H b=none):(gZ h H).f6 b=O o:=
 Ĉ _ e λhm=>by
  have q:(H b).sG=true:=(L.mem_filter.mp hm).2;rw[n]at q;simp at q
def Rm(e:(gZ h H).f6 b=O o):h.f6 b=O o/\H b=none:=by
 have e':h.f6 b=O o:=kd.W.of_hideAll (ph h H) e;refine⟨e',?_⟩;cases q:H b with
 |none=>rfl
 |O x=>
  grind [ph,fH.sf,gZ,W.hideAll_none]
def zd4(g h:fH)(ar:fh):L (fh×nU):=(L.so h.e6.eG).Λ λa=>if a=ar\/(g.f6 a).sG=true then none else(h.f6 a).ej λo=>(a,o)
def oM(g h:fH)(ar d:fh):L (fh×nU):=(zd4 g h ar).Tn λp=>decide (p.1≠d)
structure _T(K:Fg)(mg:eh->fG e5)(g0:fH):Prop where
 uX:K.In g0
 YT:g0.Ns EO mg
 _E:∃mb,g0.Ns ϧ mb/\∀x:eh,x≠"__name__"->mb x=_a x
 ϴ:g0.Ϟ
structure Cx where
 g_:qM
 w:pT
 K:Fg
 mg:eh->fG e5
 g0:fH
 A:tf
 N:L eh
 aB:kx
 aI:Hp
 el:tY
 l4:L tY
 zf:L tY
 ex:L fh
 fn:eh->fJ
 wK:fJ
 pn:L (fh×nU)
 xe:e5->kx->Prop
variable{X:Cx}
def fV(l:L tY):L fh:=l.Λ (·.Μ)
abbrev Cx.fs(X:Cx):L fh:=fV X.l4
def jy(sc:vP)(x:eh):Prop:=sc.lH.fI x=O .local\/sc.lH.fI x=O .mZ\/sc.lH.fI x=O .nL
def WH(sc:vP)(x:eh):Prop:=sc.lH.fI x=O .local\/sc.lH.fI x=O .mZ
def Look(el:tY)(h:fH)(m:eh->fG e5)(x:eh)(u:e5):Prop:=
 (el.vW x=O .local/\m x=O u)\/((el.vW x=O .mZ\/el.vW x=O .nL)/\∃c,el.tO.fI x=O c/\h.ZS c (O u))
abbrev iF(P:fh)(q:eh):nU:={ie:=.str q 0,lg:=.x6 #[.ei P]}
def gJ(K:Fg)(H:Hp):Prop:=∀(a:fh)(q:eh)(P:fh),(a,iF P q)∈K->∃ps:tP e5,H P=O (.qy ps)/\ps[0]?=O (.rl true)/\ps[1]?=O (.str q 0)
def hV(K:Fg):fJ:=K.oP λp=>match p.2.ie with
 |.str _ _=>false
 |_=>true
theorem gJ.XM(h:hV K=true):gJ K H:=λa q P m=>by
 have:=w1l.mp h _ m;cases this
theorem gJ.un{fs ex:L fh}{h':fH}(t:gJ K H)(u:Un fs ex H H' h h'):gJ K H':=λa q P m=>by
 let⟨ps,e,p0,p1⟩:=t a q P m;let⟨EY,e'⟩:=u.eU P ps e;refine⟨_,e',?_,?_⟩
 .rw[w2k (by let⟨z,_⟩:=w2v.mp p0;exact z)];exact p0
 .rw[w2k (by let⟨z,_⟩:=w2v.mp p1;exact z)];exact p1
theorem gJ.wg(t:gJ K H)(hn:H D=none):gJ K (l5 H D o):=λa q P m=>by
 let⟨ps,e,p⟩:=t a q P m;exact⟨ps,by rw[bg (gQ e hn)];exact e,p⟩
structure Cx.Ok(X:Cx):Prop where
 yl:_T X.K X.mg X.g0
 sP:X.el.fj.sP=.Zc
 YT:X.el.υ=EO
 _E:X.el.Η=ϧ
 YM:X.aB.d_.e6.eG<=X.el.EU
 sE:∀x y c,X.el.tO.fI x=O c->X.el.tO.fI y=O c->x=y
 Yk:∀x,(X.el.vW x=O .mZ\/X.el.vW x=O .nL)->∃c,X.el.tO.fI x=O c
 wZ:∀x c,X.fn x=true->X.el.tO.fI x=O c->X.aB.d_.e6.eG<=c
 hd:X.wK=true->X.A.Nr=none
 Yu:X.A.Yu=O X.zf
 BB:X.zf=X.l4\/(X.zf=X.el::X.l4/\X.el.Μ=O X.el.EU)
 xc:∀b∈X.ex,b≠X.el.EU/\∀x c,X.el.tO.fI x=O c->c≠b
 bs:∀b o,X.g0.f6 b=O o->X.aB.d_.f6 b=O o/\X.aI b=none
 om:X.g0.e6.eG<=X.aB.d_.e6.eG
 oW:∀b o,X.g0.f6 b=O o->b∉X.ex
 mT:∀b∈X.ex,b∉X.fs
 e_:X.aB.d_.μ X.g0 X.l4
 pK:∀b∈X.fs,X.aI b=none
 YV:gJ X.K X.aI
structure g8(X:Cx)(eS:L (fh×nU))(σ:L (fG V))(H:Hp)(s:kx):Prop where
 ok:X.Ok
 os:s.os=X.aB.os
 wC:ZP s.Yw
 g0:Un X.fs X.ex X.aI H X.aB.d_ s.d_
 T4:∃m,s.d_.Ns X.el.EU m/\∀(i:dt)(x:eh)(v:V),X.N[i]?=O x->σ[i]?=O (O v)->jy X.el.fj x->∃u,ot v u/\Look X.el s.d_ m x u
 mZ:∀x c,X.el.tO.fI x=O c->∃v,s.d_.ZS c v
 nL:H X.el.EU=none
 dq:∀x c,X.el.tO.fI x=O c->H c=none
 OB:∀p∈X.pn++eS,s.d_.f6 p.1=O p.2/\H p.1=none/\p.1≠X.el.EU/\p.1∉X.fs/\∀v,p.2.lg≠.mZ v
 aR:dD X.g_ X.w H s.d_
 oO:σ.J=X.N.J
section
variable{σ:L (fG V)}
theorem Cx.Ok.JK(ok:X.Ok)(e:X.g0.f6 b=O o):b∉X.fs:=λhb=>by
 have:=(ok.e_.YD hb).1
 grind
theorem g8.bs(I:g8 X eS σ H s):∀b o,X.g0.f6 b=O o->s.d_.f6 b=O o/\H b=none:=λb o e=>
 ⟨I.g0.pU b o (I.ok.bs b o e).1 (I.ok.bs b o e).2 (I.ok.JK e) (I.ok.oW b o e),I.g0.nL b o (I.ok.bs b o e).1 (I.ok.bs b o e).2 (I.ok.oW b o e)⟩
theorem g8.bk(I:g8 X eS σ H s):∀b o,X.g0.f6 b=O o->s.d_.f6 b=O o:=λb o e=>(I.bs b o e).1
theorem g8.yl(I:g8 X eS σ H s):_T X.K X.mg X.g0:=I.ok.yl
theorem g8.ko(I:g8 X eS σ H s):X.K.In s.d_:=I.ok.yl.uX.AN I.bk
theorem g8.fr(I:g8 X eS σ H s):∃m,Fr X.g0 X.el.EU s.d_ m:=
 let ⟨m,hn,_⟩:=I.T4
 ⟨m,hn,I.bk,w1d I.ok.om I.ok.YM⟩
theorem g8.lt(I:g8 X eS σ H s):X.el.EU<s.d_.e6.eG:=let ⟨_,hn,_⟩:=I.T4;hn.lt
theorem g8.sz(I:g8 X eS σ H s):X.aB.d_.e6.eG<=s.d_.e6.eG:=w1d I.ok.YM (w6p I.lt)
theorem g8.JL(I:g8 X eS σ H s)(h:s.d_.e6.eG<=a):a∉X.fs:=λhb=>by
 let⟨_,o,ho,_⟩:=I.ok.e_.YD hb
 exact nS (w1a (fH.sf ho) (w1d I.sz h)) (w2h _)
theorem g8.vw(I:g8 X eS σ H s):∀x c,X.el.tO.fI x=O c->c≠X.el.EU:=λx c e z=>by
 let⟨v,o,ho,hd⟩:=I.mZ x c e;let⟨m,⟨o',es,ep,vH,VR,_⟩,_⟩:=I.T4
 grind
def g8.e_(I:g8 X eS σ H s):s.d_.μ X.g0 X.l4:=by
 have oP:∀(l:L tY),(∀b∈fV l,b∈X.fs)->X.aB.d_.μ X.g0 l->s.d_.μ X.g0 l:=by
  intro l
  induction l with
  |m8=>intro _ _;trivial
  |m6 el r ih=>
   intro hs hl;let⟨hk,⟨ar,o,hf,hn,ho,hd⟩,hr⟩:=hl;have hL:ar∈X.fs:=hs ar (by unfold fV;rw[w6g,hf];exact w0l);let⟨sl,e⟩:=I.g0.r5 ar o ho (I.ok.pK ar hL) hL λz=>I.ok.mT ar z hL
   exact⟨hk,⟨ar,_,hf,hn,e,hd⟩,ih (λb hb=>hs b (by unfold fV;rw[w6g,hf];exact w0f _ hb)) hr⟩
 exact oP X.l4 (λ_ hb=>hb) I.ok.e_
def g8.zf(I:g8 X eS σ H s):s.d_.μ X.g0 X.zf:=by
 rcases I.ok.BB with e|⟨e,hf⟩
 .rw[e];exact I.e_
 .rw[e];let⟨m,hn,_⟩:=I.T4;refine .m6 (by rw[I.ok.sP];decide) hf hn ?_ I.e_
  exact fH.zcH (w1d I.ok.om I.ok.YM)
theorem g8.mq(I:g8 X eS σ H s):∀b∈fV X.zf,b∈X.el.EU::X.fs:=λb hb=>by
 rcases I.ok.BB with e|⟨e,hf⟩
 all_goals grind [fV]
theorem g8.mn(I:g8 X eS σ H s):∀b∈fV X.zf,H b=none:=λb hb=>by
 rcases w0h.mp (I.mq b hb)with e|hb
 .rw[e];exact I.nL
 .let⟨_,o,ho,_⟩:=I.ok.e_.YD hb
  exact I.g0.nL b o ho (I.ok.pK b hb) λz=>I.ok.mT b z hb
def g8.YF{g':tP Ī}{d':Drawn}{ch:L fh}(I:g8 X eS σ H s)
  (rT:∀b∈ch,(b∈X.ex\/X.aB.d_.e6.eG<=b)/\b≠X.el.EU/\(∀x c,X.el.tO.fI x=O c->c≠b)/\∀p∈X.pn++eS,p.1≠b)
  (pU:∀b o,b≠X.el.EU->b∉X.fs->b∉ch->s.d_.f6 b=O o->H b=none->h'.f6 b=O o)
  (r5:∀b o,b≠X.el.EU->b∈X.fs->b∉ch->s.d_.f6 b=O o->H b=none->∃sl,h'.f6 b=O {o with zx:=sl})(nL:∀b o,b∉ch->s.d_.f6 b=O o->H b=none->H' b=none)
  (WE:∀b o,b∉ch->s.d_.f6 b=O o->∃o',h'.f6 b=O o')
  (gj:∀b xs,H b=O (.ff xs)->H' b=O (.ff xs))(bt:∀b o u,H b=O (.jn o u)->H' b=O (.jn o u))(eU:∀b ps,H b=O (.qy ps)->∃EY,H' b=O (.qy (ps++EY)))
  (ns:∀m,s.d_.Ns X.el.EU m->h'.Ns X.el.EU m)(aR:dD X.g_ X.w H' h')(hg:ZP g'):
  g8 X eS σ H' {s with d_:=h',Yw:=g',Ϭ:=d',nW:=t'}:=by
 have zH:∀b o,X.aB.d_.f6 b=O o->b≠X.el.EU:=λb o e=>w0y (w1a (fH.sf e) I.ok.YM)
 have xx:∀b o,X.aB.d_.f6 b=O o->b∉X.ex->b∉ch:=λb o e hx hb=>by
  rcases(rT b hb).1 with z|z
  .exact hx z
  .exact nS (w1a (fH.sf e) z) (w2h _)
 have cellK:∀x c,X.el.tO.fI x=O c->∀v,s.d_.ZS c v->h'.ZS c v:=λx c e v ⟨o,ho,hd⟩=>by
  have C1:c∉ch:=λz=>(rT c z).2.2.1 x c e rfl
  by_cases hc:c∈X.fs
  .let⟨sl,q⟩:=r5 c o (I.vw x c e) hc C1 ho (I.dq x c e);exact⟨_,q,hd⟩
  .exact⟨o,pU c o (I.vw x c e) hc C1 ho (I.dq x c e),hd⟩
 refine⟨I.ok,I.os,hg,⟨λb o e n hb hx=>?_,λb o e n hb hx=>?_,λb o e n hx=>?_,λb o e hx=>?_,λb xs e=>gj b xs (I.g0.gj b xs e),λb o xs e=>bt b o xs (I.g0.bt b o xs e),λb ps e=>?_⟩,?_,λx c e=>?_,?_,λx c e=>?_,λp hp=>?_,aR,I.oO⟩
 .exact pU b o (zH b o e) hb (xx b o e hx) (I.g0.pU b o e n hb hx) (I.g0.nL b o e n hx)
 .let⟨sl,e1⟩:=I.g0.r5 b o e n hb hx;let⟨vc,e2⟩:=r5 b _ (zH b o e) hb (xx b o e hx) e1 (I.g0.nL b o e n hx);exact⟨vc,e2⟩
 .let⟨o',e1⟩:=I.g0.WE b o e hx;exact nL b o' (xx b o e hx) e1 (I.g0.nL b o e n hx)
 .let⟨o',e1⟩:=I.g0.WE b o e hx;exact WE b o' (xx b o e hx) e1
 .let⟨m1,e1⟩:=I.g0.eU b ps e;let⟨m2,e2⟩:=eU b _ e1;exact⟨m1++m2,by rw[e2,w6i]⟩
 .let⟨m,hn,hl⟩:=I.T4;refine⟨m,ns m hn,λi x v e1 e2 e3=>?_⟩
  let⟨u,r,l⟩:=hl i x v e1 e2 e3;refine⟨u,r,?_⟩;rcases l with l|⟨k,c,e,z⟩
  .exact .h8 l
  .exact .j' ⟨k,c,e,cellK x c e _ z⟩
 .let⟨v,z⟩:=I.mZ x c e;exact⟨v,cellK x c e v z⟩
 .let⟨m,⟨o,_,_,ho,_⟩,_⟩:=I.T4;exact nL _ o (λz=>(rT _ z).2.1 rfl) ho I.nL
 .let⟨v,o,ho,hd⟩:=I.mZ x c e;exact nL c o (λz=>(rT c z).2.2.1 x c e rfl) ho (I.dq x c e)
 .let⟨e,n,ne,nf,d⟩:=I.OB p hp;have C1:p.1∉ch:=λz=>(rT p.1 z).2.2.2 p hp rfl
  exact⟨pU p.1 p.2 ne nf C1 e n,nL p.1 p.2 C1 e n,ne,nf,d⟩
def g8.un(I:g8 X eS σ H s)(u:Un X.fs [] H H' s.d_ h')(aR:dD X.g_ X.w H' h'):g8 X eS σ H' {s with d_:=h',nW:=t'}:=by
 let⟨m,⟨o,es,ep,ho,r⟩,_⟩:=id I.T4;let⟨sl,hL⟩:=u.pX ho I.nL (by simp)
 exact I.YF (g':=s.Yw) (d':=s.Ϭ) (ch:=[]) (λ_ z=>nomatch z) (λb o _ hb _ e n=>u.pU b o e n hb (by simp)) (λb o _ hb _ e n=>u.r5 b o e n hb (by simp)) (λb o _ e n=>u.nL b o e n (by simp)) (λb o _ e=>u.WE b o e (by simp)) u.gj u.bt u.eU (λm' hm=>by
  let⟨o',HQ,HP,vH,r'⟩:=hm;rw[ho]at vH;cases vH;exact⟨_,HQ,HP,hL,r'⟩) aR I.wC
def g8.zN{g':tP Ī}{d':Drawn}(I:g8 X eS σ H s)(u:Un (fV X.zf) ch H H' s.d_ h')(aR:dD X.g_ X.w H' h')(hg:ZP g')
  (rT:∀b∈ch,(b∈X.ex\/X.aB.d_.e6.eG<=b)/\b≠X.el.EU/\(∀x c,X.el.tO.fI x=O c->c≠b)/\∀p∈X.pn++eS,p.1≠b):
  g8 X eS σ H' {s with d_:=h',Yw:=g',Ϭ:=d',nW:=t'}:=by
 let⟨m,⟨o,es,ep,ho,r⟩,_⟩:=id I.T4;let⟨sl,hL⟩:=u.pX ho I.nL λz=>(rT _ z).2.1 rfl
 exact I.YF (ch:=ch) rT (λb o hL hb hc e n=>u.pU b o e n (λz=>(w0h.mp (I.mq b z)).ke hL hb) hc) (λb o _ _ hc e n=>u.pX e n hc) (λb o hc e n=>u.nL b o e n hc) (λb o hc e=>u.WE b o e hc) u.gj u.bt u.eU (λm' hm=>by
  let⟨o',HQ,HP,vH,r'⟩:=hm;rw[ho]at vH;cases vH;exact⟨_,HQ,HP,hL,r'⟩) aR hg
def g8.ZO{t':dt}{it:fh}(I:g8 X eS σ H s)(k:∀b o,b≠it->s.d_.f6 b=O o->h'.f6 b=O o)(hn:H it=none)(hL:it≠X.el.EU)
  (h1:it∈X.ex\/X.aB.d_.e6.eG<=it)(h2:∀x c,X.el.tO.fI x=O c->c≠it)(h3:∀p∈X.pn++eS,p.1≠it):g8 X eS σ H {s with d_:=h',nW:=t'}:=by
 have Oy:∀b u,H b=O u->b≠it:=λb u e z=>by rw[z,hn]at e;cases e
 refine I.YF (g':=s.Yw) (d':=s.Ϭ) (ch:=[it]) (λb hb=>?_) (λb o _ _ hc e _=>k b o (λz=>hc (by simp[z])) e) (λb o _ _ hc e _=>⟨o.zx,k b o (λz=>hc (by simp[z])) e⟩) (λ_ _ _ _ n=>n)
  (λb o hc e=>⟨o,k b o (λz=>hc (by simp[z])) e⟩) (λ_ _ e=>e) (λ_ _ _ e=>e) (λb ps e=>⟨#[],by rw[e];simp⟩) (λm hm=>?_) (λb u e=>?_) I.wC
 .have e:b=it:=by simpa using hb
  subst e;exact⟨h1,hL,h2,h3⟩
 .let⟨o,es,ep,ho,r⟩:=hm;exact⟨o,es,ep,k _ o (Ne.symm hL) ho,r⟩
 .refine(I.aR b u e).fK (λc v hc q=>k c v ?_ q) (λ_ q=>q) λ_ _ _ q=>q
  rcases hc with z|z
  .rw[z];exact Oy b u e
  .exact Oy c _ z
theorem g8.wY(I:g8 X eS σ H s)(t:dt):g8 X eS σ H {s with nW:=t}:=I.un (h':=s.d_) (t':=t) Un.oQ I.aR
theorem g8.NK{t':dt}(I:g8 X eS σ H s)(k:∀b u,s.d_.f6 b=O u->h'.f6 b=O u):g8 X eS σ H {s with d_:=h',nW:=t'}:=I.un (Un.NK k) (I.aR.NK k)
theorem g8.wg{a:fh}{o:HO}{t':dt}(I:g8 X eS σ H s)(k:∀b u,s.d_.f6 b=O u->h'.f6 b=O u)(hp:s.d_.e6.eG<=a)(rZ:bh X.g_ X.w (l5 H a o) h' a o):
  g8 X eS σ (l5 H a o) {s with d_:=h',nW:=t'}:=I.un (Un.wg k hp (I.aR.u3 hp)) (I.aR.wg k hp rZ)
theorem g8._Q{x e:fh}{o:HO}(I:g8 X eS σ H s)(mu:BO (H x))(he:e=x\/H e=O (.gD x))(k:∀b u,b≠e->s.d_.f6 b=O u->h'.f6 b=O u)(vF:∃u,h'.f6 e=O u)
  (rZ:bh X.g_ X.w (l5 H x o) h' x o):g8 X eS σ (l5 H x o) {s with d_:=h',nW:=t'}:=I.un (Un._Q mu he k vF) (I.aR._Q mu he k vF rZ)
theorem g8.weak{aN:L (fG V)}(I:g8 X eS σ H s)(hl:aN.J=σ.J)(w:∀(i:dt) v,aN[i]?=O (O v)->σ[i]?=O (O v)):g8 X eS aN H s:=
 ⟨I.ok,I.os,I.wC,I.g0,let ⟨m,hn,V6⟩:=I.T4;⟨m,hn,λi x v e1 e2 e3=>V6 i x v e1 (w i v e2) e3⟩,I.mZ,I.nL,I.dq,I.OB,I.aR,hl.iD I.oO⟩
theorem g8.jW{nA:L (fh×nU)}(I:g8 X eS σ H s)(h:∀p∈nA,s.d_.f6 p.1=O p.2/\H p.1=none/\p.1≠X.el.EU/\p.1∉X.fs/\∀v,p.2.lg≠.mZ v):g8 X nA σ H s:=
 ⟨I.ok,I.os,I.wC,I.g0,I.T4,I.mZ,I.nL,I.dq,λp hp=>(w0w.mp hp).ke (λz=>I.OB p (w1h _ z)) (h p),I.aR,I.oO⟩
def QA(hN:N.p9){j:dt}(a:N[i]?=O x)(b:N[j]?=O x):i=j:=by
 let⟨h1,e1⟩:=w0c.mp a;let⟨h2,e2⟩:=w0c.mp b;exact(L.getElem_inj hN).mp (e1.iD e2.symm)
def za4{Q:Ò->kx->Prop}(I:g8 X eS σ H s)(hN:X.N.p9)(hi:X.N[i]?=O x)(hx:WH X.el.fj x)(r:ot v u)
  (h:∀s',g8 X eS (σ.my i (O v)) H s'->(∃a,fH.Zq a s.d_ s'.d_/\(a=X.el.EU\/X.el.tO.fI x=O a))->Q () s')(hf:fi (X.fn x=true\/X.el.fj.lH.fI x=O .local) jL):kX M A (storeName X.el x u) Q E s:=by
 let⟨m,hn,hl⟩:=id I.T4;have Ir:(X.el.fj.sP==.class||(X.el.fj.sP==.module&&X.el.EU != X.el.υ))=false:=by rw[I.ok.sP];rfl
 have Cr:i<σ.J:=by rw[I.oO];exact(w0c.mp hi).1
 have vw:=I.vw
 have ì:∀{a:fh}{h':fH},(∃o,s.d_.f6 a=O o/\H a=none)->fH.Zq a s.d_ h'->dD X.g_ X.w H h':=λ{a h'} ha hs b ob e=>by
  let⟨_,_,du⟩:=ha;refine(I.aR b ob e).fK (λc w' hc q=>(hs.2 c ?_).iD q) (λ_ q=>q) λ_ _ _ q=>q
  rintro rfl;rcases hc with rfl|hc
  .rw[du]at e;cases e
  .rw[du]at hc;cases hc
 rcases hx with hk|hk
 .refine wpAny_storeName_local hk hn (λh' yY hs=>?_) Ir
  let⟨oL,_,_,N7,_⟩:=id hn;refine h _ ⟨I.ok,I.os,I.wC,⟨λb o e n hb hx=>?_,λb o e n hb hx=>?_,I.g0.nL,λb o e hx=>?_,I.g0.gj,I.g0.bt,I.g0.eU⟩,⟨_,yY,λj y v' e1 e2 e3=>?_⟩,λy c e=>?_,I.nL,I.dq,λp hp=>?_,ì ⟨oL,N7,I.nL⟩ hs,by simpa using I.oO⟩ ⟨_,hs,.h8 rfl⟩
  .exact(hs.2 b (w0y (w1a (fH.sf e) I.ok.YM))).iD (I.g0.pU b o e n hb hx)
  .let⟨sl,e1⟩:=I.g0.r5 b o e n hb hx;exact⟨sl,(hs.2 b (w0y (w1a (fH.sf e) I.ok.YM))).iD e1⟩
  .let⟨o',e1⟩:=I.g0.WE b o e hx;exact⟨o',(hs.2 b (w0y (w1a (fH.sf e) I.ok.YM))).iD e1⟩
  .by_cases hj:j=i
   .subst hj;rw[hi]at e1;cases e1;rw[w0t Cr]at e2;cases e2;exact⟨u,r,.h8 ⟨hk,by simp⟩⟩
   .rw[w0o (Ne.symm hj)]at e2;let⟨u',r',q⟩:=hl j y v' e1 e2 e3;refine⟨u',r',?_⟩;rcases q with⟨k,e⟩|⟨k,c,e,z⟩
    .refine .h8 ⟨k,?_⟩;have:y≠x:=λe=>hj (QA hN e1 (e ▸ hi))
     simp[this,e]
    .exact .j' ⟨k,c,e,z.ό hs (vw y c e)⟩
  .let⟨w',z⟩:=I.mZ y c e;exact⟨w',z.ό hs (vw y c e)⟩
  .let⟨e,n,ne,nf,d⟩:=I.OB p hp;exact⟨(hs.2 p.1 ne).iD e,n,ne,nf,d⟩
 .have yP:X.fn x=true:=by
   rcases hf with z|z
   .exact z
   .rw[z]at hk;cases hk
  let⟨c,hc⟩:=I.ok.Yk x (.h8 hk);let⟨w',z⟩:=I.mZ x c hc;refine zer I.ok.sP hk hc z (λh' E7 hs=>?_)
  let⟨oc,y9,IQ⟩:=id z;refine h {s with d_:=h'} ⟨I.ok,I.os,I.wC,⟨λb o e n hb hx=>?_,λb o e n hb hx=>?_,I.g0.nL,λb o e hx=>?_,I.g0.gj,I.g0.bt,I.g0.eU⟩,⟨m,hn.ό hs (Ne.symm (vw x c hc)),λj y v' e1 e2 e3=>?_⟩,λy c' e=>?_,I.nL,I.dq,λp hp=>?_,ì ⟨oc,y9,I.dq x c hc⟩ hs,by simpa using I.oO⟩ ⟨c,hs,.j' hc⟩
  .exact(hs.2 b (w0y (w1a (fH.sf e) (I.ok.wZ x c yP hc)))).iD (I.g0.pU b o e n hb hx)
  .let⟨sl,e1⟩:=I.g0.r5 b o e n hb hx;exact⟨sl,(hs.2 b (w0y (w1a (fH.sf e) (I.ok.wZ x c yP hc)))).iD e1⟩
  .let⟨o',e1⟩:=I.g0.WE b o e hx;exact⟨o',(hs.2 b (w0y (w1a (fH.sf e) (I.ok.wZ x c yP hc)))).iD e1⟩
  .by_cases hj:j=i
   .subst hj;rw[hi]at e1;cases e1;rw[w0t Cr]at e2;cases e2;exact⟨u,r,.j' ⟨.h8 hk,c,hc,E7⟩⟩
   .rw[w0o (Ne.symm hj)]at e2;let⟨u',r',q⟩:=hl j y v' e1 e2 e3;refine⟨u',r',?_⟩;rcases q with q|⟨k,c',e,z'⟩
    .exact .h8 q
    .refine .j' ⟨k,c',e,z'.ό hs ?_⟩;rintro rfl;exact hj (QA hN e1 (I.ok.sE _ _ _ e hc ▸ hi))
  .by_cases NT:c'=c
   .subst NT;exact⟨_,E7⟩
   .let⟨w2,z2⟩:=I.mZ y c' e;exact⟨w2,z2.ό hs NT⟩
  .let⟨e,n,ne,nf,d⟩:=I.OB p hp;refine⟨(hs.2 p.1 ?_).iD e,n,ne,nf,d⟩;intro q;rw[q,y9]at e;have q':oc=p.2:=fG.O.sE e;exact d w' (by rw[<- q'];exact IQ)
theorem Lx{Q:Ò->kx->Prop}(I:g8 X eS σ H s)(hN:X.N.p9)(hi:X.N[i]?=O x)(hx:WH X.el.fj x)(r:ot v u)
  (h:∀s',g8 X eS (σ.my i (O v)) H s'->Q () s')(hf:fi (X.fn x=true\/X.el.fj.lH.fI x=O .local) jL):kX M A (storeName X.el x u) Q E s:=
 za4 I hN hi hx r (λs' I' _=>h s' I') hf
def g8.pG{s':kx}{ch:L fh}(I:g8 X eS σ H s)(ho:s'.os=s.os)(u:Un (fV X.zf) ch H H' s.d_ s'.d_)(aR:dD X.g_ X.w H' s'.d_)(hg:ZP s'.Yw)
  (rT:∀b∈ch,(b∈X.ex\/X.aB.d_.e6.eG<=b)/\b≠X.el.EU/\(∀x c,X.el.tO.fI x=O c->c≠b)/\∀p∈X.pn++eS,p.1≠b):g8 X eS σ H' s':=by
 let⟨h',g',d',t',o'⟩:=s';have e:o'=s.os:=ho;subst e;exact I.zN (g':=g') (t':=t') (d':=d') u aR hg rT
end
abbrev XK:=e5->fG fh->Hp->Prop
abbrev St:=L (fG V)
variable{σ:St}
abbrev VK:=V->Hp->Prop
abbrev TE:=St->Hp->VK->Prop
variable{ta te:TE}
abbrev TT:=St->Hp->(fJ->Hp->Prop)->Prop
abbrev TA:=St->Hp->(L V->Hp->Prop)->Prop
structure Z1 where
 nx:St->Hp->Prop
 rt:VK
 bk:St->Hp->Prop:=λ_ _=>pV
 ct:St->Hp->Prop:=λ_ _=>pV
abbrev TS:=Z1->St->Hp->Prop
variable{tb:TS}
def EP(X:Cx)(eS:L (fh×nU))(σ:St)(Q:VK)(u:e5)(s':kx):Prop:=∃v H',g8 X eS σ H' s'/\ot v u/\Q v H'
def TP(X:Cx)(eS:L (fh×nU))(σ:St)(Q:fJ->Hp->Prop)(b:fJ)(s':kx):Prop:=∃H',g8 X eS σ H' s'/\Q b H'
def AP(X:Cx)(eS:L (fh×nU))(σ:St)(Q:L V->Hp->Prop)(us:L e5)(s':kx):Prop:=∃vs H',g8 X eS σ H' s'/\oK vs us/\Q vs H'
def SP(X:Cx)(eS:L (fh×nU))(D:Z1)(f:Flow)(s':kx):Prop:=
 match f with
 |.next=>∃aN H',g8 X eS aN H' s'/\D.nx aN H'
 |.Zu=>∃aN H',g8 X eS aN H' s'/\D.bk aN H'
 |.Zv=>∃aN H',g8 X eS aN H' s'/\D.ct aN H'
 |.yr u=>∃v aN H',g8 X eS aN H' s'/\ot v u/\D.rt v H'
def PE(X:Cx)(e:l_)(t:TE):Prop:=
 ∀(eS:L (fh×nU))(s:kx)(σ:St)(H:Hp)(Q:VK),g8 X eS σ H s->t σ H Q->kX (mG X.g_ X.w) X.A (eval e X.el) (EP X eS σ Q) X.xe s
def PT(X:Cx)(e:l_)(t:TT):Prop:=
 ∀(eS:L (fh×nU))(s:kx)(σ:St)(H:Hp)(Q:fJ->Hp->Prop),g8 X eS σ H s->t σ H Q->kX (mG X.g_ X.w) X.A (ϱ e X.el (eval e X.el)) (TP X eS σ Q) X.xe s
def PW(X:Cx)(e:l_)(t:TT):Prop:=
 ∀(_m:Zr e5)(eS:L (fh×nU))(s:kx)(σ:St)(H:Hp)(Q:fJ->Hp->Prop),g8 X eS σ H s->t σ H Q->kX (mG X.g_ X.w) X.A (ϱ e X.el _m) (TP X eS σ Q) X.xe s
theorem PW.pt{t:TT}(h:PW X e t):PT X e t:=h _
def PA(X:Cx)(es:L l_)(t:TA):Prop:=
 ∀(fZ:qY)(eS:L (fh×nU))(s:kx)(σ:St)(H:Hp)(Q:L V->Hp->Prop),g8 X eS σ H s->t σ H Q->kX (mG X.g_ X.w) X.A (ë (r8 fZ (lq es X.el))) (AP X eS σ Q) X.xe s
def PS(X:Cx)(st:vv)(t:TS):Prop:=
 ∀(eS:L (fh×nU))(s:kx)(σ:St)(H:Hp)(D:Z1),g8 X eS σ H s->t D σ H->kX (mG X.g_ X.w) X.A (exec st X.el) (SP X eS D) X.xe s
def kP(X:Cx)(st:L vv)(t:TS):Prop:=
 ∀(eS:L (fh×nU))(s:kx)(σ:St)(H:Hp)(D:Z1),g8 X eS σ H s->t D σ H->kX (mG X.g_ X.w) X.A (execs st X.el) (SP X eS D) X.xe s
theorem bw{α:Type}{t:Zr α}{Q Q':α->kx->Prop}(h:kX M A t Q E s)(hQ:∀a s,Q a s->Q' a s):kX M A t Q' E s:=YX h hQ λ_ _ x=>x
section
def uE(i:dt):TE:=λσ H Q=>∃v,σ[i]?=O (O v)/\Q v H
def tC(v:V):TE:=λ_ H Q=>Q v H
def z6n(hN:X.N[i]?=O x)(hv:jy X.el.fj x)(hd:fi ((x==("__debug__":eh))=false) jK)(dR:fi ((x==("__classdict__":eh))=false) jK):PE X (.je x fZ) (uE i):=by
 intro eS s σ H Q I h;let⟨v,e,h⟩:=h;let⟨m,hn,hl⟩:=I.T4;let⟨u,r,l⟩:=hl i x v hN e hv;have vR:EP X eS σ Q u s:=⟨v,H,I,r,h⟩;rcases l with⟨hk,hm⟩|⟨hk,c,hc,d3⟩
 .exact ŵ (wpAny_loadName_local I.ok.sP hk hn hm vR) hd
 .rcases hk with hk|hk
  .exact ŵ (wpAny_loadName_cell I.ok.sP hk hc d3 vR) hd
  .exact ŵ (wpAny_loadName_free I.ok.sP hk hc d3 vR dR) hd
theorem Z9{i j fZ}:PE X (.Zo (.d0 i) j fZ) (tC (.d0 i)):=λ_ _ _ H _ I h=>wpAny_Constant_int ⟨.d0 i,H,I.wY _,⟨_,rfl⟩,h⟩
theorem UU{b j fZ}:PE X (.Zo (.rl b) j fZ) (tC (.bl b)):=λ_ _ _ H _ I h=>Constant_bool ⟨.bl b,H,I,rfl,h⟩
theorem z6o{j fZ}:PE X (.Zo .none j fZ) (tC .aH):=λ_ _ _ H _ I h=>Constant_none ⟨.aH,H,I,rfl,h⟩
theorem Su{x j fZ}:PE X (.Zo (.str x) j fZ) (tC (.str x)):=λ_ _ _ H _ I h=>Yq.ź ⟨.str x,H,I.wY _,⟨_,rfl⟩,h⟩
def Gl(X:Cx)(x:eh):Prop:=X.el.vW x=O .globalImplicit
theorem Bp{Q:e5->kx->Prop}(I:g8 X eS σ H s)(hg:Gl X x)(hm:X.mg x=O u)(h:Q u s)
  (hd:fi ((x==("__debug__":eh))=false) jK):kX (mG X.g_ X.w) X.A (eval (.je x fZ) X.el) Q E s:=
 Yq.ſ I.ok.sP hg (Yq.loadGlobal_global (by rw[I.ok.YT];exact I.yl.YT.AN I.bk) hm h) hd
def uh{Q:e5->kx->Prop}(I:g8 X eS σ H s)(hg:Gl X x)(hm:X.mg x=none)(hv:_a x=O u)(h:Q u s)
  (hn:fi (x≠"__name__") jK)(hd:fi ((x==("__debug__":eh))=false) jK):kX (mG X.g_ X.w) X.A (eval (.je x fZ) X.el) Q E s:=by
 let⟨mb,h1,h2⟩:=I.yl._E;exact Yq.ſ I.ok.sP hg (Yq.loadGlobal_builtin (by rw[I.ok.YT];exact I.yl.YT.AN I.bk) hm (by rw[I.ok._E];exact h1.AN I.bk) ((h2 x hn).iD hv) h) hd
theorem GI{v:V}(hg:Gl X x)(hm:X.mg x=O u)(r:ot v u)(hd:fi ((x==("__debug__":eh))=false) jK):PE X (.je x fZ) (tC v):=
 λ_ _ _ H _ I h=>Bp I hg hm ⟨v,H,I,r,h⟩ hd
theorem z0v{v:V}(hg:Gl X x)(hm:X.mg x=none)(hv:_a x=O u)(r:ot v u)(hn:fi (x≠"__name__") jK)(hd:fi ((x==("__debug__":eh))=false) jK):PE X (.je x fZ) (tC v):=
 λ_ _ _ H _ I h=>uh I hg hm hv ⟨v,H,I,r,h⟩ hn hd
variable{a b:l_}{tb:TE}
def PC(X:Cx)(op:Ϙ)(a b:l_)(t:TE):Prop:=
 ∀(eS:L (fh×nU))(s:kx)(σ:St)(H:Hp)(Q:VK),g8 X eS σ H s->t σ H Q ->
  kX (mG X.g_ X.w) X.A (eval a X.el) (λv aM=>kX (mG X.g_ X.w) X.A (eval b X.el) (λu nI=>kX (mG X.g_ X.w) X.A (YO op v u) (EP X eS σ Q) X.xe nI) X.xe aM) X.xe s
def nr(b:l_)(h:op≠.In)(h2:op≠.Z7):Y_ op b=false:=by
 have e1:(op==Ϙ.In)=false:=by grind
 have e2:(op==Ϙ.Z7)=false:=by grind
 cases b<;>simp[Y_,e1,e2]
def zdL(t:TE):TT:=λσ H Q=>t σ H λx H1=>∃c,x=.bl c/\Q c H1
theorem z6p{t:TE}(h:PC X op a b t)(h1:Y_ op b=false:=by first|exact nr _ (by decide) (by decide)|rfl):PE X (.Vq a [op] [b] fZ) t:=λeS s σ H Q I hw=>zeb (h eS s σ H Q I hw) h1
def Sw{t:TE}(h:PC X op a b t)(h1:Y_ op b=false:=by first|exact nr _ (by decide) (by decide)|rfl):PT X (.Vq a [op] [b] fZ) (zdL t):=by
 intro eS s σ H Q I hw;refine zeh (bw (h eS s σ H _ I hw) λv s1 h1=>bw h1 λu s2 h2=>bw h2 λc s3 ⟨x,H1,I1,r1,q1⟩=>?_) h1
 let⟨d,rfl,q⟩:=q1;cases r1;exact η ⟨H1,I1,q⟩
variable{tA G7:TT}{oM:L l_}
def Eg(t u:TT):TT:=λσ H Q=>t σ H λc H1=>if c=true then u σ H1 Q else Q false H1
def Pc(t u:TT):TT:=λσ H Q=>t σ H λc H1=>if c=true then Q true H1 else u σ H1 Q
def L4(t:TT):TT:=λσ H Q=>t σ H λc H1=>Q (!c) H1
def z0w(ha:PT X a tA):PW X (.Yb ._p [a] fZ) tA:=by
 intro wh eS s σ H Q I h;refine isTrue_and (bw (ha eS s σ H Q I h) λc s1 e=>?_)
 grind [isTrue_and_nil]
def z6q(ha:PT X a tA):PW X (.Yb .Or [a] fZ) tA:=by
 intro wh eS s σ H Q I h;refine isTrue_or (bw (ha eS s σ H Q I h) λc s1 e=>?_)
 cases c with
 |false=>exact isTrue_or_nil e
 |true=>exact e
def z6r(ha:PT X a tA)(hb:PW X (.Yb ._p (b::oM) fZ) G7):PW X (.Yb ._p (a::b::oM) fZ) (Eg tA G7):=by
 intro wh eS s σ H Q I h;refine isTrue_and (bw (ha eS s σ H _ I h) λc s1 ⟨H1,I1,q1⟩=>?_)
 cases c with
 |true=>exact hb wh eS s1 σ H1 Q I1 q1
 |false=>exact⟨H1,I1,q1⟩
def UW(ha:PT X a tA)(hb:PW X (.Yb .Or (b::oM) fZ) G7):PW X (.Yb .Or (a::b::oM) fZ) (Pc tA G7):=by
 intro wh eS s σ H Q I h;refine isTrue_or (bw (ha eS s σ H _ I h) λc s1 ⟨H1,I1,q1⟩=>?_)
 cases c with
 |true=>exact⟨H1,I1,q1⟩
 |false=>exact hb wh eS s1 σ H1 Q I1 q1
def z6s(ha:PT X a tA):PT X (._Y .Not a fZ) (L4 tA):=by
 intro eS s σ H Q I h;exact isTrue_not (ha eS s σ H (λc H1=>Q (!c) H1) I h)
def Eh(ta tb:TE):TE:=λσ H Q=>ta σ H λx H1=>∃c,x=.bl c/\if c=true then tb σ H1 Q else Q (.bl false) H1
def L5(ta tb:TE):TE:=λσ H Q=>ta σ H λx H1=>∃c,x=.bl c/\if c=true then Q (.bl true) H1 else tb σ H1 Q
def En(ta:TE):TE:=λσ H Q=>ta σ H λx H1=>∃c,x=.bl c/\Q (.bl (!c)) H1
theorem z6t{op}{t:TE}(h:PE X a t):PE X (.Yb op [a] fZ) t:=λeS s σ H Q I hw=>BoolOp_one (h eS s σ H Q I hw)
def z6u(ha:PE X a ta)(hb:PE X (.Yb ._p (b::oM) fZ) tb):PE X (.Yb ._p (a::b::oM) fZ) (Eh ta tb):=by
 intro eS s σ H Q I h;refine BoolOp_and (bw (ha eS s σ H _ I h) λv s1 ⟨x,H1,I1,r1,q1⟩=>?_)
 let⟨c,rfl,q1⟩:=q1;cases r1;refine η ?_;cases c with
 |true=>exact hb eS s1 σ H1 Q I1 q1
 |false=>exact⟨.bl false,H1,I1,rfl,q1⟩
def UX(ha:PE X a ta)(hb:PE X (.Yb .Or (b::oM) fZ) tb):PE X (.Yb .Or (a::b::oM) fZ) (L5 ta tb):=by
 intro eS s σ H Q I h;refine BoolOp_or (bw (ha eS s σ H _ I h) λv s1 ⟨x,H1,I1,r1,q1⟩=>?_)
 let⟨c,rfl,q1⟩:=q1;cases r1;refine η ?_;cases c with
 |false=>exact hb eS s1 σ H1 Q I1 q1
 |true=>exact⟨.bl true,H1,I1,rfl,q1⟩
def z6v(ha:PE X a ta):PE X (._Y .Not a fZ) (En ta):=by
 intro eS s σ H Q I h;refine UnaryOp_ (bw (ha eS s σ H _ I h) λv s1 ⟨x,H1,I1,r1,q1⟩=>?_)
 let⟨c,rfl,q1⟩:=q1;cases r1;exact not_of (η ⟨.bl (!c),H1,I1,rfl,q1⟩)
def XB(t:TT)(ta tb:TE):TE:=λσ H Q=>t σ H λc H1=>if c=true then ta σ H1 Q else tb σ H1 Q
def y5w(hc:PT X c tA)(ha:PE X a ta)(hb:PE X b tb):PE X (.IfExp c a b fZ) (XB tA ta tb):=by
 intro eS s σ H Q I h;refine wpAny_IfExp (bw (hc eS s σ H _ I h) λd s1 ⟨H1,I1,q1⟩=>?_)
 cases d with
 |true=>exact ha eS s1 σ H1 Q I1 q1
 |false=>exact hb eS s1 σ H1 Q I1 q1
end
def cG(K:Fg)(H:Hp)(a:fh)(xs:L V):Prop:=
 Rd H a (.fy xs) \/
  ∃(o:nU)(aC:tP e5)(n:dt),K.fI a=O o/\o.ie=.hJ "list" /\ o.qZ=none/\o.lg=.mx aC n/\aC.eG<=pg/\oK xs aC.n9
def c6(K:Fg)(H:Hp)(a:fh)(xs:L V):Prop:=
 Rd H a (.ff xs) \/
  ∃(o:nU)(aC:tP e5)(n:dt),K.fI a=O o/\o.ie=.hJ "tuple" /\ o.qZ=none/\o.lg=.mx aC n/\aC.eG<=pg/\oK xs aC.n9
def HB:e5->fG V
 |.none=>O .aH
 |.rl b=>O (.bl b)
 |.d0 i _=>O (.d0 i)
 |.str x _=>O (.str x)
 |.bytes b _=>O (.wX b)
 |.float b _=>O (.qN b)
 |.ei a=>O (.ei a)
 |.hJ n=>O (.ty n)
 |_=>none
def ot.abs{x:V}(r:ot x u):HB u=O x:=by
 cases x with
 |aH=>cases r;rfl
 |bl _=>cases r;rfl
 |d0 _=>let⟨t,rfl⟩:=r;rfl
 |str _=>let⟨t,rfl⟩:=r;rfl
 |wX _=>let⟨t,rfl⟩:=r;rfl
 |qN _=>let⟨t,rfl⟩:=r;rfl
 |ei _=>cases r;rfl
 |ty _=>cases r;rfl
theorem ot.sE{x y:V}(r:ot x u)(q:ot y u):x=y:=fG.O.sE (r.abs.symm.iD q.abs)
theorem oK.sE:∀{xs ys:L V}{us:L e5},oK xs us->oK ys us->xs=ys
 |_,_,_,.m8,.m8=>rfl
 |_,_,_,.m6 r t,.m6 r' t'=>by rw[r.sE r',oK.sE t t']
section
variable{ys:L V}
theorem cG.of(h:H a=O (.fy xs)):cG K H a xs:=.h8 (.h8 h)
theorem c6.of(h:H a=O (.ff xs)):c6 K H a xs:=.h8 (.h8 h)
def g8.wD(I:g8 X eS σ H s)(h:cG X.K H a xs):∃aC:L e5,oK xs aC/\PlainL s.d_ a aC.ky/\xs.J<=pg:=by
 rcases h with h|⟨o,aC,n,hk,hc,hd,hs,hz,r⟩
 .let⟨z,aC,n,r,e⟩:=h.ok I.aR;exact⟨aC,r,⟨_,n,e,rfl,rfl,rfl⟩,z⟩
 .refine⟨aC.n9,r,⟨o,n,I.ko a o hk,hc,hd,by simpa using hs⟩,?_⟩;have e:=r.J;simp only[w2a]at e;omega
def g8.zb(I:g8 X eS σ H s)(h:c6 X.K H a xs):∃aC:L e5,oK xs aC/\YY s.d_ a aC.ky/\xs.J<=pg:=by
 rcases h with h|⟨o,aC,n,hk,hc,_,hs,hz,r⟩
 .let⟨z,aC,r,p,_⟩:=h.ok I.aR;exact⟨aC,r,p,z⟩
 .refine⟨aC.n9,r,⟨o,I.ko a o hk,hc,n,by simpa using hs⟩,?_⟩
  grind [oK.J,tP.length_toList]
def g8.kA(I:g8 X eS σ H s)(h:cG X.K H a xs)(h':cG X.K H a ys):xs=ys:=by
 let⟨aC,r,⟨o,n,e,_,_,d⟩,_⟩:=I.wD h;let⟨its',r',⟨o',n',e',_,_,d'⟩,_⟩:=I.wD h';rw[e]at e';cases e';rw[d]at d';injection d' with d1 _
 have:aC=its':=by grind
 subst this;exact r.sE r'
def g8.jg(I:g8 X eS σ H s)(h:c6 X.K H a xs)(h':c6 X.K H a ys):xs=ys:=by
 let⟨aC,r,⟨o,e,_,n,d⟩,_⟩:=I.zb h;let⟨its',r',⟨o',e',_,n',d'⟩,_⟩:=I.zb h';rw[e]at e';cases e';rw[d]at d';injection d' with d1 _
 have:aC=its':=by grind
 subst this;exact r.sE r'
end
section
variable{st:vv}{oM:L vv}{t u:TS}
def Em:TS:=λD σ H=>D.nx σ H
def Er(t u:TS):TS:=λD σ H=>t {D with nx:=u D} σ H
theorem z0x:kP X [] Em:=λ_ _ σ H _ I h=>ï ⟨σ,H,I,h⟩
def y5x(h1:PS X st t)(h2:kP X oM u):kP X (st::oM) (Er t u):=by
 intro eS s σ H D I h;refine zee (bw (h1 eS s σ H {D with nx:=u D} I h) λf s1 q=>?_)
 cases f with
 |next=>
  let⟨aN,H',I',q⟩:=q;exact h2 eS s1 aN H' D I' q
 |yr v=>exact q
 |Zu=>exact q
 |Zv=>exact q
def z0y(h1:PS X st t):kP X [st] t:=by
 intro eS s σ H D I h;refine zee (bw (h1 eS s σ H D I h) λf s1 q=>?_)
 grind [ï]
def g8.quiet(I:g8 X eS σ H s):interactive X.el=false:=by simp[interactive,I.ok.sP]
def Ej(te:TE):TS:=λD σ H=>te σ H λ_ H1=>D.nx σ H1
def DH(he:PE X e te)(hs:fi (Yh e none fZ.y' X.el=pR false) jJ):PS X (.l_ e fZ) (Ej te):=by
 intro eS s σ H D I h;exact wpAny_Expr_any (bw (he eS s σ H _ I h) λv s1 ⟨x,H1,I1,r1,q1⟩=>⟨σ,H1,I1,q1⟩) I.quiet hs
def L6(te:TE):TS:=λD σ H=>te σ H D.rt
def DR(he:PE X e te):PS X (.ξ (O e) fZ) (L6 te):=by
 intro eS s σ H D I h;exact wpAny_Return_some (bw (he eS s σ H _ I h) λv s1 ⟨x,H1,I1,r1,q1⟩=>⟨x,σ,H1,I1,r1,q1⟩)
def Ek(c:TT)(t u:TS):TS:=λD σ H=>c σ H λb H1=>if b=true then t D σ H1 else u D σ H1
def UY{a b:L vv}{tc:TT}(hc:PT X c tc)(ha:kP X a t)(hb:kP X b u):PS X (.If c a b fZ) (Ek tc t u):=by
 intro eS s σ H D I h;refine wpAny_If (bw (hc eS s σ H _ I h) λd s1 ⟨H1,I1,q1⟩=>?_)
 cases d with
 |true=>exact ha eS s1 σ H1 D I1 q1
 |false=>exact hb eS s1 σ H1 D I1 q1
end
abbrev TG:=V->St->Hp->(St->Hp->Prop)->Prop
abbrev yi:=L V->St->Hp->(St->Hp->Prop)->Prop
def PG(X:Cx)(zG:l_)(t:TG):Prop:=
 ∀(eS:L (fh×nU))(s:kx)(σ:St)(H:Hp)(v:V)(u:e5)(Q:St->Hp->Prop),g8 X eS σ H s->ot v u->t v σ H Q ->
  kX (mG X.g_ X.w) X.A (ZD zG X.el u) (λ_ s'=>∃aN H',g8 X eS aN H' s'/\Q aN H') X.xe s
def BP(X:Cx)(ts:L l_)(t:yi):Prop:=
 ∀(eS:L (fh×nU))(s:kx)(σ:St)(H:Hp)(vs:L V)(us:L e5)(Q:St->Hp->Prop),g8 X eS σ H s->oK vs us->t vs σ H Q ->
  kX (mG X.g_ X.w) X.A (assignInOrder ((Ys ts X.el).ej (·.2)) us) (λ_ s'=>∃aN H',g8 X eS aN H' s'/\Q aN H') X.xe s
abbrev yj:=V->V->V->Hp->(Hp->Prop)->Prop
def BQ(X:Cx)(t:yj):Prop:=
 ∀(eS:L (fh×nU))(s:kx)(σ:St)(H:Hp)(o i v:V)(ov iv u:e5)(Q:Hp->Prop),g8 X eS σ H s->ot o ov->ot i iv->ot v u->t o i v H Q ->
  kX (mG X.g_ X.w) X.A (Ė ov iv u) (λ_ s'=>∃H',g8 X eS σ H' s'/\Q H') X.xe s
def bP(i:dt):TG:=λv σ H Q=>Q (σ.my i (O v)) H
def z0z(hN:X.N.p9)(hi:X.N[i]?=O x)(hx:WH X.el.fj x)(hf:fi (X.fn x=true\/X.el.fj.lH.fI x=O .local) jL):PG X (.je x fZ) (bP i):=by
 intro eS s σ H v u Q I r h;exact wpAny_assign_Name (Lx I hN hi hx r (λs' I'=>⟨_,H,I',h⟩) hf)
def qQ:yi:=λvs σ H Q=>vs=[]/\Q σ H
def fW(t:TG)(u:yi):yi:=λvs σ H Q=>∃v r,vs=v::r/\t v σ H λaN H'=>u r aN H' Q
def Rn:BP X [] qQ:=by
 intro eS s σ H vs us Q I r h;let⟨e,h⟩:=h;subst e;cases r;exact assignInOrder_nil ⟨σ,H,I,h⟩
def Gi{t:TG}{u:yi}(h1:PG X e t)(h2:BP X es u)
  (hs:fi ((Ys (e::es) X.el).ej (·.2)=ZD e X.el::(Ys es X.el).ej (·.2)) jJ):BP X (e::es) (fW t u):=by
 intro eS s σ H vs us Q I r h;let⟨v,zgt,e1,h⟩:=h;subst e1;cases r with
 |m6 r rr=>
  rw[hs];refine assignInOrder_cons (bw (h1 eS s σ H _ _ _ I r h) λ_ s1 ⟨vg,H1,I1,q1⟩=>?_)
  exact h2 eS s1 vg H1 _ _ Q I1 rr q1
def qR(K:Fg)(n:dt)(t:yi):TG:=λv σ H Q=>∃a xs,v=.ei a/\c6 K H a xs/\xs.J=n/\t xs σ H Q
def Sx{k:dt}{t:yi}{n:dt}(hc:X.wK=true)(h:BP X es t)
  (hn:fi ((Ys es X.el).J=n) jJ)(oI:fi ((Ys es X.el).Ň (·.1)=none) jJ):PG X (.JJ es k fZ) (qR X.K n t):=by
 intro eS s σ H v u Q I r hw;let⟨a,xs,e1,hq,hl,hw⟩:=hw;subst e1;cases r;let⟨aC,rv,ht,hz⟩:=I.zb hq;refine assign_Tuple_tuple (I.ok.hd hc) ht (by simp[hn,<- hl,rv.J]) oI λh' hx=>?_
 have I1:g8 X eS σ H {s with d_:=h'}:=I.NK (t':=s.nW) λb o e=>hx b o (w0y (fH.sf e)) e
 exact h eS _ σ H xs _ Q I1 (by simpa using rv) hw
def HV(to ti:TE)(t:yj):TG:=λv σ H Q=>to σ H λo H1=>ti σ H1 λi H2=>t o i v H2 λH3=>Q σ H3
def z6w{o i:l_}{to ti:TE}{t:yj}(ho:PE X o to)(hi:PE X i ti)(hs:BQ X t)
  (ha:∀v,ZD (.Hz o i fZ) X.el v=(do
   let ov <- Ξ [v] (eval o X.el)
   let iv <- Ξ [v,ov] (eval i X.el)
   ϸ fZ
   Ξ [v,ov,iv] (Ė ov iv v)
   release [v,ov,iv] []):=by intro _;rfl):PG X (.Hz o i fZ) (HV to ti t):=by
 intro eS s σ H v u Q I r h;rw[ha];refine i6 (Zk (bw (ho eS s σ H _ I h) λov s1 ⟨x,H1,I1,r1,q1⟩=>?_))
 refine i6 (Zk (bw (hi eS s1 σ H1 _ I1 q1) λiv s2 ⟨y,H2,I2,r2,q2⟩=>?_))
 refine i6 (ò (i6 (Zk (bw (hs eS s2 σ H2 x y v ov iv u _ I2 r1 r2 r q2) λ_ s3 ⟨H3,I3,q3⟩=>?_))))
 exact wpAny_release ⟨σ,H3,I3,q3⟩
def uB(te:TE)(g:TG):TS:=λD σ H=>te σ H λx H1=>g x σ H1 D.nx
def z6x{g:TG}(he:PE X e te)(hg:PG X tg g)(hs:fi (zdK [tg] e fZ.y' X.el=pR false) jJ)(hw:fi (zdJ [tg] e X.el=pR none) jJ)
  (h1:fi ((Ys [tg] X.el).ej (·.2)=[ZD tg X.el]) jJ):PS X (.Yz [tg] e fZ) (uB te g):=by
 intro eS s σ H D I h;refine wpAny_Assign_stores (bw (he eS s σ H _ I h) λv s1 ⟨x,H1,I1,r1,q1⟩=>?_) hs hw
 rw[h1];exact bw (hg eS s1 σ H1 x v _ I1 r1 q1) λ_ s2 q=>q
def z6y{AO:qY}(hN:X.N.p9)(hi:X.N[i]?=O x)(hx:WH X.el.fj x)(he:PE X e te)(hs:fi (Yh e (O (.je x AO)) fZ.y' X.el=pR false) jJ)(hf:fi (X.fn x=true\/X.el.fj.lH.fI x=O .local) jL):
  PS X (.Yz [.je x AO] e fZ) (uB te (bP i)):=by
 intro eS s σ H D I h;refine wpAny_Assign_Name (bw (he eS s σ H _ I h) λv s1 ⟨y,H1,I1,r1,q1⟩=>?_) hs
 exact Lx I1 hN hi hx r1 (λs2 I2=>⟨_,H1,I2,q1⟩) hf
def Az(c:TT)(tb:TS):TS:=λD σ H=>∃W:dt->St->Hp->Prop,(∃m,W m σ H)/\∀m σ H,W m σ H ->
 c σ H λb H1=>if b=true then ∃N:St->Hp->Prop,(∀aN H',N aN H'->∃m',m'<m/\W m' aN H')/\tb {D with nx:=N,ct:=N,bk:=D.nx} σ H1 else D.nx σ H1
def y5y{o3:L vv}{tc:TT}(hp:_V (mG X.g_ X.w) X.A X.el X.xe)(hc:PT X c tc)(hb:kP X o3 tb):PS X (.While c o3 [] fZ) (Az tc tb):=by
 intro eS s σ H D I h;let⟨W,⟨m0,w0⟩,Yf⟩:=h;refine wpAny_While (codeAny_whileLoop (λn s'=>∃aN H',g8 X eS aN H' s'/\W n aN H') ?_ m0 ⟨σ,H,I,w0⟩)
 rintro n s1 ⟨vg,H1,I1,w1⟩;refine ϔ hp (bw (hc eS s1 vg H1 _ I1 (Yf n vg H1 w1)) λb s2 ⟨H2,I2,q2⟩=>?_)
 cases b with
 |true=>
  let⟨N,hN,q2⟩:=q2;rw[gE rfl];refine ϔ hp (bw (hb eS s2 vg H2 _ I2 q2) λf s3 q3=>?_)
  cases f with
  |next=>
   let⟨uJ,H3,I3,n3⟩:=q3;let⟨m',hm,w3⟩:=hN uJ H3 n3;exact⟨m',hm,uJ,H3,I3,w3⟩
  |Zv=>
   let⟨uJ,H3,I3,n3⟩:=q3;let⟨m',hm,w3⟩:=hN uJ H3 n3;exact⟨m',hm,uJ,H3,I3,w3⟩
  |Zu=>exact q3
  |yr v=>exact q3
 |false=>
  rw[kl w1w];exact ï ⟨vg,H2,I2,q2⟩
structure It where
 go:dt->Hp->Prop
 lr:dt->Hp->V->Hp->Prop
 stop:dt->Hp->Prop
def fO(X:Cx)(eS:L (fh×nU))(H:Hp)(b:fh):Prop:=
 H b=none/\b≠X.el.EU/\b∉X.fs/\(b∈X.ex\/X.aB.d_.e6.eG<=b)/\(∀x c,X.el.tO.fI x=O c->c≠b)/\∀p∈X.pn++eS,p.1≠b
def g8.jB{b:fh}(I:g8 X eS σ H s)(hb:s.d_.e6.eG<=b)(hn:H' b=none):fO X eS H' b:=by
 refine⟨hn,w3k (w1a I.lt hb),I.JL hb,.j' (w1d I.sz hb),λx c e z=>?_,λp hp z=>?_⟩
 .let⟨v,q⟩:=I.mZ x c e;exact nS (w1a q.lt (by rw[z];exact hb)) (w2h _)
 .exact nS (w1a (fH.sf (I.OB p hp).1) (by rw[z];exact hb)) (w2h _)
structure _X(P:qM)(w:pT)(K:Fg)(tg:l_)(dr:It)(fp:L fh)(it:fh)(tn:dt->fH->Prop):Prop where
 YD:it∈fp
 CZ:∀i h,tn i h->∀b∈fp,∃o,h.f6 b=O o/\∀v,o.lg≠.mZ v
 pU:∀i h h',tn i h->(∀b∈fp,∀o,h.f6 b=O o->h'.f6 b=O o)->tn i h'
 Zd:∀(X:Cx),X.g_=P->X.w=w->X.K=K->X.wK=true->∀(i:dt)(eS:L (fh×nU))(s:kx)(σ:St)(H:Hp)(E:e5->kx->Prop),g8 X eS σ H s->(∀b∈fp,fO X eS H b)->tn i s.d_->dr.go i H ->
  kX (mG P w) X.A (ZN (.ei it)) (λr s1=>∃u,r=O u /\
   kX (mG P w) X.A (ä tg (.ei it) u) (λ_ s2=>∃x H',g8 X eS σ H' s2/\ot x u/\dr.lr i H x H'/\tn (i+1) s2.d_/\∀b∈fp,H' b=none) E s1) E s
 done:∀(X:Cx),X.g_=P->X.w=w->X.K=K->X.wK=true->∀(i:dt)(eS:L (fh×nU))(s:kx)(σ:St)(H:Hp)(E:e5->kx->Prop),g8 X eS σ H s->(∀b∈fp,fO X eS H b)->tn i s.d_->dr.stop i H ->
  kX (mG P w) X.A (ZN (.ei it)) (λr s1=>r=none/\g8 X eS σ H s1) E s
 self:∀(A:tf)(i:dt)(s:kx)(Q:e5->kx->Prop)(E:e5->kx->Prop),tn i s.d_->Q (.ei it) s->kX (mG P w) A (ş (.ei it)) Q E s
abbrev TI:=St->Hp->(It->Hp->Prop)->Prop
def Nq(X:Cx)(eS:L (fh×nU))(σ:St)(tg:l_)(R:It->Hp->Prop)(Ff:e5)(s2:kx):Prop:=
 ∃(it:fh)(fp:L fh)(tn:dt->fH->Prop)(dr:It)(H':Hp),Ff=.ei it/\g8 X eS σ H' s2/\_X X.g_ X.w X.K tg dr fp it tn/\tn 0 s2.d_/\(∀b∈fp,fO X eS H' b)/\R dr H'
def PI(X:Cx)(tg rW:l_)(wi:TI):Prop:=
 ∀(eS:L (fh×nU))(s:kx)(σ:St)(H:Hp)(R:It->Hp->Prop),g8 X eS σ H s->wi σ H R ->
  kX (mG X.g_ X.w) X.A (eval rW X.el) (λv s1=>kX (mG X.g_ X.w) X.A (ş v) (Nq X eS σ tg R) X.xe s1) X.xe s
def Hj{E : e5 -> kx -> Prop}{s : kx}{it : fh}{o : nU}{n : ET}{vs : tP e5}{Q : Ò -> kx -> Prop}(ho : s.d_.f6 it = O o)(hc : o.ie = .hJ n)(hd : o.lg = .x6 vs)
    (hn : ["enumerate", "zip", "dict_itemiterator", "dict_reverseitemiterator", "odict_iterator", "itertools.zip_longest", "itertools.pairwise"].Ă n = false)(hQ : Q () s) : kX M A (ä tg (.ei it) u) Q E s := by
  unfold ä
  cases tg <;> first
    | exact oo hQ
    | (cases u <;> first
        | exact oo hQ
        | (refine i6 (ŷ ho ?_)
           rw [hc, hd];show kX M A (if (["enumerate", "zip", "dict_itemiterator", "dict_reverseitemiterator", "odict_iterator", "itertools.zip_longest", "itertools.pairwise"].Ă n && vs[0]? == O (ZA _)) = true then _ else _) Q E s;rw [kl (by intro h; rw [hn, fJ.false_and] at h; cases h)];exact oo hQ))
def AJ(K:Fg)(a:fh):It:=
 ⟨λi H=>∃xs x,cG K H a xs/\xs[i]?=O x,λi H x H'=>H'=H/\∀xs,cG K H a xs->xs[i]?=O x,λi H=>∃xs,cG K H a xs/\xs.J<=i⟩
def AK(K:Fg)(a:fh):It:=
 ⟨λi H=>∃xs x,c6 K H a xs/\xs[i]?=O x,λi H x H'=>H'=H/\∀xs,c6 K H a xs->xs[i]?=O x,λi H=>∃xs,c6 K H a xs/\xs.J<=i⟩
def rM(lo:eW)(n:dt):It:=⟨λi _=>i<n,λi H x H'=>H'=H/\x=.d0 (lo+i),λi _=>n<=i⟩
theorem zbs{P:qM}(a it:fh):_X P w K tg (AJ K a) [it] it (λi h=>h.Ê it a i) where
 YD:=by simp
 CZ:=λi h st b hb=>by
  have e:b=it:=by simpa using hb
  subst e;let⟨o,e,c,d⟩:=st;exact⟨o,e,λv z=>by rw[d]at z;cases z⟩
 pU:=λi h h' st k=>st.at λo e=>k it (by simp) o e
 Zd:=by
  intro X hP hw hK hc i eS s σ H E I hf st hg;subst hP hw hK;let⟨xs,x,hq,hx⟩:=hg;let⟨aC,rv,p,hz⟩:=I.wD hq;let⟨u,hu,ru⟩:=rv.BX hx;let⟨f0,f1,f2,f3,f4,f5⟩:=hf it (by simp);refine wpAny_pyNext_list_item st p.yM (x:=u) (by simpa using hu) λh' n6 sb=>?_
  have I1:g8 X eS σ H {s with d_:=h'}:=I.ZO (t':=s.nW) (λb o hb e=>(sb.2 b hb).iD e) f0 f1 f3 f4 f5
  let⟨o,e,c,d⟩:=id n6;exact⟨u,rfl,Hj (s:={s with d_:=h'}) e c d (by decide) ⟨x,H,I1,ru,⟨rfl,λys hy=>by rw[I.kA hy hq];exact hx⟩,n6,λb hb=>(hf b hb).1⟩⟩
 done:=by
  intro X hP hw hK hc i eS s σ H E I hf st hg;subst hP hw hK;let⟨xs,hq,hx⟩:=hg;let⟨aC,rv,p,hz⟩:=I.wD hq;let⟨f0,f1,f2,f3,f4,f5⟩:=hf it (by simp);have hl:=rv.J;exact wpAny_pyNext_list_end (I.ok.hd hc) st p.yM (by simp;omega) λh' eb=>⟨rfl,I.ZO (t':=s.nW) (λb o hb e=>eb b o hb e) f0 f1 f3 f4 f5⟩
 self:=λ_ _ _ _ _ st h=>wpAny_pyIter_listiter st h
theorem zbG{P:qM}(a it:fh):_X P w K tg (AK K a) [it] it (λi h=>h.Z6 it a i) where
 YD:=by simp
 CZ:=λi h st b hb=>by
  have e:b=it:=by simpa using hb
  subst e;let⟨o,e,c,d⟩:=st
  grind
 pU:=λi h h' st k=>st.at λo e=>k it (by simp) o e
 Zd:=by
  intro X hP hw hK hc i eS s σ H E I hf st hg;subst hP hw hK;let⟨xs,x,hq,hx⟩:=hg;let⟨aC,rv,p,hz⟩:=I.zb hq;let⟨u,hu,ru⟩:=rv.BX hx;let⟨f0,f1,f2,f3,f4,f5⟩:=hf it (by simp);refine wpAny_pyNext_tuple_item st (show s.d_.VU a aC.ky from p) (x:=u) (by simpa using hu) λh' n6 sb=>?_
  have I1:g8 X eS σ H {s with d_:=h'}:=I.ZO (t':=s.nW) (λb o hb e=>(sb.2 b hb).iD e) f0 f1 f3 f4 f5
  let⟨o,e,c,d⟩:=id n6;exact⟨u,rfl,Hj (s:={s with d_:=h'}) e c d (by decide) ⟨x,H,I1,ru,⟨rfl,λys hy=>by rw[I.jg hy hq];exact hx⟩,n6,λb hb=>(hf b hb).1⟩⟩
 done:=by
  intro X hP hw hK hc i eS s σ H E I hf st hg;subst hP hw hK;let⟨xs,hq,hx⟩:=hg;let⟨aC,rv,p,hz⟩:=I.zb hq;let⟨f0,f1,f2,f3,f4,f5⟩:=hf it (by simp);have hl:=rv.J;exact wpAny_pyNext_tuple_end (I.ok.hd hc) st (show s.d_.VU a aC.ky from p) (by simp;omega) λh' eb=>⟨rfl,I.ZO (t':=s.nW) (λb o hb e=>eb b o hb e) f0 f1 f3 f4 f5⟩
 self:=λ_ _ _ _ _ st h=>wpAny_pyIter_tupleiter st h
theorem zbH{P:qM}(it:fh)(lo:eW)(n:dt):_X P w K tg (rM lo n) [it] it (λi h=>Ž h it (lo+(i:dt)*1) ((n:eW)-(i:dt)) 1) where
 YD:=by simp
 CZ:=λi h st b hb=>by
  have e:b=it:=by simpa using hb
  subst e
  exact⟨_,st,λv z=>by
   have z':_B.x6 _=_B.mZ v:=z;cases z'⟩
 pU:=λi h h' st k=>k it (by simp) _ st
 Zd:=by
  intro X hP hw hK hc i eS s σ H E I hf st hg;subst hP hw hK;let⟨f0,f1,f2,f3,f4,f5⟩:=hf it (by simp);have W:=Ö.so (g_:=X.g_) (w:=X.w) (I.ok.hd hc) it lo 1 n;refine W.Zd i s _ _ hg st λv h' tk hv n6 kk=>?_
  let⟨t,rfl⟩:=hv;have I1:g8 X eS σ H {s with d_:=h',nW:=tk}:=I.ZO (λb o hb e=>kk b o (by simpa using hb) e) f0 f1 f3 f4 f5
  refine⟨_,rfl,Hj (s:={s with d_:=h',nW:=tk}) (n:="range_iterator") n6 rfl rfl (by decide) ⟨.d0 (lo+i),H,I1,⟨t,?_⟩,⟨rfl,rfl⟩,n6,λb hb=>(hf b hb).1⟩⟩
  rw[eW.mul_one]
 done:=by
  intro X hP hw hK hc i eS s σ H E I hf st hg;subst hP hw hK;let⟨f0,f1,f2,f3,f4,f5⟩:=hf it (by simp);exact wpAny_pyNext_range_end (I.ok.hd hc) st (by have:n<=i:=hg;omega) λh' eb=>⟨rfl,I.ZO (t':=s.nW) (λb o hb e=>eb b o hb e) f0 f1 f3 f4 f5⟩
 self:=λ_ _ _ _ _ st h=>wpAny_pyIter_rangeiter st h
def QB{R:It->Hp->Prop}{lo hi:eW}{t u v:Z8}{tk:dt}(I:g8 X eS σ H s)(h1:-(2^62)<=lo)(h2:lo<2^62)(h3:-(2^62)<=hi)(h4:hi<2^62)
  (q:R (rM lo (hi-lo).oR) H):kX (mG X.g_ X.w) X.A (ş (.ei s.d_.e6.eG)) (Nq X eS σ tg R) E {s with d_:=s.d_.nV {ie:=.hJ "range", lg:=.x6 #[.d0 lo t,.d0 hi u,.d0 1 v]},nW:=tk}:=by
 refine wpAny_pyIter_range (IsRange.rZ ..) (small_one h1 h2 h3 h4) ?_;have I1:g8 X eS σ H {s with d_:=s.d_.nV {ie:=.hJ "range", lg:=.x6 #[.d0 lo t,.d0 hi u,.d0 1 v]},nW:=tk}:=I.NK λb o e=>fH.q_ _ e
 refine⟨(s.d_.nV {ie:=.hJ "range", lg:=.x6 #[.d0 lo t,.d0 hi u,.d0 1 v]}).e6.eG,[(s.d_.nV {ie:=.hJ "range", lg:=.x6 #[.d0 lo t,.d0 hi u,.d0 1 v]}).e6.eG],_,_,H,rfl,
  I1.NK (t':=tk) λb o e=>fH.q_ _ e,zbH _ lo (hi-lo).oR,?_,λb hb=>?_,q⟩
 .have e1:lo+((0:dt):eW)*1=lo:=by simp
  have e2:(((hi-lo).oR:dt):eW)-((0:dt):eW)=oq.Range.rangeSize lo hi 1:=by grind [rangeSize_one]
  show Ž _ _ (lo+((0:dt):eW)*1) ((((hi-lo).oR:dt):eW)-((0:dt):eW)) 1;rw[e1,e2];exact fH.vM _ rfl
 .have e:b=(s.d_.nV {ie:=.hJ "range", lg:=.x6 #[.d0 lo t,.d0 hi u,.d0 1 v]}).e6.eG:=by simpa using hb
  subst e;exact I1.jB (w0d _) (I1.aR.u3 (w0d _))
def xm(ta:TA):TI:=λσ H R=>ta σ H λvs H1=>∃j:eW,vs=[.d0 j]/\-(2^62)<=j/\j<2^62/\R (rM 0 j.oR) H1
def CF(ta:TA):TI:=λσ H R=>ta σ H λvs H1=>∃i j:eW,vs=[.d0 i,.d0 j]/\(-(2^62)<=i/\i<2^62/\-(2^62)<=j/\j<2^62)/\R (rM i (j-i).oR) H1
def Lh{a:l_}{ta:TA}(hg:Gl X "range")(hm:X.mg "range"=none)(ha:PA X [a] ta)(hs:fi (lq [a] X.el=[(false,eval a X.el)]) jJ):PI X tg (.pY (.je "range" p) [a] [] fZ) (xm ta):=by
 intro eS s σ H R I h;refine Ç (uh I hg hm boot_range (uD.ri._F (bw (ha fZ eS s σ H _ I h) λus s1 ⟨vs,H1,I1,r1,q1⟩=>?_) hs rfl))
 let⟨j,e,q1,q2,q⟩:=q1;subst e;cases r1 with
 |m6 r rr=>
  cases rr;let⟨t,rfl⟩:=r;exact call_range_1 (QB I1 (by omega) (by omega) q1 q2 (by simpa using q))
def y1h{a b:l_}{ta:TA}(hg:Gl X "range")(hm:X.mg "range"=none)(ha:PA X [a,b] ta)(hs:fi (lq [a,b] X.el=[(false,eval a X.el),(false,eval b X.el)]) jJ)(hZ:fi (lq [b] X.el=[(false,eval b X.el)]) jJ):
  PI X tg (.pY (.je "range" p) [a,b] [] fZ) (CF ta):=by
 intro eS s σ H R I h;refine Ç (uh I hg hm boot_range (uD.ri._F (bw (ha fZ eS s σ H _ I h) λus s1 ⟨vs,H1,I1,r1,q1⟩=>?_) (by rw[hs,hZ]) (by rw[hZ];rfl)))
 let⟨i,j,e,⟨q1,q2,q3,q4⟩,q⟩:=q1;subst e;cases r1 with
 |m6 r rr=>
  cases rr with
  |m6 r' rr=>
   cases rr;let⟨t,rfl⟩:=r;let⟨t',rfl⟩:=r';exact call_range_2 (QB I1 q1 q2 q3 q4 q)
def LY(wi:TI)(g:TG)(tb:TS):TS:=λD σ H=>wi σ H λdr H1=>∃W:dt->dt->St->Hp->Prop,(∃m,W 0 m σ H1)/\∀i m σ H,W i m σ H ->
 (dr.stop i H/\D.nx σ H)\/(dr.go i H/\∃N:St->Hp->Prop,(∀aN H',N aN H'->∃m',m'<m/\W (i+1) m' aN H')/\∀x H',dr.lr i H x H'->g x σ H' λiT H2=>tb {D with nx:=N,ct:=N,bk:=D.nx} iT H2)
def i_(fp:L fh)(h:fH):L (fh×nU):=fp.Λ λb=>(h.f6 b).ej λo=>(b,o)
theorem zY{b:fh}{o:nU}(hb:b∈fp)(e:h.f6 b=O o):(b,o)∈i_ fp h:=w3j.rj ⟨b,hb,by rw[e];rfl⟩
def y1i{p:fh×nU}(hp:p∈i_ fp h):p.1∈fp/\h.f6 p.1=O p.2:=by
 let⟨b,hb,e⟩:=w3j.mp hp;cases q:h.f6 b with
 |none=>rw[q]at e;cases e
 |O o=>
  grind
theorem g8.å(I:g8 X eS σ H s)(hf:∀b∈fp,fO X eS H b)(ho:∀b∈fp,∃o,s.d_.f6 b=O o/\∀v,o.lg≠.mZ v):g8 X (eS++i_ fp s.d_) σ H s:=
 I.jW λp hp=>(w0w.mp hp).ke (λz=>I.OB p (w0e _ z)) λz=>by
  let⟨hb,e⟩:=y1i z;let⟨f0,f1,f2,_⟩:=hf p.1 hb
  grind
theorem g8.eV{pl:L (fh×nU)}(I:g8 X (eS++pl) σ H s):g8 X eS σ H s:=I.jW λp hp=>I.OB p (w0e _ (w1h _ hp))
def DU{rW:l_}{o3:L vv}{wi:TI}{g:TG}(hp:_V (mG X.g_ X.w) X.A X.el X.xe)(hc:X.wK=true)(hi:PI X tg rW wi)(hg:PG X tg g)(hb:kP X o3 tb)
  (hs:∀x,YS rW X.el x=pR x:=by intro _;rfl):PS X (.For tg rW o3 [] fZ) (LY wi g tb):=by
 intro eS s σ H D I h;refine wpAny_For (bw (hi eS s σ H _ I h) λv s1 h1=>bw h1 λFf s2 h2=>?_) hs
 let⟨it,fp,tn,dr,H2,e,I2,T,jc,f2,W,⟨m0,w0⟩,Yf⟩:=h2;subst e;have kL:∀{H':Hp},(∀b∈fp,H' b=none)->∀b∈fp,fO X eS H' b:=λhn b hb=>⟨hn b hb,(f2 b hb).2⟩
 refine codeAny_forLoop_any (λn s'=>∃i aN H',g8 X eS aN H' s'/\tn i s'.d_/\(∀b∈fp,H' b=none)/\W i n aN H') ?_ m0 ⟨0,σ,H2,I2,jc,λb hb=>(f2 b hb).1,w0⟩
 rintro n s3 ⟨i,uJ,H3,I3,vf,xg,w3⟩;rcases Yf i n uJ H3 w3 with⟨stop,qn⟩|⟨go,N,hN,YF⟩
 .refine ϔ hp (bw (T.done X rfl rfl rfl hc i eS s3 uJ H3 X.xe I3 (kL xg) vf stop) λr s4 ⟨hr,I4⟩=>?_)
  subst hr;exact ï ⟨uJ,H3,I4,qn⟩
 .refine ϔ hp (bw (T.Zd X rfl rfl rfl hc i eS s3 uJ H3 X.xe I3 (kL xg) vf go) λr s4 ⟨u,hr,h4⟩=>?_)
  subst hr;refine ϔ hp (bw h4 λ_ s5 ⟨x,H5,I5,zdl,y5,LR,VD⟩=>?_)
  have TZ:=I5.å (kL VD) (T.CZ _ _ LR);refine ϔ hp (bw (hg _ s5 uJ H5 x u _ TZ zdl (YF x H5 y5)) λ_ s6 ⟨Nj,H6,I6,q6⟩=>?_)
  refine ϔ hp (bw (hb _ s6 Nj H6 _ I6 q6) λf s7 q7=>?_)
  have ZT:∀{mz:St}{H7:Hp},g8 X (eS++i_ fp s5.d_) mz H7 s7->N mz H7->∃m,m<n/\∃i aN H',g8 X eS aN H' s7/\tn i s7.d_/\(∀b∈fp,H' b=none)/\W i m aN H':=λ{mz H7} I7 n7=>by
   let⟨m',hm,zd6⟩:=hN mz H7 n7;refine⟨m',hm,i+1,mz,H7,I7.eV,T.pU _ _ _ LR λb hb o e=>(I7.OB (b,o) (w0e _ (w0e _ (zY hb e)))).1,λb hb=>?_,zd6⟩
   let⟨o,e,d⟩:=T.CZ _ _ LR b hb;exact(I7.OB (b,o) (w0e _ (w0e _ (zY hb e)))).2.1
  cases f with
  |next=>let⟨mz,H7,I7,n7⟩:=q7;exact ZT I7 n7
  |Zv=>let⟨mz,H7,I7,n7⟩:=q7;exact ZT I7 n7
  |Zu=>let⟨mz,H7,I7,q7⟩:=q7;exact⟨mz,H7,I7.eV,q7⟩
  |yr v=>let⟨x7,mz,H7,I7,zdm,q7⟩:=q7;exact⟨x7,mz,H7,I7.eV,zdm,q7⟩
def y5z{g:TG}{D:Z1}(Pv:dt->St->Hp->Prop)(h0:Pv 0 σ H)(hl:∀i σ H,i<=xs.J->Pv i σ H->cG K H a xs)
  (hs:∀i x σ H,xs[i]?=O x->Pv i σ H->g x σ H λiT H2=>tb {D with nx:=Pv (i+1),ct:=Pv (i+1),bk:=D.nx} iT H2)(hd:∀σ H,Pv xs.J σ H->D.nx σ H):
  ∃W:dt->dt->St->Hp->Prop,(∃m,W 0 m σ H)/\∀i m σ H,W i m σ H ->
   ((AJ K a).stop i H/\D.nx σ H)\/((AJ K a).go i H/\∃N:St->Hp->Prop,(∀aN H',N aN H'->∃m',m'<m/\W (i+1) m' aN H')/\∀x H',(AJ K a).lr i H x H'->g x σ H' λiT H2=>tb {D with nx:=N,ct:=N,bk:=D.nx} iT H2):=by
 refine⟨λi m σ H=>m=xs.J-i/\i<=xs.J/\Pv i σ H,⟨xs.J,by simp,w1k _,h0⟩,?_⟩
 rintro i m σ H ⟨rfl,hi,p⟩;have q:=hl i σ H hi p
 by_cases cb:i<xs.J
 .refine .j' ⟨⟨xs,xs[i],q,by simp[cb]⟩,Pv (i+1),λaN H' p'=>⟨xs.J-(i+1),by omega,rfl,cb,p'⟩,λx H' y=>?_⟩
  let⟨e,y⟩:=y;subst e;exact hs i x σ _ (y xs q) p
 .have e:i=xs.J:=by omega
  subst e;exact .h8 ⟨⟨xs,q,w0d _⟩,hd σ H p⟩
def z00{g:TG}{D:Z1}(Pv:dt->St->Hp->Prop)(h0:Pv 0 σ H)(hl:∀i σ H,i<=xs.J->Pv i σ H->c6 K H a xs)
  (hs:∀i x σ H,xs[i]?=O x->Pv i σ H->g x σ H λiT H2=>tb {D with nx:=Pv (i+1),ct:=Pv (i+1),bk:=D.nx} iT H2)(hd:∀σ H,Pv xs.J σ H->D.nx σ H):
  ∃W:dt->dt->St->Hp->Prop,(∃m,W 0 m σ H)/\∀i m σ H,W i m σ H ->
   ((AK K a).stop i H/\D.nx σ H)\/((AK K a).go i H/\∃N:St->Hp->Prop,(∀aN H',N aN H'->∃m',m'<m/\W (i+1) m' aN H')/\∀x H',(AK K a).lr i H x H'->g x σ H' λiT H2=>tb {D with nx:=N,ct:=N,bk:=D.nx} iT H2):=by
 refine⟨λi m σ H=>m=xs.J-i/\i<=xs.J/\Pv i σ H,⟨xs.J,by simp,w1k _,h0⟩,?_⟩
 rintro i m σ H ⟨rfl,hi,p⟩;have q:=hl i σ H hi p
 by_cases cb:i<xs.J
 .refine .j' ⟨⟨xs,xs[i],q,by simp[cb]⟩,Pv (i+1),λaN H' p'=>⟨xs.J-(i+1),by omega,rfl,cb,p'⟩,λx H' y=>?_⟩
  let⟨e,y⟩:=y;subst e;exact hs i x σ _ (y xs q) p
 .have e:i=xs.J:=by omega
  subst e;exact .h8 ⟨⟨xs,q,w0d _⟩,hd σ H p⟩
def y1j{lo:eW}{n:dt}{g:TG}{D:Z1}(Pv:dt->St->Hp->Prop)(h0:Pv 0 σ H)
  (hs:∀i σ H,i<n->Pv i σ H->g (.d0 (lo+i)) σ H λiT H2=>tb {D with nx:=Pv (i+1),ct:=Pv (i+1),bk:=D.nx} iT H2)(hd:∀σ H,Pv n σ H->D.nx σ H):
  ∃W:dt->dt->St->Hp->Prop,(∃m,W 0 m σ H)/\∀i m σ H,W i m σ H ->
   ((rM lo n).stop i H/\D.nx σ H)\/((rM lo n).go i H/\∃N:St->Hp->Prop,(∀aN H',N aN H'->∃m',m'<m/\W (i+1) m' aN H')/\∀x H',(rM lo n).lr i H x H'->g x σ H' λiT H2=>tb {D with nx:=N,ct:=N,bk:=D.nx} iT H2):=by
 refine⟨λi m σ H=>m=n-i/\i<=n/\Pv i σ H,⟨n,by simp,w1k _,h0⟩,?_⟩
 rintro i m σ H ⟨rfl,hi,p⟩
 by_cases cb:i<n
 .refine .j' ⟨cb,Pv (i+1),λaN H' p'=>⟨n-(i+1),by omega,rfl,cb,p'⟩,λx H' y=>?_⟩
  let⟨e,y⟩:=y;subst e y;exact hs i σ _ cb p
 .have e:i=n:=by omega
  subst e;exact .h8 ⟨w0d _,hd σ H p⟩
abbrev R2:=V->V->Hp->VK->Prop
variable{r:R2}
def fM(X:Cx)(f:e5->e5->Zr e5)(r:R2):Prop:=
 ∀(eS:L (fh×nU))(s:kx)(σ:St)(H:Hp)(x y:V)(v u:e5)(Q:VK),g8 X eS σ H s->ot x v->ot y u->r x y H Q ->
  kX (mG X.g_ X.w) X.A (f v u) (EP X eS σ Q) X.xe s
def BS(X:Cx)(f:e5->Zr e5)(r:V->Hp->VK->Prop):Prop:=
 ∀(eS:L (fh×nU))(s:kx)(σ:St)(H:Hp)(x:V)(v:e5)(Q:VK),g8 X eS σ H s->ot x v->r x H Q ->
  kX (mG X.g_ X.w) X.A (f v) (EP X eS σ Q) X.xe s
def ft(X:Cx)(f:e5)(r:L V->Hp->VK->Prop):Prop:=
 ∀(eS:L (fh×nU))(s:kx)(σ:St)(H:Hp)(xs:L V)(us:L e5)(Q:VK),g8 X eS σ H s->oK xs us->r xs H Q ->
  kX (mG X.g_ X.w) X.A (zN f us) (EP X eS σ Q) X.xe s
def BR(X:Cx)(r:V->Hp->(fJ->Hp->Prop)->Prop):Prop:=
 ∀(eS:L (fh×nU))(s:kx)(σ:St)(H:Hp)(x:V)(v:e5)(Q:fJ->Hp->Prop),g8 X eS σ H s->ot x v->r x H Q ->
  kX (mG X.g_ X.w) X.A (Ű v) (TP X eS σ Q) X.xe s
def Eo(r:R2)(ta tb:TE):TE:=λσ H Q=>ta σ H λx H1=>tb σ H1 λy H2=>r x y H2 Q
def Pd(r:V->Hp->VK->Prop)(ta:TE):TE:=λσ H Q=>ta σ H λx H1=>r x H1 Q
def rI(C:eW->eW->Prop)(g:eW->eW->V):R2:=λx y H Q=>∃i j,x=.d0 i/\y=.d0 j/\C i j/\Q (g i j) H
def o_(g:eW->eW->V):R2:=λx y H Q=>∃i j,x=.d0 i/\y=.d0 j/\Q (g i j) H
def rU(g:eW->V):V->Hp->VK->Prop:=λx H Q=>∃i,x=.d0 i/\Q (g i) H
section
variable{a b:l_}{tb tc:TE}
def ee(ha:PE X a ta)(hb:PE X b tb){R:V->V->Hp->Prop}(I:g8 X eS σ H s)
  (h:ta σ H λx H1=>tb σ H1 λy H2=>R x y H2){Q:e5->kx->Prop}
  (hf:∀v u s2 x y H2,g8 X eS σ H2 s2->ot x v->ot y u->R x y H2->kX (mG X.g_ X.w) X.A (f v u) Q X.xe s2):
  kX (mG X.g_ X.w) X.A (eval a X.el) (λv aM=>kX (mG X.g_ X.w) X.A (eval b X.el) (λu nI=>kX (mG X.g_ X.w) X.A (f v u) Q X.xe nI) X.xe aM) X.xe s:=by
 refine bw (ha eS s σ H _ I h) λv s1 ⟨x,H1,I1,r1,q1⟩=>?_
 refine bw (hb eS s1 σ H1 _ I1 q1) λu s2 ⟨y,H2,I2,r2,q2⟩=>?_
 exact hf v u s2 x y H2 I2 r1 r2 q2
def UZ{op:Operator}(ho:fM X (Zb op) r)(ha:PE X a ta)(hb:PE X b tb):PE X (._q a op b fZ) (Eo r ta tb):=by
 intro eS s σ H Q I h;exact wpAny_BinOp (ee ha hb I h λv u s2 x y H2 I2 rx ry q=>ho eS s2 σ H2 x y v u Q I2 rx ry q)
def U0{op:_Y}{r:V->Hp->VK->Prop}(ho:BS X (ų op) r)(ha:PE X a ta):PE X (._Y op a fZ) (Pd r ta):=by
 intro eS s σ H Q I h;exact UnaryOp_ (bw (ha eS s σ H _ I h) λv s1 ⟨x,H1,I1,r1,q1⟩=>ho eS s1 σ H1 x v Q I1 r1 q1)
def Fs{C:eW->eW->Prop}{g:eW->eW->eW}
  (_N:∀(i j:eW)(t u:Z8)(s:kx)(Q:e5->kx->Prop)(E:e5->kx->Prop),C i j->Q (.d0 (g i j) s.nW) {s with nW:=s.nW+1}->kX (mG X.g_ X.w) X.A (f (.d0 i t) (.d0 j u)) Q E s):
  fM X f (rI C λi j=>.d0 (g i j)):=by
 intro eS s σ H x y v u Q I rx ry h;let⟨i,j,rfl,rfl,hc,q⟩:=h;let⟨t,rfl⟩:=rx;let⟨t',rfl⟩:=ry;exact _N i j t t' s _ _ hc ⟨.d0 (g i j),H,I.wY _,⟨_,rfl⟩,q⟩
def C8{g:eW->eW->eW}
  (_N:∀(i j:eW)(t u:Z8)(s:kx)(Q:e5->kx->Prop)(E:e5->kx->Prop),Q (.d0 (g i j) s.nW) {s with nW:=s.nW+1}->kX (mG X.g_ X.w) X.A (f (.d0 i t) (.d0 j u)) Q E s):
  fM X f (o_ λi j=>.d0 (g i j)):=by
 intro eS s σ H x y v u Q I rx ry h;let⟨i,j,rfl,rfl,q⟩:=h;let⟨t,rfl⟩:=rx;let⟨t',rfl⟩:=ry;exact _N i j t t' s _ _ ⟨.d0 (g i j),H,I.wY _,⟨_,rfl⟩,q⟩
def vV{g:eW->eW->fJ}
  (_N:∀(i j:eW)(t u:Z8)(s:kx)(Q:e5->kx->Prop)(E:e5->kx->Prop),Q (.rl (g i j)) s->kX (mG X.g_ X.w) X.A (f (.d0 i t) (.d0 j u)) Q E s):
  fM X f (o_ λi j=>.bl (g i j)):=by
 intro eS s σ H x y v u Q I rx ry h;let⟨i,j,rfl,rfl,q⟩:=h;let⟨t,rfl⟩:=rx;let⟨t',rfl⟩:=ry;exact _N i j t t' s _ _ ⟨.bl (g i j),H,I,rfl,q⟩
def BE(i j:eW):Prop:=0<j/\j<1073741824
def BF(i j:eW):Prop:=0<=j/\j<=1000000/\i._y<2^64
def vi(i j:eW):Prop:=(-(2^64)<i/\i<2^64)\/(-(2^64)<j/\j<2^64)
def vi.ok{i j:eW}(h:vi i j):IntMulOk i j:=by
 rcases h with⟨h1,h2⟩|⟨h1,h2⟩
 .exact .of_left (zcQ h1 h2)
 .exact .of_right (zcQ h1 h2)
theorem zeD:fM X (Zb .Add) (o_ λi j=>.d0 (i+j)):=C8 λ_ _ _ _ _ _ _ q=>add_int q
theorem z6z:fM X (Zb .Sub) (o_ λi j=>.d0 (i-j)):=C8 λ_ _ _ _ _ _ _ q=>sub_int q
theorem z60:fM X (Zb .ν) (rI vi λi j=>.d0 (i*j)):=Fs λ_ _ _ _ _ _ _ hc q=>mul_int q hc.ok
theorem z01:fM X (Zb .FloorDiv) (rI BE λi j=>.d0 (i / j)):=Fs λi j _ _ _ _ _ hc q=>by
 have h1:(0:eW)<j:=hc.1;have h2:j<1073741824:=hc.2;exact floordiv_int (by omega) (by rw[eW.fdiv_eq_ediv_of_nonneg i (by omega)];exact q) (.h8 (uD.noPylong_small (by omega)))
theorem z61:fM X (Zb ._T) (rI (λ_ j=>0<j) λi j=>.d0 (i%j)):=Fs λi j _ _ _ _ _ hc q=>by
 have h1:(0:eW)<j:=hc;exact mod_int' (by omega) (by rw[eW.fmod_eq_emod_of_nonneg i (by omega)];exact q)
theorem z62:fM X (Zb .Pow) (rI BF λi j=>.d0 (i^j.oR)):=Fs λ_ _ _ _ _ _ _ hc q=>pow_int_small hc.1 hc.2.1 hc.2.2 q
def XI{f:e5->Zr e5}{g:eW->eW}
  (_N:∀(i:eW)(t:Z8)(s:kx)(Q:e5->kx->Prop)(E:e5->kx->Prop),Q (.d0 (g i) s.nW) {s with nW:=s.nW+1}->kX (mG X.g_ X.w) X.A (f (.d0 i t)) Q E s):
  BS X f (rU λi=>.d0 (g i)):=by
 intro eS s σ H x v Q I rx h;let⟨i,rfl,q⟩:=h;let⟨t,rfl⟩:=rx;exact _N i t s _ _ ⟨.d0 (g i),H,I.wY _,⟨_,rfl⟩,q⟩
theorem z63:BS X (ų .USub) (rU λi=>.d0 (-i)):=XI λ_ _ _ _ _ q=>neg_int q
end
section
variable{a b:l_}{tb tc:TE}
def Sy{Q:VK}{k k':fJ}(I:g8 X eS σ H s)(q:Q (.bl k) H)(e:k=k'):EP X eS σ Q (.rl k') s:=by
 subst e;exact⟨.bl k,H,I,rfl,q⟩
theorem Ti:fM X (YO .Lt) (o_ λi j=>.bl (decide (i<j))):=vV λ_ _ _ _ _ _ _ q=>lt_int q
theorem U1:fM X (YO .LtE) (o_ λi j=>.bl (decide (i<=j))):=vV λ_ _ _ _ _ _ _ q=>le_int q
theorem Tj:fM X (YO .Gt) (o_ λi j=>.bl (decide (j<i))):=vV λ_ _ _ _ _ _ _ q=>gt_int q
theorem U2:fM X (YO .GtE) (o_ λi j=>.bl (decide (j<=i))):=vV λ_ _ _ _ _ _ _ q=>ge_int q
def fM.or{r':R2}(h:fM X f r)(h':fM X f r'):fM X f (λx y H Q=>r x y H Q\/r' x y H Q):=by
 intro eS s σ H x y v u Q I rx ry q;rcases q with q|q
 .exact h eS s σ H x y v u Q I rx ry q
 .exact h' eS s σ H x y v u Q I rx ry q
def dJ(b:l_)(h:fi (op≠.In) jK)(h2:fi (op≠.Z7) jK):Y_ op b=false:=by
 have e1:(op==Ϙ.In)=false:=by grind
 have e2:(op==Ϙ.Z7)=false:=by grind
 cases b<;>simp[Y_,e1,e2]
def z02(ho:fM X (YO op) r)(ha:PE X a ta)(hb:PE X b tb)(hm:Y_ op b=false):PE X (.Vq a [op] [b] fZ) (Eo r ta tb):=by
 intro eS s σ H Q I h;exact zeb (ee ha hb I h λv u s2 x y H2 I2 rx ry q=>ho eS s2 σ H2 x y v u Q I2 rx ry q) hm
def Es(t:TE):TT:=λσ H Q=>t σ H λx H'=>∃k,x=.bl k/\Q k H'
def z03(ho:fM X (YO op) r)(ha:PE X a ta)(hb:PE X b tb)(hm:Y_ op b=false):PT X (.Vq a [op] [b] fZ) (Es (Eo r ta tb)):=by
 intro eS s σ H Q I h
 refine zeh (bw (ha eS s σ H _ I h) λv s1 ⟨x,H1,I1,r1,q1⟩=>bw (hb eS s1 σ H1 _ I1 q1) λu s2 ⟨y,H2,I2,r2,q2⟩=>
  bw (ho eS s2 σ H2 x y v u _ I2 r1 r2 q2) λc s3 ⟨z,H3,I3,r3,k,e,q3⟩=>?_) hm
 subst e;cases r3;exact η ⟨H3,I3,q3⟩
def ym(K:Fg)(x:V)(H:Hp)(k:fJ):Prop:=
 match x with
 |.aH=>k=false
 |.bl b=>k=b
 |.d0 i=>k=(i != 0)
 |.str y=>y.J<=pg/\k=((y.J:eW) != 0)
 |.wX y=>y.eG<=pg/\k=((y.eG:eW) != 0)
 |.ei p=>(∃xs,cG K H p xs/\k=!xs.yw)\/(∃xs,c6 K H p xs/\k=!xs.yw)\/∃kvs,H p=O (.dK kvs)/\k=!kvs.yw
 |_=>pV
def zbI{κ:Type}{kvs:L (κ×V)}{vs:L (κ×e5)}(r:KV kvs vs):(!vs.yw)=!kvs.yw:=by
 cases r<;>rfl
def Pl{aC:L e5}(r:oK xs aC):(!aC.ky.yw)=!xs.yw:=by
 cases r<;>simp
def i8:(pg:dt)<2^63:=by rw[vN];decide
def z64:BR X (λx H Q=>∃k,ym X.K x H k/\Q k H):=by
 intro eS s σ H x v Q I rx h;let⟨k,e,q⟩:=h;have hl:=i8;have hs:pg=16777216:=vN;cases x with
 |aH=>
  cases rx;have e':k=false:=e;subst e';exact truthy_none ⟨H,I,q⟩
 |bl b=>
  cases rx;have e':k=b:=e;subst e';exact η ⟨H,I,q⟩
 |d0 i=>
  let⟨t,rfl⟩:=rx;have e':k=(i != 0):=e;subst e';exact kd.P.truthy_int ⟨H,I,q⟩
 |str y=>
  let⟨t,rfl⟩:=rx;obtain⟨hy,e'⟩:y.J<=pg/\k=((y.J:eW) != 0):=e;subst e';exact kd.P.truthy_str (by omega) ⟨H,I.wY _,q⟩
 |wX y=>
  let⟨t,rfl⟩:=rx;obtain⟨hy,e'⟩:y.eG<=pg/\k=((y.eG:eW) != 0):=e;subst e';exact kd.W.truthy_bytes (by omega) ⟨H,I.wY _,q⟩
 |ei p=>
  cases rx;have e':(∃xs,cG X.K H p xs/\k=!xs.yw)\/(∃xs,c6 X.K H p xs/\k=!xs.yw)\/∃kvs,H p=O (.dK kvs)/\k=!kvs.yw:=e;rcases e' with⟨xs,hx,e'⟩|⟨xs,hx,e'⟩|⟨kvs,hx,e'⟩
  .subst e';let⟨aC,r,pl,hz⟩:=I.wD hx;have vd:=r.J;exact wpAny_truthy_list pl.yM (by simp only[w0i];omega) ⟨H,I.wY _,by rw[Pl r];exact q⟩
  .subst e';let⟨aC,r,pl,hz⟩:=I.zb hx;have vd:=r.J;exact truthy_tuple pl (by simp only[w0i];omega) ⟨H,I.wY _,by rw[Pl r];exact q⟩
  .subst e';obtain⟨hz,hS,vs,r,m⟩:kvs.J<=pg/\(p==ZZ)=false/\∃vs,KV kvs vs/\s.d_.Ϛ (cU X.g_ X.w) p vs:=I.aR p _ hx;have vd:kvs.J=vs.J:=YZ.J r;exact wpAny_truthy_dict hS m (by omega) ⟨H,I.wY _,by rw[zbI r];exact q⟩
 |_=>exact(show pV from e).ke
def y50(ha:PE X a ta)(he:∀_m,ϱ a X.el _m=(do let v <- _m;ϸ a.fZ;Ξ [v] (Ű v))):
  PT X a (λσ H Q=>ta σ H λx H'=>∃k,ym X.K x H' k/\Q k H'):=by
 intro eS s σ H Q I h;exact isTrue_plain (bw (ha eS s σ H _ I h) λv s1 ⟨x,H1,I1,r1,q1⟩=>z64 eS s1 σ H1 x v Q I1 r1 q1) (he _)
def zc_:fM X (Zb .Add) (λx y H Q=>∃i j,x=.str i/\y=.str j/\i.J+j.J<=pg/\Q (.str (i++j)) H):=by
 intro eS s σ H x y v u Q I rx ry h;let⟨i,j,rfl,rfl,hz,q⟩:=h;let⟨t,rfl⟩:=rx;let⟨t',rfl⟩:=ry;exact add_str (λt' tk=>⟨.str (i++j),H,I.wY _,⟨_,rfl⟩,q⟩) hz
def ϓ{x:V}(r:oK [x] us):∃u,us=[u]/\ot x u:=by
 cases r with
 |m6 r1 r2=>cases r2;exact⟨_,rfl,r1⟩
def Ĥ{x y:V}(r:oK [x,y] us):∃u w',us=[u,w']/\ot x u/\ot y w':=by
 cases r with
 |m6 r1 r2=>
  cases r2 with
  |m6 r3 r4=>cases r4;exact⟨_,_,rfl,r1,r3⟩
def y1l(hc:X.wK=true):ft X (.rn "max") (λxs H Q=>∃i j,xs=[.d0 i,.d0 j]/\Q (.d0 (if j>i then j else i)) H):=by
 intro eS s σ H xs us Q I r h;let⟨i,j,rfl,q⟩:=h;let⟨u,w',rfl,⟨t,rfl⟩,⟨t',rfl⟩⟩:=Ĥ r;refine max_two_ints (I.ok.hd hc) λh' tk k=>⟨_,H,I.NK k,?_,q⟩
 by_cases hj:j>i
 .rw[gE hj,gE hj];exact⟨_,rfl⟩
 .rw[kl hj,kl hj];exact⟨_,rfl⟩
def y1m:ft X (.hJ "int") (λxs H Q=>(∃i,xs=[.d0 i]/\Q (.d0 i) H)\/∃k,xs=[.bl k]/\Q (.d0 (if k then 1 else 0)) H):=by
 intro eS s σ H xs us Q I r h;rcases h with⟨i,rfl,q⟩|⟨k,rfl,q⟩
 .let⟨u,rfl,t,rfl⟩:=ϓ r;exact call_int_int ⟨.d0 i,H,I,⟨_,rfl⟩,q⟩
 .let⟨u,rfl,r1⟩:=ϓ r;cases r1;exact call_int_bool ⟨.d0 (if k then 1 else 0),H,I.wY _,⟨_,rfl⟩,q⟩
def BL(K:Fg)(x:V)(H:Hp)(n:dt):Prop:=
 match x with
 |.str y=>y.J<=pg/\n=y.J
 |.wX y=>y.eG<=pg/\n=y.eG
 |.ei p=>(∃xs,cG K H p xs/\n=xs.J)\/∃xs,c6 K H p xs/\n=xs.J
 |_=>pV
def QC:ft X (.rn "len") (λxs H Q=>∃x n,xs=[x]/\BL X.K x H n/\Q (.d0 n) H):=by
 intro eS s σ H xs us Q I r h;let⟨x,n,rfl,e,q⟩:=h;let⟨u,rfl,rx⟩:=ϓ r;have hl:=i8;have hs:pg=16777216:=vN;cases x with
 |str y=>
  let⟨t,rfl⟩:=rx;obtain⟨hy,e'⟩:y.J<=pg/\n=y.J:=e;subst e';exact len_str (by omega) ⟨.d0 _,H,I.wY _,⟨_,rfl⟩,q⟩
 |wX y=>
  let⟨t,rfl⟩:=rx;obtain⟨hy,e'⟩:y.eG<=pg/\n=y.eG:=e;subst e';exact kd.W.len_bytes (by omega) ⟨.d0 _,H,I.wY _,⟨_,rfl⟩,q⟩
 |ei p=>
  cases rx;have e':(∃xs,cG X.K H p xs/\n=xs.J)\/∃xs,c6 X.K H p xs/\n=xs.J:=e;rcases e' with⟨xs,hx,e'⟩|⟨xs,hx,e'⟩
  .subst e';let⟨aC,r',pl,hz⟩:=I.wD hx;have vd:=r'.J;exact Yq.call_len_list pl.yM (by simp only[w0i];omega) ⟨.d0 xs.J,H,I.wY _,⟨_,by simp only[w0i];rw[vd]⟩,q⟩
  .subst e';let⟨aC,r',pl,hz⟩:=I.zb hx;have vd:=r'.J;exact len_tuple pl (by simp only[w0i];omega) ⟨.d0 xs.J,H,I.wY _,⟨_,by simp only[w0i];rw[vd]⟩,q⟩
 |_=>exact(show pV from e).ke
end
structure zfa(h:fH)(x dx C:fh)(mA:eh->fG e5):Prop where
 CZ:h.f6 x=O (kd.W.instObj C dx)
 ns:h.Ns1 dx mA
 ne:dx≠x
def kU.Ũ{v:V}{o:fG e5}(r:kU (O v) o):∃u,o=O u/\ot v u:=by
 cases o with
 |none=>exact(show pV from r).ke
 |O u=>exact⟨u,rfl,r⟩
structure TR(K:Fg)(C:fh):Prop where
 zga:kd.W.plainGet K C eh.ZG=true
 hd:kd.W.hasDictIn K C=true
 po:kd.W.plainOver K C=true
 sa:_h K (.ei C) "__setattr__"=O (O (.rn "object.__setattr__"))
structure Con(K:Fg)(C:fh)(f:eh)(v:V)(u:e5):Prop where
 at_:_h K (.ei C) f=O (O u)
 iA:ot v u
 BX:Ě K u "__get__"=O none
 cp:kd.W.copiedNames.Ă f=false
structure Meth(K:Fg)(C:fh)(m:eh)(f:fh):Prop where
 at_:_h K (.ei C) m=O (O (.ei f))
 fn:kd.W.isFn K (.ei f)=true
 kp:ZY K (.ei f)=true
section
variable{Q:e5->kx->Prop}{c:e5}{b:fJ}
inductive j0(K:Fg)(H:Hp):V->e5->Prop where
 |aH:j0 K H .aH (.hJ "NoneType")
 |bl (x:fJ):j0 K H (.bl x) (.hJ "bool")
 |d0 (i:eW):j0 K H (.d0 i) (.hJ "int")
 |str (x:eh):j0 K H (.str x) (.hJ "str")
 |qN (x:UInt64):j0 K H (.qN x) (.hJ "float")
 |fy {a:fh} {xs:L V} (e:H a=O (.fy xs)):j0 K H (.ei a) (.hJ "list")
 |jn {a:fh} {o:nU} {xs:L V} (e:H a=O (.jn o (.fy xs))):j0 K H (.ei a) (.hJ "list")
 |ff {a:fh} {xs:L V} (e:H a=O (.ff xs)):j0 K H (.ei a) (.hJ "tuple")
 |dK {a:fh} {kvs:L (wB×V)} (e:H a=O (.dK kvs)):j0 K H (.ei a) (.hJ "dict")
 |dT {a:fh} {sh:Sh} {kvs:L (Kx×V)} {bC:L fh} (e:H a=O (.dT sh kvs bC)):j0 K H (.ei a) (.hJ "dict")
 |f' {a C dx:fh} {fs:L (eh×V)} (e:H a=O (.f' C dx fs)) (cl:TR K C) (ha:_h K (.ei C) "__class__"=O (O (.rn "object.__class__")))
   (hn:Ě K (.rn "object.__class__") "__get__"=O (O (.rn "getset_descriptor.__get__"))) (htk:Ů K (.rn "object.__class__")=O true)
   (hm:kd.W.ψ K C (.hJ "object")=O true):j0 K H (.ei a) (.ei C)
end
structure bL(k:dt)(A:tf):Prop where
 hd:A.Nr=none
 dp:A.oY+3*k+5<Š
 un:A.r7+16*k+200<r_
 gd:A.guards=O []
theorem bL.LO{k:dt}(r:bL (k+1) A)(el:tY):bL k (A.LO el):=
 ⟨r.hd,by have:=r.dp;show A.oY+1+3*k+5<_;omega,by have:=r.un;show A.r7+3+16*k+200<_;omega,r.gd⟩
def bL.oY{k:dt}(r:bL k A):A.oY<Š:=by have:=r.dp;omega
def Ax:TA:=λ_ H Q=>Q [] H
def qw(ta:TE)(tr:TA):TA:=λσ H Q=>ta σ H λx H1=>tr σ H1 λxs H2=>Q (x::xs) H2
section
variable{t:TA}
theorem DX:PA X [] Ax:=λ_ _ _ _ H Q I h=>Yq.Ĝ ⟨[],H,I,.m8,h⟩
def v9(ha:PE X e te)(hr:PA X es t)(hs:fi (lq (e::es) X.el=(false,eval e X.el)::lq es X.el) jJ):PA X (e::es) (qw te t):=by
 intro fZ eS s σ H Q I h;rw[hs];show kX _ _ (ë ((false,eval e X.el)::r8 fZ (lq es X.el))) _ _ s;refine Yq.ě (bw (ha eS s σ H _ I h) λu s1 ⟨x,H1,I1,r1,q1⟩=>?_)
 exact bw (hr fZ eS s1 σ H1 _ I1 q1) λus s2 ⟨xs,H2,I2,r2,q2⟩=>⟨x::xs,H2,I2,.m6 r1 r2,q2⟩
def L8(t:TA):TE:=λσ H Q=>t σ H λxs H1=>xs.J<=pg/\∀p,H1 p=none->Q (.ei p) (l5 H1 p (.ff xs))
def LZ(t:TA):TE:=λσ H Q=>t σ H λxs H1=>xs.J<=pg/\∀p,H1 p=none->Q (.ei p) (l5 H1 p (.fy xs))
def z65{x1}(h:PA X es t):PE X (.JJ es x1 fZ) (L8 t):=by
 intro eS s σ H Q I hq;refine wpAny_Tuple_spliced (bw (h fZ eS s σ H _ I hq) λus s1 ⟨xs,H1,I1,r,z,q⟩=>⟨by rw[<- r.J];exact z,?_⟩)
 have hf:H1 s1.d_.e6.eG=none:=I1.aR.u3 (w0d _);refine⟨.ei s1.d_.e6.eG,l5 H1 s1.d_.e6.eG (.ff xs),I1.wg (t':=s1.nW) (λb u e=>fH.q_ _ e) (w0d _) ?_,rfl,q _ hf⟩
 exact⟨z,us,r,⟨_,fH.vM _ rfl,rfl,_,rfl⟩,⟨_,fH.vM _ rfl,rfl⟩⟩
def z66(h:PA X es t):PE X (.L es fZ) (LZ t):=by
 intro eS s σ H Q I hq;refine wpAny_List_spliced (bw (h fZ eS s σ H _ I hq) λus s1 ⟨xs,H1,I1,r,z,q⟩=>⟨by rw[<- r.J];exact z,?_⟩)
 have hf:H1 s1.d_.e6.eG=none:=I1.aR.u3 (w0d _);refine⟨.ei s1.d_.e6.eG,l5 H1 s1.d_.e6.eG (.fy xs),I1.wg (t':=s1.nW) (λb u e=>fH.q_ _ e) (w0d _) ?_,rfl,q _ hf⟩
 exact⟨z,us,0,r,fH.vM _ rfl⟩
end
abbrev Sp:=L V->Hp->VK->XK->Prop
variable{sp:Sp}
abbrev n_:=L tY->Hp->kx->XK->e5->kx->Prop
variable{CX:n_}
structure jx(P:qM)(w:pT)(K:Fg)(mg:eh->fG e5)(g0:fH)(A:tf)(l4:L tY)(s:kx)(H:Hp):Prop where
 Yu:A.Yu=O l4
 yl:_T K mg g0
 bs:∀b o,g0.f6 b=O o->s.d_.f6 b=O o/\H b=none
 om:g0.e6.eG<=s.d_.e6.eG
 e_:s.d_.μ g0 l4
 pK:∀b∈fV l4,H b=none
 aR:dD P w H s.d_
 wC:ZP s.Yw
 YV:gJ K H
def CE(l4:L tY)(P:qM)(w:pT)(H:Hp)(s:kx)(Q:VK)(u:e5)(s':kx):Prop:=
 ∃v H',s'.os=s.os/\ZP s'.Yw/\Un (fV l4) [] H H' s.d_ s'.d_/\dD P w H' s'.d_/\ot v u/\Q v H'
def CR(CX:n_)(l4:L tY)(P:qM)(w:pT)(H:Hp)(s:kx)(Q:VK)(E:XK)(r:į)(s':kx):Prop:=
 match r with
 |.ok (.yr u)=>CE l4 P w H s Q u s'
 |.ok _=>pV
 |.τ e=>CX l4 H s E e s'
structure fN(P:qM)(w:pT)(K:Fg)(mg:eh->fG e5)(g0:fH)(CX:n_)(k:dt)(f:fh)(fd:Zp)(ps:L eh)(sp:Sp):Prop where
 oO:∀vs H Q E,sp vs H Q E->vs.J=ps.J
 g9:∀(A:tf)(l4:L tY)(s:kx)(H:Hp)(args:Args)(us:L e5)(vs:L V)(Q:VK)(E:XK),bL k A->jx P w K mg g0 A l4 s H->_r s fd args (ps.uu us)->oK vs us->sp vs H Q E ->
  YN (mG P w) A (.zN (.ei f) args) (CR CX l4 P w H s Q E) s
theorem fN.pQ{P:qM}{k:dt}{f:fh}{ps:L eh}{O8:Sp}(F:fN P w K mg g0 CX k f fd ps sp)
  (h:∀vs H Q E,O8 vs H Q E->sp vs H Q E):fN P w K mg g0 CX k f fd ps O8:=
 ⟨λvs H Q E q=>F.oO vs H Q E (h _ _ _ _ q),λA l4 s H args us vs Q E hr he hb hv hs=>F.g9 A l4 s H args us vs Q E hr he hb hv (h _ _ _ _ hs)⟩
section
variable{s':kx}
theorem g8.vz(I:g8 X eS σ H s):jx X.g_ X.w X.K X.mg X.g0 X.A X.zf s H:=
 ⟨I.ok.Yu,I.ok.yl,I.bs,w1d I.ok.om I.sz,I.zf,I.mn,I.aR,I.wC,I.ok.YV.un I.g0⟩
def g8.Ϣ{Q:VK}(I:g8 X eS σ H s)(h:CE X.zf X.g_ X.w H s Q u s'):EP X eS σ Q u s':=by
 let⟨v,H',os,wC,un,aR,r,q⟩:=h;let⟨hh,g,d,t,WX⟩:=s';obtain rfl:WX=s.os:=os;exact⟨v,H',I.zN (h':=hh) (g':=g) (d':=d) (t':=t) (ch:=[]) un aR wC (λb z=>nS z (by simp)),r,q⟩
end
def x9(sp:Sp)(sU:L V)(E:XK)(t:TA):TE:=λσ H Q=>t σ H λvs H1=>sp (vs++sU) H1 Q E
def ZR(K:Fg)(fd:Zp)(ps:L eh)(ds:L e5):Prop:=
 ∀(s:kx)(us:L e5),K.In s.d_->(us++ds).J=ps.J->_r s fd ⟨us,[]⟩ (ps.uu (us++ds))
theorem ZR.oP{ps:L eh}(h:∀us:L e5,us.J=ps.J->Γ fd ⟨us,[]⟩=pR (ps.uu us)):ZR K fd ps []:=λs us _ hl=>by
 rw[w0s]at hl |-
 exact .ϵ (h us hl)
section
variable{k:dt}{f:fh}{ps:L eh}{sU:L V}{ds:L e5}{E:XK}{m:eh}{zp:qY}{o:l_}{t:TA}
structure zeY(K:Fg)(C f:fh):Prop where
 makes:kd.W.makesIn K C=true
 Zh:_h K (.ei C) "__init__"=O (O (.ei f))
 fn:kd.W.isFn K (.ei f)=true
 kp:ZY K (.ei C)=true
end
section
variable{k:dt}{f:fh}{ps ks:L eh}{E:XK}{m:eh}{zp zfh:qY}{o:l_}{kws:L Yr}{t tk:TA}{nm:fG eh}
structure zeV(K:Fg)(fd:Zp)(ps ks:L eh)(g:L e5->L e5->L e5)(gV:L V->L V->L V):Prop where
 to:∀(s:kx)(us ws:L e5),K.In s.d_->(g us ws).J=ps.J->_r s fd ⟨us,ks.uu ws⟩ (ps.uu (g us ws))
 iA:∀{vs:L V}{us:L e5}{zs:L V}{ws:L e5},oK vs us->oK zs ws->oK (gV vs zs) (g us ws)
variable{g:L e5->L e5->L e5}{gV:L V->L V->L V}
end
structure bV(N P:L eh)(sc:vP):Prop where
 sP:sc.sP=.Zc
 co:sc.à=false
 gen:sc.á=false
 nd:N.p9
 pre:N.n5 P.J=P
 Zi:∀x∈P,sc.lH.fI x=O .local\/sc.lH.fI x=O .mZ
 kG:∀y∈sc.lH,y.2≠.nL
theorem PU{vW:eh->fG AW}:∀{Ζ:L (eh×e5)}{m:eh->fG e5},(∀v,(x,v)∉Ζ)->Ε vW Ζ m x=m x
 |[],_,_=>rfl
 |(n,v)::r,m,h=>by
  unfold Ε;rw[PU λw hw=>h w (w0f _ hw)]
  split
  .have:x≠n:=by rintro rfl;exact h v w0l
   simp[this]
  .rfl
theorem PX{vW:eh->fG AW}:∀{Ζ:L (eh×e5)}{m:eh->fG e5},(∀v,(x,v)∉Ζ)->Δ vW Ζ m x=m x
 |[],_,_=>rfl
 |(n,v)::r,m,h=>by
  unfold Δ;rw[PX λw hw=>h w (w0f _ hw)]
  split
  all_goals grind
theorem PY{vW:eh->fG AW}{x:eh}{v:e5}:∀{P:L eh}{vs:L e5}{i:dt}{m:eh->fG e5},P.p9->P[i]?=O x->vs[i]?=O v->vW x=O .local ->
  Ε vW (P.uu vs) m x=O v
 |[],_,_,_,_,h,_,_=>by simp at h
 |_::_,[],_,_,_,_,h,_=>by simp at h
 |p::P,w::vs,0,m,nd,h1,h2,hk=>by
  simp at h1 h2;subst h1;subst h2;show Ε vW ((p,w)::P.uu vs) m p=_;unfold Ε;rw[PU λv hv=>(w2f.mp nd).1 (w3z hv).1,gE hk]
  simp
 |p::P,w::vs,i+1,m,nd,h1,h2,hk=>by
  show Ε vW ((p,w)::P.uu vs) m x=_;unfold Ε;exact PY (i:=i) (w2f.mp nd).2 (by simpa using h1) (by simpa using h2) hk
theorem PZ{vW:eh->fG AW}{x:eh}{v:e5}:∀{P:L eh}{vs:L e5}{i:dt}{m:eh->fG e5},P.p9->P[i]?=O x->vs[i]?=O v->vW x≠O .local ->
  Δ vW (P.uu vs) m x=O v
 |[],_,_,_,_,h,_,_=>by simp at h
 |_::_,[],_,_,_,_,h,_=>by simp at h
 |p::P,w::vs,0,m,nd,h1,h2,hk=>by
  simp at h1 h2;subst h1;subst h2;show Δ vW ((p,w)::P.uu vs) m p=_;unfold Δ;rw[PX λv hv=>(w2f.mp nd).1 (w3z hv).1,kl hk]
  simp
 |p::P,w::vs,i+1,m,nd,h1,h2,hk=>by
  show Δ vW ((p,w)::P.uu vs) m x=_;unfold Δ;exact PZ (i:=i) (w2f.mp nd).2 (by simpa using h1) (by simpa using h2) hk
def XD(N:L eh)(vs:L V):St:=vs.ej O++L.oS (N.J-vs.J) none
def eM(CX:n_)(P:qM)(w:pT)(K:Fg)(mg:eh->fG e5)(g0:fH)(N:L eh)(n0:eh)(fj:vP)(f:fh)(cd:e5)(A:tf)(l4:L tY)(s:kx)(H:Hp)(E:XK):Cx where
 g_:=P
 w:=w
 K:=K
 mg:=mg
 g0:=g0
 A:=A.LO (Ot n0 fj s.d_.e6.eG f cd)
 N:=N
 aB:=s
 aI:=H
 el:=Ot n0 fj s.d_.e6.eG f cd
 l4:=l4
 zf:=Ot n0 fj s.d_.e6.eG f cd::l4
 ex:=[]
 wK:=true
 fn:=λ_=>true
 pn:=[]
 xe:=λe s'=>kX (mG P w) (A.LO (Ot n0 fj s.d_.e6.eG f cd)) (leaving (Ot n0 fj s.d_.e6.eG f cd) e) (λ_ ja=>CX l4 H s E e ja) (λe' ja=>CX l4 H s E e' ja) s'
def QD{sc:vP}{n:dt}(h:sc.lH.fI x=O .mZ):∃c,(Ϩ n sc.lH []).fI x=O c:=by
 have q:=ĺ sc.lH n [] (.h8 h);exact w3x.mp q
def Qa{P:qM}{ps:L eh}{n0:eh}{fj:vP}{f:fh}{cd:e5}{l4:L tY}{s1:kx}{E:XK}{vs:L V}
  (S:bV N ps fj)(hd:A.Nr=none)(e0:jx P w K mg g0 A l4 s H)(hl:vs.J=ps.J)(r:oK vs us)
  (x:InCallC s s.d_.e6.eG (Ε (Ot n0 fj s.d_.e6.eG f cd).vW (ps.uu us) λ_=>none) (Ϩ (s.d_.e6.eG+1) fj.lH []) (Δ (Ot n0 fj s.d_.e6.eG f cd).vW (ps.uu us) λ_=>none) s1):
  g8 (eM CX P w K mg g0 N n0 fj f cd A l4 s H E) [] (XD N vs) H s1:=by
 have df:ps.J<=N.J:=by have:=Yc L.J S.pre;rw[w1i]at this;omega
 let⟨h1,tk,rfl,hk⟩:=x.done;have vS:∀b:fh,b∉(eM CX P w K mg g0 N n0 fj f cd A l4 s H E).ex:=λb z=>nS (show b∈([]:L fh)from z) (by simp)
 refine⟨⟨e0.yl,S.sP,rfl,rfl,w0d _,λy z c h1 h2=>?_,λy hy=>?_,λy c _ h=>?_,λ_=>hd,tf.ň e0.Yu,.j' ⟨rfl,rfl⟩,λb z=>nS z (vS b),e0.bs,e0.om,λb _ _=>vS b,λb z=>nS z (vS b),e0.e_,e0.pK,e0.YV⟩,
  rfl,e0.wC,Un.NK hk,⟨_,x.ů.ns,λi y v h1 h2 h3=>?_⟩,λy c h=>⟨_,x.mZ y c h⟩,e0.aR.u3 (w0d _),λy c h=>?_,λp hp=>nS (show p∈([]:L (fh×nU))from hp) (by simp),e0.aR.NK hk,?_⟩
 .exact name_of_addr x.apart (kd.ZJ h1) (kd.ZJ h2)
 .have hy:fj.lH.fI y=O .mZ\/fj.lH.fI y=O .nL:=hy;rcases hy with hy|hy
  .exact QD hy
  .exact nS rfl (S.kG _ (kd.ZJ hy))
 .exact w6p (x.YM y c (kd.ZJ h))
 .have hi:i<vs.J:=by
   unfold XD at h2
   by_cases hi:i<vs.J
   .exact hi
   .rw[w0z (by simpa using hi)]at h2;rw[w2r]at h2;split at h2<;>cases h2
  have ha:vs[i]?=O v:=by
   unfold XD at h2;rw[w0x (by simpa using hi),w1c]at h2;cases e:vs[i]? with
   |none=>rw[e]at h2;cases h2
   |O a=>rw[e]at h2;cases (h2);rfl
  let⟨u,hu,rv⟩:=r.BX ha
  have hp:ps[i]?=O y:=by
   rw[<- S.pre,L.getElem?_take_of_lt (by omega)];exact h1
  have Ox:ps.p9:=by rw[<- S.pre];exact S.nd.ġ (w4g _ _)
  refine⟨u,rv,?_⟩;rcases S.Zi y (w1m hp)with k|k
  .exact .h8 ⟨k,PY Ox hp hu k⟩
  .let⟨c,e⟩:=QD (n:=s.d_.e6.eG+1) k;refine .j' ⟨.h8 k,c,e,?_⟩;have q:=x.mZ y c e;rw[PZ Ox hp hu (by show fj.lH.fI y≠_;rw[k];decide)]at q;exact q
 .exact e0.aR.u3 (w6p (x.YM y c (kd.ZJ h)))
 .unfold XD;show _=N.J;rw[w0g,w0b,w4i];omega
def Tp{P:qM}{k:dt}{f:fh}{name n0:eh}{p7:_A}{o3:L vv}{fj:vP}{dV kV Q1 pm bN ct oc:e5}{an od:fG fh}
  {uZ:tP (fG e5)}{ps:L eh}(lk:K.fI f=O ⟨oc,od,.Yv (kd.W._v name n0 p7 o3 fj dV kV Q1 pm an bN ct),uZ⟩)(dR:kd.W._d K bN n0=true)(S:bV N ps fj)
  (oO:∀vs H Q E,sp vs H Q E->vs.J=ps.J)
  (iB:∀(A:tf)(l4:L tY)(s:kx)(H:Hp)(vs:L V)(Q:VK)(E:XK),bL k (A.LO (Ot n0 fj s.d_.e6.eG f bN))->sp vs H Q E ->
   ∃t,kP (eM CX P w K mg g0 N n0 fj f bN A l4 s H E) o3 t/\t {nx:=λ_ H'=>Q .aH H',rt:=Q} (XD N vs) H):
  fN P w K mg g0 CX (k+1) f (kd.W._v name n0 p7 o3 fj dV kV Q1 pm an bN ct) ps sp:=by
 refine⟨oO,λA l4 s H args us vs Q E hr e0 hb r oH=>?_⟩
 have hl:=oO _ _ _ _ oH;have KX:K.In s.d_:=e0.yl.uX.AN λb o e=>(e0.bs b o e).1
 have lim:s.d_.Ϟ:=e0.yl.ϴ.AN λb o e=>(e0.bs b o e).1
 have tF:∀y∈ps.uu us,fj.lH.fI y.1=O .local\/(fj.lH.fI y.1=O .mZ/\((Ϩ (s.d_.e6.eG+1) fj.lH []).fI y.1).sG=true):=fun⟨n,v⟩ hy=>by
  rcases S.Zi n (w3z hy).1 with q|q
  .exact .h8 q
  .exact .j' ⟨q,ĺ _ _ _ (.h8 q)⟩
 refine zb0 hr.oY (KX _ _ lk) rfl S.co S.gen rfl (kd.W.codeRec_of KX dR) (hb _ _ _ _ ?_)
 refine zem S.sP tF λel he s1 x=>?_
 subst he;refine⟨lim.AN x.ů.pU,zb2 ?_⟩
 let⟨t,ht,hq⟩:=iB A l4 s H vs Q E (hr.LO _) oH;have I:g8 (eM CX P w K mg g0 N n0 fj f bN A l4 s H E) [] (XD N vs) H s1:=Qa S hr.hd e0 hl r x;refine YX (ht [] s1 (XD N vs) H _ I hq) (λfl s' hs=>?_) λe s' hs=>hs
 have vR:∀{aN:St}{H':Hp}{v:V}{u:e5},g8 (eM CX P w K mg g0 N n0 fj f bN A l4 s H E) [] aN H' s'->ot v u->Q v H'->CE l4 P w H s Q u s':=
  λ{aN H' v u} dr rv q=>⟨v,H',dr.os,dr.wC,dr.g0,dr.aR,rv,q⟩
 cases fl with
 |yr u=>
  let⟨v,aN,H',dr,rv,q⟩:=hs;exact vR dr rv q
 |next=>
  let⟨aN,H',dr,q⟩:=hs;exact vR (v:=V.aH) (u:=e5.none) dr rfl q
 |Zu=>
  let⟨_,_,_,q⟩:=hs;exact pV.ke q
 |Zv=>
  let⟨_,_,_,q⟩:=hs;exact pV.ke q
section
variable{t:TA}{id T:ET}{r:L V->Hp->VK->Prop}
def LV(r:L V->Hp->VK->Prop)(t:TA):TE:=λσ H Q=>t σ H λvs H1=>r vs H1 Q
def Ly(hc:ft X (.rn id) r)(hg:Gl X x)(hm:X.mg x=none)(hv:_a x=O (.rn id))(ha:PA X (e::es) t)(hn:fi (x≠"__name__") jK)(fb:fi ((x==("__debug__":eh))=false) jK)
  (he:fi (lq (e::es) X.el=(false,eval e X.el)::lq es X.el) jJ)(df:fi ((r8 fZ (lq es X.el)).pX (·.1)=false) jJ):PE X (.pY (.je x p) (e::es) [] fZ) (LV r t):=by
 intro eS s σ H Q I h;refine _P (uh I hg hm hv ?_ hn fb);exact uD.ri.callWith_builtin1 (bw (ha fZ eS s σ H _ I h) λus s1 ⟨vs,H1,I1,r1,q1⟩=>hc eS s1 σ H1 vs us Q I1 r1 q1) he df
def y1n(hc:ft X (.hJ T) r)(hg:Gl X x)(hm:X.mg x=none)(hv:_a x=O (.hJ T))(ha:PA X (e::es) t)(hn:fi (x≠"__name__") jK)(fb:fi ((x==("__debug__":eh))=false) jK)
  (he:fi (lq (e::es) X.el=(false,eval e X.el)::lq es X.el) jJ)(df:fi ((r8 fZ (lq es X.el)).pX (·.1)=false) jJ):PE X (.pY (.je x p) (e::es) [] fZ) (LV r t):=by
 intro eS s σ H Q I h;refine _P (uh I hg hm hv ?_ hn fb);exact uD.ri._F (bw (ha fZ eS s σ H _ I h) λus s1 ⟨vs,H1,I1,r1,q1⟩=>hc eS s1 σ H1 vs us Q I1 r1 q1) he df
end
end L2
namespace HT
open PySem PyProof.Rows
section
variable{g_:qM}{w:pT}{A:tf}{E:e5->kx->Prop}{s:kx}
def zd5{t b:fh}{vs ws:L e5}{Q:e5->kx->Prop}(ht:YY s.d_ t vs.ky)(hb:YY s.d_ b ws.ky)(hv:vs≠[])
  (h1:ws=[]->Q (.ei t) s)(h2:ws≠[]->Q (.ei s.d_.e6.eG) {s with d_:=s.d_.nV {ie:=.hJ "tuple", lg:=.mx (vs++ws).ky}})
  (hsz:vs.J+ws.J<=pg):kX (mG g_ w) A (Zb .Add (.ei t) (.ei b)) Q E s:=by
 let⟨⟨ie,dd,lg,sl⟩,ho,hc,n,hd⟩:=id ht;let⟨⟨BY,xa,data2,Bz⟩,nO,eC,n2,Yg⟩:=id hb;simp only at hc hd eC Yg;subst hc hd eC Yg;have e:vs.ky++ws.ky=(vs++ws).ky:=by simp
 by_cases hw:ws=[]
 .exact ā ⟨_,ho,rfl⟩ ⟨_,nO,rfl⟩ ŕ ţ kd.F.ŧ kd.F.ł (kd.F.Ĵ _ _)
   (tuple_addW1 t b vs.ky ws.ky n n2 dd xa sl Bz (by simpa using hv) (by simp[hw])) ⟨ho,nO,h1 hw⟩
 .refine ā ⟨_,ho,rfl⟩ ⟨_,nO,rfl⟩ ŕ ţ kd.F.ŧ kd.F.ł (kd.F.Ĵ _ _)
   (tuple_addW2 t b vs.ky ws.ky n n2 dd xa sl Bz (by simpa using hv) (by simpa using hw) (by rw[w0i,w0i];exact hsz)) ⟨ho,nO,?_⟩
  rw[e];exact h2 hw
def cn(n d:dt):fG eW->dt
 |none=>d
 |O v=>if v<0 then(v+(n:eW)).oR else min v.oR n
theorem kH(n d:dt):cn n d none=d:=rfl
def gw(n d k:dt):cn n d (O (k:eW))=min k n:=by
 show(if(k:eW)<0 then((k:eW)+(n:eW)).oR else min (k:eW).oR n)=min k n;rw[kl (by omega),w2j]
def z67(n d:dt)(hd:d<=n)(o:fG eW):cn n d o<=n:=by
 cases o with
 |none=>exact hd
 |O v=>
  show(if v<0 then(v+(n:eW)).oR else min v.oR n)<=n
  by_cases hv:v<0
  .rw[gE hv];omega
  .rw[kl hv];exact w5j _ _
def RB(v:eW)(n d:dt):(if v<0 then max (v+(n:eW)) 0 else min v (n:eW))=((cn n d (O v):dt):eW):=by
 show(if v<0 then max (v+(n:eW)) 0 else min v (n:eW))=(((if v<0 then(v+(n:eW)).oR else min v.oR n):dt):eW)
 grind
def zbJ(lo hi:fG eW)(n:dt):oq.Zs.ť lo hi 1 (n:eW)=(((cn n 0 lo:dt):eW),((cn n n hi:dt):eW)):=by
 have h1:¬((1:eW)<0):=by omega
 unfold oq.Zs.ť;simp only[h1,_i];refine Prod.ext ?_ ?_
 .cases lo with
  |none=>rfl
  |O v=>exact RB v n 0
 .cases hi with
  |none=>rfl
  |O v=>exact RB v n n
def zbK(i j:dt):oq.Zs.ė (i:eW) (j:eW) 1=j-i:=by
 unfold oq.Zs.ė
 grind
def Pm{v:e5}{o:fG eW}{Q:fG eW->kx->Prop}(p:Z5 v o)(h:Q o s):kX (mG g_ w) A (oq.Zs.slicePartIndex v) Q E s:=by
 cases p with
 |none=>exact zdv h
 |d0 i t=>exact slicePart_int h
def OH{sl:fh}{vl vu:e5}{lo hi:fG eW}{n:dt}{Q:eW×eW×dt->kx->Prop}(hs:s.d_.Ë sl vl vu .none)(pl:Z5 vl lo)(pu:Z5 vu hi)
  (h:Q (((cn n 0 lo:dt):eW),1,cn n n hi-cn n 0 lo) s):kX (mG g_ w) A (oq.Zs.zdu (.ei sl) (pR (n:eW))) Q E s:=by
 let⟨os,pO,gB,Cn⟩:=id hs;unfold oq.Zs.zdu oq.Zs.sliceFields;refine i6 (i6 (Yi pO Cn (x:=vl) rfl (i6 (Yi pO Cn (x:=vu) rfl (i6 (Yi pO Cn (x:=.none) rfl (oo ?_)))))));refine i6 (zdv ?_);show kX _ _ (if((1:eW)==0)=true then _ else _) _ _ s;rw[kl (by decide)];refine i6 (Pm pl (i6 (Pm pu (i6 (oo ?_)))));show kX _ _ (match oq.Zs.ť lo hi 1 (n:eW)with|(lo,hi)=>pR (lo,(1:eW),oq.Zs.ė lo hi 1)) _ _ s;rw[zbJ lo hi n];show kX _ _ (pR (((cn n 0 lo:dt):eW),(1:eW),oq.Zs.ė ((cn n 0 lo:dt):eW) ((cn n n hi:dt):eW) 1)) _ _ s;rw[zbK];exact oo h
def y51(xs:tP e5)(i k:dt):((L.so k).Λ fun(m:dt)=>xs[((i:eW)+(m:eW)*1).oR]?).ky=((xs.n9.m9 i).n5 k).ky:=by
 have e:(fun(m:dt)=>xs[((i:eW)+(m:eW)*1).oR]?)=λm=>xs[i+m]?:=by
  funext m
  have:((i:eW)+(m:eW)*1).oR=i+m:=by omega
  rw[this]
 rw[e];have:=pick_run xs i k;rw[L.filterMap_map]at this;have e2:((λx=>xs[x]?) ∘ λx=>i+x)=λm=>xs[i+m]?:=rfl
 rw[e2]at this;rw[this]
def zcL{t sl:fh}{nT:tP e5}{vl vu:e5}{lo hi:fG eW}{Q:e5->kx->Prop}(ht:YY s.d_ t nT)(hs:s.d_.Ë sl vl vu .none)(pl:Z5 vl lo)(pu:Z5 vu hi)
  (hw:¬(cn nT.eG 0 lo=0/\cn nT.eG nT.eG hi=nT.eG))
  (h:Q (.ei s.d_.e6.eG) {s with d_:=s.d_.nV {ie:=.hJ "tuple", lg:=.mx ((nT.n9.m9 (cn nT.eG 0 lo)).n5 (cn nT.eG nT.eG hi-cn nT.eG 0 lo)).ky}})
  (hsz:nT.eG<=pg):kX (mG g_ w) A (_w (.ei t) (.ei sl)) Q E s:=by
 have pP:sizeOk (.mx ((nT.n9.m9 (cn nT.eG 0 lo)).n5 (cn nT.eG nT.eG hi-cn nT.eG 0 lo)).ky):=by
  show((nT.n9.m9 (cn nT.eG 0 lo)).n5 (cn nT.eG nT.eG hi-cn nT.eG 0 lo)).ky.eG<=pg;rw[w0i,w1i,w1j,w2a];exact w1d (w5j _ _) (w1d (dt.sub_le _ _) hsz)
 have hj:cn nT.eG nT.eG hi<=nT.eG:=z67 _ _ (w0d _) hi;let⟨os,pO,gB,Cn⟩:=id hs;have Ih:s.Zf (.ei sl) "slice":=⟨os,pO,gB⟩;unfold _w;try with_reducible refine Zk ?_
 first|refine i6 (oo ?_)|skip
 refine i6 (zep ht.Ya (by decide) ?_)
 refine i6 (δ (name:=eh.Yy "__getitem__") ht.Ya uD.ri.ώ
  (ε uD.ri.ώ ht.Ya zcg ?_ (zbS _ _)))
 show kX _ _ (oq.JJ.zdQ (.ei t) >>= _) _ _ s;refine i6 (zdR ht ?_);refine i6 (ϖ Ih ?_);rw[gE (by decide)];refine i6 (OH hs pl pu ?_)
 have E_:¬((((cn nT.eG 0 lo:dt):eW)==0&&(1:eW)==1&&(cn nT.eG nT.eG hi-cn nT.eG 0 lo)==nT.eG)=true):=by
  intro q;rw[w0q,w0q]at q;have q1:((cn nT.eG 0 lo:dt):eW)=0:=ą q.1.1;have q2:cn nT.eG nT.eG hi-cn nT.eG 0 lo=nT.eG:=ą q.2;exact hw ⟨by omega,by omega⟩
 show kX _ _ (if(((cn nT.eG 0 lo:dt):eW)==0&&(1:eW)==1&&(cn nT.eG nT.eG hi-cn nT.eG 0 lo)==nT.eG)=true then _ else _) _ _ s;rw[kl E_,y51]
 first
  |exact i6 (m:=oq.JJ.γ _) (Z0 (oo ⟨_,rfl,oo h⟩) pP)
  |exact i6 (m:=oq.JJ.γ _) (Z0 (i6 (oo (oo ⟨_,rfl,oo h⟩))) pP)
  |exact i6 (i6 (m:=oq.JJ.γ _) (Z0 (oo (oo ⟨_,rfl,oo h⟩)) pP))
  |exact i6 (i6 (m:=oq.JJ.γ _) (Z0 (oo ⟨_,rfl,oo h⟩) pP))
end
end HT
namespace L2
open PySem PySem.Spec PyProof.Rows
variable{A:tf}{X:Cx}{H:Hp}{eS:L (fh×nU)}{xs:L V}{aC us:L e5}{n:dt}{s:kx}{σ:St}{α:Type}{x:V}{v:e5}
abbrev TO:=St->Hp->(fG eW->Hp->Prop)->Prop
def PO(X:Cx)(e:fG l_)(t:TO):Prop:=
 ∀(eS:L (fh×nU))(s:kx)(σ:St)(H:Hp)(Q:fG eW->Hp->Prop),g8 X eS σ H s->t σ H Q ->
  kX (mG X.g_ X.w) X.A (evalPart e X.el) (λu s'=>∃o H',g8 X eS σ H' s'/\Z5 u o/\Q o H') X.xe s
def zd8:TO:=λ_ H Q=>Q none H
def Ep(t:TE):TO:=λσ H Q=>t σ H λx H1=>∃i,x=.d0 i/\Q (O i) H1
section
variable{e:l_}{te:TE}{lo hi:fG l_}{tl th:TO}{fZ p2:qY}
def z04:PO X none zd8:=by
 intro eS s σ H Q I h;rw[zcm];exact oo ⟨none,H,I,.none,h⟩
def z05(h:PE X e te):PO X (O e) (Ep te):=by
 intro eS s σ H Q I hw;rw[evalPart_some];refine bw (h eS s σ H _ I hw) λu s1 ⟨x,H1,I1,r1,q1⟩=>?_
 let⟨i,rfl,q⟩:=q1;let⟨t,rfl⟩:=r1;exact⟨O i,H1,I1,.d0 i t,q⟩
def uN(X:Cx)(r:V->fG eW->fG eW->Hp->VK->Prop):Prop:=
 ∀(eS:L (fh×nU))(s:kx)(σ:St)(H:Hp)(x:V)(v vl vu:e5)(lo hi:fG eW)(sl:fh)(Q:VK),g8 X eS σ H s->ot x v->s.d_.Ë sl vl vu .none->Z5 vl lo->Z5 vu hi->r x lo hi H Q ->
  ∃T id,Ϲ (.hJ T) "__getitem__"=pR (O (.rn id))/\s.Zf v T/\kX (mG X.g_ X.w) X.A (_w v (.ei sl)) (EP X eS σ Q) X.xe s
def uN.or{r r':V->fG eW->fG eW->Hp->VK->Prop}(h:uN X r)(h':uN X r'):uN X (λx lo hi H Q=>r x lo hi H Q\/r' x lo hi H Q):=by
 intro eS s σ H x v vl vu lo hi sl Q I rx hs pl pu q;rcases q with q|q
 .exact h eS s σ H x v vl vu lo hi sl Q I rx hs pl pu q
 .exact h' eS s σ H x v vl vu lo hi sl Q I rx hs pl pu q
def XC(r:V->fG eW->fG eW->Hp->VK->Prop)(te:TE)(tl th:TO):TE:=λσ H Q=>te σ H λx H1=>tl σ H1 λl H2=>th σ H2 λu H3=>r x l u H3 Q
def y52{r:V->fG eW->fG eW->Hp->VK->Prop}(hr:uN X r)(he:PE X e te)(hl:PO X lo tl)(hu:PO X hi th):PE X (.Hz e (.Zs lo hi none p2) fZ) (XC r te tl th):=by
 intro eS s σ H Q I h;refine İ (bw (he eS s σ H _ I h) λv s1 ⟨x,H1,I1,r1,q1⟩=>?_)
 refine wpAny_Slice (bw (hl eS s1 σ H1 _ I1 q1) λvl s2 ⟨l,H2,I2,pl,q2⟩=>bw (hu eS s2 σ H2 _ I2 q2) λvu s3 ⟨u,H3,I3,pu,q3⟩=>?_)
 rw[zcm];refine oo ?_;have I4:g8 X eS σ H3 {s3 with d_:=s3.d_.nV {ie:=.hJ "slice", lg:=.x6 #[vl,vu,.none]}}:=I3.NK (t':=s3.nW) λb ob q=>fH.q_ _ q
 let⟨T,id,hT,ht,hg⟩:=hr eS {s3 with d_:=s3.d_.nV {ie:=.hJ "slice", lg:=.x6 #[vl,vu,.none]}} σ H3 x v vl vu l u s3.d_.e6.eG Q I4 r1 (fH.Ë.rZ ..) pl pu q3;show kX (mG X.g_ X.w) X.A (ŭ e (.Zs lo hi none p2) v (.ei s3.d_.e6.eG)) (EP X eS σ Q) X.xe {s3 with d_:=s3.d_.nV {ie:=.hJ "slice", lg:=.x6 #[vl,vu,.none]}};exact ģ (ops:=[.ei s3.d_.e6.eG,v]) ht hT hg (by with_unfolding_all rfl)
def kY(xs:L V)(lo hi:fG eW):L V:=(xs.m9 (HT.cn xs.J 0 lo)).n5 (HT.cn xs.J xs.J hi-HT.cn xs.J 0 lo)
def O0(xs:L V)(lo hi:fG eW):(kY xs lo hi).J<=xs.J:=by
 unfold kY;rw[w1i,w1j];exact w1d (w5j _ _) (dt.sub_le _ _)
def LJ(K:Fg):V->fG eW->fG eW->Hp->VK->Prop:=λx lo hi H Q=>∃a xs,x=.ei a/\c6 K H a xs /\
 ¬(HT.cn xs.J 0 lo=0/\HT.cn xs.J xs.J hi=xs.J)/\∀p,H p=none->Q (.ei p) (l5 H p (.ff (kY xs lo hi)))
def z68:uN X (LJ X.K):=by
 intro eS s σ H x v vl vu lo hi sl Q I rx hs pl pu h;let⟨a,xs,rfl,hx,hw,q⟩:=h;cases rx;let⟨aC,r,ht,hz⟩:=I.zb hx;have vd:aC.ky.eG=xs.J:=by rw[w0i];exact r.J.symm
 refine⟨"tuple", _,uD.ri.ώ.fI,ht.Ya,?_⟩;refine HT.zcL ht hs pl pu (by rw[vd];exact hw) ?_ (by rw[vd];exact hz);rw[vd];refine⟨.ei s.d_.e6.eG,_,I.wg (t':=s.nW) (o:=.ff (kY xs lo hi)) (λb ob q=>fH.q_ _ q) (w0d _) ?_,rfl,q _ (I.aR.u3 (w0d _))⟩
 exact⟨w1d (O0 xs lo hi) hz,_,(r.m9 (HT.cn xs.J 0 lo)).n5 (HT.cn xs.J xs.J hi-HT.cn xs.J 0 lo),YY.rZ _ _,_,fH.vM _ rfl,rfl⟩
def um(K:Fg):R2:=λx y H Q=>∃a b xs ys,x=.ei a/\y=.ei b/\c6 K H a xs/\c6 K H b ys/\xs≠[]/\xs.J+ys.J<=pg /\
 (ys=[]->Q (.ei a) H)/\(ys≠[]->∀p,H p=none->Q (.ei p) (l5 H p (.ff (xs++ys))))
def oK.md(r:oK xs us):us=[]↔xs=[]:=by
 cases r with
 |m8=>simp
 |m6 _ _=>simp
def zd1:fM X (Zb .Add) (um X.K):=by
 intro eS s σ H x y v u Q I rx ry h;let⟨a,b,xs,ys,rfl,rfl,ha,hb,hx,hz,q1,q2⟩:=h;cases rx;cases ry;let⟨aC,r1,p1,_⟩:=I.zb ha;let⟨fg,r2,p2,_⟩:=I.zb hb;refine HT.zd5 p1 p2 (λz=>hx (r1.md.mp z)) (λz=>⟨.ei a,H,I,rfl,q1 (r2.md.mp z)⟩) (λz=>?_) (by rw[<- r1.J,<- r2.J];exact hz)
 refine⟨.ei s.d_.e6.eG,_,I.wg (t':=s.nW) (o:=.ff (xs++ys)) (λb ob q=>fH.q_ _ q) (w0d _) ?_,rfl,q2 (λw=>z (r2.md.rj w)) _ (I.aR.u3 (w0d _))⟩
 exact⟨by rw[w0g];exact hz,_,r1.N' r2,YY.rZ _ _,_,fH.vM _ rfl,rfl⟩
end
def oJ(n:dt)(i:eW):fG dt:=if 0<=i then(if i<n then O i.oR else none)else if -(n:eW)<=i then O (i+n).oR else none
def et(xs:L α)(i:eW):fG α:=(oJ xs.J i).nR λj=>xs[j]?
def RC{i:eW}{j:dt}(h:oJ n i=O j):seqIndex? i n=O j/\j<n/\-(n:eW)<=i/\i<n:=by
 unfold oJ at h
 by_cases h0:0<=i
 .rw[gE h0]at h
  by_cases h1:i<n
  .rw[gE h1]at h
   grind [Ţ]
  grind
 .rw[kl h0]at h
  by_cases h1:-(n:eW)<=i
  .rw[gE h1]at h
   grind [š]
  grind
def Mw{xs:L α}{i:eW}{v:α}(h:et xs i=O v):∃j,seqIndex? i xs.J=O j/\xs[j]?=O v/\j<xs.J/\-(xs.J:eW)<=i/\i<xs.J:=by
 unfold et at h;cases e:oJ xs.J i with
 |none=>rw[e]at h;cases h
 |O j=>
  rw[e]at h;let⟨h1,h2,h3,h4⟩:=RC e;exact⟨j,h1,h,h2,h3,h4⟩
def v_{xs:L α}{j:dt}{v:α}(h:xs[j]?=O v):et xs (j:eW)=O v:=by
 have hj:j<xs.J:=(w0c.mp h).1
 simp_all [oJ,et]
def gn(b:l_):Prop:=∀o i,Ģ b false o i=ř [o,i] (_w o i)
def rN(X:Cx)(r:R2):Prop:=
 ∀(YW Ye:l_)(eS:L (fh×nU))(s:kx)(σ:St)(H:Hp)(x y:V)(v u:e5)(Q:VK),g8 X eS σ H s->ot x v->ot y u->r x y H Q ->
  Ģ Ye false v u=ř [v,u] (_w v u)->kX (mG X.g_ X.w) X.A (ŭ YW Ye v u) (EP X eS σ Q) X.xe s
def wR(X:Cx)(id:ET)(r:V->L V->Hp->VK->Prop):Prop:=
 ∀(eS:L (fh×nU))(s:kx)(σ:St)(H:Hp)(x:V)(xs:L V)(v:e5)(us:L e5)(Q:VK),g8 X eS σ H s->ot x v->oK xs us->r x xs H Q ->
  kX (mG X.g_ X.w) X.A (zN (.rn id) (v::us)) (EP X eS σ Q) X.xe s
section
variable{a b:l_}{ta tb:TE}{fZ:qY}
def rN.or{r r':R2}(h:rN X r)(h':rN X r'):rN X (λx y H Q=>r x y H Q\/r' x y H Q):=by
 intro YW Ye eS s σ H x y v u Q I rx ry q hs;rcases q with q|q
 .exact h YW Ye eS s σ H x y v u Q I rx ry q hs
 .exact h' YW Ye eS s σ H x y v u Q I rx ry q hs
def Hk{r:R2}(hr:rN X r)(ha:PE X a ta)(hb:PE X b tb)(hs:gn b):PE X (.Hz a b fZ) (Eo r ta tb):=by
 intro eS s σ H Q I h;exact İ (ee ha hb I h λv u s2 x y H2 I2 rx ry q=>hr a b eS s2 σ H2 x y v u Q I2 rx ry q (hs _ _))
def D3(K:Fg):R2:=λx y H Q=>∃p xs i v,x=.ei p/\y=.d0 i/\cG K H p xs/\et xs i=O v/\Q v H
def D5(K:Fg):R2:=λx y H Q=>∃p xs i v,x=.ei p/\y=.d0 i/\c6 K H p xs/\et xs i=O v/\Q v H
def D4:R2:=λx y H Q=>∃z i c,x=.str z/\y=.d0 i/\z.J<=pg/\et z.rq.n9 i=O c/\Q (.str ⟨#[c]⟩) H
def zdX:rN X (D3 X.K):=by
 intro YW Ye eS s σ H x y v u Q I rx ry h hs;let⟨p,xs,i,z,rfl,rfl,hq,he,q⟩:=h;cases rx;let⟨t,rfl⟩:=ry;let⟨aC,r,pl,hz⟩:=I.wD hq;let⟨j,h1,h2,h3,h4,h5⟩:=Mw he;let⟨w,ew,wo⟩:=r.BX h2;have hl:=r.J;have hn:=i8;have vR:EP X eS σ Q w s:=⟨z,H,I,wo,q⟩
 by_cases h0:0<=i
 .have hj:i.oR=j:=by
   rw[Ţ h0 h5]at h1;exact fG.O.sE h1
  exact item_listR pl.yM h0 (by omega) (by rw[hj];simpa using ew) vR hs
 .have hj:(i+(aC.ky.eG:eW)).oR=j:=by
   rw[š (by omega) h4]at h1;rw[w0i,<- hl];exact fG.O.sE h1
  exact zdI (x:=w) pl.yM.Ya zdA.fI
   (wpAny_getItem_list_neg (Q:=λr s'=>r=w/\EP X eS σ Q r s') pl.yM (by omega) (by rw[w0i]<;>omega) (by omega) (by rw[hj];simpa using ew) ⟨rfl,vR⟩) hs
def zeJ:rN X (D5 X.K):=by
 intro YW Ye eS s σ H x y v u Q I rx ry h hs;let⟨p,xs,i,z,rfl,rfl,hq,he,q⟩:=h;cases rx;let⟨t,rfl⟩:=ry;let⟨aC,r,pl,hz⟩:=I.zb hq;let⟨j,h1,h2,h3,h4,h5⟩:=Mw he;let⟨w,ew,wo⟩:=r.BX h2;have hl:=r.J;have hn:=i8;have vR:EP X eS σ Q w s:=⟨z,H,I,wo,q⟩
 exact zdI (x:=w) pl.Ya ώ.fI
  (getItem_tuple (j:=j) (Q:=λr s'=>r=w/\EP X eS σ Q r s') pl (by omega) (by omega) (by rw[w0i,<- hl];exact h1) (by simpa using ew) ⟨rfl,vR⟩) hs
def z69:rN X D4:=by
 intro YW Ye eS s σ H x y v u Q I rx ry h hs;let⟨z,i,c,rfl,rfl,hz,he,q⟩:=h;let⟨t,rfl⟩:=rx;let⟨t',rfl⟩:=ry;let⟨j,h1,h2,h3,h4,h5⟩:=Mw he;have hl:z.rq.n9.J=z.J:=by simp[eh.J]
 rw[hl]at h1 h4 h5;have hn:=i8
 exact ģ (ϒ s z t) zdC.fI (getItem_str (c:=c) (by
  grind) (by rw[h1];simpa using h2) ⟨.str ⟨#[c]⟩,H,I.wY _,⟨_,rfl⟩,q⟩) hs
def O4(K:Fg):R2:=λx y H Q=>D3 K x y H Q\/D5 K x y H Q\/D4 x y H Q
theorem SA:rN X (O4 X.K):=zdX.or (zeJ.or z69)
def zbL(aC:L e5)(n j:dt)(u:e5):nU.Yx (·.zdt j u) {ie:=.hJ "list", lg:=.mx aC.ky n}={ie:=.hJ "list", lg:=.mx (aC.my j u).ky n}:=by
 simp[nU.Yx]
def g8.fy{p:fh}(I:g8 X eS σ H s)(h:H p=O (.fy xs)):
  ∃(aC:L e5)(n:dt),oK xs aC/\s.d_.f6 p=O {ie:=.hJ "list", lg:=.mx aC.ky n}/\xs.J<=pg:=by
 let⟨z,aC,n,r,e⟩:=I.aR p _ h;exact⟨aC,n,r,e,z⟩
def g8.zeB{p:fh}{ys:L V}{its':L e5}{n':dt}{f:nU->nU}(I:g8 X eS σ H s)(h:H p=O (.fy xs))
  (ho:s.d_.f6 p=O {ie:=.hJ "list", lg:=.mx aC.ky n})(hf:f {ie:=.hJ "list", lg:=.mx aC.ky n}={ie:=.hJ "list", lg:=.mx its'.ky n'})(r:oK ys its')(hz:ys.J<=pg)(t:dt):
  g8 X eS σ (l5 H p (.fy ys)) {s with d_:=s.d_.YJ p f,nW:=t}:=by
 have e:(s.d_.YJ p f).f6 p=O {ie:=.hJ "list", lg:=.mx its'.ky n'}:=by
  rw[fH.ß f ho (by rw[hf]<;>rfl),hf]
 refine I._Q (x:=p) (e:=p) (by rw[h];trivial) (.h8 rfl) (λb u hb q=>(fH.Þ _ _ (Ne.symm hb)).iD q) ⟨_,e⟩ ?_
 exact⟨hz,its',n',r,e⟩
def D8:V->V->V->Hp->(Hp->Prop)->Prop:=λo i v H Q=>∃p xs k j,o=.ei p/\i=.d0 k/\H p=O (.fy xs)/\oJ xs.J k=O j/\Q (l5 H p (.fy (xs.my j v)))
def y53:BQ X D8:=by
 intro eS s σ H o i v ov iv u Q I zdo zdn rv h;let⟨p,xs,k,j,rfl,rfl,hp,hj,q⟩:=h;cases zdo;let⟨t,rfl⟩:=zdn;let⟨aC,n,r,ho,hz⟩:=I.fy hp;let⟨h1,h2,h3,h4⟩:=RC hj;have hl:=r.J;have hn:=i8
 have I':g8 X eS σ (l5 H p (.fy (xs.my j v))) {s with d_:=s.d_.YJ p (nU.Yx (·.zdt j u))}:=
  I.zeB hp ho (zbL aC n j u) (r.my rv j) (by rw[L.length_set];exact hz) s.nW
 by_cases h0:0<=k
 .have hk:k.oR=j:=by
   rw[Ţ h0 h4]at h1;exact fG.O.sE h1
  exact kd.W.ki_setAt ho h0 (by omega) (by rw[w0i,<- hl];exact h4) (by rw[hk];exact⟨_,I',q⟩)
 .have hk:(k+(aC.ky.eG:eW)).oR=j:=by
   rw[š (by omega) h3]at h1;rw[w0i,<- hl];exact fG.O.sE h1
  exact kd.W.ki_setBack ho (by omega) (by rw[w0i,<- hl];exact h3) (by omega) (by rw[hk];exact⟨_,I',q⟩)
def zaJ(lo hi:fG eW)(n:dt):(ύ lo hi none n).1=((HT.cn n 0 lo:dt):eW)/\(ύ lo hi none n).2.1=((HT.cn n n hi:dt):eW)/\(ύ lo hi none n).2.2=1:=by
 refine⟨?_,?_,rfl⟩
 .cases lo with
  |none=>simp[ύ,HT.cn]
  |O i=>
   simp only[ύ,HT.cn,fG.getD_none,show(1:eW)>0 by decide,ZI]
   grind
 .cases hi with
  |none=>simp[ύ,HT.cn]
  |O i=>
   simp only[ύ,HT.cn,fG.getD_none,show(1:eW)>0 by decide,ZI]
   grind
def zaL(aC:L e5)(lo hi:fG eW):slicePick aC.ky lo hi none=((aC.m9 (HT.cn aC.J 0 lo)).n5 (HT.cn aC.J aC.J hi-HT.cn aC.J 0 lo)).ky:=by
 let⟨h1,h2,h3⟩:=zaJ lo hi aC.ky.eG;unfold slicePick;rw[h1,h2,h3];simp only[sliceRange_one,pick_run,w0i]<;>rfl
def LG(K:Fg):V->fG eW->fG eW->Hp->VK->Prop:=λx lo hi H Q=>∃a xs,x=.ei a/\cG K H a xs/\∀p,H p=none->Q (.ei p) (l5 H p (.fy (kY xs lo hi)))
def zet:uN X (LG X.K):=by
 intro eS s σ H x v vl vu lo hi sl Q I rx hs pl pu h;let⟨a,xs,rfl,hx,q⟩:=h;cases rx;let⟨aC,r,ht,hz⟩:=I.wD hx;have vd:=r.J;refine⟨"list", _,zdA.fI,ht.yM.Ya,?_⟩;refine wpAny_getItem_list_slice ht.yM hs pl pu .none (by simp) ?_ (by grind);rw[zaL,<- vd];refine⟨.ei s.d_.e6.eG,_,I.wg (t':=s.nW) (o:=.fy (kY xs lo hi)) (λb ob q=>fH.q_ _ q) (w0d _) ?_,rfl,q _ (I.aR.u3 (w0d _))⟩
 exact⟨w1d (O0 xs lo hi) hz,_,0,(r.m9 (HT.cn xs.J 0 lo)).n5 (HT.cn xs.J xs.J hi-HT.cn xs.J 0 lo),fH.vM _ rfl⟩
def gN:V->fJ
 |.aH=>true
 |.bl _=>true
 |.d0 _=>true
 |.str _=>true
 |_=>false
def uR:V->V->fJ
 |.aH,.aH=>true
 |.bl a,.bl b=>a==b
 |.bl a,.d0 b=>(if a then 1 else 0)==b
 |.d0 a,.bl b=>a==(if b then 1 else 0)
 |.d0 a,.d0 b=>a==b
 |.str a,.str b=>a==b
 |_,_=>false
def z7a{y:V}{u:e5}(ry:ot y u)(rx:ot x v)(zcA:gN y=true)(fx:gN x=true):vx.O9 A s u v (uR y x):=by
 cases y with
 |aH=>
  cases ry;cases x with
  |aH=>cases rx;exact vx.O9.same _
  |bl b=>cases rx;exact vx.O9.đ b
  |d0 b=>let⟨t,rfl⟩:=rx;exact vx.O9.Ŗ b t
  |str b=>let⟨t,rfl⟩:=rx;exact vx.O9.ŗ b t
  |_=>exact nS (show false=true from fx) w1w
 |bl a=>
  cases ry;cases x with
  |aH=>cases rx;exact vx.O9.ü a
  |bl b=>cases rx;exact vx.O9.Ù a b
  |d0 b=>let⟨t,rfl⟩:=rx;exact vx.O9.Ķ a b t
  |str b=>let⟨t,rfl⟩:=rx;exact vx.O9.ķ a b t
  |_=>exact nS (show false=true from fx) w1w
 |d0 a=>
  let⟨t',rfl⟩:=ry;cases x with
  |aH=>cases rx;exact vx.O9.Ō a t'
  |bl b=>cases rx;exact vx.O9.ŋ a t' b
  |d0 b=>let⟨t,rfl⟩:=rx;exact vx.O9.ĉ a t' b t
  |str b=>let⟨t,rfl⟩:=rx;exact vx.O9.Ċ a t' b t
  |_=>exact nS (show false=true from fx) w1w
 |str a=>
  let⟨t',rfl⟩:=ry;cases x with
  |aH=>cases rx;exact vx.O9.ū a t'
  |bl b=>cases rx;exact vx.O9.Ū a t' b
  |d0 b=>let⟨t,rfl⟩:=rx;exact vx.O9.ğ a t' b t
  |str b=>let⟨t,rfl⟩:=rx;exact vx.O9.Ġ a t' b t
  |_=>exact nS (show false=true from fx) w1w
 |_=>exact nS (show false=true from zcA) w1w
def oB(x:V)(u:e5):fJ:=match u with
 |.none=>uR .aH x
 |.rl b=>uR (.bl b) x
 |.d0 i _=>uR (.d0 i) x
 |.str z _=>uR (.str z) x
 |_=>false
def SD{y:V}{u:e5}(r:ot y u)(f:gN y=true):oB x u=uR y x:=by
 cases y with
 |aH=>cases r;rfl
 |bl b=>cases r;rfl
 |d0 i=>let⟨t,rfl⟩:=r;rfl
 |str z=>let⟨t,rfl⟩:=r;rfl
 |_=>exact nS (show false=true from f) w1w
theorem DJ:∀{xs:L V}{us:L e5},oK xs us->xs.oP gN=true->us.pX (oB x)=xs.pX λy=>uR y x
 |_,_,.m8,_=>rfl
 |y::xs,u::us,.m6 r t,f=>by
  rw[w3o,w0q]at f;rw[w4a,w4a,SD r f.1,DJ t f.2]
theorem Dz(rx:ot x v)(fx:gN x=true):∀{xs:L V}{us:L e5},oK xs us->xs.oP gN=true->∀u∈us,vx.O9 A s u v (oB x u)
 |_,_,.m8,_=>λu hu=>by cases hu
 |y::xs,u::us,.m6 r t,f=>λu' hu=>by
  rw[w3o,w0q]at f;rcases w0h.mp hu with rfl|hu
  .rw[SD r f.1];exact z7a r rx f.1 fx
  .exact Dz rx fx t f.2 u' hu
def Fd(x:V)(xs:L V):fJ:=xs.pX λy=>uR y x
def GW(K:Fg)(neg:fJ):R2:=λx y H Q=>∃p xs,y=.ei p/\(cG K H p xs\/c6 K H p xs)/\gN x=true/\xs.oP gN=true/\Q (.bl (if neg then !Fd x xs else Fd x xs)) H
def Qb:fM X (YO .In) (GW X.K false):=by
 intro eS s σ H x y v u Q I rx ry h;let⟨p,xs,rfl,hq,fx,fs,q⟩:=h;cases ry;rcases hq with hq|hq
 .let⟨aC,r,pl,hz⟩:=I.wD hq;refine vx.in_listAt (oB x) pl.yM (λw hw=>Dz rx fx r fs w (by simpa using hw)) ⟨.bl _,H,I,rfl,?_⟩
  rw[show aC.ky.pX (oB x)=aC.pX (oB x) by simp,DJ r fs];exact q
 .let⟨aC,r,pl,hz⟩:=I.zb hq;refine vx.in_tupleAt (oB x) pl (λw hw=>Dz rx fx r fs w (by simpa using hw)) ⟨.bl _,H,I,rfl,?_⟩
  rw[show aC.ky.pX (oB x)=aC.pX (oB x) by simp,DJ r fs];exact q
def zaK:fM X (YO .Z7) (GW X.K true):=by
 intro eS s σ H x y v u Q I rx ry h;let⟨p,xs,rfl,hq,fx,fs,q⟩:=h;cases ry;rcases hq with hq|hq
 .let⟨aC,r,pl,hz⟩:=I.wD hq;refine vx.notIn_listAt (oB x) pl.yM (λw hw=>Dz rx fx r fs w (by simpa using hw)) ⟨.bl _,H,I,rfl,?_⟩
  rw[show aC.ky.pX (oB x)=aC.pX (oB x) by simp,DJ r fs];exact q
 .let⟨aC,r,pl,hz⟩:=I.zb hq;refine vx.notIn_tupleAt (oB x) pl (λw hw=>Dz rx fx r fs w (by simpa using hw)) ⟨.bl _,H,I,rfl,?_⟩
  rw[show aC.ky.pX (oB x)=aC.pX (oB x) by simp,DJ r fs];exact q
def zaM:ft X (.hJ "tuple") (λxs H Q=>∃p ys,xs=[.ei p]/\((cG X.K H p ys/\∀l,H l=none->Q (.ei l) (l5 H l (.ff ys)))\/(c6 X.K H p ys/\Q (.ei p) H))):=by
 intro eS s σ H xs us Q I r h;let⟨p,ys,rfl,h⟩:=h;let⟨u,rfl,rx⟩:=ϓ r;cases rx;rcases h with⟨hq,q⟩|⟨hq,q⟩
 .let⟨aC,r',pl,hz⟩:=I.wD hq;have vd:=r'.J;refine call_tuple_list pl.yM (λh' kp=>?_) (by grind)
  have I1:g8 X eS σ H {s with d_:=h'}:=I.NK (t':=s.nW) kp
  have I2:g8 X eS σ (l5 H h'.e6.eG (.ff ys)) {s with d_:=h'.nV {ie:=.hJ "tuple", lg:=.mx aC.ky}}:=
   I1.wg (t':=s.nW) (λb o e=>fH.q_ _ e) (w0d _) (show bh X.g_ X.w _ _ _ (.ff ys)from⟨hz,aC,r',YY.rZ _ _,_,fH.vM _ rfl,rfl⟩)
  exact⟨.ei h'.e6.eG,_,I2,rfl,q _ (I1.aR.u3 (w0d _))⟩
 .let⟨aC,r',pl,hz⟩:=I.zb hq;exact call_tuple_same pl ⟨.ei p,H,I,rfl,q⟩
def L_(K:Fg)(T:ET)(x:V)(H:Hp):Prop:=match x with
 |.str _=>T="str"
 |.d0 _=>T="int"
 |.ei p=>(T="list" /\ ∃xs,cG K H p xs)\/(T="tuple" /\ ∃o,K.fI p=O o/\o.ie=.hJ "tuple" /\ o.qZ=none) \/
   (T="dict" /\ ((∃kvs,H p=O (.dK kvs))\/∃sh kvs bC,H p=O (.dT sh kvs bC)))\/(T="set" /\ ∃S n,H p=O (.my S n))
 |_=>pV
def SE{T:ET}(I:g8 X eS σ H s)(r:ot x v)(ty:L_ X.K T x H):
  s.Zf v T/\∀a,v=.ei a->∃ob,s.d_.f6 a=O ob/\ob.qZ=none:=by
 cases x with
 |str z=>
  let⟨t,rfl⟩:=r;cases(show T="str" from ty);exact⟨ϒ s z t,λ_ e=>nomatch e⟩
 |d0 i=>
  let⟨t,rfl⟩:=r;cases(show T="int" from ty);exact⟨Ų s i t,λ_ e=>nomatch e⟩
 |ei p=>
  cases r;rcases ty with⟨rfl,xs,hq⟩|⟨rfl,o,hk,hc,hd⟩|⟨rfl,hk⟩|⟨rfl,S,n,hk⟩
  .let⟨aC,_,pl,_⟩:=I.wD hq;refine⟨pl.yM.Ya,λa e=>?_⟩
   cases e;let⟨o,n,e,c,hd,_⟩:=pl;exact⟨o,e,hd⟩
  .refine⟨⟨o,I.ko p o hk,hc⟩,λa e=>?_⟩
   cases e;exact⟨o,I.ko _ o hk,hd⟩
  .have z:∃o,s.d_.f6 p=O o/\o.Ż:=by
    rcases hk with⟨kvs,hk⟩|⟨sh,kvs,bC,hk⟩
    .let⟨_,_,_,_,o,_,_,e,ex,_⟩:=I.aR p _ hk;exact⟨o,e,ex⟩
    .let⟨_,_,_,_,_,o,_,_,e,ex,_⟩:=I.aR p _ hk;exact⟨o,e,ex⟩
   let⟨o,e,ex⟩:=z;refine⟨⟨o,e,ex.1⟩,λa e2=>?_⟩
   cases e2;exact⟨o,e,ex.2.1⟩
  .let⟨o,_,_,_,e,ex,_⟩:=I.aR p _ hk;refine⟨⟨o,e,ex.1⟩,λa e2=>?_⟩
   cases e2;exact⟨o,e,ex.2.1⟩
 |_=>exact pV.ke ty
def LU(K:Fg)(T:ET)(r:V->L V->Hp->VK->Prop)(to:TE):TE:=λσ H Q=>to σ H λx H1=>L_ K T x H1/\r x [] H1 Q
def Pb(K:Fg)(T:ET)(r:V->L V->Hp->VK->Prop)(to:TE)(t:TA):TE:=λσ H Q=>to σ H λx H1=>L_ K T x H1/\t σ H1 λxs H2=>r x xs H2 Q
variable{o e:l_}{es:L l_}{to:TE}{t:TA}{name:eh}{zp aW:qY}{T id:ET}{r:V->L V->Hp->VK->Prop}
def z7b(pa:ĭ T)(r5:Ð T name id)(Cy:í (.rn id)=pR (.hJ "method_descriptor"))(hm:wR X id r)(ho:PE X o to)
  (cC:fi (Z_ o name X.el (eval o X.el)=eval o X.el) jJ)(cD:fi ((zp._g==aW.y')=true) jJ):PE X (.pY (.Zn o name zp) [] [] aW) (LU X.K T r to):=by
 intro eS s σ H Q I h;refine wpAny_Call_method0_late cC cD (bw (ho eS s σ H _ I h) λv s1 ⟨x,H1,I1,r1,ty,q1⟩=>?_)
 let⟨h1,h2⟩:=SE I1 r1 ty;exact⟨T,id,pa,r5,Cy,h1,h2,Yq.zbW rfl (kd.evalArgs_none (hm eS s1 σ H1 x [] v [] Q I1 r1 .m8 q1))⟩
def Hl(pa:ĭ T)(r5:Ð T name id)(Cy:í (.rn id)=pR (.hJ "method_descriptor"))(hm:wR X id r)(ho:PE X o to)(ha:PA X (e::es) t)
  (cC:fi (Z_ o name X.el (eval o X.el)=eval o X.el) jJ)
  (fX:fi (((r8 aW (lq (e::es) X.el)).oP (λx=>!x.1)&&(_D aW (_G [] X.el)).oP (λx=>x.1.sG)
   && decide ((e::es).J+([]:L Yr).J+(if([]:L Yr).yw then 0 else 1)<30))=true) jJ)
  (cD:fi ((zp._g==aW.y')=true) jJ)(hs:fi (lq (e::es) X.el=(false,eval e X.el)::lq es X.el) jJ)(b7:fi ((r8 aW (lq es X.el)).pX (·.1)=false) jJ):
  PE X (.pY (.Zn o name zp) (e::es) [] aW) (Pb X.K T r to t):=by
 intro eS s σ H Q I h;refine wpAny_Call_method_late cC fX cD rfl (bw (ho eS s σ H _ I h) λv s1 ⟨x,H1,I1,r1,ty,q1⟩=>?_)
 let⟨h1,h2⟩:=SE I1 r1 ty;refine⟨T,id,pa,r5,Cy,h1,h2,?_⟩;have hA:=ha aW eS s1 σ H1 _ I1 q1;rw[hs]at hA |-
 refine Yq.zbW (by show(false||(r8 aW (lq es X.el)).pX (·.1))=false;rw[b7]<;>rfl) (Yq.zcj ?_);exact bw hA λus s2 ⟨vs,H2,I2,r2,q2⟩=>hm eS s2 σ H2 x vs v us Q I2 r1 r2 q2
/- xs.N'(e),wD.index on a zeP zb .. are wR facts of 06m -/
end
def BN(X:Cx)(id:ET)(r:V->L V->Hp->VK->Prop):Prop:=
 ∀(eS:L (fh×nU))(s:kx)(σ:St)(H:Hp)(x:V)(xs:L V)(v:e5)(us:L e5)(Q:VK),g8 X eS σ H s->ot x v->oK xs us->r x xs H Q ->
  kX (mG X.g_ X.w) X.A (zN (.rn id) (v::us)) (EP X eS σ Q) X.xe s
theorem oK.WS(h:oK [x] us):∃u,us=[u]/\ot x u:=ϓ h
theorem oK.two{y:V}(h:oK [x,y] us):∃u v,us=[u,v]/\ot x u/\ot y v:=Ĥ h
theorem oK.zc:∀{us:L e5},oK [] us->us=[]
 |_,.m8=>rfl
def oK.YQ(h:oK xs us):oK xs.YQ us.YQ:=by
 induction h with
 |m8=>exact .m8
 |m6 r t ih=>
  cases t with
  |m8=>exact .m8
  |m6 q t'=>exact .m6 r ih
def oK.wd(h:oK xs us):oK xs.wd us.wd:=by
 induction h with
 |m8=>exact .m8
 |m6 r t ih=>rw[w2c,w2c];exact oK.N' ih (.m6 r .m8)
theorem oK.rep(h:oK xs us):∀k:dt,oK (L.oS k xs).Yt (L.oS k us).Yt
 |0=>.m8
 |k+1=>by
  rw[w2l,w2l,w4h,w4h];exact oK.N' h (oK.rep h k)
def zbM(l:L α):l.eraseIdx (l.J-1)=l.YQ:=by
 grind
theorem Qc(aC:L e5):∀(k:dt)(m7:L e5),
  L.t_ (λx1 x2=>x1++x2) m7.ky (L.oS k aC.ky)=(m7++(L.oS k aC).Yt).ky
 |0,m7=>by simp
 |k+1,m7=>by
  have e:m7.ky++aC.ky=(m7++aC).ky:=by simp
  have e2:(m7++aC)++(L.oS k aC).Yt=m7++(L.oS (k+1) aC).Yt:=by
   grind
  rw[<- e2,<- Qc aC k (m7++aC),<- e,w2l,w1g]
section
variable{l b:fh}{ys zs:L V}
def g8.zy{its':L e5}{f:tP e5->tP e5}{t':dt}(I:g8 X eS σ H s)(hH:H l=O (.fy xs))
  (e:s.d_.f6 l=O {ie:=.hJ "list", lg:=.mx aC.ky n})(hf:f aC.ky=its'.ky)(hv:oK ys its')(hz:ys.J<=pg):
  g8 X eS σ (l5 H l (.fy ys)) {s with d_:=s.d_.YJ l (nU.Yx f),nW:=t'}:=by
 have q:=kd.IsL.YJ e f;rw[hf]at q;refine I._Q (x:=l) (e:=l) (by rw[hH];exact trivial) (.h8 rfl) (λb' u hb hu=>(fH.Þ s.d_ (nU.Yx f) (Ne.symm hb)).iD hu) ⟨_,q⟩ ?_
 exact⟨hz,its',_,hv,q⟩
theorem g8.JA{t':dt}(I:g8 X eS σ H s)(hv:oK ys aC)(hz:ys.J<=pg):
  g8 X eS σ (l5 H s.d_.e6.eG (.fy ys)) {s with d_:=s.d_.nV {ie:=.hJ "list", lg:=.mx aC.ky},nW:=t'}:=
 I.wg (λ_ _ q=>fH.q_ _ q) (w0d _) ⟨hz,aC,0,hv,fH.vM _ rfl⟩
theorem g8.u3(I:g8 X eS σ H s):H s.d_.e6.eG=none:=I.aR.u3 (w0d _)
def g8.zC(I:g8 X eS σ H s)(hH:H l=O (.fy xs)):xs.J<=pg/\∃(aC:L e5)(n:dt),oK xs aC/\xs.J=aC.J/\s.d_.f6 l=O {ie:=.hJ "list", lg:=.mx aC.ky n}:=by
 let⟨z,aC,n,r,e⟩:=I.aR l _ hH;exact⟨z,aC,n,r,r.J,e⟩
def zdO(h:n<=pg):oq.L.Ď n=false:=by
 grind [oq.L.Ď]
end
def qt:V->L V->Hp->VK->Prop:=λx vs H Q=>∃l xs y,x=.ei l/\vs=[y]/\H l=O (.fy xs)/\xs.J<pg/\Q .aH (l5 H l (.fy (xs++[y])))
def Li:BN X "list.append" qt:=by
 intro eS s σ H x vs v us Q I rx rv h;let⟨l,xs,y,rfl,rfl,hH,hz,q⟩:=h;cases rx;let⟨u,rfl,ru⟩:=rv.WS;let⟨z,aC,n,r,hl,e⟩:=I.zC hH;refine _b F.zdy ⟨_,e,rfl⟩ F.entry_list_append (F.args_list_append_2 _ _) (kd.list_append l aC.ky n u (by grind)) ⟨e,?_⟩;refine⟨.aH,_,I.zy (its':=aC++[u]) hH e (by simp) (r.N' (.m6 ru .m8)) ?_,rfl,q⟩
 grind
def LF:V->L V->Hp->VK->Prop:=λx vs H Q=>∃l xs y,x=.ei l/\vs=[]/\H l=O (.fy xs)/\xs[xs.J-1]?=O y/\Q y (l5 H l (.fy xs.YQ))
def z7c:BN X "list.pop" LF:=by
 intro eS s σ H x vs v us Q I rx rv h;let⟨l,xs,y,rfl,rfl,hH,hy,q⟩:=h;cases rx;have Wn:=rv.zc;subst Wn;let⟨z,aC,n,r,hl,e⟩:=I.zC hH;let⟨u,hu,ru⟩:=r.BX hy
 have Wt:aC.ky[aC.ky.eG-1]?=O u:=by
  show aC.ky[aC.J-1]?=O u;rw[<- w5p,<- hl];exact hu
 refine _b F.zdB ⟨_,e,rfl⟩ F.entry_list_pop (F.args_list_pop_1 _) (MeetsSeq.list_pop_last l aC.ky n u Wt (by rw[w0i];omega)) ⟨e,?_⟩;refine⟨y,_,I.zy (its':=aC.YQ) hH e ?_ r.YQ ?_,ru,q⟩
 .show aC.ky.eraseIdxIfInBounds (aC.ky.eG-1)=aC.YQ.ky;rw[w0i,L.eraseIdxIfInBounds_toArray,zbM]
 .rw[L.length_dropLast];omega
def RD(xs:L α)(k:dt):(L.oS k xs).Yt.J=k*xs.J:=by
 simp_all
end L2
namespace BC
open PySem PySem.W PySem.Calls PyProof.Rows
def XR{P:Ï}{h:fH}:∀(ns:L eW)(vs:L e5),WellAll P h vs (ns.ej Ô.d0)->ϝ vs ns:=by
 intro ns
 induction ns with
 |m8=>
  intro vs w;rw[w3d]at w;cases w;exact .m8
 |m6 n ns ih=>
  intro vs w;rw[w0j]at w;cases w with
  |m6 a b=>
   cases a;exact .m6 _ _ (ih _ b)
def y1r{l:_U}{n:dt}(hn:l.ZK=O n){P:Ï}{h:fH}{args:L Ô}{vals:L e5}
  (vK:l.pS.ϑ.claim.pre args=true)(A3:WellAll P h vals args):
  ∃a vs ns,vals=[e5.ei a]/\args=[Ô.wD (ns.ej Ô.d0)]/\h.f6 a=O {ie:=.hJ "list", lg:=.mx vs.ky}/\ϝ vs ns/\ns.J<=n:=by
 have Wi:Õ.hasAll [] args [.wD .d0]=true:=(pre_splitW vK).1;have hc:l.pre.yt [] {args:=args}=true:=(pre_splitW vK).2;let⟨d,r,rfl,h1,h2⟩:=hasAllW_cons Wi;obtain rfl:=hasAllW_nil h2;let⟨xs,rfl,h3⟩:=hasW_list h1;let⟨ns,rfl⟩:=items_int h3
 have vd:ns.J<=n:=by
  unfold _U.pre at hc
  have h4:(WTm.not (.lt (.lit (.d0 (n:eW))) (.oO (.arg 0)))).yt [] {args:=[.wD (ns.ej .d0)]}=true:=by
   have h4:=(holds_andW hc).1;rw[hn]at h4;exact h4
  have h5:=condW_of h4 (w_not (w_lt w_lit (w_len_list (w_arg rfl))));rw[w0b]at h5;refine dt.le_of_not_lt λq=>?_
  have q':(n:eW)<((ns.J:dt):eW):=by omega
  first
   |(rw[_u q']at h5;exact nS h5 (by decide))
   |(simp at h5;omega)
 cases A3 with
 |m6 w1 w2=>
  cases w2;cases w1 with
  |wD ho vD=>exact⟨_,_,ns,rfl,rfl,ho,XR ns _ vD,vd⟩
theorem y1s(l:_U)(args:L Ô):l.pS.ϑ.claim.post args (.rl true) args=true:=
 postW_of (r:=l.pS.ϑ) (X:=(true==true))
  (show Õ.Yk [] (.rl true) .rl=true by first|rfl|decide|simp[Õ.Yk,Õ.arms,Õ.armsAll])
  (show(WTm.eq .res (.lit (.rl true))).YW [] {args:=args,res:=O (.rl true),Ϣ:=args}=O (.rl (true==true))from w_eq_bool (w_res rfl) w_lit) rfl
def ji{l:_U}{n:dt}{q:qM}{Τ:L eh}{XP:(eh->fG e5)->fH->Prop}{YP:pT->fH->Prop}{d:ĩ}
  (hn:l.ZK=O n)(yN:d.p7.Ý=[])
  (zN:∀(w:pT)(aB aM:kx)(mg mb:eh->fG e5)(fa:fh)(o:nU)(pm cd Q1:e5)(a:fh)(vs:L e5)(ns:L eW),
   Ground q Τ [] XP w aB mg mb aM.d_->YP w aM.d_ ->
   aM.d_.f6 fa=O o->o.lg=.Yv (docDef d.name d.p7 d.o3 d.fj pm cd Q1)->aM.d_.CodeRec cd d.name->mg d.name=O (.ei fa) ->
   aM.d_.f6 a=O {ie:=.hJ "list", lg:=.mx vs.ky}->ϝ vs ns->ns.J<=n->aM.Yw=#[] ->
   YN (mG l.g_ w) ZF (.zN (.ei fa) ⟨[.ei a],[]⟩) (λr s'=>r=.ok (.yr (.rl true))/\ϟ aM.d_ s'.d_/\s'.os=aM.os/\ZP s'.Yw) aM):
  ù q Τ XP YP l.pS.ϑ d [] (λf vs=>kd.zN f vs):=by
 intro w aB aM mg mb G Y fa o pm cd Q1 dV kV ho hd dR hD hmg hg args vals as vK zfd hrd A3 hlo;obtain rfl:dV=.none:=Dflts.none hD yN;obtain rfl:kV=.none:=Dflts.noKw hD;let⟨a,vs,ns,rfl,rfl,tH,ϰ,vd⟩:=y1r hn vK A3;refine enter_call (ς (zN w aB aM mg mb fa o pm cd Q1 a vs ns G Y ho (fd_plain hd) dR hmg tH ϰ vd hg) λr s' hq=>?_)
 let⟨rfl,h2,h3,h4⟩:=hq;exact⟨.h8 ⟨.rl true,.rl true,[],rfl,λ_=>rfl,.rl true,y1s l _,λ_=>⟨L.ø.m8,λ_ hm=>(nomatch hm)⟩⟩,h2,h3,h4⟩
section
variable{g_:qM}{w:pT}{A:tf}{E:e5->kx->Prop}{s:kx}{K:Frag}
def ledger(h:fH)(ar d:fh):L (fh×nU):=(L.so h.e6.eG).Λ λa=>if a=ar\/a=d then none else(h.f6 a).ej λo=>(a,o)
end
end BC
namespace L2
open PySem PySem.Spec PyProof.Rows
theorem Lj:∀{vs:L e5}{ns:L eW},ϝ vs ns->oK (ns.ej V.d0) vs
 |_,_,.m8=>.m8
 |_,_,.m6 n t h=>.m6 ⟨t,rfl⟩ (Lj h)
def yg(H:Hp):Prop:=∀b,H b=none\/∃o xs,H b=O (.jn o (.fy xs))
def y54{P:qM}{w:pT}{K:Fg}{mg mb:eh->fG e5}{CX:n_}{k:dt}{fa a:fh}{fd:Zp}{x:eh}{sp:Sp}{aM:kx}{vs:L e5}{ns:L eW}
  (KX:K.In aM.d_)(uV:aM.d_.Ns EO mg)(hb:aM.d_.Ns ϧ mb)(AZ:∀x:eh,x≠"__name__"->mb x=_a x)(yU:aM.d_.Ϟ)(hg:aM.Yw=#[])
  (ha:aM.d_.f6 a=O {ie:=.hJ "list", lg:=.mx vs.ky})(hi:ϝ vs ns)(hl:ns.J<=pg)(hr:bL k ZF)
  (F:∀g0:fH,K.In g0->g0.Ns EO mg->fN P w K mg g0 CX k fa fd [x] sp)(mW:∀(s:kx)(u:e5),_r s fd ⟨[u],[]⟩ [(x,u)])
  (oH:∀H:Hp,yg H->cG K H a (ns.ej V.d0)->sp [.ei a] H (λv _=>v=.bl true) λ_ _ _=>pV)
  (yJ:∀H e s',CX [] H aM (λ_ _ _=>pV) e s'->pV)(Cf:hV K=true):
  YN (mG P w) ZF (.zN (.ei fa) ⟨[.ei a],[]⟩) (λr s'=>r=.ok (.yr (.rl true))/\ϟ aM.d_ s'.d_/\s'.os=aM.os/\ZP s'.Yw) aM:=by
 have rv:=Lj hi;have CT:=hi.J
 have Ϫ:∀H:Hp,yg H->cG K H a (ns.ej V.d0)->dD P w H aM.d_->(∀b,H b≠none->b=a)->(H a≠none->K.fI a=none) ->
   YN (mG P w) ZF (.zN (.ei fa) ⟨[.ei a],[]⟩) (λr s'=>r=.ok (.yr (.rl true))/\ϟ aM.d_ s'.d_/\s'.os=aM.os/\ZP s'.Yw) aM:=by
  intro H hO hS aR hA hK;have gu:∀{b:fh}{o:nU},aM.d_.f6 b=O o->H b=none->(gZ aM.d_ H).f6 b=O o:=λe n=>Qz e n
  have vS:∀{b:fh}{o:nU}{es:tP ô}{ep:dt},aM.d_.f6 b=O o->o.lg=.qZ es ep->H b=none:=λ{b o es ep} e d=>by
   grind
  have vT:∀{b:fh}{m:eh->fG e5},aM.d_.Ns b m->(gZ aM.d_ H).Ns b m:=λ{b m} ⟨o,es,ep,e,d,r⟩=>⟨o,es,ep,gu e (vS e d),d,r⟩
  have Ce:K.In (gZ aM.d_ H):=λb o e=>gu (KX b o e) (by
   grind)
  have hM:_T K mg (gZ aM.d_ H):=⟨Ce,vT uV,⟨mb,vT hb,AZ⟩,let ⟨mc,h1,h2⟩:=yU;⟨mc,vT h1,h2⟩⟩;have e0:jx P w K mg (gZ aM.d_ H) ZF [] aM H:=⟨rfl,hM,λb o e=>Rm e,dt.le_of_eq (PR _ _),trivial,λb hb=>nS (show b∈([]:L fh)from hb) (by simp),aR,.ϵ hg,.XM Cf⟩
  refine ς ((F _ Ce (vT uV)).g9 ZF [] aM H ⟨[.ei a],[]⟩ [.ei a] [.ei a] _ _ hr e0 (mW aM (.ei a)) (.m6 rfl .m8) (oH H hO hS)) λr s' h=>?_
  cases r with
  |τ e=>exact(yJ H e s' h).ke
  |ok fl=>
   cases fl with
   |next=>exact pV.ke h
   |Zu=>exact pV.ke h
   |Zv=>exact pV.ke h
   |yr u=>
    let⟨v,H',os,wC,un,vI,r',q⟩:=h;have q':v=.bl true:=q;subst q';obtain rfl:u=e5.rl true:=r';refine⟨rfl,ϟ.of_keep λb o e=>?_,os,wC⟩
    cases q:H b with
    |none=>exact un.pU b o e q (by intro z;exact nS (show b∈([]:L fh)from z) (by simp)) (by simp)
    |O u=>
     rcases hO b with z|⟨ob,xs,z⟩
     .rw[q]at z;cases z
     .have z2:=un.bt b ob _ z;let⟨e1,_⟩:=aR b _ z;let⟨e2,_⟩:=vI b _ z2
      grind
 cases hk:K.fI a with
 |O o=>
  have e:=KX a o hk;rw[ha]at e;cases e;refine Ϫ (λ_=>none) (λ_=>.h8 rfl) (.j' ⟨_,vs.ky,_,hk,rfl,rfl,rfl,by grind,by simpa using rv⟩) (λb u z=>by grind) (λb z=>nS rfl z) λz=>nS rfl z
 |none=>
  refine Ϫ (λb=>if b=a then O (.jn {ie:=.hJ "list", lg:=.mx vs.ky} (.fy (ns.ej V.d0)))else none) (λb=>?_) (.h8 (.j' ⟨{ie:=.hJ "list", lg:=.mx vs.ky},gE rfl⟩)) (λb u z=>?_) (λb z=>?_) λ_=>hk
  .grind
  .by_cases hb:b=a
   .have z':=(gE hb).symm.iD z;cases z';subst hb;exact⟨ha,by grind,vs,_,rv,ha⟩
   grind
  grind
abbrev Nk{K:Fg}{h:fH}(_:K.In h):Fg:=K
def z06{l:kd.W._U}{n k:dt}{q:qM}{Τ:L eh}{XP:(eh->fG e5)->fH->Prop}{YP:pT->fH->Prop}{d:ĩ}{K:Ï->Fg}{CX:pT->n_}{sp:pT->Sp}{x:eh}
  (hn:l.ZK=O n)(yZ:n<=pg)(yN:d.p7.Ý=[])(hr:bL k ZF)
  (hY:∀(w:pT)(h:fH),YP w h->(K w.p7).In h)
  (F:∀(w:pT)(mg:eh->fG e5)(fa:fh)(h:fH),(K w.p7).In h->h.Ns EO mg->mg d.name=O (.ei fa) ->
   ∃fd:Zp,(∀(s:kx)(u:e5),_r s fd ⟨[u],[]⟩ [(x,u)]) /\
    ∀g0:fH,(K w.p7).In g0->g0.Ns EO mg->fN l.g_ w (K w.p7) mg g0 (CX w) k fa fd [x] (sp w))
  (oH:∀(w:pT)(H:Hp)(a:fh)(ns:L eW),ns.J<=n->yg H->cG (K w.p7) H a (ns.ej V.d0)->sp w [.ei a] H (λv _=>v=.bl true) λ_ _ _=>pV)
  (yJ:∀(w:pT)(H:Hp)(s:kx)(e:e5)(s':kx),CX w [] H s (λ_ _ _=>pV) e s'->pV)(Cf:∀w:pT,hV (K w.p7)=true):
  kd.W.ù q Τ XP YP l.pS.ϑ d [] (λf vs=>kd.zN f vs):=by
 refine BC.ji hn yN λw aB aM mg mb fa o pm cd Q1 a vs ns G Y ho hd dR hmg tH ϰ vd hg=>?_
 have KX:=hY w _ Y;let⟨fd,hb,hF⟩:=F w mg fa _ KX G.T.g hmg;exact y54 KX G.T.g G.T.b G.T.Η G.T.ϴ hg tH ϰ (w1d vd yZ) hr hF hb (λH hO hS=>oH w H a ns vd hO hS) (λH e s'=>yJ w H aM e s') (Cf w)
end L2
/- THE ze' zeT (shape; LID, My.* are zfc):
   My.a9: a structure of Ew addresses zfm zgx ze9 lH (classes, zeN); My.wF K t: a structure (Prop) of Ew equations over K;
   My.AB : {K} {implicit addresses ..} (e1 : _j K EO "law" = O (O (.ei f))) (e2 : K.fI f = O ⟨oc, od, .Yv (_v "law" "law" p7 o3 fj dV kV Q1 pm an bN ct), sl⟩) (e3 : _d K bN "law" = true) .. : ∃ t, My.wF K t
set_option maxRecDepth 100000 in
set_option maxHeartbeats 0 in
def kd.ó.zgu : kd.ó.Ap.Holds := by
 w_on; o_law; k_head; (case hw => w_witness2)
 k_fill
 refine L2.z06 (l := kd.ó.Ap) (n := 63) (k := 40) (x := "script") (CX := λw => ..) (sp := λ_ => My.zeX) rfl (by decide) rfl ⟨rfl, by decide, by decide⟩ (λw h Y => kd.W.kIn_of Y) ?F ?S ?C
 case F =>
  intro w mg fa h KX G hmg
  have T : ∃ t, My.wF (L2.Nk KX) t := by
   dsimp only [L2.Nk]                          -- K zfj ze6 as «<heap const> w.params» for k_is;refine' My.AB ?e1 ?e2 ?e3 ..
   (case e1 => kd.W.k_is)                    -- in Ew order: a name -> aC address -> aC object -> aC parts
   (case e2 => kd.W.k_is)
   ..
  let⟨t, T⟩:= T;have e0 := hmg.symm.iD (kd.W.mg_of KX G T.law);cases e0                                       -- fa is Ew ze8 gD address;exact ⟨_, λs u => .ϵ rfl, λg0 kb nb => My.zeK T kb nb⟩     -- if «.of_eq rfl» comes too early: refine' ⟨_, ?b, λg0 kb nb => My.zeK T kb nb⟩; exact λs u => .ϵ rfl
 case S => exact λw H a ns hl hO hS => ..
 case C => exact ..
(Ew tactic k_is Yk no namespace: _Q k_is) -/
namespace L2
open PySem PySem.Spec PyProof.Rows
variable{f:fh}{A:tf}{X:Cx}{e vX:l_}{fd:Zp}{B h h1:fH}{H H':Hp}{EE:L2.St->XK}{es vr:L l_}{js:L dt}{p fZ:qY}{K:Fg}{s:kx}{sp:Sp}{σ:St}{st:vv}{n0 x:eh}{te:TE}{wi:TI}{tc:TT}{a0 ie:e5}{w:pT}
def eA(s:vv):_A:=match s with
 |.õ _ a _ _ _ _ _ _ _ _=>a
 |_=>{posonlyargs:=[],args:=[],vararg:=none,kwonlyargs:=[],kw_defaults:=[],kwarg:=none,Ý:=[]}
def bB(s:vv):L vv:=match s with
 |.õ _ _ b _ _ _ _ _ _ _=>b
 |_=>[]
def ax(s:vv):vP:=match s with
 |.õ _ _ _ _ _ _ sc _ _ _=>sc
 |_=>{sP:=.Zc,lH:=[],á:=false,à:=false}
abbrev Ht:n_:=λ_ _ _ _ _ _=>pV
abbrev E0:XK:=λ_ _ _=>pV
structure vn(K:Fg)(x n0:eh)(st:vv)(f:fh)(fd:Zp):Prop where
 ex:∃(oc:e5)(od:fG fh)(kV Q1 pm:e5)(an:fG fh)(bN ct:e5)(uZ:tP (fG e5)),
  fd=kd.W._v x n0 (eA st) (bB st) (ax st) .none kV Q1 pm an bN ct/\K.fI f=O ⟨oc,od,.Yv fd,uZ⟩/\kd.W._d K bN n0=true
 kp:ZY K (.ei f)=true
section
variable{P:qM}{mg:eh->fG e5}{g0:fH}
def vn.Ζ{ps:L eh}(F:vn K x n0 st f fd)
  (h:∀(kV Q1 pm:e5)(an:fG fh)(bN ct:e5)(us:L e5),us.J=ps.J->Γ (kd.W._v x n0 (eA st) (bB st) (ax st) .none kV Q1 pm an bN ct) ⟨us,[]⟩=pR (ps.uu us)):ZR K fd ps []:=by
 let⟨oc,od,kV,Q1,pm,an,bN,ct,uZ,rfl,lk,dR⟩:=F.ex;exact .oP (h kV Q1 pm an bN ct)
theorem SF{oc:e5}{od an:fG fh}{uZ:tP (fG e5)}{kV Q1 pm bN ct:e5}(l:K.fI f=O ⟨oc,od,.Yv (kd.W._v x n0 (eA st) (bB st) (ax st) .none kV Q1 pm an bN ct),uZ⟩)
  (c:kd.W._d K bN n0=true)(k:ZY K (.ei f)=true):vn K x n0 st f (kd.W._v x n0 (eA st) (bB st) (ax st) .none kV Q1 pm an bN ct):=⟨⟨oc,od,kV,Q1,pm,an,bN,ct,uZ,rfl,l,c⟩,k⟩
end
theorem pv(i:dt)(hN:fi (X.N[i]?=O x) jJ)(hv:fi (jy X.el.fj x) jM)(hd:fi ((x==("__debug__":eh))=false) jK)
  (dR:fi ((x==("__classdict__":eh))=false) jK):PE X (.je x fZ) (uE i):=z6n hN hv hd dR
def au(H H':Hp):Prop:=∀b o,H b=O o->H' b=O o
theorem au.oQ(H:Hp):au H H:=λ_ _ h=>h
theorem au.iD{H1 H2:Hp}(a:au H H1)(b:au H1 H2):au H H2:=λc o h=>b c o (a c o h)
def au.nL(e:au H H'){l:fh}(h:H' l=fG.none):H l=fG.none:=by
 cases q:H l with
 |none=>rfl
 |O o=>
  rw[e l o q]at h;cases h
def au.mx{a:fh}{xs:L V}(e:au H H')(h:cG K H a xs):cG K H' a xs:=by
 rcases h with(h|⟨o,h⟩)|h
 .exact .h8 (.h8 (e _ _ h))
 .exact .h8 (.j' ⟨o,e _ _ h⟩)
 .exact .j' h
set_option maxHeartbeats 4000000
structure wO(l4:L tY)(H H':Hp)(h h':fH)(e:fh)(ie:e5)(B:fH):Prop where
 fl:∃a0,fH._S B l4 e ie a0 h'
 tB:∀b o,h.f6 b=O o->H b=none->b∉fV l4->B.f6 b=O o
 ph:∀b u o,H' b=O u->h'.f6 b=O o->B.f6 b=O o
 oP:∀b o,h.f6 b=O o->b∈fV l4\/∃o',B.f6 b=O o'
 rZ:h.f6 e=none
def eJ(P:qM)(w:pT):n_:=λl4 H s E ev s'=>∃(e:fh)(ie:e5)(H':Hp)(B:fH),
 ev=.ei e/\s'.os=s.os/\ZP s'.Yw/\Un (fV l4) [] H H' s.d_ s'.d_/\dD P w H' s'.d_/\wO l4 H H' s.d_ s'.d_ e ie B/\E ie none H'
def dN(CX:n_)(X:Cx)(EE:L2.St->XK):Prop:=∀(eS:L (fh×nU))(σ:St)(H:Hp)(s:kx)(e:e5)(s':kx),g8 X eS σ H s->CX X.zf H s (EE σ) e s'->X.xe e s'
def sJ(X:Cx)(EE:L2.St->XK):Prop:=∀(eS:L (fh×nU))(σ:St)(H:Hp)(s:kx)(e:fh)(ie:e5)(vs:L e5)(h':fH),g8 X eS σ H s->fH.MadeExcOf s.d_ h' e ie vs->EE σ ie none H->X.xe (.ei e) {s with d_:=h'}
def RE{eS:L (fh×nU)}{s':kx}{e:fh}{pL:fH}
  (I:g8 (eM CX P w K mg g0 N n0 fj f cd A l4 aB aI E) eS σ H s)(dr:g8 (eM CX P w K mg g0 N n0 fj f cd A l4 aB aI E) eS σ H' s')
  (tB:∀b o,s.d_.f6 b=O o->H b=none->b∉fV (Ot n0 fj aB.d_.e6.eG f cd::l4)->B.f6 b=O o)
  (ph:∀b u o,H' b=O u->s'.d_.f6 b=O o->B.f6 b=O o)
  (oP:∀b o,s.d_.f6 b=O o->b∈fV (Ot n0 fj aB.d_.e6.eG f cd::l4)\/∃o',B.f6 b=O o')
  (rZ:s.d_.f6 e=none)
  (fl:fH._S B l4 e ie a0 pL)(up:s'.d_.Ó pL)(hE:E ie none H'):
  eJ P w l4 aI aB E (.ei e) {s' with d_:=pL}:=by
 have zH:∀b o,aB.d_.f6 b=O o->b∉fV l4->b∉fV (Ot n0 fj aB.d_.e6.eG f cd::l4):=λb o q nb hb=>by
  rcases w0h.mp (show b∈aB.d_.e6.eG::fV l4 from hb)with z|z
  .exact nS (fH.sf q) (by rw[z];exact w2h _)
  .exact nb z
 have yA:∀b:fh,b∉([]:L fh):=λb z=>nomatch z
 have r5:∀b o,aB.d_.f6 b=O o->b∈fV l4->∃sl,pL.f6 b=O {o with zx:=sl}:=λb o q hb=>by
  let⟨sl,e1⟩:=dr.g0.r5 b o q (dr.ok.pK b hb) hb (yA b);let⟨_,o2,e2,nd⟩:=dr.e_.YD hb
  rw[e1]at e2;cases e2;let⟨vc,e3⟩:=up b _ e1 nd;exact⟨vc,e3⟩
 refine⟨e,ie,H',B,rfl,dr.os,dr.wC,⟨λb o q n hb hx=>?_,λb o q n hb hx=>r5 b o q hb,λb o q n hx=>dr.g0.nL b o q n hx,λb o q hx=>?_,dr.g0.gj,dr.g0.bt,dr.g0.eU⟩,λa o q=>?_,⟨⟨a0,fl⟩,λb o q n hb=>?_,λb u o q z=>?_,λb o q=>?_,?_⟩,hE⟩
 .exact fl.1 b o (tB b o (I.g0.pU b o q n hb hx) (I.g0.nL b o q n hx) (zH b o q hb))
 .by_cases hb:b∈fV l4
  .let⟨sl,z⟩:=r5 b o q hb;exact⟨_,z⟩
  .let⟨o1,e1⟩:=I.g0.WE b o q hx;rcases oP b o1 e1 with z|⟨o',z⟩
   .exact nS z (zH b o q hb)
   .exact⟨o',fl.1 b o' z⟩
 .refine(dr.aR a o q).fK (λb u hb z=>?_) (λ_ z=>z) λ_ _ _ z=>z
  rcases hb with rfl|hb
  .exact fl.1 _ _ (ph b o u q z)
  .exact fl.1 _ _ (ph b _ u hb z)
 .exact tB b o (I.g0.pU b o q n hb (yA b)) (I.g0.nL b o q n (yA b)) (zH b o q hb)
 .let⟨o1,e1⟩:=(dr.aR b u q).BX;have e2:=ph b u o1 q e1;have e3:=fl.1 b o1 e2;rw[e3]at z;cases z;exact e2
 .let⟨o1,e1⟩:=I.g0.WE b o q (yA b);rcases oP b o1 e1 with z|z
  .by_cases hb:b∈fV l4
   .exact .h8 hb
   .exact nS z (zH b o q hb)
  .exact .j' z
 .cases q:aB.d_.f6 e with
  |none=>rfl
  |O o=>
   let⟨o1,e1⟩:=I.g0.WE e o q (yA e);rw[rZ]at e1;cases e1
def C_:dN (eJ P w) (eM (eJ P w) P w K mg g0 N n0 fj f cd A l4 aB aI E) (λ_=>E):=by
 intro eS σ H s ev s' I hx;let⟨e,ie,H',B,rfl,pO,hg,un,aR,gP,hE⟩:=hx;have dr:=I.pG (ch:=[]) pO un aR hg (λb hb=>nomatch hb)
 let⟨a0,fl⟩:=gP.fl;refine wpAny_leaves_onW (g0:=B) I.ok.Yu rfl fl λpL VA up=>?_
 exact RE I dr gP.tB gP.ph gP.oP gP.rZ VA up hE
def O6:sJ (eM (eJ P w) P w K mg g0 N n0 fj f cd A l4 aB aI E) (λ_=>E):=by
 intro eS σ H s e ie vs h' I hx hE;have dr:g8 (eM (eJ P w) P w K mg g0 N n0 fj f cd A l4 aB aI E) eS σ H {s with d_:=h'}:=I.NK (t':=s.nW) hx.AN;have yS:∀el∈(Ot n0 fj aB.d_.e6.eG f cd::l4),∀b,el.Μ=O b->b∈fV (Ot n0 fj aB.d_.e6.eG f cd::l4):=λel he b hb=>w3j.rj ⟨el,he,hb⟩
 refine wpAny_leaves_madeW (g0:=kd.W.hideAll s.d_ (fV (Ot n0 fj aB.d_.e6.eG f cd::l4))) (h:=s.d_) I.ok.Yu rfl (λb o q=>kd.W.of_hideAll _ q) (kd.W.funFrames_hide I.zf yS) hx λpL t fl _ _ up=>?_
 refine RE I dr (λb o q _ nb=>Ĉ _ q nb) (λb u o q z=>?_) (λb o q=>?_) hx.rZ fl up hE
 .let⟨o1,e1⟩:=(I.aR b u q).BX;have e2:=hx.AN b o1 e1;have z':h'.f6 b=O o:=z;rw[e2]at z';cases z';refine Ĉ _ e1 λhb=>?_
  rw[I.mn b hb]at q;cases q
 .by_cases hb:b∈fV (Ot n0 fj aB.d_.e6.eG f cd::l4)
  .exact .h8 hb
  .exact .j' ⟨o,Ĉ _ q hb⟩
theorem C':dN (eJ P w) X (λ_=>E0):=λ_ _ _ _ _ _ _ h=>by
 let⟨_,_,_,_,_,_,_,_,_,_,z⟩:=h;exact pV.ke z
def uC(sp:Sp)(sU:L V)(EE:L2.St->XK)(t:TA):TE:=λσ H Q=>t σ H λvs H1=>sp (vs++sU) H1 Q (EE σ)
section
variable{CX:n_}{k:dt}{C:fh}{ps:L eh}{sU:L V}{ds:L e5}{m:eh}{o:l_}{ta:TE}{t:TA}
def z07(F:fN X.g_ X.w X.K X.mg X.g0 CX k f fd ps sp)(hr:bL k X.A)(hb:ZR X.K fd ps ds)(hd:oK sU ds)(hx:dN CX X EE)
  (I:g8 X eS σ H s)(r:oK vs us)(h:sp (vs++sU) H Q (EE σ)):kX (mG X.g_ X.w) X.A (zN (.ei f) us) (EP X eS σ Q) X.xe s:=by
 have r2:oK (vs++sU) (us++ds):=r.N' hd;have hl:(us++ds).J=ps.J:=by rw[<- r2.J];exact F.oO _ _ _ _ h
 refine Á (ς (F.g9 X.A X.zf s H ⟨us,[]⟩ (us++ds) (vs++sU) Q (EE σ) hr I.vz (hb s us I.ko hl) r2 h) λr s' hq=>?_)
 cases r with
 |τ e=>exact hx eS σ H s e s' I hq
 |ok fl=>
  cases fl with
  |yr u=>exact I.Ϣ hq
  |next=>exact pV.ke hq
  |Zu=>exact pV.ke hq
  |Zv=>exact pV.ke hq
def y55(F:fN X.g_ X.w X.K X.mg X.g0 CX k f fd ps sp)(hr:bL k X.A)(hg:Gl X x)(hm:X.mg x=O (.ei f))(hk:ZY X.K (.ei f)=true)(hb:ZR X.K fd ps ds)(hd:oK sU ds)(hx:dN CX X EE)
  (ha:PA X (e::es) t)(fb:fi ((x==("__debug__":eh))=false) jK)(he:fi (lq (e::es) X.el=(false,eval e X.el)::lq es X.el) jJ)(df:fi ((r8 fZ (lq es X.el)).pX (·.1)=false) jJ):
  PE X (.pY (.je x p) (e::es) [] fZ) (uC sp sU EE t):=by
 intro eS s σ H Q I h;refine _P (Bp I hg hm ?_ fb);refine ĸ (h₀:=X.g0) I.ok.yl.uX hk (bw (ha fZ eS s σ H _ I h) λus s1 ⟨vs,H1,I1,r,q⟩=>⟨I1.ko,?_⟩) he df
 exact z07 F hr hb hd hx I1 r q
end
def vn.WW(F:vn K x n0 st f fd)(S:bV N ps (ax st))(oO:∀vs H Q E,sp vs H Q E->vs.J=ps.J)
  (iB:∀(bN:e5)(A:tf)(l4:L tY)(s:kx)(H:Hp)(vs:L V)(Q:VK)(E:XK),bL k (A.LO (Ot n0 (ax st) s.d_.e6.eG f bN))->sp vs H Q E ->
   ∃t,kP (eM (eJ P w) P w K mg g0 N n0 (ax st) f bN A l4 s H E) (bB st) t/\t {nx:=λ_ H'=>Q .aH H',rt:=Q} (XD N vs) H):fN P w K mg g0 (eJ P w) (k+1) f fd ps sp:=by
 let⟨oc,od,kV,Q1,pm,an,bN,ct,uZ,rfl,lk,dR⟩:=F.ex;exact Tp lk dR S oO λA l4 s H vs Q E hr oH=>iB bN A l4 s H vs Q E hr oH
def lP(K:Fg)(a:fh):fJ:=match K.fI a with
 |O ⟨_,_,.qZ es _,_⟩=>es.n9.oP λe=>match e.NV with|.str _ _=>true|_=>false
 |_=>false
def iH(K:Fg)(a:fh):fJ:=lP K a&&kd.W._j K a "__init__"==O none
abbrev lR:L e5:=[.hJ "ValueError", .hJ "Exception", .hJ "BaseException", .hJ "object"]
def yu:_B->fG Ź
 |.ie c=>O c
 |_=>none
def RF{d:_B}{c:Ź}(h:yu d=O c):d=.ie c:=by
 cases d with
 |ie x=>exact Yc _B.ie (fG.O.sE h)
 |_=>exact nomatch (show none=O c from h)
def ZU(K:Fg)(C A:fh):fJ:=(K.fI C).pX λo=>(K.fI A).pX λoa=>(yu o.lg).pX λcd=>(yu oa.lg).pX λca=>
 o.ie==.hJ "type"&&o.zx.n9==[o.zx.mF 0 none,o.zx.mF 1 none,o.zx.mF 2 none,o.zx.mF 3 none,O (.rn "ValueError.__new__"),o.zx.mF 5 none]&&cd.mro==(.ei C::.ei A::lR)&&!cd.hasDel&&iH K cd.ns&&iH K ca.ns
def Qd{a:fh}(X:K.In h)(q:iH K a=true):∃m,h.Ns a m/\m "__init__"=none:=by
 unfold iH at q;rw[w0q]at q;let⟨q1,q2⟩:=q;unfold lP at q1;split at q1
 .rename_i c d es n sl hl
  have hs:StrKeys es:=λe he=>by
   have:=w1l.mp q1 e (by simpa using he);split at this
   .rename_i k t hk;exact⟨_,_,hk⟩
   .cases this
  refine⟨nsFind es,⟨_,es,n,X _ _ hl,rfl,hs,λ_=>rfl⟩,?_⟩
  have q2:=ZE.mp q2;unfold kd.W._j at q2;rw[hl]at q2;dsimp only at q2;unfold nsFind ņ;rw[<- w6j];split at q2
  .cases q2
  .rename_i he;rw[he];rfl
 .cases q1
inductive wN(h:fH)(C A:fh):Prop
 |mk (nm qn N bs hdct sn mI ab Θ dd k0 k1 k2 k3 k5 mN) (e:h.f6 C=O (excClassObj nm qn C N bs (.ei A::lR) hdct sn mI ab Θ dd k0 k1 k2 k3 k5 "ValueError.__new__")) (n:h.Ns N mN) (i:mN "__init__"=none) (T:OwnTail h lR (.ei A::lR)):wN h C A
def DY{A:fh}(X:K.In h)(q:ZU K C A=true):wN h C A:=by
 unfold ZU at q;simp only[fG.any_eq_true,w0q,ZE,w3p]at q;obtain⟨⟨c,dd,d,sl⟩,hC,⟨c',d1,d',vc⟩,hA,cd,h1,ca,h2,⟨⟨⟨⟨hc,tJ⟩,hm⟩,Iv⟩,hn⟩,Wb⟩:=q;cases RF h1;cases RF h2;cases hc;have tJ:=Yc L.ky tJ;rw[w5y]at tJ;obtain⟨k0,k1,k2,k3,k5,tJ⟩:∃k0 k1 k2 k3 k5,sl=#[k0,k1,k2,k3,O (.rn "ValueError.__new__"),k5]:=⟨_,_,_,_,_,tJ⟩;subst tJ;let⟨nm,bs,mro,ns,qn,hd,sn,mI,ab,Θ,del⟩:=cd;cases hm;cases Iv;let⟨mN,hN,hi⟩:=Qd X hn;let⟨mA,VL,V0⟩:=Qd X Wb;exact⟨nm,qn,ns,bs,hd,sn,mI,ab,Θ,dd,k0,k1,k2,k3,k5,mN,X _ _ hC,hN,hi,.gD (X _ _ hA) VL V0 .g0⟩
def Ay(C:fh)(EE:L2.St->XK)(t:TA):TS:=λ_ σ H=>t σ H λvs H1=>vs.J<=pg/\EE σ (.ei C) none H1
section
variable{C Ac:fh}{np aW:qY}{t:TA}
def y56(hx:sJ X EE)(hc:X.wK=true)(hg:Gl X x)(hm:X.mg x=O (.ei C))(hC:ZU X.K C Ac=true)(ha:PA X (e::es) t)
  (fb:fi ((x==("__debug__":eh))=false) jK)(he:fi (lq (e::es) X.el=(false,eval e X.el)::lq es X.el) jJ)(df:fi ((r8 aW (lq es X.el)).pX (·.1)=false) jJ):
  PS X (.Raise (O (.pY (.je x np) (e::es) [] aW)) none fZ) (Ay C EE t):=by
 intro eS s σ H D I h;let⟨nm,qn,N,bs,hdct,sn,mI,ab,Θ,dd,k0,k1,k2,k3,k5,mN,NO,hN,hi,T⟩:=DY I.ko hC
 have I_:(r8 aW (lq (e::es) X.el)).pX (·.1)=false:=by
  rw[he];show(false||(r8 aW (lq es X.el)).pX (·.1))=false;rw[df];rfl
 refine wpAny_Raise_call_subT (C:=C) (nm:=nm) (q:=qn) (N:=N) (bs:=bs) (bm:=.ei Ac::lR) (hdct:=hdct) (sn:=sn) (mI:=mI) (ab:=ab) (Θ:=Θ) (dd:=dd) (k0:=k0) (k1:=k1) (k2:=k2) (k3:=k3) (k5:=k5)
  kd.F.excBase_ValueError (mN:=mN) (by rfl) (I.ok.hd hc) I_ hi (Bp I hg hm ⟨rfl,?_⟩ fb)
 have NV:=ha aW eS s σ H _ I h;rw[he]at NV |-
 refine Yq.zcj (YX NV (λus s1 ⟨vs,H1,I1,r,hz,q⟩=>?_) λ_ _ y=>y)
 let⟨nm',qn',zeZ,bs',ze2,sn',zfn,ab',zfg,pI,k0',k1',k2',k3',k5',WK,Cd,hN',qU,T'⟩:=DY I1.ko hC;have kk:∀b o,X.g0.f6 b=O o->s1.d_.f6 b=O o:=I1.bk
 have hCb:X.g0.f6 C=s1.d_.f6 C:=by
  let⟨_,_,_,_,_,_,_,_,_,_,_,_,_,_,_,_,z,_⟩:=DY I.ok.yl.uX hC;rw[z];exact(kk _ _ z).symm
 have VI:s.d_.f6 C=s1.d_.f6 C:=by
  let⟨_,_,_,_,_,_,_,_,_,_,_,_,_,_,_,_,z,_⟩:=DY I.ok.yl.uX hC;rw[I.bk _ _ z];exact(kk _ _ z).symm
 have E5:s1.d_.f6 C=O (excClassObj nm qn C N bs (.ei Ac::lR) hdct sn mI ab Θ dd k0 k1 k2 k3 k5 "ValueError.__new__"):=VI ▸ NO;rw[E5]at Cd;cases Cd;have em:WK "__init__"=none:=qU
 have H_:s1.d_.Ns N mN:=by
  let⟨o1,Vv,Vu,a1,a2,a3,a4⟩:=hN;let⟨_,_,ze0,_,_,_,_,_,_,_,_,_,_,_,_,m3,z3,n3,_,_⟩:=DY I.ok.yl.uX hC;have z4:=I.bk _ _ z3;rw[NO]at z4;cases (z4);let⟨o5,NH,NG,b1,b2,b3,b4⟩:=n3;have c1:=I.bk _ _ b1;rw[a1]at c1;cases c1;exact⟨_,Vv,Vu,I1.bk _ _ b1,a2,a3,a4⟩
 exact⟨rfl,by rw[<- r.J];exact hz,E5,H_,T',λh' ea V9=>hx eS σ H1 s1 ea (.ei C) us h' I1 V9 q⟩
end
def oC(e:fh)(ie:e5):HO:=.ext λh=>∃o vs,h.f6 e=O o/\o.ie=ie/\o.lg=.x6 vs
def z08{P:qM}{e:fh}(x:∃o vs,h.f6 e=O o/\o.ie=ie/\o.lg=.x6 vs):bh P w H h e (oC e ie):=by
 let⟨o,vs,h1,h2,h3⟩:=x;refine⟨⟨o,vs,h1,h2,h3⟩,⟨o,h1⟩,λg1 g2 ⟨o',yc,q1,q2,q3⟩ k=>⟨o',yc,k o' q1,q2,q3⟩⟩
abbrev Cx.tr(X:Cx)(pn:L (fh×nU))(xe:e5->kx->Prop):Cx:={X with pn:=pn,xe:=xe}
abbrev Cx.hn(X:Cx)(e:fh):Cx:={X with A:=X.A.mark (O (.ei e)),wK:=false,xe:=λ_ _=>pV}
section
variable{eS nA:L (fh×nU)}{xe:e5->kx->Prop}{e:fh}
theorem Cx.Ok.tr(ok:X.Ok)(pn:L (fh×nU))(xe:e5->kx->Prop):(X.tr pn xe).Ok:=
 ⟨ok.yl,ok.sP,ok.YT,ok._E,ok.YM,ok.sE,ok.Yk,ok.wZ,ok.hd,ok.Yu,ok.BB,ok.xc,ok.bs,ok.om,ok.oW,ok.mT,ok.e_,ok.pK,ok.YV⟩
theorem Cx.Ok.pq{pn:L (fh×nU)}(ok:(X.tr pn xe).Ok):X.Ok:=
 ⟨ok.yl,ok.sP,ok.YT,ok._E,ok.YM,ok.sE,ok.Yk,ok.wZ,ok.hd,ok.Yu,ok.BB,ok.xc,ok.bs,ok.om,ok.oW,ok.mT,ok.e_,ok.pK,ok.YV⟩
theorem Cx.Ok.hn(ok:X.Ok)(e:fh):(X.hn e).Ok:=
 ⟨ok.yl,ok.sP,ok.YT,ok._E,ok.YM,ok.sE,ok.Yk,ok.wZ,(λz=>nomatch z),ok.Yu,ok.BB,ok.xc,ok.bs,ok.om,ok.oW,ok.mT,ok.e_,ok.pK,ok.YV⟩
theorem g8.tr(I:g8 X eS σ H s)(xe:e5->kx->Prop):g8 (X.tr (X.pn++eS) xe) [] σ H s:=
 ⟨I.ok.tr _ xe,I.os,I.wC,I.g0,I.T4,I.mZ,I.nL,I.dq,λp hp=>I.OB p (by simpa using hp),I.aR,I.oO⟩
theorem g8.pq(I:g8 (X.tr (X.pn++eS) xe) nA σ H s):g8 X eS σ H s:=
 ⟨I.ok.pq,I.os,I.wC,I.g0,I.T4,I.mZ,I.nL,I.dq,λp hp=>I.OB p (w1h _ hp),I.aR,I.oO⟩
theorem g8.hn(I:g8 X eS σ H s)(e:fh):g8 (X.hn e) eS σ H s:=
 ⟨I.ok.hn e,I.os,I.wC,I.g0,I.T4,I.mZ,I.nL,I.dq,I.OB,I.aR,I.oO⟩
theorem g8.Ma(ok:X.Ok)(I:g8 (X.hn e) eS σ H s):g8 X eS σ H s:=
 ⟨ok,I.os,I.wC,I.g0,I.T4,I.mZ,I.nL,I.dq,I.OB,I.aR,I.oO⟩
def g8.forget{h':fH}{m':eh->fG e5}{t:dt}(I:g8 X eS σ H s)(hs:fH.Zq X.el.EU s.d_ h')(yY:h'.Ns X.el.EU m'):g8 X eS (L.oS X.N.J none) H {s with d_:=h',nW:=t}:=by
 let⟨m,hn,hl⟩:=id I.T4;let⟨oL,_,_,N7,_⟩:=id hn
 have ì:dD X.g_ X.w H h':=λb ob e=>by
  refine(I.aR b ob e).fK (λc w' hc q=>(hs.2 c ?_).iD q) (λ_ q=>q) λ_ _ _ q=>q
  rintro rfl;rcases hc with rfl|hc
  .rw[I.nL]at e;cases e
  .rw[I.nL]at hc;cases hc
 refine⟨I.ok,I.os,I.wC,⟨λb o e n hb hx=>?_,λb o e n hb hx=>?_,I.g0.nL,λb o e hx=>?_,I.g0.gj,I.g0.bt,I.g0.eU⟩,⟨m',yY,λj y v' e1 e2 e3=>?_⟩,λy c e=>?_,I.nL,I.dq,λp hp=>?_,ì,by simp⟩
 .exact(hs.2 b (w0y (w1a (fH.sf e) I.ok.YM))).iD (I.g0.pU b o e n hb hx)
 .let⟨sl,e1⟩:=I.g0.r5 b o e n hb hx;exact⟨sl,(hs.2 b (w0y (w1a (fH.sf e) I.ok.YM))).iD e1⟩
 .let⟨o',e1⟩:=I.g0.WE b o e hx;exact⟨o',(hs.2 b (w0y (w1a (fH.sf e) I.ok.YM))).iD e1⟩
 .rw[w2r]at e2;split at e2<;>cases e2
 .let⟨w',z⟩:=I.mZ y c e;exact⟨w',z.ό hs (I.vw y c e)⟩
 .let⟨e,n,ne,nf,d⟩:=I.OB p hp;exact⟨(hs.2 p.1 ne).iD e,n,ne,nf,d⟩
def wO.un{l:L tY}{h2 h3:fH}(un:Un (fV l) [] H H' h1 h2)(gP:wO l H H' h1 h2 e ie B)(fl:fH._S B l e ie a0 h3)(up:h2.Ó h3):Un (fV l) [] H H' h1 h3:=by
 let⟨a1,Vz⟩:=gP.fl;have yA:∀b:fh,b∉([]:L fh):=λb z=>nomatch z
 have r5:∀b o,h1.f6 b=O o->H b=none->b∈fV l->∃sl,h3.f6 b=O {o with zx:=sl}:=λb o q n hb=>by
  let⟨sl,e1⟩:=un.r5 b o q n hb (yA b);let⟨_,o2,e2,nd⟩:=Vz.2.2.1.YD hb;rw[e1]at e2;cases e2;let⟨vc,e3⟩:=up b _ e1 nd;exact⟨vc,e3⟩
 refine⟨λb o q n hb hx=>fl.1 b o (gP.tB b o q n hb),λb o q n hb hx=>r5 b o q n hb,un.nL,λb o q hx=>?_,un.gj,un.bt,un.eU⟩
 rcases gP.oP b o q with hb|⟨o',z⟩
 .let⟨_,o2,e2,nd⟩:=fl.2.2.1.YD hb;exact⟨o2,e2⟩
 .exact⟨o',fl.1 b o' z⟩
theorem wO.aR{P:qM}{l:L tY}{h2 h3:fH}(aR:dD P w H' h2)(gP:wO l H H' h1 h2 e ie B)(fl:fH._S B l e ie a0 h3):dD P w H' h3:=λa o q=>by
 refine(aR a o q).fK (λb u hb z=>?_) (λ_ z=>z) λ_ _ _ z=>z
 rcases hb with rfl|hb
 .exact fl.1 _ _ (gP.ph b o u q z)
 .exact fl.1 _ _ (gP.ph b _ u hb z)
def wO.nL{P:qM}{l:L tY}{h2:fH}(aR:dD P w H' h2)(gP:wO l H H' h1 h2 e ie B):H' e=none:=by
 let⟨a0,fl⟩:=gP.fl;cases q:H' e with
 |none=>rfl
 |O u=>
  let⟨o,z⟩:=(aR e u q).BX;have:=gP.ph e u o q z;rw[fl.2.1]at this;cases this
def Un.YI{fs:L fh}{h3:fH}{o:HO}(un:Un fs [] H H' h1 h3)(rZ:h1.f6 e=none)(fr:H' e=none):Un fs [] H (l5 H' e o) h1 h3:=by
 refine⟨un.pU,un.r5,λb ob q n hx=>?_,un.WE,λb xs q=>?_,λb ob u q=>?_,λb ps q=>?_⟩
 .have:b≠e:=λz=>by grind
  rw[bg this];exact un.nL b ob q n hx
 .have z:=un.gj b xs q;rw[bg (gQ z fr)];exact z
 .have z:=un.bt b ob u q;rw[bg (gQ z fr)];exact z
 .let⟨EY,z⟩:=un.eU b ps q;exact⟨EY,by rw[bg (gQ z fr)];exact z⟩
theorem dD.YI{P:qM}{o:HO}(aR:dD P w H' h)(fr:H' e=none)(rZ:bh P w (l5 H' e o) h e o):dD P w (l5 H' e o) h:=λb u q=>by
 by_cases hb:b=e
 .grind [cI]
 .rw[bg hb]at q;exact(aR b u q).fK (λ_ _ _ z=>z) (λc z=>by rw[bg (gQ z fr)];exact z) λc xs _ z=>by rw[bg (gQ z fr)];exact z
end
def L7(K:Fg)(c:fh)(i n:dt)(tb:(St->XK)->TS)(th:TS):TS:=λD σ H=>
 tb (λaN ie _ H'=>ZV K ie (.ei c)=O true/\∀e,H' e=none ->
  th {nx:=λ_ jY=>D.nx (L.oS n none) jY,rt:=D.rt,bk:=λ_ jY=>D.bk (L.oS n none) jY,ct:=λ_ jY=>D.ct (L.oS n none) jY} (aN.my i (O (.ei e))) (l5 H' e (oC e ie))) D σ H
def z7d{o3 nH:L vv}{sN:vv}{c n:eh}{i:dt}{Cc:fh}{np vJ:qY}{tb:(St->XK)->TS}{th:TS}
  (hg:Gl X c)(hm:X.mg c=O (.ei Cc))(hN:X.N.p9)(hi:X.N[i]?=O n)(hx:X.el.fj.lH.fI n=O .local)
  (hb:∀(EE:L2.St->XK)(pn:L (fh×nU))(xe:e5->kx->Prop),dN (eJ X.g_ X.w) (X.tr pn xe) EE->kP (X.tr pn xe) o3 (tb EE))
  (hh:∀e:fh,kP (X.hn e) (sN::nH) th)
  (hs:fi (X.zf=X.el::X.l4) jJ)(hf:fi (X.el.Μ=O X.el.EU) jJ)(fb:fi ((c==("__debug__":eh))=false) jK):
  PS X (.Try o3 [.ż (O (.je c np)) (O n) (sN::nH) vJ] [] [] fZ) (L7 X.K Cc i X.N.J tb th):=by
 intro eS s σ H D I h;refine wpAny_Try_except (YX (hb _ (X.pn++eS) _ ?pass [] s σ H D (I.tr _) h) (λf s1 q=>?_) λ_ _ z=>z)
 case pass=>
  intro nA aN H1 s1 ev s2 I1 Jf;let⟨e,ie,H2,B,rfl,pO,NY,un,aR,gP,V',hE⟩:=Jf;have I0:g8 X eS aN H1 s1:=I1.pq;have un:Un (fV X.zf) [] H1 H2 s1.d_ s2.d_:=un;have gP:wO X.zf H1 H2 s1.d_ s2.d_ e ie B:=gP;have kQ:=gP.nL aR;let⟨a0,fl⟩:=gP.fl;have Vy:fH._S B (X.el::X.l4) e ie a0 s2.d_:=hs ▸ fl;have VC:X.A.Yu=O (X.el::X.l4):=hs ▸ I0.ok.Yu;have C4:∀b∈([]:L fh),(b∈X.ex\/X.aB.d_.e6.eG<=b)/\b≠X.el.EU/\(∀x c,X.el.tO.fI x=O c->c≠b)/\∀p∈X.pn++eS,p.1≠b:=λb z=>nomatch z
  have land:∀h5 tk,fH._S B (X.el::X.l4) e ie a0 h5->s2.d_.Ó h5->g8 X eS aN H2 {s2 with d_:=h5,nW:=tk}:=λh5 tk VB XJ=>by
   have B9:fH._S B X.zf e ie a0 h5:=hs.symm ▸ VB;exact I0.pG (s':={s2 with d_:=h5,nW:=tk}) (ch:=[]) pO (gP.un un B9 XJ) (gP.aR aR B9) NY C4
  refine wpAny_looks_onW (g0:=B) VC hf Vy λzfl held EA=>?_
  refine wpAny_landsW held λzo sZ AD=>?_
  have yb:s2.d_.Ó zo:=EA.iD AD;have I5:=land zo s2.nW sZ yb;refine wpAny_handleBy_cons (codeAny_handlers_test ?_) (by intro q;cases q);refine Bp (X:=X.hn e) (I5.hn e) hg hm ?_ fb;let⟨ob,A1,y9⟩:=sZ.WE;have LT:kd.W._C (mG X.g_ X.w) zo (í (.ei e)) ie:=y9 ▸ (kd.W._C.ld A1).π .now;refine(kd.W.exm_one (M:=mG X.g_ X.w) I5.ko LT V').at ?_;show YN _ _ _ _ _;refine codeAny_handlers_suite_as ?_;refine lands_againW sZ λvL xf AE=>?_
  have EB:s2.d_.Ó vL:=yb.iD AE;let⟨oe,ws,Cv,IT,IU,_⟩:=xf.first
  have B_:fH._S B X.zf e ie a0 vL:=hs.symm ▸ xf
  have I7:g8 X eS aN (l5 H2 e (oC e ie)) {s2 with d_:=vL}:=
   I0.pG (s':={s2 with d_:=vL}) (ch:=[]) pO ((gP.un un B_ EB).YI gP.rZ kQ) ((gP.aR aR B_).YI kQ (z08 ⟨oe,ws,Cv,IT,IU⟩)) NY C4
  refine Lx (X:=X.hn e) (I7.hn e) hN hi (.h8 hx) (v:=.ei e) rfl (λs8 I8=>?_) (.j' hx)
  refine YX (hh e eS s8 _ _ _ I8 (hE e kQ)) (λf s9 q=>?_) λ_ _ z=>z.ke
  show kX _ _ _ _ _ _
  have go:∀{qA:St}{H9:Hp},g8 (X.hn e) eS qA H9 s9->∀R:Ò->kx->Prop,(∀s',g8 X eS (L.oS X.N.J none) H9 s'->R () s')->kX (mG X.g_ X.w) X.A (do bindName X.el n .none;unbindBehindTheSuite X.el n vJ) R X.xe s9:=λ{qA H9} I9 R hR=>by
   let⟨zfD,Wa,_⟩:=I9.T4;refine wpAny_nameGoes (el:=X.el) hx Wa (by rw[I0.ok.sP];rfl) λh' m' yY Wh=>hR _ ?_
   exact(I9.Ma I0.ok).forget Wh yY
  cases f with
  |next=>let⟨qA,H9,I9,q⟩:=q;exact go I9 _ λs' I'=>⟨_,H9,I',q⟩
  |Zu=>let⟨qA,H9,I9,q⟩:=q;exact go I9 _ λs' I'=>⟨_,H9,I',q⟩
  |Zv=>let⟨qA,H9,I9,q⟩:=q;exact go I9 _ λs' I'=>⟨_,H9,I',q⟩
  |yr u=>let⟨v,qA,H9,I9,r,q⟩:=q;exact go I9 _ λs' I'=>⟨v,_,H9,I',r,q⟩
 .cases f with
  |next=>let⟨aN,H',I',q⟩:=q;exact ï ⟨aN,H',I'.pq,q⟩
  |Zu=>let⟨aN,H',I',q⟩:=q;exact⟨aN,H',I'.pq,q⟩
  |Zv=>let⟨aN,H',I',q⟩:=q;exact⟨aN,H',I'.pq,q⟩
  |yr u=>let⟨v,aN,H',I',r,q⟩:=q;exact⟨v,aN,H',I'.pq,r,q⟩
structure eL(k:dt)(A:tf):Prop where
 dp:A.oY+3*k+5<Š
 un:A.r7+16*k+200<r_
 gd:A.guards=O []
theorem bL.hm{k:dt}(r:bL k A)(v:fG e5):eL k (A.mark v):=⟨r.dp,r.un,r.gd⟩
theorem eL.XG{k:dt}(r:eL k A):bL k {A with Nr:=none}:=⟨rfl,r.dp,r.un,r.gd⟩
def eL.LO{k:dt}(r:eL (k+1) A)(el:tY):eL k (A.LO el):=by
 have z:=r.XG.LO el;exact⟨z.dp,z.un,z.gd⟩
structure sD(P:qM)(w:pT)(K:Fg)(mg:eh->fG e5)(g0:fH)(k:dt)(f:fh)(fd:Zp)(ps:L eh)(sp:Sp):Prop where
 oO:∀vs H Q E,sp vs H Q E->vs.J=ps.J
 g9:∀(A:tf)(l4:L tY)(s:kx)(H:Hp)(args:Args)(us:L e5)(vs:L V)(Q:VK),eL k A->jx P w K mg g0 A l4 s H->_r s fd args (ps.uu us)->oK vs us->sp vs H Q E0 ->
  YN (mG P w) A (.zN (.ei f) args) (CR Ht l4 P w H s Q E0) s
abbrev B3(P:qM)(w:pT)(K:Fg)(mg:eh->fG e5)(g0:fH)(N:L eh)(n0:eh)(fj:vP)(f:fh)(cd:e5)(A:tf)(l4:L tY)(s:kx)(H:Hp):Cx:=
 {eM Ht P w K mg g0 N n0 fj f cd A l4 s H E0 with wK:=false,xe:=λ_ _=>pV}
def vn.WV{P:qM}{mg:eh->fG e5}{g0:fH}{N ps:L eh}{k:dt}(F:vn K x n0 st f fd)(S:bV N ps (ax st))(oO:∀vs H Q E,sp vs H Q E->vs.J=ps.J)
  (iB:∀(bN:e5)(A:tf)(l4:L tY)(s:kx)(H:Hp)(vs:L V)(Q:VK),eL k (A.LO (Ot n0 (ax st) s.d_.e6.eG f bN))->sp vs H Q E0 ->
   ∃t,kP (B3 P w K mg g0 N n0 (ax st) f bN A l4 s H) (bB st) t/\t {nx:=λ_ H'=>Q .aH H',rt:=Q} (XD N vs) H):sD P w K mg g0 (k+1) f fd ps sp:=by
 let⟨oc,od,kV,Q1,pm,an,bN,ct,uZ,rfl,lk,dR⟩:=F.ex;refine⟨oO,λA l4 s H args us vs Q hr e0 hb r oH=>?_⟩
 have hl:=oO _ _ _ _ oH;have KX:K.In s.d_:=e0.yl.uX.AN λb o e=>(e0.bs b o e).1
 have lim:s.d_.Ϟ:=e0.yl.ϴ.AN λb o e=>(e0.bs b o e).1
 have tF:∀y∈ps.uu us,(ax st).lH.fI y.1=O .local\/((ax st).lH.fI y.1=O .mZ/\((Ϩ (s.d_.e6.eG+1) (ax st).lH []).fI y.1).sG=true):=fun⟨n,v⟩ hy=>by
  rcases S.Zi n (w3z hy).1 with q|q
  .exact .h8 q
  .exact .j' ⟨q,ĺ _ _ _ (.h8 q)⟩
 refine zb0 (by have:=hr.dp;omega) (KX _ _ lk) rfl S.co S.gen rfl (kd.W.codeRec_of KX dR) (hb _ _ _ _ ?_)
 refine zem S.sP tF λel he s1 x=>?_
 subst he;refine⟨lim.AN x.ů.pU,zb2 ?_⟩
 let⟨t,ht,hq⟩:=iB bN A l4 s H vs Q (hr.LO (Ot n0 (ax st) s.d_.e6.eG f bN)) oH;have B4:jx P w K mg g0 {A with Nr:=none} l4 s H:=⟨e0.Yu,e0.yl,e0.bs,e0.om,e0.e_,e0.pK,e0.aR,e0.wC,e0.YV⟩
 have I0:g8 (eM Ht P w K mg g0 N n0 (ax st) f bN {A with Nr:=none} l4 s H E0) [] (XD N vs) H s1:=Qa S rfl B4 hl r x;have nv:=I0.ok
 have I:g8 (B3 P w K mg g0 N n0 (ax st) f bN A l4 s H) [] (XD N vs) H s1:=
  ⟨⟨nv.yl,nv.sP,nv.YT,nv._E,nv.YM,nv.sE,nv.Yk,nv.wZ,(λz=>nomatch z),tf.ň e0.Yu,nv.BB,nv.xc,nv.bs,nv.om,nv.oW,nv.mT,nv.e_,nv.pK,nv.YV⟩,
   I0.os,I0.wC,I0.g0,I0.T4,I0.mZ,I0.nL,I0.dq,I0.OB,I0.aR,I0.oO⟩
 refine YX (ht [] s1 (XD N vs) H _ I hq) (λfl s' hs=>?_) λe s' hs=>hs.ke
 have vR:∀{aN:St}{H':Hp}{v:V}{u:e5},g8 (B3 P w K mg g0 N n0 (ax st) f bN A l4 s H) [] aN H' s'->ot v u->Q v H'->CE l4 P w H s Q u s':=
  λ{aN H' v u} dr rv q=>⟨v,H',dr.os,dr.wC,dr.g0,dr.aR,rv,q⟩
 cases fl with
 |yr u=>
  let⟨v,aN,H',dr,rv,q⟩:=hs;exact vR dr rv q
 |next=>
  let⟨aN,H',dr,q⟩:=hs;exact vR (v:=V.aH) (u:=e5.none) dr rfl q
 |Zu=>
  let⟨_,_,_,q⟩:=hs;exact pV.ke q
 |Zv=>
  let⟨_,_,_,q⟩:=hs;exact pV.ke q
section
variable{k:dt}{ps:L eh}{t:TA}
def y57(F:sD X.g_ X.w X.K X.mg X.g0 k f fd ps sp)(hr:eL k X.A)(hg:Gl X x)(hm:X.mg x=O (.ei f))(hk:ZY X.K (.ei f)=true)(hb:ZR X.K fd ps [])
  (ha:PA X (e::es) t)(fb:fi ((x==("__debug__":eh))=false) jK)(he:fi (lq (e::es) X.el=(false,eval e X.el)::lq es X.el) jJ)(df:fi ((r8 fZ (lq es X.el)).pX (·.1)=false) jJ):
  PE X (.pY (.je x p) (e::es) [] fZ) (x9 sp [] E0 t):=by
 intro eS s σ H Q I h;refine _P (Bp I hg hm ?_ fb);refine ĸ (h₀:=X.g0) I.ok.yl.uX hk (bw (ha fZ eS s σ H _ I h) λus s1 ⟨vs,H1,I1,r,q⟩=>⟨I1.ko,?_⟩) he df
 have q':sp (vs++[]) H1 Q E0:=q;have r2:oK (vs++[]) (us++[]):=r.N' .m8;have hl:(us++[]).J=ps.J:=by rw[<- r2.J];exact F.oO _ _ _ _ q'
 refine Á (ς (F.g9 X.A X.zf s1 H1 ⟨us,[]⟩ (us++[]) (vs++[]) Q hr I1.vz (hb s1 us I1.ko hl) r2 q') λr s' hq=>?_)
 cases r with
 |τ e=>exact pV.ke hq
 |ok fl=>
  cases fl with
  |yr u=>exact I1.Ϣ hq
  |next=>exact pV.ke hq
  |Zu=>exact pV.ke hq
  |Zv=>exact pV.ke hq
end
abbrev Cx.cp(X:Cx)(Nc:L eh)(fj:vP)(cl:L (eh×fh))(C:fh)(aB:kx)(aI:Hp)(ex:L fh):Cx:=
 {X with N:=Nc,aB:=aB,aI:=aI,el:=Ā fj cl C X.el,l4:=X.zf,ex:=ex,fn:=λy=>fj.lH.fI y==O .mZ,pn:=[],xe:=λ_ _=>pV}
theorem Kq:∀(lH:L (eh×AW))(m7:L (eh×fh)),(∀x∈lH,x.2=.nL->∃c,el.tO.fI x.1=O c) ->
  ∃cl,(Ϯ lH m7 fun(x:eh×AW) (r:L (eh×fh))=>(if(x.2==AW.nL)=true then(Ĺ el x.1 >>= λa=>pR (ι.Æ ((x.1,a)::r)))else pR (ι.Æ r):Zr (ι (L (eh×fh)))))=pR cl /\
   (∀x c,cl.fI x=O c->m7.fI x=O c\/el.tO.fI x=O c)/\(∀x,((x,AW.nL)∈lH\/(m7.fI x).sG=true)->(cl.fI x).sG=true)
 |[],m7,_=>⟨m7,rfl,λx c h=>.h8 h,λx h=>h.ke (λz=>nomatch z) id⟩
 |(n,k)::r,m7,h=>by
  by_cases hk:k=.nL
  .subst hk;let⟨c,hc⟩:=h (n,.nL) w0l rfl;let⟨cl,e1,e2,e3⟩:=Kq r ((n,c)::m7) λx hx=>h x (w0f _ hx)
   refine⟨cl,?_,λx d hd=>?_,λx hx=>?_⟩
   .rw[w2n];have:Ĺ el n=pR c:=by unfold Ĺ;rw[hc]
    grind
   all_goals grind
  .let⟨cl,e1,e2,e3⟩:=Kq r m7 λx hx=>h x (w0f _ hx)
   grind
def FZ(h:∀x∈fj.lH,x.2=.nL->∃c,el.tO.fI x.1=O c):
  ∃cl,þ fj el=pR cl/\(∀x c,cl.fI x=O c->el.tO.fI x=O c)/\∀x,(x,AW.nL)∈fj.lH->∃c,cl.fI x=O c:=by
 let⟨cl,e1,e2,e3⟩:=Kq fj.lH [] h
 grind [fG.isSome_iff_exists,þ]
theorem Kr{el : tY} : ∀ {lH : L (eh × AW)} {x : eh}, (∀ y ∈ lH, y.2 = .mZ -> y.1 ≠ x) ->
    ((lH.ej λ(n, k) => if (k == AW.nL && el.fj.sP == .Zc && el.vW n == O .mZ) then (n, AW.mZ) else (n, k)).fI x = O .mZ \/
     (lH.ej λ(n, k) => if (k == AW.nL && el.fj.sP == .Zc && el.vW n == O .mZ) then (n, AW.mZ) else (n, k)).fI x = O .nL) -> (x, AW.nL) ∈ lH
  | [], x, _, h => by grind
  | (n, k) :: r, x, hc, h => by
    have ih := @Kr el r x λy hy => hc y (w0f _ hy)
    grind
def Qe{g_:qM}{R:į->kx->Prop}{zG rW:l_}{fj:vP}{it m7:e5}{el:tY}(I:dt->kx->Prop)
  (Yf:∀n s,I n s->kX (mG g_ w) A (ZN it) (λr s1=>match r with
   |none=>R (.ok .next) s1
   |O v=>kX (mG g_ w) A (ä zG it v) (λ_ s2=>kX (mG g_ w) A (ZD zG el v) (λ_ s3=>
     kX (mG g_ w) A (Ϯ vr true λc r=>if r=true then do let ok <- ϱ c el (eval c el);pR (ι.Æ ok)else pR (ι.Æ r)) (λok s4=>
      if ok=true then kX (mG g_ w) A (eval vX el) (λx s5=>kX (mG g_ w) A (zN (.rn "list.append") [m7,x]) (λ_ s6=>∃m,m<n/\I m s6) (λ_ _=>pV) s5) (λ_ _=>pV) s4
      else ∃m,m<n/\I m s4) (λ_ _=>pV) s3) (λ_ _=>pV) s2) (λ_ _=>pV) s1) (λ_ _=>pV) s)
  (n:dt)(h:I n s):YN (mG g_ w) A (.Ļ (.Yj vX [⟨zG,rW,vr,0⟩] fj fZ) 0 it m7 el) R s:=by
 refine codeAny_loop rfl I (λn s hI=>?_) n h
 show kX _ A ((compTurn (.Yj vX [⟨zG,rW,vr,0⟩] fj fZ) 0 it m7 el).onRaise (λx=>do noteFrame x el;theTreesLotGoes x)) _ _ s
 refine wpAny_noted ?_;rw[compTurn_list];refine i6 (ò (i6 (YX (Yf n s hI) (λr s1 h1=>?_) λ_ _ z=>z.ke)))
 cases r with
 |none=>exact oo h1
 |O v=>
  refine i6 (YX h1 (λ_ s2 h2=>?_) λ_ _ z=>z.ke)
  refine i6 (YX h2 (λ_ s3 h3=>?_) λ_ _ z=>z.ke)
  refine i6 (YX h3 (λok s4 h4=>?_) λ_ _ z=>z.ke)
  cases ok with
  |false=>exact oo ⟨rfl,h4⟩
  |true=>exact i6 (i6 (YX h4 (λx s5 h5=>i6 (YX h5 (λ_ s6 h6=>oo (oo ⟨rfl,h6⟩)) λ_ _ z=>z.ke)) λ_ _ z=>z.ke))
def pj(js:L dt)(σ:St):St:=js.ej λj=>(σ[j]?).mF none
def z7e{i:dt}(h:(pj js σ)[i]?=O (O v)):∃j,js[i]?=O j/\σ[j]?=O (O v):=by
 grind [pj]
def uM(X:Cx)(vr:L l_)(t:TT):Prop:=
 ∀(eS:L (fh×nU))(s:kx)(σ:St)(H:Hp)(Q:fJ->Hp->Prop),g8 X eS σ H s->t σ H Q ->
  kX (mG X.g_ X.w) X.A (Ϯ vr true λc r=>if r=true then do let ok <- ϱ c X.el (eval c X.el);pR (ι.Æ ok)else pR (ι.Æ r)) (TP X eS σ Q) X.xe s
def L9:TT:=λ_ H Q=>Q true H
theorem z09:uM X [] L9:=λeS s σ H Q I h=>wpAny_tests_nil ⟨H,I,h⟩
theorem z1a(h:PT X c t):uM X [c] t:=λeS s σ H Q I hq=>wpAny_tests_one (h eS s σ H Q I hq)
def Kp(σ aN:St):Prop:=∀(i:dt) v,σ[i]?=O (O v)->aN[i]?=O (O v)
theorem Kp.WS{v:V}:Kp (L.oS 1 none++σ) (O v::σ):=λi u h=>by
 cases i with
 |zc=>cases h
 |zD i=>exact h
theorem Kp.two{v u:V}:Kp (L.oS 2 none++σ) (O v::O u::σ):=λi w h=>by
 match i,h with
 |0,h=>cases h
 |1,h=>cases h
 |i+2,h=>exact h
def iL(wi:TI)(nl:dt)(js:L dt)(g:TG)(tc:TT)(te:TE):TE:=λσ H Q=>wi σ H λdr H1=>∀D,H1 D=none->∃W:dt->dt->Hp->Prop,(∃m,W 0 m (l5 H1 D (.fy [])))/\∀i m H2,W i m H2 ->
 (dr.stop i H2/\Q (.ei D) H2)\/(dr.go i H2/\∀x H3,dr.lr i H2 x H3->g x (L.oS nl none++pj js σ) H3 λuK H4=>Kp (L.oS nl none++pj js σ) uK/\tc uK H4 λb H5=>
  if b=true then te uK H5 λy H6=>∃ys,H6 D=O (.fy ys)/\ys.J<pg/\∃m',m'<m/\W (i+1) m' (l5 H6 D (.fy (ys++[y])))else ∃m',m'<m/\W (i+1) m' H5)
section
variable{zG rW:l_}{fj:vP}{g:TG}
def Qf{x0:eh}
  (I:g8 X eS σ H s)(uU:∀b∈fp,fO X eS H b)(A1:∀b∈fp,∃o,s.d_.f6 b=O o/\∀v,o.lg≠.mZ v)
  (hk:fj.sP=.Zc)(Il:∀x,((_z fj X.el).lH.fI x=O .mZ\/(_z fj X.el).lH.fI x=O .nL)->∃c,cl.fI x=O c)(jC:∀x c,cl.fI x=O c->X.el.tO.fI x=O c\/(x=x0/\c=s.d_.e6.eG+2/\∃v,h1.ZS c v))(qT:∀y∈Nf,∃c,cl.fI y=O c/\X.el.tO.fI y=O c)
  (Io:∀x c,fj.lH.fI x=O .mZ->cl.fI x=O c->s.d_.e6.eG+1<=c)
  (hj:∀(i j:dt) y,Nf[i]?=O y->js[i]?=O j->X.N[j]?=O y)(vd:js.J=Nf.J)
  (qS:∀y∈Nf,(y,AW.nL)∈fj.lH/\jy X.el.fj y/\X.el.vW y≠O .local)
  (gC:∀y∈Nf,(_z fj X.el).lH.fI y=O .mZ\/(_z fj X.el).lH.fI y=O .nL)
  (hn:h1.Ns (s.d_.e6.eG+1) mC)(Mb:∀b u,(s.d_.nV {ie:=.hJ "list", qZ:=none,lg:=.mx ([]:L e5).ky}).f6 b=O u->h1.f6 b=O u):
  g8 (X.cp (Nl++Nf) fj cl (s.d_.e6.eG+1) {s with d_:=s.d_.nV {ie:=.hJ "list", qZ:=none,lg:=.mx ([]:L e5).ky}} (l5 H s.d_.e6.eG (.fy [])) fp) [] (L.oS Nl.J none++pj js σ) (l5 H s.d_.e6.eG (.fy [])) {s with d_:=h1,nW:=tk}:=by
 have fD:H s.d_.e6.eG=none:=I.aR.u3 (w0d _);have Zj:∀b u,s.d_.f6 b=O u->(s.d_.nV {ie:=.hJ "list", qZ:=none,lg:=.mx ([]:L e5).ky}).f6 b=O u:=λb u q=>fH.q_ _ q
 have xZ:(s.d_.nV {ie:=.hJ "list", qZ:=none,lg:=.mx ([]:L e5).ky}).e6.eG=s.d_.e6.eG+1:=fH.YU ..;have up:∀b u,s.d_.f6 b=O u->h1.f6 b=O u:=λb u q=>Mb b u (Zj b u q)
 have zfi:∀b o,s.d_.f6 b=O o->b≠s.d_.e6.eG:=λb o q=>w0y (fH.sf q)
 have AV:∀b o,s.d_.f6 b=O o->H b=none->l5 H s.d_.e6.eG (.fy []) b=none:=λb o q n=>by grind [bg]
 have IX:dD X.g_ X.w (l5 H s.d_.e6.eG (.fy [])) (s.d_.nV {ie:=.hJ "list", qZ:=none,lg:=.mx ([]:L e5).ky}):=
  I.aR.wg Zj (w0d _) ⟨w1k _,[],_,.m8,fH.vM _ rfl⟩
 have sQ:∀c v,s.d_.ZS c v->h1.ZS c v:=λc v ⟨o,q,r⟩=>⟨o,up _ _ q,r⟩
 have NC:∀x c,X.el.tO.fI x=O c->c<s.d_.e6.eG:=λx c e=>by
  let⟨v,o,q,_⟩:=I.mZ x c e;exact fH.sf q
 have IG:∀x y c,cl.fI x=O c->cl.fI y=O c->x=y:=λx y c e1 e2=>by
  rcases jC x c e1 with z1|⟨a1,b1,_⟩<;>rcases jC y c e2 with z2|⟨a2,b2,_⟩
  .exact I.ok.sE x y c z1 z2
  .exact nS (b2 ▸ NC x c z1) (w3q.rj (w5k _ 2))
  .exact nS (b1 ▸ NC y c z2) (w3q.rj (w5k _ 2))
  .rw[a1,a2]
 refine⟨⟨I.ok.yl,hk,I.ok.YT,I.ok._E,(by show(s.d_.nV _).e6.eG<=_;rw[xZ];exact w0d _),IG,λx hx=>Il x hx,(λx c z q=>by show(s.d_.nV _).e6.eG<=_;rw[xZ];exact Io x c (by simpa using z) q),I.ok.hd,I.ok.Yu,.h8 rfl,λb hb=>⟨?_,λx c e=>?_⟩,λb o q=>?_,?_,λb o q hb=>?_,λb hb Im=>?_,?_,λb hb=>?_,(I.ok.YV.un I.g0).wg fD⟩,
  rfl,I.wC,Un.NK Mb,⟨mC,hn,λi y v e1 e2 e3=>?_⟩,λx c e=>?_,?_,λx c e=>?_,λp hp=>(by cases hp),IX.NK Mb,?_⟩
 .let⟨o,q,_⟩:=A1 b hb;exact w0y (w1v (fH.sf q))
 .rcases jC x c e with z|⟨_,rfl,_⟩
  .exact(uU b hb).2.2.2.2.1 x c z
  .let⟨o,q,_⟩:=A1 b hb;exact(w0y (w1v (w1v (fH.sf q)))).symm
 .let⟨q1,q2⟩:=I.bs b o q
  grind
 .show X.g0.e6.eG<=(s.d_.nV _).e6.eG;rw[xZ];exact dt.le_succ_of_le (w1d I.ok.om I.sz)
 .rcases(uU b hb).2.2.2.1 with z|z
  .exact I.ok.oW b o q z
  .let⟨q1,_⟩:=I.ok.bs b o q;exact nS (fH.sf q1) (w3q.rj z)
 .rcases w0h.mp (I.mq b Im)with z|z
  .exact(uU b hb).2.1 z
  .exact(uU b hb).2.2.1 z
 .exact I.zf.of_keeps λb o q _=>⟨o,Zj _ _ q,rfl⟩
 .let⟨_,o,q,_⟩:=I.zf.YD hb;exact AV b o q (I.mn b hb)
 ·-- Ew lH
  have B5:(L.oS Nl.J none++pj js σ)[i]?=O (O v):=e2;have vy:(Nl++Nf)[i]?=O y:=e1
  by_cases hi:i<Nl.J
  .grind
  .have qU:Nl.J<=i:=w3q.mp hi;rw[w0z (by simpa using qU)]at B5;rw[w0z qU]at vy;rw[w4i]at B5;let⟨j,zcc,Vw⟩:=z7e B5;have VM:=hj _ _ _ vy zcc;let⟨kQ,hv,Wd⟩:=qS y (w1m vy);let⟨m,hm,hl⟩:=I.T4;let⟨u,r,l⟩:=hl j y v VM Vw hv;refine⟨u,r,?_⟩;rcases l with⟨k,_⟩|⟨k,c,ec,z⟩
   .exact nS k Wd
   .let⟨c',B7,this⟩:=qT y (w1m vy);rw[ec]at this;cases this;exact .j' ⟨gC y (w1m vy),c,B7,sQ _ _ z⟩
 .rcases jC x c e with z|⟨_,_,z⟩
  .let⟨v,z⟩:=I.mZ x c z;exact⟨v,sQ _ _ z⟩
  .exact z
 .show l5 H s.d_.e6.eG (.fy []) (s.d_.e6.eG+1)=none;rw[bg (w5l _)];exact I.aR.u3 (w5h _)
 .rcases jC x c e with z|⟨_,rfl,_⟩
  .let⟨v,o,q,_⟩:=I.mZ x c z;exact AV c o q (I.dq x c z)
  .show l5 H s.d_.e6.eG (.fy []) (s.d_.e6.eG+2)=none;rw[bg (w3k (dt.lt_add_of_pos_right (by decide)))];exact I.aR.u3 (w5k _ 2)
 .grind [pj]
def QM
  (I:g8 X eS σ H s)(uU:∀b∈fp,fO X eS H b)(A1:∀b∈fp,∃o,s.d_.f6 b=O o/\∀v,o.lg≠.mZ v)
  (hk:fj.sP=.Zc)(d3:∀y∈fj.lH,y.2≠.mZ)(jC:∀x c,cl.fI x=O c->X.el.tO.fI x=O c)(qT:∀x,(x,AW.nL)∈fj.lH->∃c,cl.fI x=O c)
  (hj:∀(i j:dt) y,Nf[i]?=O y->js[i]?=O j->X.N[j]?=O y)(vd:js.J=Nf.J)
  (qS:∀y∈Nf,(y,AW.nL)∈fj.lH/\jy X.el.fj y/\X.el.vW y≠O .local)
  (gC:∀y∈Nf,(_z fj X.el).lH.fI y=O .mZ\/(_z fj X.el).lH.fI y=O .nL)
  (hn:h1.Ns (s.d_.e6.eG+1) mC)(hs:fH.Zq (s.d_.e6.eG+1) ((s.d_.nV {ie:=.hJ "list", qZ:=none,lg:=.mx ([]:L e5).ky}).nV {ie:=.hJ "dict", lg:=.qZ #[]}) h1):
  g8 (X.cp (Nl++Nf) fj cl (s.d_.e6.eG+1) {s with d_:=s.d_.nV {ie:=.hJ "list", qZ:=none,lg:=.mx ([]:L e5).ky}} (l5 H s.d_.e6.eG (.fy [])) fp) [] (L.oS Nl.J none++pj js σ) (l5 H s.d_.e6.eG (.fy [])) {s with d_:=h1,nW:=tk}:=by
 refine Qf (x0:="") I uU A1 hk (λx hx=>qT x (Kr (λy hy z=>nS z (d3 y hy)) hx)) (λx c e=>.h8 (jC x c e)) (λy hy=>?_) (λx c e=>nS rfl (d3 _ (kd.ZJ e))) hj vd qS gC hn λb u q=>?_
 .let⟨c,e⟩:=qT y (qS y hy).1;exact⟨c,e,jC y c e⟩
 .have cb:=fH.sf q;rw[fH.YU]at cb;exact(hs.2 b (w0y cb)).iD (fH.q_ _ q)
def SG{aN:St}
  (I:g8 X eS σ H s)(uU:∀b∈fp,fO X eS H b)
  (dr:g8 (X.cp Nc fj cl (s.d_.e6.eG+1) {s with d_:=s.d_.nV {ie:=.hJ "list", qZ:=none,lg:=.mx ([]:L e5).ky}} (l5 H s.d_.e6.eG (.fy [])) fp) [] aN H' s')
  (hs:fH.Zq (s.d_.e6.eG+1) s'.d_ h'):g8 X eS σ H' {s' with d_:=h'}:=by
 have fD:H s.d_.e6.eG=none:=I.aR.u3 (w0d _);have Zj:∀b u,s.d_.f6 b=O u->(s.d_.nV {ie:=.hJ "list", qZ:=none,lg:=.mx ([]:L e5).ky}).f6 b=O u:=λb u q=>fH.q_ _ q
 have xx:∀b o,s.d_.f6 b=O o->b≠s.d_.e6.eG+1:=λb o q=>w0y (w1v (fH.sf q))
 have AV:∀b o,s.d_.f6 b=O o->H b=none->l5 H s.d_.e6.eG (.fy []) b=none:=λb o q n=>by rw[bg (w0y (fH.sf q))];exact n
 have tB:∀b u,H b=O u->l5 H s.d_.e6.eG (.fy []) b=O u:=λb u q=>by rw[bg (gQ q fD)];exact q
 have B:Un (fV X.zf) fp (l5 H s.d_.e6.eG (.fy [])) H' (s.d_.nV {ie:=.hJ "list", qZ:=none,lg:=.mx ([]:L e5).ky}) s'.d_:=dr.g0;have hC:H' (s.d_.e6.eG+1)=none:=dr.nL;refine I.pG (s':={s' with d_:=h'}) (ch:=fp) (dr.os.iD rfl) ⟨λb o q n hb hx=>?_,λb o q n hb hx=>?_,λb o q n hx=>B.nL b o (Zj _ _ q) (AV b o q n) hx,λb o q hx=>?_,λb xs q=>B.gj b xs (tB _ _ q),λb o u q=>B.bt b o u (tB _ _ q),λb ps q=>B.eU b ps (tB _ _ q)⟩ (λa o q=>?_) dr.wC λb hb=>?_
 .exact(hs.2 b (xx b o q)).iD (B.pU b o (Zj _ _ q) (AV b o q n) hb hx)
 .let⟨sl,z⟩:=B.r5 b o (Zj _ _ q) (AV b o q n) hb hx;exact⟨sl,(hs.2 b (xx b o q)).iD z⟩
 .let⟨o',z⟩:=B.WE b o (Zj _ _ q) hx;exact⟨o',(hs.2 b (xx b o q)).iD z⟩
 .refine(dr.aR a o q).fK (λc v hc z=>(hs.2 c ?_).iD z) (λ_ z=>z) λ_ _ _ z=>z
  grind
 .let⟨_,f1,f2,f3,f4,f5⟩:=uU b hb
  grind
structure lS(x:eh)(sc:vP):Prop where
 Zi:sc.lH.fI x=O .mZ
 WS:∀n cl,Ϩ n sc.lH cl=(x,n)::cl
 zL:∀h:fH,pushCells h sc.lH=h.nV {ie:=.hJ "cell", lg:=.mZ none}
 only:∀y∈sc.lH,y.2=.mZ->y.1=x
 WQ:(x,AW.nL)∉sc.lH
def zdN{E:e5->kx->Prop}{M:Model}{_c:e5}{Q:tY->kx->Prop}{x0:eh}{el:tY}{υ Η:fh}{Ú:L (eh×fh)}{Yv:fG fh}(S:lS x0 fj)
  (hQ:∀h',h'.Ns s.d_.e6.eG (λ_=>none)->h'.ZS (s.d_.e6.eG+1) none->(∀b o,s.d_.f6 b=O o->h'.f6 b=O o) ->
   Q (newEnv fj s.d_.e6.eG υ ((x0,s.d_.e6.eG+1)::Ú) n0 Yv _c (O el) Η) {s with d_:=h'}):
  kX M A (Đ fj υ Ú [] n0 Yv _c (O el) Η) Q E s:=by
 simp only[Đ,fG.isSome_some,ZI];refine i6 (wpAny_alloc ?_);refine i6 (zej _ (λname sP tO=>by grind) _ _ _ _ ?_)
 rw[show({s with d_:=s.d_.nV {ie:=.hJ "dict", lg:=.qZ #[]}}:kx).d_.e6.eG=s.d_.e6.eG+1 from fH.YU ..,S.WS,S.zL]
 have ic:((s.d_.nV {ie:=.hJ "dict", lg:=.qZ #[]}).nV {ie:=.hJ "cell", lg:=.mZ none}).ZS (s.d_.e6.eG+1) none:=by
  have e:=fH.vM (s.d_.nV {ie:=.hJ "dict", lg:=.qZ #[]}) (o:={ie:=.hJ "cell", lg:=.mZ none}) rfl;rw[fH.YU]at e;exact⟨_,e,rfl⟩
 have kp:∀b o,(s.d_.nV {ie:=.hJ "dict", lg:=.qZ #[]}).f6 b=O o->((s.d_.nV {ie:=.hJ "dict", lg:=.qZ #[]}).nV {ie:=.hJ "cell", lg:=.mZ none}).f6 b=O o:=λb o e=>fH.q_ _ e
 refine i6 ?_;rw[w3g];exact oo (oo (hQ _ ((fH.Ns.rZ s.d_ (.hJ "dict")).AN kp) ic λb o e=>kp b o (fH.q_ _ e)))
def z1b{Nl Nf : L eh}(hc : X.wK = true)(hi : PI X zG rW wi)
    (hk : fj.sP = .Zc)(d3 : (∀ y ∈ fj.lH, y.2 ≠ .mZ) \/ ∃ x0, lS x0 fj)(oG : ∀ x ∈ fj.lH, x.2 = .local -> fj.lH.fI x.1 = O .local)
    (du : ∀ x ∈ fj.lH, x.2 = .nL -> X.el.vW x.1 = O .mZ \/ X.el.vW x.1 = O .nL)
    (hj : ∀ (i j : dt) y, Nf[i]? = O y -> js[i]? = O j -> X.N[j]? = O y)(vd : js.J = Nf.J)
    (qS : ∀ y ∈ Nf, (y, AW.nL) ∈ fj.lH /\ jy X.el.fj y /\ X.el.vW y ≠ O .local)
    (gC : ∀ y ∈ Nf, (_z fj X.el).lH.fI y = O .mZ \/ (_z fj X.el).lH.fI y = O .nL)
    (hg : ∀ cl C aB aI ex, PG (X.cp (Nl ++ Nf) fj cl C aB aI ex) zG g)(ht : ∀ cl C aB aI ex, uM (X.cp (Nl ++ Nf) fj cl C aB aI ex) vr tc)(he : ∀ cl C aB aI ex, PE (X.cp (Nl ++ Nf) fj cl C aB aI ex) vX te)
    (hs : ∀ x, YS rW X.el x = pR x := by intro _; rfl) :
    PE X (.Yj vX [⟨zG, rW, vr, 0⟩] fj fZ) (iL wi Nl.J js g tc te) := by
  intro eS s σ H Q I h;let⟨cl, fA, jC, qT⟩:= FZ (fj := fj) (el := X.el) λx hx hf => I.ok.Yk x.1 (du x hx hf)
  rw [eval_ListComp];refine zed (use := none) rfl hs fA hk oG (bw (hi eS s σ H _ I h) λv s1 h1 => bw h1 λFf s2 h2 => ?_)
  let⟨it, fp, tn, dr, H2, e, I2, T, jc, f2, rd⟩:= h2;subst e;have xZ : (s2.d_.nV { ie := .hJ "list", qZ := none, lg := .mx ([] : L e5).ky }).e6.eG = s2.d_.e6.eG + 1 := fH.YU ..;have fD : H2 s2.d_.e6.eG = none := I2.aR.u3 (w0d _);let⟨W, ⟨m0, w0⟩, Yf⟩:= rd s2.d_.e6.eG fD;have rC := T.CZ 0 s2.d_ jc
  have oM : ∀ (cl : L (eh × fh)) (dU : fH) (tk : dt), g8 (X.cp (Nl ++ Nf) fj cl (s2.d_.e6.eG + 1) { s2 with d_ := s2.d_.nV { ie := .hJ "list", qZ := none, lg := .mx ([] : L e5).ky } } (l5 H2 s2.d_.e6.eG (.fy [])) fp) [] (L.oS Nl.J none ++ pj js σ) (l5 H2 s2.d_.e6.eG (.fy [])) { s2 with d_ := dU, nW := tk } ->
      (∀ b u, s2.d_.f6 b = O u -> dU.f6 b = O u) -> YN (mG X.g_ X.w) X.A (.compStart (.Yj vX [⟨zG, rW, vr, 0⟩] fj fZ) 0 (.ei it) (.ei s2.d_.e6.eG) (Ā fj cl (s2.d_.e6.eG + 1) X.el))
        (ļ (mG X.g_ X.w) X.A X.xe none (EP X eS σ Q) (.ei s2.d_.e6.eG) (s2.d_.e6.eG + 1)) { s2 with d_ := dU, nW := tk } := by
   intro cl dU tk IS Md;have Ed : tn 0 dU := T.pU 0 s2.d_ dU jc λb hb o q => Md b o q
   have JI : ∀ b ∈ fp, l5 H2 s2.d_.e6.eG (.fy []) b = none := λb hb => by
     let⟨o, q, _⟩:= rC b hb;rw [bg (w0y (fH.sf q))];exact (f2 b hb).1
   have kL : ∀ {H' : Hp}, (∀ b ∈ fp, H' b = none) -> ∀ b ∈ fp, fO (X.cp (Nl ++ Nf) fj cl (s2.d_.e6.eG + 1) { s2 with d_ := s2.d_.nV { ie := .hJ "list", qZ := none, lg := .mx ([] : L e5).ky } } (l5 H2 s2.d_.e6.eG (.fy [])) fp) [] H' b := λhn b hb => by
     refine ⟨hn b hb, (IS.ok.xc b hb).1, IS.ok.mT b hb, .h8 hb, (IS.ok.xc b hb).2, λp hp => (by cases hp)⟩
   have ϲ : ∀ s4 : kx, s4 = { s2 with d_ := dU, nW := tk } ->
       YN (mG X.g_ X.w) X.A (.Ļ (.Yj vX [⟨zG, rW, vr, 0⟩] fj fZ) 0 (.ei it) (.ei s2.d_.e6.eG) (Ā fj cl (s2.d_.e6.eG + 1) X.el))
         (ļ (mG X.g_ X.w) X.A X.xe none (EP X eS σ Q) (.ei s2.d_.e6.eG) (s2.d_.e6.eG + 1)) s4 := by
     rintro s4 rfl;refine Qe (λn s' => ∃ i H', g8 (X.cp (Nl ++ Nf) fj cl (s2.d_.e6.eG + 1) { s2 with d_ := s2.d_.nV { ie := .hJ "list", qZ := none, lg := .mx ([] : L e5).ky } } (l5 H2 s2.d_.e6.eG (.fy [])) fp) [] (L.oS Nl.J none ++ pj js σ) H' s' /\ tn i s'.d_ /\ (∀ b ∈ fp, H' b = none) /\ W i n H') ?_ m0 ⟨0, _, IS, Ed, JI, w0⟩
     rintro n s3 ⟨i, H3, I3, vf, xg, w3⟩;rcases Yf i n H3 w3 with ⟨stop, qn⟩ | ⟨go, YF⟩
     . refine bw (T.done (X.cp (Nl ++ Nf) fj cl (s2.d_.e6.eG + 1) { s2 with d_ := s2.d_.nV { ie := .hJ "list", qZ := none, lg := .mx ([] : L e5).ky } } (l5 H2 s2.d_.e6.eG (.fy [])) fp) rfl rfl rfl hc i [] s3 _ H3 _ I3 (kL xg) vf stop) λr s5 ⟨hr, I5⟩ => ?_
       subst hr;let⟨m5, IP, _⟩:= I5.T4;refine ⟨m5, IP, λh' tI => ⟨.ei s2.d_.e6.eG, H3, SG I2 f2 I5 tI, rfl, qn⟩⟩
     . refine bw (T.Zd (X.cp (Nl ++ Nf) fj cl (s2.d_.e6.eG + 1) { s2 with d_ := s2.d_.nV { ie := .hJ "list", qZ := none, lg := .mx ([] : L e5).ky } } (l5 H2 s2.d_.e6.eG (.fy [])) fp) rfl rfl rfl hc i [] s3 _ H3 _ I3 (kL xg) vf go) λr s5 ⟨u, hr, h5⟩ => ?_
       subst hr;refine bw h5 λ_ s6 ⟨x, H6, I6, r6, y6, Au, HU⟩ => ?_
       have Hv := I6.å (kL HU) (T.CZ _ _ Au);refine bw (hg _ _ _ _ _ _ s6 _ H6 x u _ Hv r6 (YF x H6 y6)) λ_ s7 ⟨mz, H7, I7, kp, q7⟩ => ?_
       refine bw (ht _ _ _ _ _ _ s7 mz H7 _ I7 q7) λok s8 ⟨H8, I8, q8⟩ => ?_
       have ZT : ∀ {qA : St} {H9 : Hp} {s9 : kx}, g8 (X.cp (Nl ++ Nf) fj cl (s2.d_.e6.eG + 1) { s2 with d_ := s2.d_.nV { ie := .hJ "list", qZ := none, lg := .mx ([] : L e5).ky } } (l5 H2 s2.d_.e6.eG (.fy [])) fp) ([] ++ i_ fp s6.d_) qA H9 s9 ->
           Kp (L.oS Nl.J none ++ pj js σ) qA -> (∃ m', m' < n /\ W (i + 1) m' H9) -> ∃ m, m < n /\ ∃ i H', g8 (X.cp (Nl ++ Nf) fj cl (s2.d_.e6.eG + 1) { s2 with d_ := s2.d_.nV { ie := .hJ "list", qZ := none, lg := .mx ([] : L e5).ky } } (l5 H2 s2.d_.e6.eG (.fy [])) fp) [] (L.oS Nl.J none ++ pj js σ) H' s9 /\ tn i s9.d_ /\ (∀ b ∈ fp, H' b = none) /\ W i m H' := λ{qA H9 s9} I9 hw ⟨m', hm, w9⟩ => by
         refine ⟨m', hm, i + 1, H9, I9.eV.weak (by rw [I9.oO, <- IS.oO]) hw, T.pU _ _ _ Au λb hb o q => (I9.OB (b, o) (w0e _ (w0e _ (zY hb q)))).1, λb hb => ?_, w9⟩
         let⟨o, q, d⟩:= T.CZ _ _ Au b hb;exact (I9.OB (b, o) (w0e _ (w0e _ (zY hb q)))).2.1
       cases ok with
       | false => exact ZT I8 kp (by simpa using q8)
       | true =>
         have K_ := by simpa only [ZI] using q8
         refine bw (he _ _ _ _ _ _ s8 mz H8 _ I8 K_) λy s9 ⟨yv, H9, I9, r9, ys, hD, hz, q9⟩ => ?_
         refine bw (Li _ s9 mz H9 (.ei s2.d_.e6.eG) [yv] (.ei s2.d_.e6.eG) [y] (λv H' => v = .aH /\ H' = l5 H9 s2.d_.e6.eG (.fy (ys ++ [yv]))) I9 rfl (.m6 r9 .m8) ⟨_, ys, yv, rfl, rfl, hD, hz, rfl, rfl⟩) λ_ Xo ⟨_, TY, Hu, _, _, HN⟩ => ?_
         subst HN;exact ZT Hu kp q9
   exact zb1 (ϲ _ rfl) (T.self X.A 0 _ _ _ Ed (ϲ _ rfl))
  refine Z0 ?_;rcases d3 with d3 | ⟨x0, S⟩
  . refine zel d3 (by intro y hy; simp at hy) (λdU d5 fe => ?_) hk
    dsimp only at d5 fe |-
    rw [xZ] at d5 fe |-
    exact oM cl dU _ (QM I2 f2 rC hk d3 jC qT hj vd qS gC d5 fe) λb u q => (fe.2 b (w0y (w1v (fH.sf q)))).iD (fH.q_ _ (fH.q_ _ q))
  . refine zdN S λdU d5 ic up => ?_
    dsimp only at d5 ic up |-
    rw [xZ] at d5 ic |-
    have lk : ∀ y, y ≠ x0 -> ((x0, s2.d_.e6.eG + 1 + 1) :: cl).fI y = cl.fI y := λy hy => by grind
    have l0 : ((x0, s2.d_.e6.eG + 1 + 1) :: cl).fI x0 = O (s2.d_.e6.eG + 1 + 1) := by simp [L.fI]
    refine oM _ dU _ (Qf (x0 := x0) I2 f2 rC hk (λy hy => ?_) (λy c e => ?_) (λy hy => ?_) (λy c e1 e2 => ?_) hj vd qS gC d5 up) λb u q => up b u (fH.q_ _ q)
    . by_cases z : y = x0
      . exact ⟨_, by rw [z]; exact l0⟩
      . let⟨c, q⟩:= qT y (Kr (λk hk hc => by rw [S.only k hk hc]; exact Ne.symm z) hy)
        exact ⟨c, (lk y z).iD q⟩
    . by_cases z : y = x0
      . subst z
        have : c = s2.d_.e6.eG + 1 + 1 := fG.O.sE (e.symm.iD l0);exact .j' ⟨rfl, this, _, this ▸ ic⟩
      . exact .h8 (jC y c ((lk y z).symm.iD e))
    . have z : y ≠ x0 := λe => S.WQ (e ▸ (qS y hy).1)
      let⟨c, q⟩:= qT y (qS y hy).1;exact ⟨c, (lk y z).iD q, jC y c q⟩
    . have z : y = x0 := S.only _ (kd.ZJ e1) rfl
      subst z;have : c = s2.d_.e6.eG + 1 + 1 := fG.O.sE (e2.symm.iD l0);exact this ▸ w5h _
end
theorem Ks{el:tY}:∀{lH:L (eh×AW)}{x:eh},lH.fI x=O .nL ->
  (lH.ej fun(n,k)=>if(k==AW.nL&&el.fj.sP==.Zc&&el.vW n==O .mZ)then(n,AW.mZ)else(n,k)).fI x=O .mZ \/
  (lH.ej fun(n,k)=>if(k==AW.nL&&el.fj.sP==.Zc&&el.vW n==O .mZ)then(n,AW.mZ)else(n,k)).fI x=O .nL
 |[],x,h=>by cases h
 |(n,k)::r,x,h=>by
  have ih:=@Ks el r x
  grind
def dE(sc fj:vP)(N Nf:L eh)(js:L dt):fJ:=
 fj.sP==.Zc&&fj.lH.oP (λy=>y.2 != .mZ)&&fj.lH.oP (λy=>y.2 != .local||fj.lH.fI y.1==O .local) &&
 fj.lH.oP (λy=>y.2 != .nL||sc.lH.fI y.1==O .mZ||sc.lH.fI y.1==O .nL)&&js.J==Nf.J &&
 (L.so js.J).oP (λi=>match js[i]?,Nf[i]? with|O j,O y=>N[j]?==O y|_,_=>true) &&
 Nf.oP (λy=>fj.lH.fI y==O .nL&&(sc.lH.fI y==O .mZ||sc.lH.fI y==O .nL))
def lX(sc fj:vP)(N Nf:L eh)(js:L dt):fJ:=
 fj.sP==.Zc&&fj.lH.oP (λy=>y.2 != .local||fj.lH.fI y.1==O .local) &&
 fj.lH.oP (λy=>y.2 != .nL||sc.lH.fI y.1==O .mZ||sc.lH.fI y.1==O .nL)&&js.J==Nf.J &&
 (L.so js.J).oP (λi=>match js[i]?,Nf[i]? with|O j,O y=>N[j]?==O y|_,_=>true) &&
 Nf.oP (λy=>fj.lH.fI y==O .nL&&(sc.lH.fI y==O .mZ||sc.lH.fI y==O .nL))
def y1v{zG rW:l_}{fj sc:vP}{g:TG}{Nl Nf N:L eh}(hc:X.wK=true)(hi:PI X zG rW wi)
  (d3:(∀y∈fj.lH,y.2≠.mZ)\/∃x0,lS x0 fj)(ok:lX sc fj N Nf js=true)
  (hg:∀cl C aB aI ex,PG (X.cp (Nl++Nf) fj cl C aB aI ex) zG g)(ht:∀cl C aB aI ex,uM (X.cp (Nl++Nf) fj cl C aB aI ex) vr tc)(he:∀cl C aB aI ex,PE (X.cp (Nl++Nf) fj cl C aB aI ex) vX te)
  (hsc:fi (X.el.fj=sc) jJ)(hN:fi (X.N=N) jJ)(hs:∀x,YS rW X.el x=pR x:=by intro _;rfl):
  PE X (.Yj vX [⟨zG,rW,vr,0⟩] fj fZ) (iL wi Nl.J js g tc te):=by
 unfold lX at ok;simp only[w0q,w1l,ZE,ϥ,w3b,w2e]at ok;obtain⟨⟨⟨⟨⟨k1,k3⟩,k4⟩,k5⟩,k6⟩,k7⟩:=ok;have sP:∀x,X.el.vW x=sc.lH.fI x:=λx=>by rw[<- hsc];rfl
 refine z1b hc hi k1 d3 (λx hx hl=>(k3 x hx).Ψ λz=>z hl) (λx hx hf=>?_) (λi j y e1 e2=>?_) k5 (λy hy=>?_) (λy hy=>?_) hg ht he hs
 .grind
 .grind
 .let⟨z1,z2⟩:=k7 y hy;refine⟨kd.ZJ z1,?_,?_⟩
  .rw[hsc];rcases z2 with z|z
   .exact .j' (.h8 z)
   .exact .j' (.j' z)
  grind
 .exact Ks (k7 y hy).1
def Gj{zG rW:l_}{fj sc:vP}{g:TG}{Nl Nf N:L eh}(hc:X.wK=true)(hi:PI X zG rW wi)
  (ok:dE sc fj N Nf js=true)
  (hg:∀cl C aB aI ex,PG (X.cp (Nl++Nf) fj cl C aB aI ex) zG g)(ht:∀cl C aB aI ex,uM (X.cp (Nl++Nf) fj cl C aB aI ex) vr tc)(he:∀cl C aB aI ex,PE (X.cp (Nl++Nf) fj cl C aB aI ex) vX te)
  (hsc:fi (X.el.fj=sc) jJ)(hN:fi (X.N=N) jJ)(hs:∀x,YS rW X.el x=pR x:=by intro _;rfl):
  PE X (.Yj vX [⟨zG,rW,vr,0⟩] fj fZ) (iL wi Nl.J js g tc te):=by
 unfold dE at ok;simp only[w0q]at ok;obtain⟨⟨⟨⟨⟨⟨k1,k2⟩,k3⟩,k4⟩,k5⟩,k6⟩,k7⟩:=ok;exact y1v hc hi (.h8 (by simpa using k2)) (by unfold lX;simp only[w0q];exact⟨⟨⟨⟨⟨k1,k3⟩,k4⟩,k5⟩,k6⟩,k7⟩) hg ht he hsc hN hs
abbrev TF:=eh->St->Hp->(eh->Hp->Prop)->Prop
def PF(X:Cx)(es:L l_)(t:TF):Prop:=∀(m7:eh)(eS:L (fh×nU))(s:kx)(σ:St)(H:Hp)(Q:eh->Hp->Prop),g8 X eS σ H s->t m7 σ H Q ->
 Joins (mG X.g_ X.w) X.A X.xe (evalEach es X.el) m7 (λoN s'=>oN.J<=pg/\∃H',g8 X eS σ H' s'/\Q oN H') s
def BH:V->eh->Prop
 |.d0 i,y=>i._y.log2<1920/\y=eh.Yy (toString i)
 |.str z,y=>z.J<=pg/\y=z
 |_,_=>pV
theorem z7f:PF X [] (λm7 _ H Q=>m7.J<=pg/\Q m7 H):=λm7 eS s σ H Q I h=>⟨h.1,H,I,h.2⟩
def z7g{j fZ}(r:PF X es t):PF X (.Zo (.str x) j fZ::es) (λm7 σ H Q=>(m7++x).J<=pg/\t (m7++x) σ H Q):=by
 intro m7 eS s σ H Q I h;show kX _ _ (eval (.Zo (.str x) j fZ) X.el) _ _ s;exact Yq.ź ⟨x,_,rfl,h.1,r _ eS _ σ H Q (I.wY _) h.2⟩
def z7h(he:PE X e te)(r:PF X es t):PF X (.Ϝ e (-1) none fZ::es) (λm7 σ H Q=>te σ H λv H1=>∃y,BH v y/\(m7++y).J<=pg/\t (m7++y) σ H1 Q):=by
 intro m7 eS s σ H Q I h;show kX _ _ (eval (.Ϝ e (-1) none fZ) X.el) _ _ s;refine wpAny_FormattedValue_plain (bw (he eS s σ H _ I h) λu s1 ⟨v,H1,I1,rv,y,hf,hz,q⟩=>?_)
 cases v with
 |d0 i=>
  let⟨tk,e1⟩:=rv;subst e1;let⟨hd,e2⟩:=hf;subst e2;exact wpAny_formatField_int hd ⟨_,_,rfl,hz,r _ eS _ σ H1 Q (I1.wY _) q⟩
 |str z=>
  let⟨tk,e1⟩:=rv;subst e1;let⟨hd,e2⟩:=hf;subst e2;exact zef ⟨_,_,rfl,hz,r _ eS _ σ H1 Q I1 q⟩ ⟨_,_,rfl,hz,r _ eS _ σ H1 Q (I1.wY _) q⟩ hd
 |_=>exact hf.ke
def z1c{oM:L l_}(h:PF X (v1::v2::oM) t):PE X (.ž (v1::v2::oM) fZ) (λσ H Q=>t eh.ZG σ H λoN H'=>Q (.str oN) H'):=by
 intro eS s σ H Q I hq;refine wpAny_JoinedStr ?_;have NV:=h eh.ZG eS s σ H _ I hq
 have ll:∀(l:L (Zr e5))(m7:eh)(R R':eh->kx->Prop)(s:kx),(∀o s,R o s->R' o s)->Joins (mG X.g_ X.w) X.A X.xe l m7 R s->Joins (mG X.g_ X.w) X.A X.xe l m7 R' s:=by
  intro l
  induction l with
  |m8=>intro m7 R R' s hr h;exact hr _ _ h
  |m6 x r ih=>intro m7 R R' s hr h;exact YX h (λv s1 ⟨y,tk,e,hz,q⟩=>⟨y,tk,e,hz,ih _ _ _ _ hr q⟩) λ_ _ z=>z
 exact ll _ _ _ _ _ (λo s1 ⟨hz,H',I',q⟩=>⟨hz,.str o,H',I'.wY _,⟨_,rfl⟩,q⟩) NV
def y58(hc:X.wK=true):ft X (.rn "all") (λxs H Q=>∃p ys,xs=[.ei p]/\cG X.K H p ys/\(∀y∈ys,∃b,y=.bl b)/\Q (.bl (ys.oP λy=>decide (y=.bl true))) H):=by
 intro eS s σ H xs us Q I r h;let⟨p,ys,rfl,hq,hb,q⟩:=h;let⟨u,rfl,rx⟩:=ϓ r;cases rx;let⟨aC,r',pl,hz⟩:=I.wD hq;have hl:=pl.yM;have cb:p<s.d_.e6.eG:=by let⟨_,e,_⟩:=hl;exact fH.sf e
 have hh:X.A.Nx.Nr=none:=I.ok.hd hc;refine call_all_walk (Ã hl ⟨s.d_.e6.eG,[s.d_.e6.eG,p],[s.d_.e6.eG],_,_,_,λi=>decide (ys[i]?=O (.bl true)),rfl,Ö.wD hh s.d_.e6.eG p (w0y cb) aC.ky,⟨⟨_,fH.vM _ rfl,rfl,rfl⟩,hl.nV _⟩,?_,λh' tk kp=>?_⟩)
 .intro i v s1 ze_ zeQ hv hQ;have Cz:aC[i]?=O v:=by simpa using hv
  have hi:i<ys.J:=by rw[r'.J];exact(w0c.mp Cz).1
  let⟨u,hu,ru⟩:=r'.BX (w0a hi);rw[Cz]at hu;cases hu;let⟨b,eb⟩:=hb ys[i] (w1z hi);rw[eb]at ru;cases ru;refine η ?_
  have e:decide (ys[i]?=O (V.bl true))=b:=by
   rw[w0a hi,eb];cases b<;>simp
  rw[<- e];exact hQ
 .have e:(L.so aC.ky.eG).oP (λi=>decide (ys[i]?=O (V.bl true)))=ys.oP λy=>decide (y=.bl true):=by
   rw[w3l,w1l,w1l];constructor
   .intro hA y hy;let⟨i,hi,rfl⟩:=w4q hy;have z:=hA i (by rw[w2e,w0i,<- r'.J];exact hi);rw[w0a hi]at z
    simpa using z
   .intro hA i hi;rw[w2e,w0i,<- r'.J]at hi;have z:=hA ys[i] (w1z hi);rw[w0a hi]
    simpa using z
  refine⟨.bl _,H,I.NK (t':=tk) λb o Cj=>kp b o (λz=>?_) (fH.q_ _ Cj),rfl,e ▸ q⟩
  rw[w0u]at z;exact nS (fH.sf Cj) (by rw[z];exact w2h _)
namespace vq
def C5:Ϲ (.hJ "list_reverseiterator") "__len__"=pR none:=by rw[Ϻ,Ϧ];kernel_rfl
def hint:Ϲ (.hJ "list_reverseiterator") "__length_hint__"=pR (O (.rn "list_reverseiterator.__length_hint__")):=by rw[Ϻ,Ϧ];kernel_rfl
section
variable{St:dt->kx->Prop}
def Y4(W:WalksS g_ w A.Nx I fp wr G n P St)(hT:∀i s,St i s->s.Zf (.ei I) "list_reverseiterator")(oI:St 0 s)(uU:∀b∈fp,b<s.d_.e6.eG)(hI:I∈fp)
  (hQ:∀s' m7,Î wr G s s'->Ì P m7 n->Q m7.n9 s')(hn:n<=pg):kX (mG g_ w) A (Ü (.ei I)) Q E s:=by
 have Cg:s.d_.e6.eG∉fp:=λhm=>w2h _ (uU _ hm)
 have Ie:s.d_.e6.eG≠I:=λe=>Cg (e ▸ hI)
 unfold Ü;refine i6 (zeo (ρ F.zcf ?_));rw[tf.ϻ F.zdi _];show kX _ A.Nx (newList [] >>= λl=>ZT (.rn "list.__iadd__" ⟨[l,.ei I],[]⟩)) _ _ s
 refine i6 (Z0 ?_);refine oo ⟨æ F.ē _,ρ F.zce ?_⟩;rw[tf.ϻ F.ē _];have mY:=W.Μ 0 s (s.d_.nV {ie:=.hJ "list", lg:=.mx ([]:L e5).ky}) s.nW oI (w0d _) λb _ o e=>fH.q_ _ e
 have E6:(s.d_.nV {ie:=.hJ "list", lg:=.mx ([]:L e5).ky}).f6 s.d_.e6.eG=O {ie:=.hJ "list", lg:=.mx ([]:L e5).ky}:=fH.vM _ rfl;have h1:oq.L.č (.ei s.d_.e6.eG) (.ei I)=false:=by simp[oq.L.č,Ie]
 show kX _ A.Nx (oq.L.Č (.ei s.d_.e6.eG) (.ei I) (.ei s.d_.e6.eG)) _ _ _;unfold oq.L.Č;refine i6 (ϖ (hT 0 _ mY) ?_);rw[kl (by rw[h1];decide)];refine i6 (W.self 0 _ _ _ mY ?_);refine i6 (Zk ?_);unfold oq.L.zc1;refine i6 (Å (hT 0 _ mY) C5 ?_);show kX _ A.Nx (specialOf (e5.ei I) (eh.Yy "__length_hint__") >>= _) _ _ _;refine i6 (Å (hT 0 _ mY) hint ?_)
 (generalize pM:("list_reverseiterator.__length_hint__":ET)=Oh;(fail_if_success (clear pM Oh));wp_delta;rw[show splitId Oh=O ("list_reverseiterator", "__length_hint__")from by subst pM;decide +kernel];subst pM)
 refine i6 (ĥ (b:=true) (hT 0 _ mY) (by rw[Ŏ];kernel_rfl) ?_);refine oo ?_;rw[kl (by decide)];refine oo ⟨æ F.ç _,codeAny_extend_loopS W hn _ Cg _ n 0 _ _ _ rfl (w1k _) mY E6 (Ì.m8 P) λs' HC c' hm Ib oD=>?_⟩
 show kX _ A (load s.d_.e6.eG >>= _) _ _ s';refine i6 (ŷ Ib ?_);exact oo (hQ s' HC (Î.drop_new (o:={ie:=.hJ "list", lg:=.mx ([]:L e5).ky}) (tk:=s.nW) hm (w0d _)) oD)
end
open AutoSeq1 (wpAny_loadPart')
def zbN(hh:A.Nr=none)(fY:l≠I)(ZX:s.d_.ī I l ((nT.eG:eW)-1))(hl:s.d_.Z4 l nT)(hsz:nT.eG<=pg)
  (hQ:∀s' m7,Î [I] (λa b=>b=a) s s'->Ì (λi v=>nT[nT.eG-1-i]?=O v) m7 nT.eG->Q m7.n9 s'):kX (mG g_ w) A (Ü (.ei I)) Q E s:=by
 have cb:∀b∈[I,l],b<s.d_.e6.eG:=λb hb=>by
  rcases w0h.mp hb with z|z
  .rw[z];let⟨_,e,_⟩:=ZX;exact fH.sf e
  .rw[w0u.mp z];let⟨_,e,_⟩:=hl;exact fH.sf e
 exact Y4 (Ö.listRev (A:=A.Nx) hh I l fY nT).toS (λ_ _ st=>st.2.1.Ya) ⟨w1k _,by simpa using ZX,hl⟩ cb w0l hQ hsz
theorem zaN(I l)(nT)(fY:l≠I)(hsz:nT.eG<=pg):
  _s (oq.«tuple.__new__» ⟨[.hJ "tuple", .ei I],[]⟩)
   (λA R s=>A.Nr=none/\s.d_.ī I l ((nT.eG:eW)-1)/\s.d_.Z4 l nT/\∀(s':kx)(m7:tP e5),Î [I] (λa b=>b=a) s s'->Ì (λi v=>nT[nT.eG-1-i]?=O v) m7 nT.eG ->
    R (.ok (.yr (.ei s'.d_.e6.eG))) {s' with d_:=s'.d_.nV {ie:=.hJ "tuple", lg:=.mx m7}}):=
 ._K λg_ w A R s h=>by
  let⟨hh,ZX,hl,h⟩:=h;have zi:=zdH;have Cq:=zcP;have V_:=zc4;have hT:s.Zf (.ei I) "list_reverseiterator":=ZX.Ya;have IF:A.Nx.Nr=none:=hh
  wp_walk using ϖ hT,zbN IF fY ZX hl hsz
  intro s' m7 hm oD;show kX _ _ (oq.JJ.γ m7.n9.ky >>= λv=>yr v) _ _ _
  unfold oq.JJ.γ;refine i6 (Z0 ?_ (show m7.n9.ky.eG<=pg by simp only[w5y];rw[oD.1];exact hsz));refine oo ⟨_,rfl,?_⟩
  simp_all
def zds(hh:A.Nr=none)(fY:l≠I)(ZX:s.d_.ī I l ((nT.eG:eW)-1))(hl:s.d_.Z4 l nT)(hsz:nT.eG<=pg)
  (h:∀(h':fH)(tk:dt)(m7:tP e5),(∀b o,b≠I->s.d_.f6 b=O o->h'.f6 b=O o)->Ì (λi v=>nT[nT.eG-1-i]?=O v) m7 nT.eG->Q (.ei h'.e6.eG) {s with d_:=h'.nV {ie:=.hJ "tuple", lg:=.mx m7},nW:=tk}):
  kX (mG g_ w) A (zN (.hJ "tuple") [.ei I]) Q E s:=by
 refine ý F.zbX (by decide) (F.zdT _) (F.zc7 _) (λCZ=>F.Ĳ CZ _) F.zci
  (zaN I l nT fY hsz) ⟨hh,ZX,hl,λs' m7 hm oD=>⟨⟨_,fH.vM _ rfl,rfl⟩,?_⟩⟩
 rw[Î.eq_with hm];exact h s'.d_ s'.nW m7 (λb o hb e=>hm.d_ b o (λz=>hb (w0u.mp z)) e) oD
end vq
def zd9(K:Fg)(te:TE):TE:=λσ H Q=>te σ H λx H1=>∃p ys,x=.ei p/\cG K H1 p ys/\∀l,H1 l=none->Q (.ei l) (l5 H1 l (.ff ys.wd))
def y1w{p1 p2 mh fo:qY}(hc:X.wK=true)(yW:X.mg "tuple"=none)(yX:X.mg "reversed"=none)(he:PE X e te)(yQ:fi (Gl X "tuple") jJ)(oF:fi (Gl X "reversed") jJ)
  (k9:fi (lq [.pY (.je "reversed" p2) [e] [] fo] X.el=(false,eval (.pY (.je "reversed" p2) [e] [] fo) X.el)::lq [] X.el) jJ)(hZ:fi (lq [e] X.el=(false,eval e X.el)::lq [] X.el) jJ):
  PE X (.pY (.je "tuple" p1) [.pY (.je "reversed" p2) [e] [] fo] [] mh) (zd9 X.K te):=by
 intro eS s σ H Q I h;refine _P (uh I yQ yW uD.ri._R.«tuple» ?_ (by decide));refine uD.ri._F ?_ k9 rfl;rw[k9];show kX _ _ (ë ((false,eval (.pY (.je "reversed" p2) [e] [] fo) X.el)::r8 mh (lq [] X.el))) _ _ s;refine Yq.ě ?_;refine _P (uh I oF yX uD.ri._R.«reversed» ?_ (by decide));refine uD.ri._F ?_ hZ rfl;rw[hZ];show kX _ _ (ë ((false,eval e X.el)::r8 fo (lq [] X.el))) _ _ s;refine Yq.ě (bw (he eS s σ H _ I h) λv s1 ⟨x,H1,I1,rx,p,ys,ex,hq,q⟩=>Yq.Ĝ ?_)
 subst ex;cases rx;let⟨aC,r',pl,hz⟩:=I1.wD hq;have hl:=pl.yM;have cb:p<s1.d_.e6.eG:=by let⟨_,e,_⟩:=hl;exact fH.sf e
 refine call_reversed_list hl ?_;refine Yq.Ĝ ?_;have hh:X.A.Nr=none:=I1.ok.hd hc;refine vq.zds (nT:=aC.ky) hh (w0y cb) ⟨_,fH.vM _ rfl,rfl,rfl⟩ (hl.nV _) (by simp only[w0i];rw[<- r'.J];exact hz) λh' tk m7 kp oD=>?_
 have up:∀b o,s1.d_.f6 b=O o->h'.f6 b=O o:=λb o Cj=>kp b o (w0y (fH.sf Cj)) (fH.q_ _ Cj)
 have I2:g8 X eS σ H1 {s1 with d_:=h',nW:=tk}:=I1.NK (t':=tk) up
 have ea:m7=aC.wd.ky:=by
  let⟨n1,n2⟩:=oD;apply tP.ext';apply L.zco;intro i
  by_cases hi:i<aC.J
  .have qU:i<m7.eG:=by rw[n1];simpa using hi
   have z:=n2 i m7[i] (by simp[qU]);simp only[w0i,L.getElem?_toArray]at z;rw[L.getElem?_reverse hi,z];simp[qU]
  .rw[w2o (by simp at n1 |-;omega),w2o (by simp;omega)]
 subst ea
 have I3:g8 X eS σ (l5 H1 h'.e6.eG (.ff ys.wd)) {s1 with d_:=h'.nV {ie:=.hJ "tuple", lg:=.mx aC.wd.ky},nW:=tk}:=
  I2.wg (t':=tk) (λb o e=>fH.q_ _ e) (w0d _) (show bh X.g_ X.w _ _ _ (.ff ys.wd)from⟨by rw[w4r];exact hz,aC.wd,r'.wd,YY.rZ _ _,_,fH.vM _ rfl,rfl⟩)
 exact⟨.ei h'.e6.eG,_,I3,rfl,q _ (I2.aR.u3 (w0d _))⟩
open PySem PySem.Spec PyProof.Rows
structure iU(K:Fg)(D:fh):Prop where
 ga:_h K (.ei D) "__getattribute__"=O (O (.rn "BaseException.__getattribute__"))
 gt:_h K (.ei D) "__getattr__"=O none
 cl:_h K (.ei D) "__class__"=O (O (.rn "object.__class__"))
 gs:Ě K (.rn "object.__class__") "__get__"=O (O (.rn "getset_descriptor.__get__"))
 tk:Ů K (.rn "object.__class__")=O true
 mo:kd.W.ψ K D (.hJ "object")=O true
 mb:kd.W.ψ K D (.hJ "BaseException")=O true
 cd:(kd.W.ÿ K D).sG=true
def bD(K:Fg)(D:fh):fJ:=
 _h K (.ei D) "__getattribute__"==O (O (.rn "BaseException.__getattribute__"))&&_h K (.ei D) "__getattr__"==O none &&
 _h K (.ei D) "__class__"==O (O (.rn "object.__class__"))&&Ě K (.rn "object.__class__") "__get__"==O (O (.rn "getset_descriptor.__get__")) &&
 Ů K (.rn "object.__class__")==O true&&kd.W.ψ K D (.hJ "object")==O true&&kd.W.ψ K D (.hJ "BaseException")==O true&&(kd.W.ÿ K D).sG
def iU.of{D:fh}(h:bD K D=true):iU K D:=by
 unfold bD at h;simp only[w0q,ZE]at h;obtain⟨⟨⟨⟨⟨⟨⟨h1,h2⟩,h3⟩,h4⟩,h5⟩,h6⟩,h7⟩,zcI⟩:=h;exact⟨h1,h2,h3,h4,h5,h6,h7,zcI⟩
def ϛ(e D:fh)(h:fH):Prop:=∃o vs,h.f6 e=O o/\o.ie=.ei D/\o.lg=.x6 vs
section
variable{e:fh}
open PySem.W Builtin Builtin.ObjectAttr Builtin.Getset_descriptor
def G_(p:ϛ e D h):_C M h (í (.ei e)) (.ei D):=by
 let⟨o,vs,h1,h2,h3⟩:=p;exact h2 ▸ (_C.ld h1).π .now
def y59(X:K.In h)(C:iU K D):_C M h (find (.ei e) (.ei D) "__class__") (.nR (.rn "getset_descriptor.__get__") (.rn "object.__class__")):=by
 have L1:=ő (M:=M) X C.cl;have L2:_C M h (getOf (O (.rn "object.__class__"))) (O (.rn "getset_descriptor.__get__")):=looks_specialIn X C.gs;have L3:=looks_takesIn (M:=M) X C.tk;refine L1.π (L2.π ?_);exact(show _C M h (dataDescriptor? (O (.rn "object.__class__")) (O (.rn "getset_descriptor.__get__"))) (O (.rn "getset_descriptor.__get__", .rn "object.__class__"))from L3.π .now).π (_C.tag .now)
def z1d(X:K.In s.d_)(p:ϛ e D s.d_)(hm:ψ K D (.hJ "object")=O true)
  (h:R (.ok (.yr (.ei D))) s):YN (mG g_ w) A (.zN (.rn "getset_descriptor.__get__") ⟨[.rn "object.__class__", .ei e,tp],[]⟩) R s:=by
 let⟨hh,g,zfo,t,os⟩:=s;have L0:=G_ (M:=mG g_ w) p;have L1:=looks_mroIn (M:=mG g_ w) X hm;refine zbZ KF.slot_gs.plain KF.entry_gs (KF.slot_gs.check _ _ _ _ _ _ _ _ KF.type_class (KF.args_gs _ _ _) ?_);unfold oq.«getset_descriptor.__get__» descrGet;rw[dga_obj];refine i6 (oo ?_);unfold descrGetter descrCheckInstance descrNameAndClass ō;simp only[KF.owner_class]
 repeat lk
 refine⟨Code.quiet_builtin _ (by decide +kernel),ρ KF.entry_class ?_⟩;unfold oq.«object.__class__» shownTypeOf
 repeat lk
 exact h
def y1x{M:Model}{xw:e5}{Q:Ò->kx->Prop}{g:tP Ī}{d:Drawn}{t:dt}{os:OsState}(X:K.In h)(p:ϛ e D h)(hm:ψ K D (.hJ "BaseException")=O true)(hq:Q () ⟨h,g,d,t,os⟩):
  kX M A (zbY "BaseException.__getattribute__" ⟨[.ei e,xw],[]⟩) Q E ⟨h,g,d,t,os⟩:=by
 have hk:builtinKind "BaseException.__getattribute__"=O .r5:=by decide +kernel
 have zeF:splitId "BaseException.__getattribute__"=O ("BaseException", "__getattribute__"):=by decide +kernel
 have L0:=G_ (M:=M) p;have L1:=looks_mroIn (M:=M) X hm;have LI:_C M h (ō (.ei e) (.hJ "BaseException")) true:=L0.π L1;have ha:=kd.F.args_bexc_ga (.ei e) xw;simp only[zbY,hk,zeF];refine i6 (LI.at ?_);rw[kl (by decide)];unfold argsOk at ha;split
 .rename_i sig hs;rw[hs]at ha;exact Â ha hq
 .exact oo hq
def y1y(X:K.In s.d_)(p:ϛ e D s.d_)(C:iU K D)(h:Q (O (.ei D)) {s with nW:=s.nW+1}):kX (mG g_ w) A (getAttr? (.ei e) "__class__") Q E s:=by
 let⟨hh,g,d,t,os⟩:=s;have L0:=G_ (M:=mG g_ w) p;have L1:=ő (M:=mG g_ w) X C.ga;have L2:=ő (M:=mG g_ w) X C.gt;have L3:=y59 (M:=mG g_ w) (e:=e) X C;unfold getAttr? getAttrBy? getAttrBy;refine i6 (wpAny_mkText (i6 (À (Zk (i6 (L0.at (i6 (L1.at ?_))))))));have N_:(e5.rn "BaseException.__getattribute__"==e5.rn "object.__getattribute__")=false:=by decide +kernel
 have Jf:(onTheHeap (e5.ei D)&&e5.rn "BaseException.__getattribute__"==e5.rn "object.__getattribute__")=false:=by rw[N_];rfl
 dsimp only;rw[kl (by rw[Jf];decide)];unfold getAttrByItsOwn hookBefore;rw[gE (by rfl)];refine i6 (L2.at ?_);refine i6 (À (Zk ?_));unfold callGetattribute;rw[kl (by decide)];unfold boundAndCalled;have f3:=kd.F.zcn.ga.nR (.ei e);refine i6 (Â f3 ?_);refine Á (zbZ kd.F.zcn.ga.plain F.entry_bexc_ga (y1x (K:=K) (D:=D) X p C.mb ?_));unfold oq.«object.__getattribute__»;refine i6 (Â (a:=(e5.ei e,[e5.str (eh.Yy "__class__") t])) (by rfl) ?_);dsimp only;refine i6 (Â (a:=eh.Yy "__class__") (by rfl) ?_);refine i6 (L0.at (i6 (L3.at ?_)));dsimp only;unfold bindTo;refine i6 (Zk (Á (z1d (K:=K) (D:=D) X p C.mo ?_)));dsimp only;refine oo ?_;dsimp only;refine Â (a:=e5.ei D) (by rfl) ?_;exact oo h
theorem y6a(C:iU K D):KitX K (.ei e) (.ei D) (ϛ e D) where
 ty:=λ_ _ _ p=>G_ p
 it:=λM h X p=>by
  have yK:=C.cd;unfold ÿ at yK;split at yK
  .rename_i c' d' Vp vc ho;intro A' Q' E' s' k q;unfold isType loadHead;exact i6 (wpAny_loadPart (k _ _ (X _ _ ho)) (oo q))
  .cases yK
 ne:=λh tp dd aC n sl X Wk=>by
  refine w4f.rj λq=>?_
  have e1:D=tp:=e5.ei.sE (ZE.mp q);subst e1;have yK:=C.cd;unfold ÿ at yK;split at yK
  .rename_i c' d' Vp vc ho;have z:=(X _ _ ho).symm.iD Wk;cases z
  .cases yK
 ca:=λX p k=>y1y X p C k
end
def BG:V->e5->Prop
 |.ty n,c=>c=.hJ n
 |.ei a,c=>c=.ei a
 |_,_=>pV
structure og(P:qM)(w:pT)(K:Fg)(mg:eh->fG e5)(g0:fH)(k:dt)(x:eh)(ps:L eh)(sp:Sp):Prop where
 ex:∃f fd,fN P w K mg g0 (eJ P w) k f fd ps sp/\mg x=O (.ei f)/\ZY K (.ei f)=true/\ZR K fd ps []
structure oh(P:qM)(w:pT)(K:Fg)(mg:eh->fG e5)(g0:fH)(k:dt)(x:eh)(ps:L eh)(sp:Sp):Prop where
 ex:∃f fd,sD P w K mg g0 k f fd ps sp/\mg x=O (.ei f)/\ZY K (.ei f)=true/\ZR K fd ps []
structure At(K:Fg)(mg:eh->fG e5)(x:eh)(st:vv)(ps:L eh):Prop where
 ex:∃f fd,vn K x x st f fd/\mg x=O (.ei f)/\ZR K fd ps []
def At.Vo(F:At K mg x st ps)(S:bV N ps (ax st))(oO:∀vs H Q E,sp vs H Q E->vs.J=ps.J)
  (iB:∀(f:fh)(bN:e5)(A:tf)(l4:L tY)(s:kx)(H:Hp)(vs:L V)(Q:VK)(E:XK),bL k (A.LO (Ot x (ax st) s.d_.e6.eG f bN))->sp vs H Q E ->
   ∃t,kP (eM (eJ P w) P w K mg g0 N x (ax st) f bN A l4 s H E) (bB st) t/\t {nx:=λ_ H'=>Q .aH H',rt:=Q} (XD N vs) H):og P w K mg g0 (k+1) x ps sp:=by
 let⟨f,fd,F,m,b⟩:=F.ex;exact⟨f,fd,F.WW S oO (iB f),m,F.kp,b⟩
def At.HF(F:At K mg x st ps)(S:bV N ps (ax st))(oO:∀vs H Q E,sp vs H Q E->vs.J=ps.J)
  (iB:∀(f:fh)(bN:e5)(A:tf)(l4:L tY)(s:kx)(H:Hp)(vs:L V)(Q:VK),eL k (A.LO (Ot x (ax st) s.d_.e6.eG f bN))->sp vs H Q E0 ->
   ∃t,kP (B3 P w K mg g0 N x (ax st) f bN A l4 s H) (bB st) t/\t {nx:=λ_ H'=>Q .aH H',rt:=Q} (XD N vs) H):oh P w K mg g0 (k+1) x ps sp:=by
 let⟨f,fd,F,m,b⟩:=F.ex;exact⟨f,fd,F.WV S oO (iB f),m,F.kp,b⟩
section
variable{k:dt}{ps:L eh}{t:TA}
def Ha(C:og X.g_ X.w X.K X.mg X.g0 k x ps sp)(hr:bL k X.A)(hx:dN (eJ X.g_ X.w) X EE)(ha:PA X (e::es) t)(hg:fi (Gl X x) jJ)
  (fb:fi ((x==("__debug__":eh))=false) jK)(he:fi (lq (e::es) X.el=(false,eval e X.el)::lq es X.el) jJ)(df:fi ((r8 fZ (lq es X.el)).pX (·.1)=false) jJ):
  PE X (.pY (.je x p) (e::es) [] fZ) (uC sp [] EE t):=by
 let⟨f,fd,F,m,kp,b⟩:=C.ex;exact y55 F hr hg m kp b .m8 hx ha fb he df
def z1e(C:oh X.g_ X.w X.K X.mg X.g0 k x ps sp)(hr:eL k X.A)(ha:PA X (e::es) t)(hg:fi (Gl X x) jJ)
  (fb:fi ((x==("__debug__":eh))=false) jK)(he:fi (lq (e::es) X.el=(false,eval e X.el)::lq es X.el) jJ)(df:fi ((r8 fZ (lq es X.el)).pX (·.1)=false) jJ):
  PE X (.pY (.je x p) (e::es) [] fZ) (x9 sp [] E0 t):=by
 let⟨f,fd,F,m,kp,b⟩:=C.ex;exact y57 F hr hg m kp b ha fb he df
end
section
variable{t:TA}{AO:qY}
theorem Bw(i:dt)(hN:X.N.p9)(he:PE X e te)(hi:fi (X.N[i]?=O x) jJ)(hx:fi (WH X.el.fj x) jN)(hs:fi (Yh e (O (.je x AO)) fZ.y' X.el=pR false) jJ)(hf:fi (X.fn x=true\/X.el.fj.lH.fI x=O .local) jL):
  PS X (.Yz [.je x AO] e fZ) (uB te (bP i)):=z6y hN hi hx he hs hf
theorem uj(i:dt)(hN:X.N.p9)(hi:fi (X.N[i]?=O x) jJ)(hx:fi (WH X.el.fj x) jN)(hf:fi (X.fn x=true\/X.el.fj.lH.fI x=O .local) jL):PG X (.je x fZ) (bP i):=z0z hN hi hx hf
theorem z7i{o:l_}{to:TE}{zp:qY}(ho:PE X o to)(ha:PA X (e::es) t)(cC:fi (Z_ o "append" X.el (eval o X.el)=eval o X.el) jJ)
  (fX:fi (((r8 fZ (lq (e::es) X.el)).oP (λx=>!x.1)&&(_D fZ (_G [] X.el)).oP (λx=>x.1.sG)&&decide ((e::es).J+([]:L Yr).J+(if([]:L Yr).yw then 0 else 1)<30))=true) jJ)
  (cD:fi ((zp._g==fZ.y')=true) jJ)(hs:fi (lq (e::es) X.el=(false,eval e X.el)::lq es X.el) jJ)(b7:fi ((r8 fZ (lq es X.el)).pX (·.1)=false) jJ):
  PE X (.pY (.Zn o "append" zp) (e::es) [] fZ) (Pb X.K "list" qt to t):=Hl kd.F.Ŝ kd.F.zdy kd.F.type_list_append Li ho ha cC fX cD hs b7
end
theorem v7{p:fh}(h:H p=none)(o):au H (l5 H p o):=λb u q=>by rw[bg (gQ q h)];exact q
def au.ff(e:au H H')(h:c6 K H a xs):c6 K H' a xs:=by
 rcases h with(h|⟨o,h⟩)|h
 .exact .h8 (.h8 (e _ _ h))
 .exact .h8 (.j' ⟨o,e _ _ h⟩)
 .exact .j' h
abbrev uq(o:nU):HO:=.jn o (.gD 0)
abbrev uS(o:nU)(q:eh)(c:fh):HO:=.jn o (.qy #[.rl false,.str q 0,.ei c])
abbrev lW(o:nU):HO:=.jn o (.ext λ_=>w7)
abbrev Cs:=L (fh×nU)
def ed(H:Hp)(cs:Cs):Hp:=λb=>match cs.fI b with
 |O _=>none
 |none=>H b
def c7(H:Hp)(cs:Cs):Hp:=λb=>match cs.fI b with
 |O o=>O (lW o)
 |none=>H b
def DZ(h:cs.fI b=O o):ed H cs b=none:=by unfold ed;rw[h]
def nD(h:cs.fI b=none):ed H cs b=H b:=by unfold ed;rw[h]
def ui(h:cs.fI b=O o):c7 H cs b=O (lW o):=by unfold c7;rw[h]
def ju(h:cs.fI b=none):c7 H cs b=H b:=by unfold c7;rw[h]
def DB(h:H b=none):ed H cs b=none:=by unfold ed;split<;>first|rfl|exact h
def bF(H:Hp)(cs:Cs):Prop:=∀b o,cs.fI b=O o->H b=O (lW o)
def bF.oN(c:bF H cs)(h:H b=none):cs.fI b=none:=by
 cases q:cs.fI b with
 |none=>rfl
 |O o=>rw[c b o q]at h;cases h
def bF.zO(c:bF H cs)(h:H b=O u)(n:∀o,u≠lW o):cs.fI b=none:=by
 cases q:cs.fI b with
 |none=>rfl
 |O o=>rw[c b o q]at h;grind
def bF.dg(c:bF H cs)(h:H b=O u)(n:∀o,u≠lW o):ed H cs b=O u:=by rw[nD (c.zO h n)];exact h
def Nb(h:ed H cs b=O u):H b=O u/\cs.fI b=none:=by
 unfold ed at h;split at h
 .cases h
 .rename_i q;exact⟨h,q⟩
theorem O1(t:gq u):∀o,u≠lW o:=λo z=>by subst z;exact t
theorem dD.rm(x:dD P w H h)(c:bF H cs):dD P w (ed H cs) h:=λa u e=>by
 let⟨e1,_⟩:=Nb e;exact(x a u e1).fK (λb v _ q=>q) (λb q=>c.dg q λo z=>nomatch z) λb v t q=>c.dg q (O1 t)
theorem dD.add(x:dD P w H h)(hc:∀b o,cs.fI b=O o->H b=none/\h.f6 b=O o):dD P w (c7 H cs) h:=λa u e=>by
 cases q:cs.fI a with
 |O o=>
  rw[ui q]at e;cases e;exact⟨(hc a o q).2,trivial,⟨o,(hc a o q).2⟩,λ_ _ _ _=>trivial⟩
 |none=>
  rw[ju q]at e
  have oN:∀b v,H b=O v->c7 H cs b=O v:=λb v z=>by
   cases q2:cs.fI b with
   |O o=>rw[(hc b o q2).1]at z;cases z
   |none=>rw[ju q2];exact z
  exact(x a u e).fK (λb v _ q=>q) (λb q=>oN b _ q) λb v t q=>oN b v q
def z1f(x:dD P w H h)(e:H f=O (uS o q c)):h.f6 f=O o/\h.CodeRec (.ei c) q:=by
 let⟨h1,h2⟩:=(show h.f6 f=O o/\bh P w H h f (.qy #[.rl false,.str q 0,.ei c])from x f _ e);refine⟨h1,?_⟩;rcases h2 with⟨_,_,p0,_⟩|⟨q',c',oc,ob,vs,t,_,p1,p2,h3,h4,h5,_⟩
 .cases p0
 .cases p1;cases p2;exact⟨c,oc,vs,t,rfl,(show h.f6 c=O oc/\_ from x c _ h3).1,h4,h5⟩
theorem Un.tO(u:Un fs ex (ed H cs) H' h h')(c:bF H cs):Un fs ex H (c7 H' cs) h h' where
 pU:=λb o q n hb hx=>u.pU b o q (DB n) hb hx
 r5:=λb o q n hb hx=>u.r5 b o q (DB n) hb hx
 nL:=λb o q n hx=>by rw[ju (c.oN n)];exact u.nL b o q (DB n) hx
 WE:=u.WE
 gj:=λb xs q=>by
  have z:=c.zO q λo z=>nomatch z
  rw[ju z];exact u.gj b xs (by rw[nD z];exact q)
 bt:=λb o v q=>by
  cases z:cs.fI b with
  |O o'=>
   rw[ui z];rw[c b o' z]at q;exact q
  |none=>rw[ju z];exact u.bt b o v (by rw[nD z];exact q)
 eU:=λb ps q=>by
  have z:=c.zO q λo z=>nomatch z
  rw[ju z];exact u.eU b ps (by rw[nD z];exact q)
def Un.jU(u:Un fs ex (c7 H cs) H' h h')(aR:dD P w H' h')(hc:∀b o,cs.fI b=O o->H b=none/\h.f6 b=O o):Un fs ex H (ed H' cs) h h':=by
 have Ol:∀b o,cs.fI b=O o->H' b=O (lW o)/\h'.f6 b=O o:=λb o z=>by
  have q:=u.bt b o _ (ui z);exact⟨q,(show h'.f6 b=O o/\_ from aR b _ q).1⟩
 refine⟨λb o q n hb hx=>?_,λb o q n hb hx=>?_,λb o q n hx=>?_,u.WE,λb xs q=>?_,λb o v q=>?_,λb ps q=>?_⟩
 .cases z:cs.fI b with
  |O o'=>
   have:=(hc b o' z).2;rw[q]at this;cases this;exact(Ol b _ z).2
  |none=>exact u.pU b o q (by rw[ju z];exact n) hb hx
 .cases z:cs.fI b with
  |O o'=>
   have:=(hc b o' z).2;rw[q]at this;cases this;exact⟨o.zx,(Ol b _ z).2⟩
  |none=>exact u.r5 b o q (by rw[ju z];exact n) hb hx
 .cases z:cs.fI b with
  |O o'=>exact DZ z
  |none=>rw[nD z];exact u.nL b o q (by rw[ju z];exact n) hx
 .have z:cs.fI b=none:=by
   cases z:cs.fI b with
   |O o'=>rw[(hc b o' z).1]at q;cases q
   |none=>rfl
  rw[nD z];exact u.gj b xs (by rw[ju z];exact q)
 .have z:cs.fI b=none:=by
   cases z:cs.fI b with
   |O o'=>rw[(hc b o' z).1]at q;cases q
   |none=>rfl
  rw[nD z];exact u.bt b o v (by rw[ju z];exact q)
 .have z:cs.fI b=none:=by
   cases z:cs.fI b with
   |O o'=>rw[(hc b o' z).1]at q;cases q
   |none=>rfl
  rw[nD z];exact u.eU b ps (by rw[ju z];exact q)
abbrev eI(n0:eh)(fj:vP)(f:fh)(cd:e5)(cl:L (eh×fh))(s:kx):tY:=kd.W.envX n0 fj s.d_.e6.eG f cd cl
def lB(P:qM)(w:pT)(K:Fg)(mg:eh->fG e5)(g0:fH)(N:L eh)(n0:eh)(fj:vP)(f:fh)(cd:e5)(cl:L (eh×fh))(A:tf)(l4:L tY)(s:kx)(H:Hp):Cx where
 g_:=P
 w:=w
 K:=K
 mg:=mg
 g0:=g0
 A:=A.LO (eI n0 fj f cd cl s)
 N:=N
 aB:=s
 aI:=H
 el:=eI n0 fj f cd cl s
 l4:=l4
 zf:=eI n0 fj f cd cl s::l4
 ex:=[]
 wK:=true
 fn:=λ_=>false
 pn:=[]
 xe:=λ_ _=>pV
structure zdq(ps Nf:L eh)(sc:vP):Prop where
 sP:sc.sP=.Zc
 co:sc.à=false
 gen:sc.á=false
 nd:ps.p9
 zeW:∀y∈sc.lH,y.2≠.mZ
 Zi:∀x∈ps,sc.lH.fI x=O .local
 fr:∀y∈Nf,sc.lH.fI y=O .nL
structure jZ(cl:L (eh×fh))(Nf:L eh)(sc:vP)(zs:L V)(h:fH)(cs:Cs):Prop where
 sE:∀x y c,cl.fI x=O c->cl.fI y=O c->x=y
 Yk:∀x,(x,AW.nL)∈sc.lH->∃c,cl.fI x=O c
 oP:∀x c,cl.fI x=O c->∃o,cs.fI c=O o
 rQ:∀c o,cs.fI c=O o->h.f6 c=O o/\∃v,o.lg=.mZ v
 tN:∀(i:dt) y z,Nf[i]?=O y->zs[i]?=O z->∃c o u,cl.fI y=O c/\cs.fI c=O o/\o.lg=.mZ (O u)/\ot z u
def BJ(P:qM)(w:pT)(K:Fg)(mg:eh->fG e5)(g0:fH)(CX:n_)(k:dt)(sp:V->L V->Hp->VK->XK->Prop):Prop:=∀(x:V)(vs:L V)(H:Hp)(Q:VK)(E:XK),sp x vs H Q E ->
 ∃f oc od fd sl u,x=.ei f/\H f=O (.jn ⟨oc,od,.Yv fd,sl⟩ u)/\∀(A:tf)(l4:L tY)(s:kx)(us:L e5),bL k A->jx P w K mg g0 A l4 s H->oK vs us ->
  YN (mG P w) A (.zN (.ei f) ⟨us,[]⟩) (CR CX l4 P w H s Q E) s
def Hx(H:Hp)(x:V):Prop:=∃f oc od fd sl u,x=.ei f/\H f=O (.jn ⟨oc,od,.Yv fd,sl⟩ u)
def Av(sp:V->L V->Hp->VK->XK->Prop)(EE:L2.St->XK)(tv:TE)(t:TA):TE:=λσ H Q=>tv σ H λx H1=>Hx H1 x/\t σ H1 λvs H2=>sp x vs H2 Q (EE σ)
section
variable{CX:n_}{k:dt}{sp:V->L V->Hp->VK->XK->Prop}{tv:TE}{t:TA}
def y6b(F:BJ X.g_ X.w X.K X.mg X.g0 CX k sp)(hr:bL k X.A)(hv:PE X (.je x p) tv)(hx:dN CX X EE)(ha:PA X (e::es) t)
  (he:fi (lq (e::es) X.el=(false,eval e X.el)::lq es X.el) jJ)(df:fi ((r8 fZ (lq es X.el)).pX (·.1)=false) jJ):
  PE X (.pY (.je x p) (e::es) [] fZ) (Av sp EE tv t):=by
 intro eS s σ H Q I h;refine _P (bw (hv eS s σ H _ I h) λu s1 ⟨y,H1,I1,ry,⟨f,oc,od,fd,sl,zgs,ey,ef⟩,q⟩=>?_)
 subst ey;obtain rfl:u=e5.ei f:=ry;refine kd.W.callWith_F ⟨oc,od,fd,sl,(show s1.d_.f6 f=O _/\_ from I1.aR f _ ef).1⟩ (bw (ha fZ eS s1 σ H1 _ I1 q) λus s2 ⟨vs,H2,I2,r,q2⟩=>?_) he df
 let⟨zfq,WT,WU,Vx,vc,u',NI,Vt,g9⟩:=F _ _ _ _ _ q2;cases NI;refine⟨⟨WT,WU,Vx,vc,(show s2.d_.f6 f=O _/\_ from I2.aR f _ Vt).1⟩,Á (ς (g9 X.A X.zf s2 us hr I2.vz r) λr s' hq=>?_)⟩
 cases r with
 |τ e=>exact hx eS σ H2 s2 e s' I2 hq
 |ok fl=>
  cases fl with
  |yr u=>exact I2.Ϣ hq
  |next=>exact pV.ke hq
  |Zu=>exact pV.ke hq
  |Zv=>exact pV.ke hq
end
def zbO{AO:qY}{a b:eW}{c cv:e5}(l:L e5)(h:ı l)(z:ϩ AO (l++[ZA a,ZA b,c])=O cv):ϩ AO l=O cv\/cv=c:=by
 fun_induction ı l with
 |case1=>
  simp only[w1t,ϩ,ZA]at z;split at z
  .cases z;exact .j' rfl
  .cases z
 |case2 x t y u v oM ih=>
  simp only[w1n,ϩ]at z |-
  split at z
  .rename_i hc;rw[gE hc];exact .h8 z
  .rename_i hc;rw[kl hc];exact ih h z
 |case3=>exact h.ke
def ZQ(h:fH)(mg:eh->fG e5):Prop:=∃bm ob,mg "__builtins__"=O (.ei bm)/\bm≠ϧ/\h.f6 bm=O ob/\ob.ie=.hJ "module" /\ ob.qZ=O ϧ/\ob.lg=.plain
def wQ(X:Cx)(p7:_A)(o3:l_)(fj:vP)(bR:L (eh×fh))(f:fh)(H H':Hp):Prop:=þ fj X.el=pR bR/\∃(H1:Hp)(pm gT:e5)(c':fh),(H1=H\/∃c oc,H c=none/\H1=l5 H c (uq oc))/\H1 f=none /\
 H'=l5 H1 f (uS (_H "<lambda>" (X.el.n0++"<lambda>") p7 o3 fj bR pm c' gT) (X.el.n0++"<lambda>") c')
def El(X:Cx)(p7:_A)(o3:l_)(fj:vP):TE:=λ_ H Q=>∀f bR H',wQ X p7 o3 fj bR f H H'->Q (.ei f) H'
structure Í(X:Cx):Prop where
 ex:∃c P a,X.el._c=.ei c/\Û X.K c P=true/\(a,iF P (X.el.n0++"<lambda>"))∈X.K
 bm:ZQ X.g0 X.mg
def z7j(M:Í X)(tw:ŀ p7 X.el=([],[]))(du:∀x∈fj.lH,x.2=.nL->X.el.vW x.1=O .mZ\/X.el.vW x.1=O .nL):
  PE X (.YK p7 o3 fj f9) (El X p7 o3 fj):=by
 intro eS s σ H Q I h;let⟨bR,fA,_,_⟩:=FZ (fj:=fj) (el:=X.el) λx hx hf=>I.ok.Yk x.1 (du x hx hf)
 let⟨c,P,a,xk,rT,IM⟩:=M.ex;have NZ:=kd.W.codeHd_of_K I.yl.uX rT;let⟨ps,hP,p0,p1⟩:=I.ok.YV a _ P IM;let⟨EY,eP⟩:=I.g0.eU P ps hP
 have q0:(ps++EY)[0]?=O (.rl true):=by
  rw[w2k (by let⟨z,_⟩:=w2v.mp p0;exact z)];exact p0
 have q1:(ps++EY)[1]?=O (.str (X.el.n0++"<lambda>") 0):=by
  rw[w2k (by let⟨z,_⟩:=w2v.mp p1;exact z)];exact p1
 have zc9:bh X.g_ X.w H s.d_ P (.qy (ps++EY)):=I.aR P _ eP;rcases zc9 with⟨q,qs,r0,r1,g1,tr,cd⟩|⟨_,_,_,_,_,_,r0,_⟩
 case j'=>rw[q0]at r0;cases r0
 rw[q1]at r1;cases r1;have nP:∀b,H b=none->b≠P:=λb n z=>by rw[z,eP]at n;cases n
 have VY:EO≠P:=by
  let⟨o,es,ep,e,_⟩:=I.yl.YT;exact nP _ (I.bs _ o e).2
 have hB:s.d_.BuiltinsAt X.mg P:=by
  let⟨bm,ob,b1,b2,b3,b4,b5,b6⟩:=M.bm;refine⟨bm,ob,b1,b2,λz=>?_,nP _ (I.bs bm ob b3).2,(I.bs bm ob b3).1,b4,b5,b6⟩
  let⟨o,es,ep,e,d,_⟩:=I.yl.YT;rw[z,e]at b3;cases b3;rw[d]at b6;cases b6
 have uV:=I.yl.YT.AN I.bk;refine kd.W.kla_eval tw ?_;cases hc:ϩ f9 qs.n9 with
 |O cv=>
  let⟨c',oc,vs,t,rfl,k1,k2,k3⟩:=cd f9 cv hc;refine kd.W.kla_makeFunctionHit (mg:=X.mg) fA I.ok.YT uV xk (NZ.AN I.bk) g1 tr hc hB λgT h' tk hk hsz=>?_
  have fr:H h'.e6.eG=none:=I.aR.u3 hsz;refine⟨.ei h'.e6.eG,_,I.wg (t':=tk) (λb u e=>fH.q_ _ (hk b u e)) hsz ?_,rfl,h _ bR _ ⟨fA,H,(X.mg "__name__").mF .none,gT,c',.h8 rfl,fr,rfl⟩⟩
  exact⟨fH.vM _ rfl,.j' ⟨_,c',oc,_,vs,t,rfl,rfl,rfl,by rw[bg (gQ k1 fr)];exact k1,k2,k3,fH.vM _ rfl⟩⟩
 |none=>
  refine kd.W.kla_makeFunction (mg:=X.mg) fA I.ok.YT uV xk (NZ.AN I.bk) g1 tr hc VY hB λc' gT h' tk hx NX cb Ja N8=>?_
  let⟨c2,oc,vs,t,ec,y9,hd,hv⟩:=Ja;cases ec;have fc:H c'=none:=I.aR.u3 NX;have fY:∀b u,H b=O u->b≠c':=λb u z=>gQ z fc
  have kp:∀b o,H b=none->s.d_.f6 b=O o->h'.f6 b=O o:=λb o n e=>hx b o (nP b n) e
  have IW:dD X.g_ X.w (l5 H c' (uq oc)) h':=λa u e=>by
   by_cases ha:a=c'
   .subst ha;rw[cI]at e;cases e;exact⟨y9,oc,y9⟩
   .rw[bg ha]at e
    by_cases NQ:a=P
    .subst NQ;rw[eP]at e;cases e;refine .h8 ⟨_,_,q0,q1,N8,?_,λfZ cv z=>?_⟩
     .rw[w6h];exact TriplesOk_snoc _ _ _ _ tr
     .rw[w6h]at z;rcases zbO _ tr z with z|z
      .let⟨d,od,zd2,td,k0,k1,k2,k3⟩:=cd fZ cv z;exact⟨d,od,zd2,td,k0,by rw[bg (fY d _ k1)];exact k1,k2,k3⟩
      .exact⟨c',oc,vs,t,z,cI,hd,hv⟩
    .refine(I.aR a u e).fK (λb v hb q=>hx b v ?_ q) (λb q=>by rw[bg (fY b _ q)];exact q) λb v _ q=>by rw[bg (fY b _ q)];exact q
     rcases hb with rfl|hb
     .exact NQ
     .rintro rfl;rw[eP]at hb;cases hb
  have un:Un X.fs [] H (l5 H c' (uq oc)) s.d_ h':=by
   refine⟨λb o q n _ _=>kp b o n q,λb o q n _ _=>⟨o.zx,kp b o n q⟩,λb o q n _=>?_,λb o q _=>?_,λb xs q=>by rw[bg (fY b _ q)];exact q,λb o u q=>by rw[bg (fY b _ q)];exact q,λb qs q=>⟨#[],by rw[bg (fY b _ q),q];simp⟩⟩
   .rw[bg (w0y (w1a (fH.sf q) NX))];exact n
   .by_cases hb:b=P
    .subst hb;exact⟨_,N8⟩
    .exact⟨o,hx b o hb q⟩
  have I1:g8 X eS σ (l5 H c' (uq oc)) {s with d_:=h',nW:=tk}:=I.un un IW;have f1:l5 H c' (uq oc) h'.e6.eG=none:=I1.aR.u3 (w0d _);refine⟨.ei h'.e6.eG,_,I1.wg (t':=tk) (λb u e=>fH.q_ _ e) (w0d _) ?_,rfl,h _ bR _ ⟨fA,_,(X.mg "__name__").mF .none,gT,c',.j' ⟨c',oc,fc,rfl⟩,f1,rfl⟩⟩
  exact⟨fH.vM _ rfl,.j' ⟨_,c',oc,_,vs,t,rfl,rfl,rfl,by rw[bg (gQ cI f1)];exact cI,hd,hv,fH.vM _ rfl⟩⟩
theorem O2{α:Type}{k:fh}{v:α}:∀{l:L (fh×α)},(k,v)∈l->∃v',l.fI k=O v'
 |[],h=>nomatch h
 |(a,b)::l,h=>by
  rw[w2w]
  by_cases e:(k==a)=true
  .rw[e];exact⟨b,rfl⟩
  .rw[w4f.rj e];rcases w0h.mp h with z|z
   .cases z;simp at e
   .exact O2 z
def gS(bR:L (eh×fh))(h:fH):Cs:=(bR.ej (·.1)).Λ λx=>(bR.fI x).nR λc=>(h.f6 c).ej λo=>(c,o)
def O3(e:(gS bR h).fI c=O o):∃x,bR.fI x=O c/\h.f6 c=O o:=by
 let⟨x,_,hx⟩:=w3j.mp (kd.W.mem_of_lookupK e)
 grind [fG.bind_eq_some_iff,fG.map_eq_some_iff]
def Pf(e:bR.fI x=O c)(g:h.f6 c=O o):(gS bR h).fI c=O o:=by
 have hm:(c,o)∈gS bR h:=w3j.rj ⟨x,w1e.rj ⟨(x,c),kd.ZJ e,rfl⟩,by grind⟩;let⟨o',e'⟩:=O2 hm
 grind [O3]
structure zd3(bR:L (eh×fh))(Nf:L eh)(fj:vP)(js:L dt)(σ:St)(H:Hp)(cs:Cs):Prop where
 sE:∀x y c,bR.fI x=O c->bR.fI y=O c->x=y
 Yk:∀x,(x,AW.nL)∈fj.lH->∃c,bR.fI x=O c
 oP:∀x c,bR.fI x=O c->∃o,cs.fI c=O o
 rQ:∀c o,cs.fI c=O o->H c=none/\∃v,o.lg=.mZ v
 tN:∀(i:dt) y j z,Nf[i]?=O y->js[i]?=O j->σ[j]?=O (O z)->∃c o u,bR.fI y=O c/\cs.fI c=O o/\o.lg=.mZ (O u)/\ot z u
def Y5{e:e5}(hc:∀b o,cs.fI b=O o->H b=none/\s.d_.f6 b=O o)
  (x:eJ P w l4 (c7 H cs) s (λc o H'=>E c o (ed H' cs)) e s'):eJ P w l4 H s E e s':=by
 let⟨e,ie,H',B,rfl,pO,hg,un,aR,gP,hE⟩:=x;have CI:bF H' cs:=λb o z=>un.bt b o _ (ui z)
 refine⟨e,ie,ed H' cs,B,rfl,pO,hg,un.jU aR hc,aR.rm CI,⟨gP.fl,λb o q n nb=>?_,λb u o q z=>gP.ph b u o (Nb q).1 z,gP.oP,gP.rZ⟩,hE⟩
 cases z:cs.fI b with
 |O o'=>
  have:=(hc b o' z).2;rw[q]at this;cases this;exact gP.ph b _ o (CI b o z) ((show s'.d_.f6 b=O o/\_ from aR b _ (CI b o z)).1)
 |none=>exact gP.tB b o q (by rw[ju z];exact n) nb
def nB(h:(pR a:Zr α)=pR b):a=b:=by
 first
  |exact kd.Zr.nB h
  |(injection h)
  |(cases h;rfl)
section
variable{k:dt}{ps:L eh}
def z1g(F:fN X.g_ X.w X.K X.mg X.g0 (eJ X.g_ X.w) k f fd ps sp)(hr:bL k X.A)(hb:ZR X.K fd ps [])(hx:dN (eJ X.g_ X.w) X EE)
  (I:g8 X eS σ H s)(hc:∀b o,cs.fI b=O o->H b=none/\s.d_.f6 b=O o)(hv:∀b o,cs.fI b=O o->b∉fV X.zf)(hn:∀b o,cs.fI b=O o->X.g0.f6 b=none)(r:oK vs us)
  (h:sp vs (c7 H cs) (λv H'=>Q v (ed H' cs)) λc o H'=>EE σ c o (ed H' cs)):kX (mG X.g_ X.w) X.A (zN (.ei f) us) (EP X eS σ Q) X.xe s:=by
 have hl:us.J=ps.J:=by rw[<- r.J];exact F.oO _ _ _ _ h
 have e0:=I.vz
 have oN:∀b,H b=none->(∀o,cs.fI b≠O o)->c7 H cs b=none:=λb n z=>by
  cases q:cs.fI b with
  |O o=>exact nS q (z o)
  |none=>rw[ju q];exact n
 have e1:jx X.g_ X.w X.K X.mg X.g0 X.A X.zf s (c7 H cs):=by
  refine⟨e0.Yu,e0.yl,λb o q=>⟨(e0.bs b o q).1,oN b (e0.bs b o q).2 λo' z=>?_⟩,e0.om,e0.e_,λb hb=>oN b (e0.pK b hb) λo z=>?_,e0.aR.add hc,e0.wC,λa q P m=>?_⟩
  .grind
  .exact hv b o z hb
  .let⟨ps,e,p⟩:=e0.YV a q P m;refine⟨ps,?_,p⟩;cases z:cs.fI P with
   |O o=>grind
   |none=>rw[ju z];exact e
 have AZ:=hb s us I.ko (by grind);rw[w0s]at AZ;refine Á (ς (F.g9 X.A X.zf s (c7 H cs) ⟨us,[]⟩ us vs _ _ hr e1 AZ r h) λr s' hq=>?_)
 cases r with
 |τ e=>exact hx eS σ H s e s' I (Y5 hc hq)
 |ok fl=>
  cases fl with
  |yr u=>
   let⟨v,H',os,wC,un,aR,rv,q⟩:=hq;have CI:bF H' cs:=λb o z=>un.bt b o _ (ui z)
   exact I.Ϣ ⟨v,ed H' cs,os,wC,un.jU aR hc,aR.rm CI,rv,q⟩
  |next=>exact pV.ke hq
  |Zu=>exact pV.ke hq
  |Zv=>exact pV.ke hq
def BK(sp:Sp)(X:Cx)(fj:vP)(Nf:L eh)(js:L dt)(E:XK)(σ:St)(Q:VK)(vs:L V)(H2:Hp):Prop:=∃bR,þ fj X.el=pR bR/\∀cs,zd3 bR Nf fj js σ H2 cs ->
 sp vs (c7 H2 cs) (λv H'=>Q v (ed H' cs)) λc o H'=>E c o (ed H' cs)
def zdV(sp:Sp)(X:Cx)(p7:_A)(o3:l_)(fj:vP)(Nf:L eh)(js:L dt)(EE:L2.St->XK)(te:TE):TE:=λσ H Q=>te σ H λv1 H1=>∀f bR H2,wQ X p7 o3 fj bR f H1 H2->BK sp X fj Nf js (EE σ) σ Q [v1,.ei f] H2
def zbP{p7:_A}{o3:l_}{fj:vP}{f9:qY}{Nf:L eh}(F:fN X.g_ X.w X.K X.mg X.g0 (eJ X.g_ X.w) k f fd ps sp)(hr:bL k X.A)(hg:Gl X x)(hm:X.mg x=O (.ei f))(hk:ZY X.K (.ei f)=true)
  (hb:ZR X.K fd ps [])(hx:dN (eJ X.g_ X.w) X EE)(M:Í X)(yP:∀y,X.fn y=true)(he:PE X e te)(tw:ŀ p7 X.el=([],[]))
  (du:∀x∈fj.lH,x.2=.nL->X.el.vW x.1=O .mZ\/X.el.vW x.1=O .nL)
  (qS:∀(i j:dt) y,Nf[i]?=O y->js[i]?=O j->X.N[j]?=O y/\(y,AW.nL)∈fj.lH/\jy X.el.fj y/\X.el.vW y≠O .local)
  (fb:fi ((x==("__debug__":eh))=false) jK)(oI:fi (lq [e,.YK p7 o3 fj f9] X.el=(false,eval e X.el)::lq [.YK p7 o3 fj f9] X.el) jJ)
  (zh:fi (lq [.YK p7 o3 fj f9] X.el=(false,eval (.YK p7 o3 fj f9) X.el)::lq [] X.el) jJ)(df:fi ((r8 fZ (lq [.YK p7 o3 fj f9] X.el)).pX (·.1)=false) jJ):
  PE X (.pY (.je x p) [e,.YK p7 o3 fj f9] [] fZ) (zdV sp X p7 o3 fj Nf js EE te):=by
 intro eS s σ H Q I h;have ha:PA X [e,.YK p7 o3 fj f9] (qw te (qw (El X p7 o3 fj) Ax)):=v9 he (v9 (z7j M tw du) DX zh) oI;refine _P (Bp I hg hm ?_ fb);refine ĸ (h₀:=X.g0) I.ok.yl.uX hk (bw (ha fZ eS s σ H (BK sp X fj Nf js (EE σ) σ Q) I h) λus s1 ⟨vs,H2,I2,r,bR,fA,q⟩=>⟨I2.ko,?_⟩) oI df
 let⟨mL,zex,jC,qT⟩:=FZ (fj:=fj) (el:=X.el) λx hx hf=>I.ok.Yk x.1 (du x hx hf)
 obtain rfl:mL=bR:=nB (zex.symm.iD fA)
 have Yl:∀b o,(gS mL s1.d_).fI b=O o->∃x,X.el.tO.fI x=O b/\s1.d_.f6 b=O o:=λb o z=>by
  let⟨x,h1,h2⟩:=O3 z;exact⟨x,jC x b h1,h2⟩
 have tG:∀b o,(gS mL s1.d_).fI b=O o->H2 b=none/\s1.d_.f6 b=O o:=λb o z=>by
  let⟨x,h1,h2⟩:=Yl b o z;exact⟨I2.dq x b h1,h2⟩
 have vC:∀b o,(gS mL s1.d_).fI b=O o->X.aB.d_.e6.eG<=b:=λb o z=>by
  let⟨x,h1,h2⟩:=Yl b o z;exact I2.ok.wZ x b (yP x) h1
 refine z1g (cs:=gS mL s1.d_) F hr hb hx I2 tG (λb o z hb=>?_) (λb o z=>fH.zcH (w1d I2.ok.om (vC b o z))) r (q _ ⟨λx y c e1 e2=>I2.ok.sE x y c (jC x c e1) (jC y c e2),qT,λx c e=>?_,λc o e=>⟨(tG c o e).1,?_⟩,λi y j z e1 e2 e3=>?_⟩)
 .rcases w0h.mp (I2.mq b hb)with e|Im
  .let⟨x,h1,_⟩:=Yl b o z;exact I2.vw x b h1 e
  .let⟨_,o',q',_⟩:=I2.ok.e_.YD Im
   exact nS (fH.sf q') (w3q.rj (vC b o z))
 .let⟨v,o,g,_⟩:=I2.mZ x c (jC x c e);exact⟨o,Pf e g⟩
 .let⟨x,h1,h2⟩:=Yl c o e;let⟨v,o',g,d⟩:=I2.mZ x c h1;rw[h2]at g;cases g;exact⟨v,d⟩
 .let⟨n1,n2,n3,n4⟩:=qS i j y e1 e2;let⟨m,hm,hl⟩:=I2.T4;let⟨u,ru,l⟩:=hl j y z n1 e3 n3;rcases l with⟨k1,_⟩|⟨k1,c,ec,o,g,d⟩
  .exact nS k1 n4
  .let⟨c',B7⟩:=qT y n2;have e4:=jC y c' B7;rw[ec]at e4;cases e4;exact⟨c,o,u,B7,Pf B7 g,d,ru⟩
end
set_option maxHeartbeats 1000000
def Sh.Jl:Sh->fJ
 |.Υ .d0=>true
 |_=>false
def Sh.xo:Sh->fJ
 |.d0=>true
 |.str=>true
 |_=>false
end L2
namespace D
open PySem L2
variable{a:fh}{G H:Hp}{EE:L2.St->XK}{es:L l_}{vs:L V}{i:dt}{p fZ AO:qY}{K:Fg}{σ:St}{x:eh}
abbrev Sv:=eW ⊕ fJ
inductive Dd where
 |k (kvs:L (wB×Sv))
structure Lm where
 n0:eh
 p7:_A
 o3:l_
 fj:vP
 nf:L eh
set_option genInjectivity true in
inductive W where
 |aH|bl (b:fJ)|d0 (i:eW)|str (x:eh)|ff (xs:L W)|fy (xs:L W)|zt (c:e5)|ba (kvs:Dd)|dw (fz:fJ) (sh:Sh) (ks:L Kx) (ws:L W)|fn (i:dt) (l:Lm) (ws:L W)
variable{ws:L W}
inductive S where
 |no|fr (w:W)|gD (io:fG dt) (ws:L W)|ba (kvs:Dd)|dw (sh:Sh) (ks:L Kx) (ws:L W)
def sV:Sv->V
 |.h8 i=>.d0 i
 |.j' b=>.bl b
def zw{κ:Type}(kvs:L (κ×Sv)):L (κ×V):=kvs.ej λp=>(p.1,sV p.2)
def dO:Dd->HO
 |.k kvs=>.dK (zw kvs)
def CK:HO->fJ
 |.dK _=>true
 |_=>false
theorem Ak(h:CK u=false):dO d≠u:=λz=>by
 subst z;cases d<;>cases h
def dj(G:Hp):L Kx->L fh->Prop
 |[],[]=>w7
 |k::ks,b::bs=>cx G k (.ei b)/\dj G ks bs
 |[],_::_=>pV
 |_::_,[]=>pV
theorem dj.ll(e:au G G'):∀{ks:L Kx}{bs:L fh},dj G ks bs->dj G' ks bs
 |[],[],_=>trivial
 |k::ks,b::bs,h=>⟨cx.AN (λ_ _ _ z=>e _ _ z) k h.1,dj.ll e h.2⟩
 |[],_::_,h=>h.ke
 |_::_,[],h=>h.ke
def qa:Kx->wB
 |.d0 i=>.h8 i
 |.str x=>.j' x
 |_=>.h8 0
def Jr:Sh->Kx->Prop
 |.d0,k=>∃i,k=.d0 i
 |.str,k=>∃x,k=.str x
 |_,_=>pV
def pJ(sh:Sh)(kvs:L (Kx×V))(bC:L fh):HO:=if sh.xo=true then .dK (kvs.ej λp=>(qa p.1,p.2))else .dT sh kvs bC
def Jk:HO->fJ
 |.dK _=>true
 |.dT _ _ _=>true
 |_=>false
theorem Ai(h:Jk u=false):pJ sh kvs bC≠u:=λz=>by
 subst z;unfold pJ at h;split at h<;>cases h
theorem ED(h:sh.xo=false):pJ sh kvs bC=.dT sh kvs bC:=kl (by grind)
def cJ(sh:Sh)(G:Hp)(ks:L Kx)(bC:L fh):Prop:=if sh.xo=true then ∀k∈ks,Jr sh k else dj G ks bC
def cJ.ll(e:au G G')(h:cJ sh G ks bs):cJ sh G' ks bs:=by
 unfold cJ at h |-
 split at h
 .grind
 .rename_i hi;rw[kl hi];exact h.ll e
def cJ.g(h:cJ sh G ks bs)(hi:sh.xo=false):dj G ks bs:=by
 simp_all [cJ]
def cJ.of(h:dj G ks bs)(hi:sh.xo=false):cJ sh G ks bs:=by
 simp_all [cJ]
def vk(fz:fJ)(G:Hp)(a:fh)(sh:Sh)(kvs:L (Kx×V))(bC:L fh):Prop:=if fz=true then ∃o,G a=O (.jn o (pJ sh kvs bC))else G a=O (pJ sh kvs bC)
def vk.ex(h:vk fz G a sh kvs bC):∃o,G a=O o:=by
 grind [vk]
def vk.ll(e:au G G')(h:vk fz G a sh kvs bC):vk fz G' a sh kvs bC:=by
 cases fz with
 |true=>let⟨o,h⟩:=h;exact⟨o,e _ _ h⟩
 |false=>exact e _ _ h
structure ig(G:Hp)(cl:L (eh×fh))(l:Lm)(zs:L V)(cs:Cs):Prop where
 sE:∀x y c,cl.fI x=O c->cl.fI y=O c->x=y
 Yk:∀x,(x,AW.nL)∈l.fj.lH->∃c,cl.fI x=O c
 oP:∀x c,cl.fI x=O c->∃o,cs.fI c=O o
 rQ:∀c o,cs.fI c=O o->G c=O (lW o)/\∃v,o.lg=.mZ v
 tN:∀(i:dt) y z,l.nf[i]?=O y->zs[i]?=O z->∃c o u,cl.fI y=O c/\cs.fI c=O o/\o.lg=.mZ (O u)/\ot z u
 oO:zs.J=l.nf.J
theorem ig.ll(e:au G G')(h:ig G cl l zs cs):ig G' cl l zs cs:=⟨h.sE,h.Yk,h.oP,λc o q=>⟨e _ _ (h.rQ c o q).1,(h.rQ c o q).2⟩,h.tN,h.oO⟩
def BI(G:Hp)(l:Lm)(cl:L (eh×fh))(f:fh):Prop:=∃pm c' gT,G f=O (uS (_H "<lambda>" l.n0 l.p7 l.o3 l.fj cl pm c' gT) l.n0 c')
inductive sL(v:V)(P Q:fh->L V->Prop):Prop where
 |mk (a:fh) (xs:L V) (h:v=.ei a) (p:P a xs) (q:Q a xs):sL v P Q
inductive sC(xs:L V)(P:V->Prop)(Q:L V->Prop):Prop where
 |mk (x:V) (r:L V) (h:xs=x::r) (p:P x) (q:Q r):sC xs P Q
mutual
noncomputable def Rep(K:Fg)(G:Hp):W->V->Prop
 |.aH,v=>v=.aH
 |.bl b,v=>v=.bl b
 |.int i,v=>v=.int i
 |.str x,v=>v=.str x
 |.tup ws,v=>sL v (c6 K G) λ_ xs=>aq K G ws xs
 |.lst ws,v=>sL v (cG K G) λ_ xs=>aq K G ws xs
 |.exc c,v=>∃e,v=.ref e/\G e=some (oC e c)
 |.ba kvs,v=>∃e,v=.ref e/\G e=some (dO kvs)
 |.dw fz sh ks ws,v=>∃a kvs bC,v=.ref a/\vk fz G a sh kvs bC/\kvs.map (·.1)=ks/\cJ sh G ks bC/\aq K G ws (kvs.map (·.2))
 |.fn _ l ws,v=>∃f cl zs cs,v=.ref f/\BI G l cl f/\ig G cl l zs cs/\aq K G ws zs
noncomputable def aq(K:Fg)(G:Hp):List W->List V->Prop
 |[],xs=>xs=[]
 |w::ws,xs=>sC xs (Rep K G w) (aq K G ws)
end
mutual
theorem Rep.mono{K:Fg}{G G':Hp}(e:au G G'):∀(w:W){v:V},Rep K G w v->Rep K G' w v
 |.aH,v,h=>h
 |.bl b,v,h=>h
 |.int i,v,h=>h
 |.str x,v,h=>h
 |.tup ws,v,h=>by
  let⟨a,xs,rfl,q,r⟩:=h;exact⟨a,xs,rfl,e.tup q,aq.mono e ws r⟩
 |.lst ws,v,h=>by
  let⟨a,xs,rfl,q,r⟩:=h;exact⟨a,xs,rfl,e.seq q,aq.mono e ws r⟩
 |.exc c,v,h=>by
  let⟨a,rfl,q⟩:=h;exact⟨a,rfl,e _ _ q⟩
 |.ba kvs,v,h=>by
  let⟨a,rfl,q⟩:=h;exact⟨a,rfl,e _ _ q⟩
 |.dw fz sh ks ws,v,h=>by
  let⟨a,kvs,bC,rfl,h1,h2,h3,h4⟩:=h;exact⟨a,kvs,bC,rfl,h1.mono e,h2,h3.mono e,aq.mono e ws h4⟩
 |.fn i l ws,v,h=>by
  let⟨f,cl,zs,cs,rfl,⟨pm,c',gT,h1⟩,h2,h3⟩:=h;exact⟨f,cl,zs,cs,rfl,⟨pm,c',gT,e _ _ h1⟩,h2.mono e,aq.mono e ws h3⟩
theorem aq.mono{K:Fg}{G G':Hp}(e:au G G'):∀(ws:List W){xs:List V},aq K G ws xs->aq K G' ws xs
 |[],xs,h=>h
 |w::ws,xs,h=>by
  let⟨x,r,rfl,h1,h2⟩:=h;exact⟨x,r,rfl,Rep.mono e w h1,aq.mono e ws h2⟩
end
theorem aq.J:∀{ws:L W}{xs:L V},aq K G ws xs->xs.J=ws.J
 |[],xs,h=>by cases h;rfl
 |w::ws,xs,h=>by
  let⟨x,r,rfl,_,h2⟩:=h;simp[aq.J h2]
theorem aq.BX:∀{ws:L W}{xs:L V}{i:dt}{w:W},aq K G ws xs->ws[i]?=O w->∃x,xs[i]?=O x/\nQ K G w x
 |[],xs,i,w,h,e=>by simp at e
 |w'::ws,xs,0,w,h,e=>by
  let⟨x,r,rfl,h1,h2⟩:=h;simp at e;subst e;exact⟨x,rfl,h1⟩
 |w'::ws,xs,i+1,w,h,e=>by
  let⟨x,r,rfl,h1,h2⟩:=h;let⟨y,e1,e2⟩:=aq.BX (i:=i) h2 (by simpa using e);exact⟨y,by simpa using e1,e2⟩
theorem aq.lZ:∀{ws:L W}{xs:L V}{i:dt}{x:V},aq K G ws xs->xs[i]?=O x->∃w,ws[i]?=O w/\nQ K G w x:=λ{ws xs i x} h e=>by
 have hl:=h.J;have hi:i<xs.J:=(w0c.mp e).1;have e2:ws[i]?=O ws[i]:=w0a (by omega);let⟨y,e3,r⟩:=h.BX e2;rw[e]at e3;cases e3;exact⟨_,e2,r⟩
theorem aq.N':∀{ws ws':L W}{xs iS:L V},aq K G ws xs->aq K G ws' iS->aq K G (ws++ws') (xs++iS)
 |[],ws',xs,iS,h,h'=>by cases h;exact h'
 |w::ws,ws',xs,iS,h,h'=>by
  let⟨x,r,rfl,h1,h2⟩:=h;exact⟨x,r++iS,rfl,h1,aq.N' h2 h'⟩
theorem aq.WS{x:V}(h:nQ K G w x):aq K G [w] [x]:=⟨x,[],rfl,h,rfl⟩
theorem aq.n5:∀(n:dt){ws:L W}{xs:L V},aq K G ws xs->aq K G (ws.n5 n) (xs.n5 n)
 |0,_,_,_=>rfl
 |n+1,[],_,h=>by cases h;rfl
 |n+1,w::ws,_,h=>by
  let⟨x,r,rfl,h1,h2⟩:=h;exact⟨x,r.n5 n,rfl,h1,aq.n5 n h2⟩
theorem aq.m9:∀(n:dt){ws:L W}{xs:L V},aq K G ws xs->aq K G (ws.m9 n) (xs.m9 n)
 |0,_,_,h=>h
 |n+1,[],_,h=>by cases h;rfl
 |n+1,w::ws,_,h=>by
  let⟨x,r,rfl,h1,h2⟩:=h;exact aq.m9 n h2
def aq.YQ(h:aq K G ws xs):aq K G ws.YQ xs.YQ:=by
 rw[w5q,w5q,h.J];exact h.n5 _
theorem aq.wd:∀{ws:L W}{xs:L V},aq K G ws xs->aq K G ws.wd xs.wd
 |[],_,h=>by cases h;rfl
 |w::ws,_,h=>by
  let⟨x,r,rfl,h1,h2⟩:=h;rw[w2c,w2c];exact(aq.wd h2).N' (.WS h1)
theorem aq.my:∀(i:dt){ws:L W}{xs:L V}{w:W}{x:V},aq K G ws xs->nQ K G w x->aq K G (ws.my i w) (xs.my i x)
 |_,[],_,_,_,h,_=>by cases h;rfl
 |0,w'::ws,_,w,x,h,q=>by
  let⟨y,r,rfl,h1,h2⟩:=h;exact⟨x,r,rfl,q,h2⟩
 |i+1,w'::ws,_,w,x,h,q=>by
  let⟨y,r,rfl,h1,h2⟩:=h;exact⟨y,r.my i x,rfl,h1,aq.my i h2 q⟩
structure Zt where
 H:Hp
 G:Hp
 io:L fh
variable{Z:Zt}
def fP(K:Fg)(Z:Zt)(G:Hp)(sh:Sh)(ws:L W)(vs:L V):Prop:=aq K G ws vs
theorem fP.rG(h:fP K Z G sh ws vs):aq K G ws vs:=h
theorem fP.of(hs:sh.Jl=false)(h:aq K G ws vs):fP K Z G sh ws vs:=h
theorem fP._x{Z':Zt}{G':Hp}{sh:Sh}(h:fP K Z G sh ws vs)(sg:au G G')(hz:∀a o,G a=O o->Z.H a=none->Z'.H a=none):fP K Z' G' sh ws vs:=aq.ll sg ws h
inductive jX(K:Fg)(Z:Zt)(G H:Hp)(sh:Sh)(ks:L Kx)(ws:L W)(v:fG V):Prop where
 |mk (a:fh) (kvs:L (Kx×V)) (bC:L fh) (h1:v=O (.ei a)) (h2:H a=O (pJ sh kvs bC)) (h3:G a=none) (h4:Z.H a=none) (h5:kvs.ej (·.1)=ks) (h6:cJ sh G ks bC) (h7:fP K Z G sh ws (kvs.ej (·.2))):jX K Z G H sh ks ws v
def jX._x{Z':Zt}{G' H':Hp}{sh:Sh}{ks:L Kx}{v:fG V}(q:jX K Z G H sh ks ws v)(sg:au G G')(hf:∀a kvs bC,H a=O (pJ sh kvs bC)->G a=none->Z.H a=none->H' a=O (pJ sh kvs bC)/\G' a=none/\Z'.H a=none)(hz:∀a o,G a=O o->Z.H a=none->Z'.H a=none:=by intro _ _ _ z;exact z):jX K Z' G' H' sh ks ws v:=by
 let⟨a,kvs,bC,h1,h2,h3,h4,h5,h6,h7⟩:=q;let⟨k1,k2,k3⟩:=hf a kvs bC h2 h3 h4;exact⟨a,kvs,bC,h1,k1,k2,k3,h5,h6.ll sg,h7._x sg hz⟩
def vo(Z:Zt):fG dt->fh->Prop
 |none,a=>Z.H a=none
 |O j,a=>Z.io[j]?=O a
def vo.io(h:vo Z b a):a∈Z.io\/Z.H a=none:=by
 cases b with
 |none=>exact .j' h
 |O j=>exact .h8 (w1m h)
inductive wU(K:Fg)(Z:Zt)(G H:Hp)(b:fG dt)(ws:L W)(v:fG V):Prop where
 |mk (a:fh) (xs:L V) (h1:v=O (.ei a)) (h2:H a=O (.fy xs)) (h3:G a=none) (h4:vo Z b a) (h5:aq K G ws xs):wU K Z G H b ws v
inductive wM(Z:Zt)(G H:Hp)(kvs:Dd)(v:fG V):Prop where
 |mk (a:fh) (h1:v=O (.ei a)) (h2:H a=O (dO kvs)) (h3:G a=none) (h4:Z.H a=none):wM Z G H kvs v
def fQ(K:Fg)(Z:Zt)(G H:Hp):S->fG V->Prop
 |.no,_=>w7
 |.fr w,v=>∃u,v=O u/\nQ K G w u
 |.gD b ws,v=>wU K Z G H b ws v
 |.ba kvs,v=>wM Z G H kvs v
 |.dw sh ks ws,v=>jX K Z G H sh ks ws v
structure m_(K:Fg)(Z:Zt)(G:Hp)(σ:St)(H:Hp)(e:L S):Prop where
 mI:au G H
 r5:∀(i:dt)(s:S),e[i]?=O s->fQ K Z G H s (σ[i]?.mF none)
 oO:e.J=σ.J
 mR:∀(i j:dt)(b b':fG dt)(ws ws':L W)(a:fh),e[i]?=O (.gD b ws)->e[j]?=O (.gD b' ws')->σ[i]?=O (O (.ei a))->σ[j]?=O (O (.ei a))->i=j
 Ww:∀a o,Z.H a=O o->a∉Z.io->H a=O o
 mD:∀a∈Z.io,H a≠none
 gen:∀a,Z.H a≠none->G a=Z.G a
inductive vh(K:Fg)(Z:Zt)(σ:St)(H:Hp)(P:Hp->L S->Prop):Prop where
 |mk (G:Hp) (e:L S) (r:m_ K Z G σ H e) (h:P G e):vh K Z σ H P
structure bc(G H G' H':Hp):Prop where
 hh:au H H'
 gg:au G G'
 mI:au G' H'
 rZ:∀a,H a≠none->G' a=G a
theorem bc.oQ(s:au G H):bc G H G H:=⟨.oQ _,.oQ _,s,λ_ _=>rfl⟩
theorem bc.iD(x:bc G H G1 H1)(y:bc G1 H1 G2 H2):bc G H G2 H2:=
 ⟨x.hh.iD y.hh,x.gg.iD y.gg,y.mI,λa h=>by
  rw[y.rZ a,x.rZ a h];cases q:H a with
  |none=>exact nS q h
  |O o=>rw[x.hh a o q];simp⟩
def y1z(e:au H H')(h:H a≠none):H' a≠none:=by
 cases q:H a with
 |none=>exact nS q h
 |O o=>rw[e a o q];simp
theorem bc.wg(s:au G H){D:fh}(h:H D=none)(o:HO):bc G H (l5 G D o) (l5 H D o) where
 hh:=v7 h o
 gg:=v7 (s.nL h) o
 mI:=λb u e=>by
  by_cases hb:b=D
  .subst hb;rw[cI]at e |-;exact e
  .rw[bg hb]at e |-;exact s b u e
 rZ:=λa ha=>by rw[bg (λz=>ha (by rw[z];exact h))]
theorem bc.pM(s:au G H)(h:H D=none)(o):bc G H G (l5 H D o) where
 hh:=v7 h o
 gg:=.oQ _
 mI:=λb u e=>by
  have:=s b u e;rw[bg (gQ this h)];exact this
 rZ:=λa ha=>rfl
theorem m_.wq(r:m_ K Z G σ H e)(g:bc G H G' H'):m_ K Z G' σ H' e where
 mI:=g.mI
 r5:=λi s h=>by
  have q:=r.r5 i s h;cases s with
  |no=>trivial
  |fr w=>
   let⟨u,h1,h2⟩:=q;exact⟨u,h1,nQ.ll g.gg w h2⟩
  |gD b ws=>
   let⟨a,xs,h1,h2,h3,h4,h5⟩:=q;exact⟨a,xs,h1,g.hh _ _ h2,by rw[g.rZ a (by rw[h2];simp)];exact h3,h4,aq.ll g.gg ws h5⟩
  |ba kvs=>
   let⟨a,h1,h2,h3,h4⟩:=q;exact⟨a,h1,g.hh _ _ h2,by rw[g.rZ a (by rw[h2];simp)];exact h3,h4⟩
  |dw sh ks ws=>exact jX._x q g.gg λl o ys h1 h2 h3=>⟨g.hh _ _ h1,by rw[g.rZ l (by rw[h1];simp)];exact h2,h3⟩
 oO:=r.oO
 mR:=r.mR
 Ww:=λa o h n=>g.hh _ _ (r.Ww a o h n)
 mD:=λa h=>y1z g.hh (r.mD a h)
 gen:=λa h=>by
  have:H a≠none:=by
   cases q:Z.H a with
   |none=>exact nS q h
   |O o=>
    by_cases hi:a∈Z.io
    .exact r.mD a hi
    .rw[r.Ww a o q hi];simp
  rw[g.rZ a this];exact r.gen a h
def m_.gD(r:m_ K Z G σ H e){i:dt}{b:fG dt}(h:e[i]?=O (.gD b ws)):∃a xs,σ[i]?=O (O (.ei a))/\H a=O (.fy xs)/\G a=none/\(vo Z b a)/\aq K G ws xs:=by
 let⟨a,xs,h1,h2,h3,h4,h5⟩:=r.r5 i _ h;refine⟨a,xs,?_,h2,h3,h4,h5⟩;cases q:σ[i]? with
 |none=>rw[q]at h1;cases h1
 |O z=>rw[q]at h1;rw[show z=O (V.ei a)from h1]
def m_.fr(r:m_ K Z G σ H e){w:W}(h:e[i]?=O (.fr w)):∃v,σ[i]?=O (O v)/\nQ K G w v:=by
 let⟨v,h1,h2⟩:=r.r5 i _ h;refine⟨v,?_,h2⟩;cases q:σ[i]? with
 |none=>rw[q]at h1;cases h1
 |O z=>rw[q]at h1;rw[show z=O v from h1]
def m_.at(r:m_ K Z G σ H e){s:S}{v:V}(h:e[i]?=O s)(hs:fQ K Z G H s (σ[i]?.mF none)->σ[i]?.mF none=O v):σ[i]?=O (O v):=by
 have h1:=hs (r.r5 i _ h);cases q:σ[i]? with
 |none=>rw[q]at h1;cases h1
 |O z=>rw[q]at h1;rw[show z=O v from h1]
def m_.mut(r:m_ K Z G σ H e){i:dt}{b:fG dt}{ws':L W}{iS:L V}(h:e[i]?=O (.gD b ws))(ha:σ[i]?=O (O (.ei a)))(q:aq K G ws' iS):m_ K Z G σ (l5 H a (.fy iS)) (e.my i (.gD b ws')):=by
 let⟨a',xs,h1,h2,h3,h4,h5⟩:=r.gD h;rw[ha]at h1;cases h1;have hi:i<e.J:=(w0c.mp h).1;refine⟨λc o z=>?_,λj s z=>?_,by simpa using r.oO,λj k b1 b2 w1 w2 c z1 z2 z3 z4=>?_,λc o z n=>?_,λc z=>?_,r.gen⟩
 .rw[bg (gQ z h3)];exact r.mI c o z
 .by_cases hj:j=i
  .subst hj;rw[w0t hi]at z;cases z;exact⟨a,iS,by rw[ha];rfl,cI,h3,h4,q⟩
  .rw[w0o (λz=>hj z.symm)]at z
   have y:=r.r5 j s z;cases s with
   |no=>trivial
   |fr w=>exact y
   |gD b2 w2=>
    let⟨c,ys,y1,y2,y3,y4,y5⟩:=y;refine⟨c,ys,y1,?_,y3,y4,y5⟩;rw[bg];exact y2;rintro rfl;let⟨c',_,z1,_⟩:=r.gD z;rw[z1]at y1;cases y1;exact hj (r.mR j i _ _ _ _ _ z h z1 ha)
   |ba kvs=>
    let⟨c,y1,y2,y3,y4⟩:=y;refine⟨c,y1,?_,y3,y4⟩;rw[bg (qr y2 h2 (Ak rfl))];exact y2
   |dw sh ks ws=>exact jX._x y (.oQ _) λl o ys k1 k2 k3=>⟨by rw[bg (qr k1 h2 (Ai rfl))];exact k1,k2,k3⟩
 .have tB:∀(k:dt)(bb:fG dt)(ww:L W),(e.my i (S.gD b ws'))[k]?=O (.gD bb ww)->∃b' w',e[k]?=O (.gD b' w'):=λk bb ww z=>by
   by_cases hk:k=i
   .subst hk;exact⟨_,_,h⟩
   .rw[w0o (λz=>hk z.symm)]at z;exact⟨_,_,z⟩
  let⟨_,_,q1⟩:=tB _ _ _ z1;let⟨_,_,q2⟩:=tB _ _ _ z2;exact r.mR _ _ _ _ _ _ _ q1 q2 z3 z4
 .by_cases hc:c=a
  .subst hc;exfalso;rcases h4.io with h4|h4
   .exact n h4
   .rw[h4]at z;cases z
  .rw[bg hc];exact r.Ww c o z n
 .by_cases hc:c=a
  .subst hc;rw[cI];simp
  .rw[bg hc];exact r.mD c z
def m_.ŉ(r:m_ K Z G σ H e)(h:e[i]?=O (.gD none ws)):∃v G',σ[i]?=O (O v)/\au G G'/\nQ K G' (.fy ws) v/\m_ K Z G' σ H (e.my i (.fr (.fy ws))):=by
 let⟨a,xs,h1,h2,h3,h4,h5⟩:=r.gD h;have h4:Z.H a=none:=h4;have sg:au G (l5 G a (.fy xs)):=v7 h3 _;have hi:i<e.J:=(w0c.mp h).1;have rp:nQ K (l5 G a (.fy xs)) (.fy ws) (.ei a):=⟨a,xs,rfl,cG.of cI,aq.ll sg ws h5⟩;refine⟨.ei a,l5 G a (.fy xs),h1,sg,rp,⟨λc o z=>?_,λj s z=>?_,by simpa using r.oO,λj k b1 b2 w1 w2 c z1 z2 z3 z4=>?_,r.Ww,r.mD,λc z=>?_⟩⟩
 .by_cases hc:c=a
  .grind [cI]
  .rw[bg hc]at z;exact r.mI c o z
 .by_cases hj:j=i
  .subst hj;rw[w0t hi]at z;cases z;exact⟨.ei a,by rw[h1];rfl,rp⟩
  .rw[w0o (λz=>hj z.symm)]at z
   have y:=r.r5 j s z;cases s with
   |no=>trivial
   |fr w=>
    let⟨u,y1,y2⟩:=y;exact⟨u,y1,nQ.ll sg w y2⟩
   |gD b2 w2=>
    let⟨c,ys,y1,y2,y3,y4,y5⟩:=y;refine⟨c,ys,y1,y2,?_,y4,aq.ll sg w2 y5⟩;rw[bg];exact y3;rintro rfl;let⟨c',_,z1,_⟩:=r.gD z;rw[z1]at y1;cases y1;exact hj (r.mR j i _ _ _ _ _ z h z1 h1)
   |ba kvs=>
    let⟨c,y1,y2,y3,y4⟩:=y;refine⟨c,y1,y2,?_,y4⟩;rw[bg (qr y2 h2 (Ak rfl))];exact y3
   |dw sh ks ws=>exact jX._x y sg λl o ys k1 k2 k3=>⟨k1,by rw[bg (qr k1 h2 (Ai rfl))];exact k2,k3⟩
 .have tB:∀(k:dt)(bb:fG dt)(ww:L W),(e.my i (S.fr (W.fy ws)))[k]?=O (.gD bb ww)->e[k]?=O (.gD bb ww):=λk bb ww z=>by
   grind
  exact r.mR _ _ _ _ _ _ _ (tB _ _ _ z1) (tB _ _ _ z2) z3 z4
 .by_cases hc:c=a
  .grind
  .rw[bg hc];exact r.gen c z
def kT(σ:St)(e:L S)(a:fh):Prop:=∀(j:dt)(b:fG dt)(ws:L W),e[j]?=O (.gD b ws)->σ[j]?≠O (O (.ei a))
def m_.my(r:m_ K Z G σ H e){w:W}{v:V}(q:nQ K G w v):m_ K Z G (σ.my i (O v)) H (e.my i (.fr w)):=by
 refine⟨r.mI,λj s z=>?_,by simpa using r.oO,λj k b1 b2 w1 w2 c z1 z2 z3 z4=>?_,r.Ww,r.mD,r.gen⟩
 .by_cases hj:j=i
  .subst hj
   have hi:j<e.J:=by
    have:=(w0c.mp z).1;simpa using this
   rw[w0t hi]at z;cases z;rw[w0t (by rw[<- r.oO];exact hi)];exact⟨v,rfl,q⟩
  .rw[w0o (λz=>hj z.symm)]at z |-
   exact r.r5 j s z
 .have tB:∀(k:dt)(bb:fG dt)(ww:L W),(e.my i (S.fr w))[k]?=O (.gD bb ww)->k≠i/\e[k]?=O (.gD bb ww):=λk bb ww z=>by
   by_cases hk:k=i
   .subst hk
    have hi:k<e.J:=by
     have:=(w0c.mp z).1;simpa using this
    rw[w0t hi]at z;cases z
   .rw[w0o (λz=>hk z.symm)]at z;exact⟨hk,z⟩
  let⟨n1,q1⟩:=tB _ _ _ z1;let⟨n2,q2⟩:=tB _ _ _ z2;rw[w0o (λz=>n1 z.symm)]at z3
  rw[w0o (λz=>n2 z.symm)]at z4
  exact r.mR _ _ _ _ _ _ _ q1 q2 z3 z4
def m_.Ar(r:m_ K Z G σ H e){xs:L V}(h2:H a=O (.fy xs))(h3:G a=none)(h4:Z.H a=none)(hf:kT σ e a)(q:aq K G ws xs):m_ K Z G (σ.my i (O (.ei a))) H (e.my i (.gD none ws)):=by
 refine⟨r.mI,λj s z=>?_,by simpa using r.oO,λj k b1 b2 w1 w2 c z1 z2 z3 z4=>?_,r.Ww,r.mD,r.gen⟩
 .by_cases hj:j=i
  .subst hj
   have hi:j<e.J:=by
    have:=(w0c.mp z).1;simpa using this
   rw[w0t hi]at z;cases z;rw[w0t (by rw[<- r.oO];exact hi)];exact⟨a,xs,rfl,h2,h3,h4,q⟩
  .rw[w0o (λz=>hj z.symm)]at z |-
   exact r.r5 j s z
 .have both:∀(k:dt)(bb:fG dt)(ww:L W),(e.my i (S.gD none ws))[k]?=O (.gD bb ww)->(σ.my i (O (.ei a)))[k]?=O (O (.ei c))->(k=i/\c=a)\/(k≠i/\e[k]?=O (.gD bb ww)/\σ[k]?=O (O (.ei c))/\c≠a):=λk bb ww z y=>by
   by_cases hk:k=i
   .subst hk
    have hi:k<e.J:=by
     have:=(w0c.mp z).1;simpa using this
    rw[w0t (by rw[<- r.oO];exact hi)]at y;cases y;exact .h8 ⟨rfl,rfl⟩
   .rw[w0o (λz=>hk z.symm)]at z y
    exact .j' ⟨hk,z,y,λe=>hf k bb ww z (by rw[y,e])⟩
  rcases both _ _ _ z1 z3 with⟨e1,c1⟩|⟨n1,q1,p1,c1⟩<;>rcases both _ _ _ z2 z4 with⟨e2,c2⟩|⟨n2,q2,p2,c2⟩
  .rw[e1,e2]
  .exact nS c1 c2
  .exact nS c2 c1
  .exact r.mR _ _ _ _ _ _ _ q1 q2 p1 p2
set_option genInjectivity true in
inductive R(α:Type) where
 |ok (a:α) (e:L S)|ex (c:e5) (e:L S)|no
abbrev gF(α:Type):=L S->R α
variable{dA:gF (L W)}
def R.nR{α β:Type}:R α->(α->L S->R β)->R β
 |.ok a e,k=>k a e
 |.ex c e,_=>.ex c e
 |.no,_=>.no
def R.yt(r:R α)(P:α->L S->Prop)(E:e5->L S->Prop):Prop:=match r with
 |.ok a e=>P a e
 |.ex c e=>E c e
 |.no=>pV
def R.ak{r:R α}{P:β->L S->Prop}:(r.nR k).yt P E↔r.yt (λa e=>(k a e).yt P E) E:=by
 cases r<;>rfl
def R.yt.pQ{r:R α}(h:r.yt P E)(p:∀a e,P a e->P' a e)(x:∀c e,E c e->E' c e):r.yt P' E':=by
 cases r with
 |ok a e=>exact p a e h
 |ex c e=>exact x c e h
 |no=>exact h
def bS(o:fG α)(e:L S):R α:=match o with
 |O a=>.ok a e
 |none=>.no
def bq{P:α->L S->Prop}:(bS o e).yt P E↔∃a,o=O a/\P a e:=by
 cases o with
 |none=>exact⟨λh=>h.ke,fun⟨_,h,_⟩=>nomatch h⟩
 |O a=>exact⟨λh=>⟨a,rfl,h⟩,fun⟨_,h,q⟩=>by cases h;exact q⟩
set_option genInjectivity true in
inductive SR where
 |nx (e:L S)|rt (s:S) (e:L S)|bk (e:L S)|ct (e:L S)|ex (c:e5) (e:L S)|no
section
variable(K:Fg)(Z:Zt)(EE:L2.St->XK)
abbrev XH(σ:St)(G:Hp):e5->L S->Prop:=λc e'=>∀G' H',m_ K Z G' σ H' e'->au G G'->EE σ c none H'
def f7(d:gF W):TE:=λσ H Q=>vh K Z σ H λG e=>(d e).yt (λw e'=>∀G' v H',m_ K Z G' σ H' e'->au G G'->nQ K G' w v->Q v H') (XH K Z EE σ G)
def qe(d:gF (L W)):TA:=λσ H Q=>vh K Z σ H λG e=>(d e).yt (λws e'=>∀G' vs H',m_ K Z G' σ H' e'->au G G'->aq K G' ws vs->Q vs H') (XH K Z EE σ G)
def Zy(d:gF fJ):TT:=λσ H Q=>vh K Z σ H λG e=>(d e).yt (λb e'=>∀G' H',m_ K Z G' σ H' e'->au G G'->Q b H') (XH K Z EE σ G)
def nh(d:gF (L W)):TE:=λσ H Q=>vh K Z σ H λG e=>(d e).yt (λws e'=>∀G' a xs H',m_ K Z G' σ H' e'->au G G'->H' a=O (.fy xs)->G' a=none->Z.H a=none->kT σ e' a->aq K G' ws xs->Q (.ei a) H') (XH K Z EE σ G)
def bx(D:Z1)(G:Hp):SR->Prop
 |.nx e'=>∀G' aN H',m_ K Z G' aN H' e'->au G G'->D.nx aN H'
 |.bk e'=>∀G' aN H',m_ K Z G' aN H' e'->au G G'->D.bk aN H'
 |.ct e'=>∀G' aN H',m_ K Z G' aN H' e'->au G G'->D.ct aN H'
 |.rt s e'=>∀G' aN v H',m_ K Z G' aN H' e'->au G G'->fQ K Z G' H' s (O v)->D.rt v H'
 |.ex c e'=>∀G' aN H',m_ K Z G' aN H' e'->au G G'->EE aN c none H'
 |.no=>pV
def eE(d:L S->SR):TS:=λD σ H=>vh K Z σ H λG e=>bx K Z EE D G (d e)
end
section
variable(Z:Zt)(X:Cx)(EE:L2.St->XK)
def DE(e:l_)(d:gF W):Prop:=PE X e (f7 X.K Z EE d)
def DF(e:l_)(d:gF (L W)):Prop:=PE X e (nh X.K Z EE d)
def DT(e:l_)(d:gF fJ):Prop:=PT X e (Zy X.K Z EE d)
def DW(e:l_)(d:gF fJ):Prop:=PW X e (Zy X.K Z EE d)
def DA(es:L l_)(d:gF (L W)):Prop:=PA X es (qe X.K Z EE d)
def DS(st:vv)(d:L S->SR):Prop:=PS X st (eE X.K Z EE d)
def kO(sv:L vv)(d:L S->SR):Prop:=kP X sv (eE X.K Z EE d)
end
theorem PE.ll{e:kd.l_}(h:PE X e t)(i:∀σ H Q,t' σ H Q->t σ H Q):PE X e t':=λeS s σ H Q I q=>h eS s σ H Q I (i σ H Q q)
theorem PT.ll{e:kd.l_}(h:PT X e t)(i:∀σ H Q,t' σ H Q->t σ H Q):PT X e t':=λeS s σ H Q I q=>h eS s σ H Q I (i σ H Q q)
theorem PW.ll{e:kd.l_}(h:PW X e t)(i:∀σ H Q,t' σ H Q->t σ H Q):PW X e t':=λwh eS s σ H Q I q=>h wh eS s σ H Q I (i σ H Q q)
theorem PA.ll(h:PA X es t)(i:∀σ H Q,t' σ H Q->t σ H Q):PA X es t':=λp eS s σ H Q I q=>h p eS s σ H Q I (i σ H Q q)
theorem PS.ll(h:PS X st t)(i:∀D σ H,t' D σ H->t D σ H):PS X st t':=λeS s σ H D I q=>h eS s σ H D I (i D σ H q)
theorem kP.ll(h:kP X st t)(i:∀D σ H,t' D σ H->t D σ H):kP X st t':=λeS s σ H D I q=>h eS s σ H D I (i D σ H q)
section
variable(K:Fg)
def iq(r:R2)(f:W->W->fG W):Prop:=∀(G H:Hp)(x y:V)(wx wy w:W)(Q:VK),au G H->nQ K G wx x->nQ K G wy y->f wx wy=O w->(∀G' v H',bc G H G' H'->nQ K G' w v->Q v H')->r x y H Q
def ER(r:V->Hp->VK->Prop)(f:W->fG W):Prop:=∀(G H:Hp)(x:V)(wx w:W)(Q:VK),au G H->nQ K G wx x->f wx=O w->(∀G' v H',bc G H G' H'->nQ K G' w v->Q v H')->r x H Q
def vp(r:L V->Hp->VK->Prop)(f:L W->fG W):Prop:=∀(G H:Hp)(xs:L V)(ws:L W)(w:W)(Q:VK),au G H->aq K G ws xs->f ws=O w->(∀G' v H',bc G H G' H'->nQ K G' w v->Q v H')->r xs H Q
end
def dC(w:W):gF W:=λe=>.ok w e
def ae(i:dt):gF W:=λe=>match e[i]? with
 |O (.fr w)=>.ok w e
 |O (.gD none ws)=>.ok (.fy ws) (e.my i (.fr (.fy ws)))
 |_=>.no
def ag(f:W->W->fG W)(da db:gF W):gF W:=λe=>(da e).nR λx e1=>(db e1).nR λy e2=>bS (f x y) e2
def jQ(f:W->fG W)(da:gF W):gF W:=λe=>(da e).nR λx e1=>bS (f x) e1
def av(da:gF W):gF fJ:=λe=>(da e).nR λx e1=>match x with
 |.bl k=>.ok k e1
 |_=>.no
def mr:W->fG fJ
 |.aH=>O false
 |.bl b=>O b
 |.d0 i=>O (i != 0)
 |.str x=>if x.J<=16777216 then O ((x.J:eW) != 0)else none
 |.ff xs=>O (!xs.yw)
 |.fy xs=>O (!xs.yw)
 |.zt _=>none
 |.ba _=>none
 |.dw _ _ _ _=>none
 |.fn _ _ _=>none
def e9(da:gF W):gF fJ:=λe=>(da e).nR λx e1=>bS (mr x) e1
def eY(a b:gF fJ):gF fJ:=λe=>(a e).nR λx e1=>if x=true then b e1 else .ok false e1
def kZ(a b:gF fJ):gF fJ:=λe=>(a e).nR λx e1=>if x=true then .ok true e1 else b e1
def j6(a:gF fJ):gF fJ:=λe=>(a e).nR λx e1=>.ok (!x) e1
def ix(a b:gF W):gF W:=λe=>(a e).nR λx e1=>match x with
 |.bl true=>b e1
 |.bl false=>.ok (.bl false) e1
 |_=>.no
def k8(a b:gF W):gF W:=λe=>(a e).nR λx e1=>match x with
 |.bl true=>.ok (.bl true) e1
 |.bl false=>b e1
 |_=>.no
def lC(a:gF W):gF W:=λe=>(a e).nR λx e1=>match x with
 |.bl k=>.ok (.bl (!k)) e1
 |_=>.no
def uO(c:gF fJ)(a b:gF W):gF W:=λe=>(c e).nR λx e1=>if x=true then a e1 else b e1
def af:gF (L W):=λe=>.ok [] e
def aa(a:gF W)(r:gF (L W)):gF (L W):=λe=>(a e).nR λx e1=>(r e1).nR λxs e2=>.ok (x::xs) e2
def bI(a:gF (L W)):gF W:=λe=>(a e).nR λxs e1=>if xs.J<=16777216 then .ok (.ff xs) e1 else .no
def cy(a:gF (L W)):gF (L W):=λe=>(a e).nR λxs e1=>if xs.J<=16777216 then .ok xs e1 else .no
def gv(a:gF (L W)):gF W:=λe=>(a e).nR λxs e1=>.ok (.fy xs) e1
def ck(f:L W->fG W)(a:gF (L W)):gF W:=λe=>(a e).nR λxs e1=>bS (f xs) e1
section
variable{X:Cx}{a b c e:l_}{da db:gF W}{ta:gF fJ}
theorem XH.iD{G1:Hp}(s:au G G1){c:e5}{e:L S}(h:XH K Z EE σ G c e):XH K Z EE σ G1 c e:=λG' H' r q=>h G' H' r (s.iD q)
theorem z7k{i:eW}{j fZ}:DE Z X EE (.Zo (.d0 i) j fZ) (dC (.d0 i)):=PE.ll Z9 λσ H Q ⟨G,e,r,h⟩=>h G (.d0 i) H r (.oQ _) rfl
theorem z0b{i:fJ}{j fZ}:DE Z X EE (.Zo (.rl i) j fZ) (dC (.bl i)):=PE.ll UU λσ H Q ⟨G,e,r,h⟩=>h G (.bl i) H r (.oQ _) rfl
theorem z7l{j fZ}:DE Z X EE (.Zo .none j fZ) (dC .aH):=PE.ll z6o λσ H Q ⟨G,e,r,h⟩=>h G .aH H r (.oQ _) rfl
theorem z7m{i:eh}{j fZ}:DE Z X EE (.Zo (.str i) j fZ) (dC (.str i)):=PE.ll Su λσ H Q ⟨G,e,r,h⟩=>h G (.str i) H r (.oQ _) rfl
def y6c:∀σ H Q,f7 K Z EE (ae i) σ H Q->uE i σ H Q:=by
 rintro σ H Q ⟨G,e,r,h⟩;unfold ae at h;split at h
 .rename_i w hw;let⟨v,h1,h2⟩:=r.fr hw;exact⟨v,h1,h G v H r (.oQ _) h2⟩
 .rename_i ws hw;let⟨v,G',h1,h2,h3,h4⟩:=r.ŉ hw;exact⟨v,h1,h G' v H h4 h2 h3⟩
 .exact h.ke
theorem dv(i:dt)(hN:fi (X.N[i]?=O x) jJ)(hv:fi (jy X.el.fj x) jM)(hd:fi ((x==("__debug__":eh))=false) jK)
  (dR:fi ((x==("__classdict__":eh))=false) jK):DE Z X EE (.je x fZ) (ae i):=PE.ll (pv i hN hv hd dR) y6c
def u9(hf:iq K r f):∀σ H Q,f7 K Z EE (ag f da db) σ H Q->Eo r (f7 K Z EE da) (f7 K Z EE db) σ H Q:=by
 rintro σ H Q ⟨G,e,iA,h⟩;simp only[ag,R.ak,bq]at h;refine⟨G,e,iA,h.pQ (λx e1 h G1 v1 H1 r1 s1 p1=>?_) λ_ _ h=>h⟩
 refine⟨G1,e1,r1,h.pQ (λy e2 h G2 v2 H2 r2 s2 p2=>?_) λ_ _ h=>XH.iD s1 h⟩
 let⟨w,hw,h⟩:=h;exact hf G2 H2 v1 v2 x y w Q r2.mI (nQ.ll s2 x p1) p2 hw λG' v H' g p=>h G' v H' (r2.wq g) ((s1.iD s2).iD g.gg) p
theorem xQ(ho:fM X (Zb op) r)(hf:iq X.K r f)(ha:DE Z X EE a da)(hb:DE Z X EE b db):DE Z X EE (._q a op b fZ) (ag f da db):=PE.ll (UZ ho ha hb) (u9 hf)
theorem Aj(ho:fM X (YO op) r)(hf:iq X.K r f)(ha:DE Z X EE a da)(hb:DE Z X EE b db)(hm:Y_ op b=false):DE Z X EE (.Vq a [op] [b] fZ) (ag f da db):=PE.ll (z02 ho ha hb hm) (u9 hf)
def Lk(h:Zy K Z EE (av da) σ H Q):f7 K Z EE da σ H (λx H'=>∃k,x=.bl k/\Q k H'):=by
 let⟨G,e,iA,h⟩:=h;simp only[av,R.ak]at h;refine⟨G,e,iA,h.pQ (λx e1 h G1 v1 H1 r1 s1 p1=>?_) λ_ _ h=>h⟩
 cases x with
 |bl k=>
  cases(show v1=V.bl k from p1);exact⟨k,rfl,h G1 H1 r1 s1⟩
 |_=>exact h.ke
theorem xK(ho:fM X (YO op) r)(hf:iq X.K r f)(ha:DE Z X EE a da)(hb:DE Z X EE b db)(hm:Y_ op b=false):DT Z X EE (.Vq a [op] [b] fZ) (av (ag f da db)):=
 PT.ll (z03 ho ha hb hm) λσ H Q h=>u9 hf σ H _ (Lk h)
def RG(hf:ER K r f):∀σ H Q,f7 K Z EE (jQ f da) σ H Q->Pd r (f7 K Z EE da) σ H Q:=by
 rintro σ H Q ⟨G,e,iA,h⟩;simp only[jQ,R.ak,bq]at h;refine⟨G,e,iA,h.pQ (λx e1 h G1 v1 H1 r1 s1 p1=>?_) λ_ _ h=>h⟩
 let⟨w,hw,h⟩:=h;exact hf G1 H1 v1 x w Q r1.mI p1 hw λG' v H' g p=>h G' v H' (r1.wq g) (s1.iD g.gg) p
theorem U3(ho:BS X (ų op) r)(hf:ER X.K r f)(ha:DE Z X EE a da):DE Z X EE (._Y op a fZ) (jQ f da):=PE.ll (U0 ho ha) (RG hf)
def z7n(s:au G H)(h:nQ K G w v)(e:mr w=O k):ym K v H k:=by
 cases w with
 |aH=>cases(show v=.aH from h);cases e;rfl
 |bl b=>cases(show v=.bl b from h);cases e;rfl
 |d0 i=>cases(show v=.d0 i from h);cases e;rfl
 |str x=>
  cases(show v=.str x from h);simp only[mr]at e;split at e
  .cases e;exact⟨by grind [vN],rfl⟩
  .cases e
 |ff ws=>
  let⟨p,xs,rfl,q,r⟩:=h;cases e;refine .j' (.h8 ⟨xs,s.ff q,?_⟩);have:=r.J
  grind
 |fy ws=>
  let⟨p,xs,rfl,q,r⟩:=h;cases e;refine .h8 ⟨xs,s.mx q,?_⟩;have:=r.J
  grind
 |zt _=>cases e
 |ba _=>cases e
 |dw _ _ _ _=>cases e
 |fn _ _ _=>cases e
def GH(ha:DE Z X EE a da)(he:∀_m,ϱ a X.el _m=(do let v <- _m;ϸ a.fZ;Ξ [v] (Ű v)):=by intro _;rfl):DT Z X EE a (e9 da):=by
 refine PT.ll (y50 ha he) ?_;rintro σ H Q ⟨G,e,iA,h⟩;simp only[e9,R.ak,bq]at h;refine⟨G,e,iA,h.pQ (λx e1 h G1 v1 H1 r1 s1 p1=>?_) λ_ _ h=>h⟩
 let⟨k,hk,h⟩:=h;exact⟨k,z7n r1.mI p1 hk,h G1 H1 r1 s1⟩
def y6d:∀σ H Q,Zy K Z EE (eY ta tb) σ H Q->Eg (Zy K Z EE ta) (Zy K Z EE tb) σ H Q:=by
 rintro σ H Q ⟨G,e,iA,h⟩;simp only[eY,R.ak]at h;refine⟨G,e,iA,h.pQ (λx e1 h G1 H1 r1 s1=>?_) λ_ _ h=>h⟩
 cases x with
 |true=>exact⟨G1,e1,r1,R.yt.pQ (show(tb e1).yt _ _ from h) (λy e2 h G2 H2 r2 s2=>h G2 H2 r2 (s1.iD s2)) λ_ _ h=>XH.iD s1 h⟩
 |false=>exact(show ∀G' H',_->_->Q false H' from h) G1 H1 r1 s1
def z1h:∀σ H Q,Zy K Z EE (kZ ta tb) σ H Q->Pc (Zy K Z EE ta) (Zy K Z EE tb) σ H Q:=by
 rintro σ H Q ⟨G,e,iA,h⟩;simp only[kZ,R.ak]at h;refine⟨G,e,iA,h.pQ (λx e1 h G1 H1 r1 s1=>?_) λ_ _ h=>h⟩
 cases x with
 |false=>exact⟨G1,e1,r1,R.yt.pQ (show(tb e1).yt _ _ from h) (λy e2 h G2 H2 r2 s2=>h G2 H2 r2 (s1.iD s2)) λ_ _ h=>XH.iD s1 h⟩
 |true=>exact(show ∀G' H',_->_->Q true H' from h) G1 H1 r1 s1
theorem z1i(ha:DT Z X EE a ta):DW Z X EE (.Yb ._p [a] fZ) ta:=z0w ha
theorem Z2(ha:DT Z X EE a ta):DW Z X EE (.Yb .Or [a] fZ) ta:=z6q ha
theorem z7o{oM:L l_}(ha:DT Z X EE a ta)(hb:DW Z X EE (.Yb ._p (b::oM) fZ) tb):DW Z X EE (.Yb ._p (a::b::oM) fZ) (eY ta tb):=PW.ll (z6r ha hb) y6d
theorem MS{oM:L l_}(ha:DT Z X EE a ta)(hb:DW Z X EE (.Yb .Or (b::oM) fZ) tb):DW Z X EE (.Yb .Or (a::b::oM) fZ) (kZ ta tb):=PW.ll (UW ha hb) z1h
theorem HM(h:DW Z X EE a ta):DT Z X EE a ta:=PW.pt h
def z7p(ha:DT Z X EE a ta):DT Z X EE (._Y .Not a fZ) (j6 ta):=by
 refine PT.ll (z6s ha) ?_;rintro σ H Q ⟨G,e,iA,h⟩;simp only[j6,R.ak]at h;exact⟨G,e,iA,h.pQ (λx e1 h G1 H1 r1 s1=>h G1 H1 r1 s1) λ_ _ h=>h⟩
theorem Z3{op}(h:DE Z X EE a da):DE Z X EE (.Yb op [a] fZ) da:=z6t h
def z7q{oM:L l_}(ha:DE Z X EE a da)(hb:DE Z X EE (.Yb ._p (b::oM) fZ) db):DE Z X EE (.Yb ._p (a::b::oM) fZ) (ix da db):=by
 refine PE.ll (z6u ha hb) ?_;rintro σ H Q ⟨G,e,iA,h⟩;simp only[ix,R.ak]at h;refine⟨G,e,iA,h.pQ (λx e1 h G1 v1 H1 r1 s1 p1=>?_) λ_ _ h=>h⟩
 cases x with
 |bl k=>
  cases(show v1=V.bl k from p1);cases k with
  |true=>exact⟨true,rfl,⟨G1,e1,r1,R.yt.pQ (show(db e1).yt _ _ from h) (λy e2 h G2 v2 H2 r2 s2 p2=>h G2 v2 H2 r2 (s1.iD s2) p2) λ_ _ h=>XH.iD s1 h⟩⟩
  |false=>exact⟨false,rfl,(show ∀G' v H',_->_->v=V.bl false->Q v H' from h) G1 _ H1 r1 s1 rfl⟩
 |_=>exact h.ke
def Sm{oM:L l_}(ha:DE Z X EE a da)(hb:DE Z X EE (.Yb .Or (b::oM) fZ) db):DE Z X EE (.Yb .Or (a::b::oM) fZ) (k8 da db):=by
 refine PE.ll (UX ha hb) ?_;rintro σ H Q ⟨G,e,iA,h⟩;simp only[k8,R.ak]at h;refine⟨G,e,iA,h.pQ (λx e1 h G1 v1 H1 r1 s1 p1=>?_) λ_ _ h=>h⟩
 cases x with
 |bl k=>
  cases(show v1=V.bl k from p1);cases k with
  |false=>exact⟨false,rfl,⟨G1,e1,r1,R.yt.pQ (show(db e1).yt _ _ from h) (λy e2 h G2 v2 H2 r2 s2 p2=>h G2 v2 H2 r2 (s1.iD s2) p2) λ_ _ h=>XH.iD s1 h⟩⟩
  |true=>exact⟨true,rfl,(show ∀G' v H',_->_->v=V.bl true->Q v H' from h) G1 _ H1 r1 s1 rfl⟩
 |_=>exact h.ke
def z7r(ha:DE Z X EE a da):DE Z X EE (._Y .Not a fZ) (lC da):=by
 refine PE.ll (z6v ha) ?_;rintro σ H Q ⟨G,e,iA,h⟩;simp only[lC,R.ak]at h;refine⟨G,e,iA,h.pQ (λx e1 h G1 v1 H1 r1 s1 p1=>?_) λ_ _ h=>h⟩
 cases x with
 |bl k=>
  cases(show v1=V.bl k from p1);exact⟨k,rfl,(show ∀G' v H',_->_->v=V.bl (!k)->Q v H' from h) G1 _ H1 r1 s1 rfl⟩
 |_=>exact h.ke
def Q2m(hc:DT Z X EE c dc)(ha:DE Z X EE a da)(hb:DE Z X EE b db):DE Z X EE (.IfExp c a b fZ) (uO dc da db):=by
 refine PE.ll (y5w hc ha hb) ?_;rintro σ H Q ⟨G,e,iA,h⟩;simp only[uO,R.ak]at h;refine⟨G,e,iA,h.pQ (λx e1 h G1 H1 r1 s1=>?_) λ_ _ h=>h⟩
 cases x with
 |true=>exact⟨G1,e1,r1,R.yt.pQ (show(da e1).yt _ _ from h) (λy e2 h G2 v2 H2 r2 s2 p2=>h G2 v2 H2 r2 (s1.iD s2) p2) λ_ _ h=>XH.iD s1 h⟩
 |false=>exact⟨G1,e1,r1,R.yt.pQ (show(db e1).yt _ _ from h) (λy e2 h G2 v2 H2 r2 s2 p2=>h G2 v2 H2 r2 (s1.iD s2) p2) λ_ _ h=>XH.iD s1 h⟩
theorem z7s:DA Z X EE [] af:=PA.ll DX λσ H Q ⟨G,e,r,h⟩=>h G [] H r (.oQ _) rfl
def z1j(ha:DE Z X EE e da)(hr:DA Z X EE es dA)(hs:fi (lq (e::es) X.el=(false,eval e X.el)::lq es X.el) jJ):DA Z X EE (e::es) (aa da dA):=by
 refine PA.ll (v9 ha hr hs) ?_;rintro σ H Q ⟨G,e,iA,h⟩;simp only[aa,R.ak]at h;refine⟨G,e,iA,h.pQ (λx e1 h G1 v1 H1 r1 s1 p1=>?_) λ_ _ h=>h⟩
 refine⟨G1,e1,r1,h.pQ (λxs e2 h G2 vs H2 r2 s2 p2=>?_) λ_ _ h=>XH.iD s1 h⟩
 exact h G2 (v1::vs) H2 r2 (s1.iD s2) ⟨v1,vs,rfl,nQ.ll s2 x p1,p2⟩
def z7t{x1}(h:DA Z X EE es dA):DE Z X EE (.JJ es x1 fZ) (bI dA):=by
 refine PE.ll (z65 h) ?_;rintro σ H Q ⟨G,e,iA,h⟩;simp only[bI,R.ak]at h;refine⟨G,e,iA,h.pQ (λws e1 h G1 vs H1 r1 s1 p1=>?_) λ_ _ h=>h⟩
 split at h
 .rename_i hl;refine⟨by rw[p1.J,vN];exact hl,λp hp=>?_⟩
  have g:=bc.wg r1.mI hp (.ff vs);exact(show ∀G' v H',_->_->nQ X.K G' (.ff ws) v->Q v H' from h) _ (.ei p) _ (r1.wq g) (s1.iD g.gg) ⟨p,vs,rfl,c6.of cI,aq.ll g.gg ws p1⟩
 .exact h.ke
theorem DC{e:L S}(r:m_ K Z G σ H e){p:fh}(hp:H p=none):kT σ e p:=λj b ws h q=>by
 let⟨a,xs,h1,h2,_⟩:=r.gD h;rw[q]at h1;cases h1;rw[hp]at h2;cases h2
def wa{e:L S}(r:m_ K Z G σ H e){p:fh}(hp:H p=none):Z.H p=none:=by
 cases q:Z.H p with
 |none=>rfl
 |O o=>
  by_cases hi:p∈Z.io
  .exact nS hp (r.mD p hi)
  .rw[r.Ww p o q hi]at hp;cases hp
theorem y6e{e:L S}{Q:VK}{G0:Hp}(r:m_ K Z G σ H e)(s:au G0 G)(p1:aq K G ws vs)
  (h:∀G' a xs H',m_ K Z G' σ H' e->au G0 G'->H' a=O (.fy xs)->G' a=none->Z.H a=none->kT σ e a->aq K G' ws xs->Q (.ei a) H'):∀p,H p=none->Q (.ei p) (l5 H p (.fy vs)):=λp hp=>by
 have g:=bc.pM r.mI hp (.fy vs);exact h G p vs _ (r.wq g) s cI (r.mI.nL hp) (wa r hp) (DC r hp) p1
def z7u(h:DA Z X EE es dA):DF Z X EE (.L es fZ) (cy dA):=by
 refine PE.ll (z66 h) ?_;rintro σ H Q ⟨G,e,iA,h⟩;simp only[cy,R.ak]at h;refine⟨G,e,iA,h.pQ (λws e1 h G1 vs H1 r1 s1 p1=>?_) λ_ _ h=>h⟩
 split at h
 .rename_i hl;exact⟨by rw[p1.J,vN];exact hl,y6e r1 s1 p1 h⟩
 .exact h.ke
def m_.é{e:L S}(r:m_ K Z G σ H e){a:fh}{xs:L V}(h:H a=O (.fy xs))(hg:G a=none)(hz:Z.H a=none)(hf:kT σ e a):au G (l5 G a (.fy xs))/\m_ K Z (l5 G a (.fy xs)) σ H e:=by
 have sg:au G (l5 G a (.fy xs)):=v7 hg _;refine⟨sg,⟨λc o z=>?_,λj s z=>?_,r.oO,r.mR,r.Ww,r.mD,λc z=>?_⟩⟩
 .by_cases hc:c=a
  .subst hc;rw[cI]at z;cases z;exact h
  .rw[bg hc]at z;exact r.mI c o z
 .have y:=r.r5 j s z;cases s with
  |no=>trivial
  |fr w=>
   let⟨u,y1,y2⟩:=y;exact⟨u,y1,nQ.ll sg w y2⟩
  |gD b2 w2=>
   let⟨c,ys,y1,y2,y3,y4,y5⟩:=y;refine⟨c,ys,y1,y2,?_,y4,aq.ll sg w2 y5⟩;rw[bg];exact y3;rintro rfl;let⟨c',_,z1,_⟩:=r.gD z;rw[z1]at y1;cases y1;exact hf j b2 w2 z z1
  |ba kvs=>
   let⟨c,y1,y2,y3,y4⟩:=y;refine⟨c,y1,y2,?_,y4⟩;rw[bg (qr y2 h (Ak rfl))];exact y3
  |dw sh ks ws=>exact jX._x y sg λl o ys k1 k2 k3=>⟨k1,by rw[bg (qr k1 h (Ai rfl))];exact k2,k3⟩
 .by_cases hc:c=a
  .subst hc;exact nS hz z
  .rw[bg hc];exact r.gen c z
def Q2n(h:DF Z X EE e dA):DE Z X EE e (gv dA):=by
 refine PE.ll h ?_;rintro σ H Q ⟨G,e,iA,h⟩;simp only[gv,R.ak]at h;refine⟨G,e,iA,h.pQ (λws e1 h G1 a xs H1 r1 s1 q1 q2 q3 q4 p1=>?_) λ_ _ h=>h⟩
 let⟨sg,rg⟩:=r1.é q1 q2 q3 q4;exact(show ∀G' v H',_->_->nQ X.K G' (.fy ws) v->Q v H' from h) _ (.ei a) _ rg (s1.iD sg) ⟨a,xs,rfl,cG.of cI,aq.ll sg ws p1⟩
def RH(hf:vp K r f):∀σ H Q,f7 K Z EE (ck f dA) σ H Q->LV r (qe K Z EE dA) σ H Q:=by
 rintro σ H Q ⟨G,e,iA,h⟩;simp only[ck,R.ak,bq]at h;refine⟨G,e,iA,h.pQ (λws e1 h G1 vs H1 r1 s1 p1=>?_) λ_ _ h=>h⟩
 let⟨w,hw,h⟩:=h;exact hf G1 H1 vs ws w Q r1.mI p1 hw λG' v H' g p=>h G' v H' (r1.wq g) (s1.iD g.gg) p
theorem MV{id:ET}{r:L V->Hp->VK->Prop}{f:L W->fG W}(hc:ft X (.rn id) r)(hf:vp X.K r f)(hv:_a x=O (.rn id))(hm:X.mg x=none)(ha:DA Z X EE (e::es) dA)(hg:fi (Gl X x) jJ)(hn:fi (x≠"__name__") jK)(fb:fi ((x==("__debug__":eh))=false) jK)
  (he:fi (lq (e::es) X.el=(false,eval e X.el)::lq es X.el) jJ)(df:fi ((r8 fZ (lq es X.el)).pX (·.1)=false) jJ):DE Z X EE (.pY (.je x p) (e::es) [] fZ) (ck f dA):=
 PE.ll (Ly hc hg hm hv ha hn fb he df) (RH hf)
theorem Sn{T:ET}{r:L V->Hp->VK->Prop}{f:L W->fG W}(hc:ft X (.hJ T) r)(hf:vp X.K r f)(hv:_a x=O (.hJ T))(hm:X.mg x=none)(ha:DA Z X EE (e::es) dA)(hg:fi (Gl X x) jJ)(hn:fi (x≠"__name__") jK)(fb:fi ((x==("__debug__":eh))=false) jK)
  (he:fi (lq (e::es) X.el=(false,eval e X.el)::lq es X.el) jJ)(df:fi ((r8 fZ (lq es X.el)).pX (·.1)=false) jJ):DE Z X EE (.pY (.je x p) (e::es) [] fZ) (ck f dA):=
 PE.ll (y1n hc hg hm hv ha hn fb he df) (RH hf)
end
def cX:L S->SR:=λe=>.nx e
def ao(a b:L S->SR):L S->SR:=λe=>match a e with
 |.nx e'=>b e'
 |r=>r
def R.cM(r:R α)(k:α->L S->SR):SR:=match r with
 |.ok a e=>k a e
 |.ex c e=>.ex c e
 |.no=>.no
def gK(d:gF W):L S->SR:=λe=>(d e).cM λ_ e'=>.nx e'
def aV(d:gF W):L S->SR:=λe=>(d e).cM λw e'=>.rt (.fr w) e'
def j7(d:gF (L W)):L S->SR:=λe=>(d e).cM λws e'=>.rt (.gD none ws) e'
def iy(i:dt):L S->SR:=λe=>match e[i]? with
 |O (.gD none ws)=>.rt (.gD none ws) e
 |O (.fr w)=>.rt (.fr w) e
 |_=>.no
def aS(c:gF fJ)(a b:L S->SR):L S->SR:=λe=>(c e).cM λx e1=>if x=true then a e1 else b e1
def aG(i:dt)(d:gF W):L S->SR:=λe=>(d e).cM λw e'=>.nx (e'.my i (.fr w))
def cO(i:dt)(d:gF (L W)):L S->SR:=λe=>(d e).cM λws e'=>.nx (e'.my i (.gD none ws))
def bT(i:dt)(b:L S->SR):L W->L S->SR
 |[],e=>.nx e
 |w::ws,e=>match b (e.my i (.fr w))with
  |.nx e'=>bT i b ws e'
  |.ct e'=>bT i b ws e'
  |.bk e'=>.nx e'
  |.rt s e'=>.rt s e'
  |.ex c e'=>.ex c e'
  |.no=>.no
def bK(c:gF fJ)(b:L S->SR):dt->L S->SR
 |0,_=>.no
 |n+1,e=>(c e).cM λx e1=>if x=true then(match b e1 with
  |.nx e'=>bK c b n e'
  |.ct e'=>bK c b n e'
  |.bk e'=>.nx e'
  |.rt s e'=>.rt s e'
  |.ex c e'=>.ex c e'
  |.no=>.no)else .nx e1
def gc:W->fG (L W)
 |.ff ws=>O ws
 |.fy ws=>O ws
 |_=>none
def jA(i:dt)(d:gF W)(b:L S->SR):L S->SR:=λe=>(d e).cM λw e1=>match gc w with
 |O ws=>bT i b ws e1
 |none=>.no
def bQ(lo hi:eW):L W:=(L.so (hi-lo).oR).ej λk=>.d0 (lo+(k:dt))
def A8(j:eW):fJ:=dt.ble j._y 4611686018427387903
def wb(h:A8 j=true):-(2^62)<=j/\j<2^62:=by
 have z:j._y<=4611686018427387903:=w4j h
 grind
theorem o4{j:eW}(h1:-1000000000<=j)(h2:j<=1000000000):A8 j=true:=w5r (by omega)
def gb:L W->fG (L W)
 |[.d0 j]=>if A8 j=true then O (bQ 0 j)else none
 |_=>none
def An:L W->fG (L W)
 |[.d0 i,.d0 j]=>if A8 i=true/\A8 j=true then O (bQ i j)else none
 |_=>none
def eN(i:dt)(g:L W->fG (L W))(d:gF (L W))(b:L S->SR):L S->SR:=λe=>(d e).cM λw e1=>match g w with
 |O ws=>bT i b ws e1
 |none=>.no
section
variable{X:Cx}{a c e:l_}{st:vv}{oM o3:L vv}{d:gF W}{s1 s2:L S->SR}
theorem bx.iD(s:au G G1):∀{r:SR},bx K Z EE D G r->bx K Z EE D G1 r
 |.nx e',h=>λG' aN H' r q=>h G' aN H' r (s.iD q)
 |.bk e',h=>λG' aN H' r q=>h G' aN H' r (s.iD q)
 |.ct e',h=>λG' aN H' r q=>h G' aN H' r (s.iD q)
 |.rt w e',h=>λG' aN v H' r q=>h G' aN v H' r (s.iD q)
 |.ex c e',h=>λG' aN H' r q=>h G' aN H' r (s.iD q)
 |.no,h=>h
def jG{r:R α}(h:bx K Z EE D G (r.cM k)):r.yt (λa e'=>bx K Z EE D G (k a e')) (XH K Z EE σ G):=by
 cases r with
 |ok a e=>exact h
 |ex c e=>exact λG' H' r q=>h G' σ H' r q
 |no=>exact h
theorem Zl:kO Z X EE [] cX:=kP.ll z0x λD σ H ⟨G,e,r,h⟩=>h G σ H r (.oQ _)
def y6f:∀D σ H,eE K Z EE (ao s1 s2) D σ H->Er (eE K Z EE s1) (eE K Z EE s2) D σ H:=by
 rintro D σ H ⟨G,e,iA,h⟩;refine⟨G,e,iA,?_⟩;unfold ao at h;cases q:s1 e with
 |nx e'=>rw[q]at h;exact λG' aN H' r s=>⟨G',e',r,bx.iD s h⟩
 |bk e'=>rw[q]at h;exact h
 |ct e'=>rw[q]at h;exact h
 |rt w e'=>rw[q]at h;exact h
 |ex c e'=>rw[q]at h;exact h
 |no=>rw[q]at h;exact h
theorem YH(h1:DS Z X EE st s1)(h2:kO Z X EE oM s2):kO Z X EE (st::oM) (ao s1 s2):=kP.ll (y5x h1 h2) y6f
theorem Pu(h1:DS Z X EE st s1):kO Z X EE [st] s1:=z0y h1
def z1k(he:DE Z X EE e d)(hs:fi (Yh e none fZ.y' X.el=pR false) jJ):DS Z X EE (.l_ e fZ) (gK d):=by
 refine PS.ll (DH he hs) ?_;rintro D σ H ⟨G,e,iA,h⟩;exact⟨G,e,iA,(jG h).pQ (λw e1 h G1 v1 H1 r1 s1 p1=>h G1 σ H1 r1 s1) λ_ _ h=>h⟩
def QN(he:DE Z X EE e d):DS Z X EE (.ξ (O e) fZ) (aV d):=by
 refine PS.ll (DR he) ?_;rintro D σ H ⟨G,e,iA,h⟩;exact⟨G,e,iA,(jG h).pQ (λw e1 h G1 v1 H1 r1 s1 p1=>h G1 σ v1 H1 r1 s1 ⟨v1,rfl,p1⟩) λ_ _ h=>h⟩
def z1l(he:DF Z X EE e dA):DS Z X EE (.ξ (O e) fZ) (j7 dA):=by
 refine PS.ll (DR he) ?_;rintro D σ H ⟨G,e,iA,h⟩;exact⟨G,e,iA,(jG h).pQ (λw e1 h G1 a xs H1 r1 s1 q1 q2 q3 q4 p1=>h G1 σ (.ei a) H1 r1 s1 ⟨a,xs,rfl,q1,q2,q3,p1⟩) λ_ _ h=>h⟩
def z1m(i:dt)(hN:fi (X.N[i]?=O x) jJ)(hv:fi (jy X.el.fj x) jM)(hd:fi ((x==("__debug__":eh))=false) jK)
  (dR:fi ((x==("__classdict__":eh))=false) jK):DS Z X EE (.ξ (O (.je x p)) fZ) (iy i):=by
 refine PS.ll (DR (pv i hN hv hd dR)) ?_;rintro D σ H ⟨G,e,iA,h⟩;unfold iy at h;split at h
 .rename_i ws hw;let⟨a,xs,h1,h2,h3,h4,h5⟩:=iA.gD hw;exact⟨.ei a,h1,h G σ _ H iA (.oQ _) ⟨a,xs,rfl,h2,h3,h4,h5⟩⟩
 .rename_i w hw;let⟨v,h1,h2⟩:=iA.fr hw;exact⟨v,h1,h G σ _ H iA (.oQ _) ⟨v,rfl,h2⟩⟩
 .exact h.ke
def y6g:∀D σ H,eE K Z EE (aS dc s1 s2) D σ H->Ek (Zy K Z EE dc) (eE K Z EE s1) (eE K Z EE s2) D σ H:=by
 rintro D σ H ⟨G,e,iA,h⟩;refine⟨G,e,iA,(jG h).pQ (λx e1 h G1 H1 r1 q1=>?_) λ_ _ h=>h⟩
 cases x with
 |true=>exact⟨G1,e1,r1,bx.iD q1 h⟩
 |false=>exact⟨G1,e1,r1,bx.iD q1 h⟩
theorem z0c{p:L vv}(hc:DT Z X EE c dc)(ha:kO Z X EE p s1)(hb:kO Z X EE q s2):DS Z X EE (.If c p q fZ) (aS dc s1 s2):=PS.ll (UY hc ha hb) y6g
def z7v(i:dt)(hN:X.N.p9)(he:DE Z X EE e d)(hi:fi (X.N[i]?=O x) jJ)(hx:fi (WH X.el.fj x) jN)(hs:fi (Yh e (O (.je x AO)) fZ.y' X.el=pR false) jJ)(hf:fi (X.fn x=true\/X.el.fj.lH.fI x=O .local) jL):
  DS Z X EE (.Yz [.je x AO] e fZ) (aG i d):=by
 refine PS.ll (Bw i hN he hi hx hs hf) ?_;rintro D σ H ⟨G,e,iA,h⟩;exact⟨G,e,iA,(jG h).pQ (λw e1 h G1 v1 H1 r1 q1 p1=>h G1 _ H1 (r1.my p1) q1) λ_ _ h=>h⟩
def z7w(i:dt)(hN:X.N.p9)(he:DF Z X EE e dA)(hi:fi (X.N[i]?=O x) jJ)(hx:fi (WH X.el.fj x) jN)(hs:fi (Yh e (O (.je x AO)) fZ.y' X.el=pR false) jJ)(hf:fi (X.fn x=true\/X.el.fj.lH.fI x=O .local) jL):
  DS Z X EE (.Yz [.je x AO] e fZ) (cO i dA):=by
 refine PS.ll (Bw i hN he hi hx hs hf) ?_;rintro D σ H ⟨G,e,iA,h⟩;exact⟨G,e,iA,(jG h).pQ (λw e1 h G1 a xs H1 r1 s1 q1 q2 q3 q4 p1=>h G1 _ H1 (r1.Ar q1 q2 q3 q4 p1) s1) λ_ _ h=>h⟩
def y6h(n)(hp:_V (mG X.g_ X.w) X.A X.el X.xe)(hc:DT Z X EE c dc)(hb:kO Z X EE o3 s1):DS Z X EE (.While c o3 [] fZ) (bK dc s1 n):=by
 refine PS.ll (y5y hp hc hb) ?_;rintro D σ H ⟨G,e,iA,h⟩;refine⟨λm aN H'=>∃G' e',m_ X.K Z G' aN H' e'/\au G G'/\bx X.K Z EE D G (bK dc s1 m e'),⟨n,G,e,iA,.oQ _,h⟩,?_⟩
 rintro m vg H1 ⟨G1,e1,r1,q1,h⟩;cases m with
 |zc=>exact h.ke
 |zD m=>
  refine⟨G1,e1,r1,(jG (σ:=vg) h).pQ (λx e2 h G2 H2 r2 q2=>?_) λ_ _ h=>XH.iD q1 h⟩
  cases x with
  |false=>exact h G2 vg H2 r2 (q1.iD q2)
  |true=>
   refine⟨λaN H'=>∃G' e',m_ X.K Z G' aN H' e'/\au G G'/\bx X.K Z EE D G (bK dc s1 m e'),λaN H' q=>⟨m,w5m _,q⟩,⟨G2,e2,r2,?_⟩⟩
   have sg:=q1.iD q2;have h:bx X.K Z EE D G (match s1 e2 with|.nx e'=>bK dc s1 m e'|.ct e'=>bK dc s1 m e'|.bk e'=>.nx e'|.rt s e'=>.rt s e'|.ex c e'=>.ex c e'|.no=>.no):=h;cases q:s1 e2 with
   |nx e'=>rw[q]at h;exact λG' aN H' r s=>⟨G',e',r,sg.iD s,h⟩
   |ct e'=>rw[q]at h;exact λG' aN H' r s=>⟨G',e',r,sg.iD s,h⟩
   |bk e'=>rw[q]at h;exact λG' aN H' r s=>h G' aN H' r (sg.iD s)
   |rt w e'=>rw[q]at h;exact λG' aN v H' r s=>h G' aN v H' r (sg.iD s)
   |ex c e'=>rw[q]at h;exact λG' aN H' r s=>h G' aN H' r (sg.iD s)
   |no=>rw[q]at h;exact h
def y6i{x:V}(r1:m_ K Z G1 σ H e1)(q1:au G G1)(p:nQ K G1 w x)(h:bx K Z EE D G (bT i s1 (w::ws) e1))
  (hN:∀G' aN H' e',m_ K Z G' aN H' e'->au G G'->bx K Z EE D G (bT i s1 ws e')->N aN H'):bP i x σ H λiT H2=>eE K Z EE s1 {D with nx:=N,ct:=N,bk:=D.nx} iT H2:=by
 refine⟨G1,e1.my i (.fr w),r1.my p,?_⟩;unfold bT at h;cases q:s1 (e1.my i (.fr w))with
 |nx e'=>rw[q]at h;exact λG' aN H' r s=>hN G' aN H' e' r (q1.iD s) h
 |ct e'=>rw[q]at h;exact λG' aN H' r s=>hN G' aN H' e' r (q1.iD s) h
 |bk e'=>rw[q]at h;exact λG' aN H' r s=>h G' aN H' r (q1.iD s)
 |rt w e'=>rw[q]at h;exact λG' aN v H' r s=>h G' aN v H' r (q1.iD s)
 |ex c e'=>rw[q]at h;exact λG' aN H' r s=>h G' aN H' r (q1.iD s)
 |no=>rw[q]at h;exact h
def CG(K:Fg)(tl:TE):TI:=λσ H R=>tl σ H λx H1=>∃a,x=.ei a/\(((∃xs,cG K H1 a xs)/\R (AJ K a) H1)\/((∃xs,c6 K H1 a xs)/\R (AK K a) H1))
def Hb(hl:PE X l tl):PI X tg l (CG X.K tl):=by
 intro eS s σ H R I h;refine bw (hl eS s σ H _ I h) λv s1 ⟨x,H1,I1,r1,q1⟩=>?_
 let⟨a,e,q⟩:=q1;subst e;cases r1;rcases q with⟨⟨xs,hq⟩,q⟩|⟨⟨xs,hq⟩,q⟩
 .let⟨aC,rv,p,hz⟩:=I1.wD hq;refine Ã p.yM ?_;refine⟨s1.d_.e6.eG,[s1.d_.e6.eG],_,_,H1,rfl,I1.NK (t':=s1.nW) λb o e=>fH.q_ _ e,zbs a _,⟨_,fH.vM _ rfl,rfl,rfl⟩,λb hb=>?_,q⟩
  have e:b=s1.d_.e6.eG:=by simpa using hb
  subst e;exact I1.jB (w0d _) (I1.aR.u3 (w0d _))
 .let⟨aC,rv,p,hz⟩:=I1.zb hq;refine ζ (show s1.d_.VU a aC.ky from p) ?_;refine⟨s1.d_.e6.eG,[s1.d_.e6.eG],_,_,H1,rfl,I1.NK (t':=s1.nW) λb o e=>fH.q_ _ e,zbG a _,⟨_,fH.vM _ rfl,rfl,rfl⟩,λb hb=>?_,q⟩
  have e:b=s1.d_.e6.eG:=by simpa using hb
  subst e;exact I1.jB (w0d _) (I1.aR.u3 (w0d _))
def Qg{α:Type}{ws:L α}{k:dt}{w:α}(h:ws[k]?=O w):ws.m9 k=w::ws.m9 (k+1):=by
 let⟨hk,rfl⟩:=w0c.mp h;exact w2g hk
def Mx(r1:m_ K Z G1 σ H1 e1)(rp:aq K G1 ws xs)(h:bx K Z EE D G1 (bT i s1 ws e1))(SQ:Hp->Prop)(vB:∀G' H',au G1 G'->au G' H'->SQ H'):
  ∃Pv:dt->St->Hp->Prop,Pv 0 σ H1/\(∀j σ H,j<=xs.J->Pv j σ H->SQ H)/\(∀(j:dt) x σ H,xs[j]?=O x->Pv j σ H->bP i x σ H λiT H2=>eE K Z EE s1 {D with nx:=Pv (j+1),ct:=Pv (j+1),bk:=D.nx} iT H2)/\∀σ H,Pv xs.J σ H->D.nx σ H:=by
 refine⟨λj aN H'=>∃G' e',m_ K Z G' aN H' e'/\au G1 G'/\bx K Z EE D G1 (bT i s1 (ws.m9 j) e'),⟨G1,e1,r1,.oQ _,h⟩,?_,?_,?_⟩
 .rintro j aN H' _ ⟨G',e',r',s',_⟩;exact vB G' H' s' r'.mI
 .rintro j x aN H' hx ⟨G',e',r',s',h⟩;let⟨w,hw,pw⟩:=rp.lZ hx;rw[Qg hw]at h;exact y6i r' s' (nQ.ll s' w pw) h λfL gm jY uP o9 ja pL=>⟨fL,uP,o9,ja,pL⟩
 .rintro aN H' ⟨G',e',r',s',h⟩;rw[rp.J,w3w]at h;exact h G' aN H' r' s'
def z7x(i:dt)(hN:X.N.p9)(hp:_V (mG X.g_ X.w) X.A X.el X.xe)(hc:X.wK=true)(hl:DE Z X EE e d)(hb:kO Z X EE o3 s1)
  (hi:fi (X.N[i]?=O x) jJ)(hx:fi (WH X.el.fj x) jN)(hf:fi (X.fn x=true\/X.el.fj.lH.fI x=O .local) jL)(hs:∀x,YS e X.el x=pR x:=by intro _;rfl):
  DS Z X EE (.For (.je x AO) e o3 [] fZ) (jA i d s1):=by
 refine PS.ll (DU hp hc (Hb hl) (uj i hN hi hx hf) hb hs) ?_;rintro D σ H ⟨G,e,iA,h⟩;refine⟨G,e,iA,(jG h).pQ (λw e1 h G1 v1 H1 r1 q1 p1=>?_) λ_ _ h=>h⟩
 have NV:=λws xs (rp:aq X.K G1 ws xs) (h:bx X.K Z EE D G (bT i s1 ws e1))=>Mx (i:=i) (D:=D) r1 rp (bx.iD q1 h)
 cases w with
 |ff ws=>
  let⟨a,xs,rfl,hq,rp⟩:=p1;refine⟨a,rfl,.j' ⟨⟨xs,r1.mI.ff hq⟩,?_⟩⟩;let⟨Pv,h0,h1,h2,h3⟩:=NV ws xs rp h (λH'=>c6 X.K H' a xs) (λG' H' s s'=>au.ff s' (au.ff s hq))
  exact z00 Pv h0 h1 h2 h3
 |fy ws=>
  let⟨a,xs,rfl,hq,rp⟩:=p1;refine⟨a,rfl,.h8 ⟨⟨xs,r1.mI.mx hq⟩,?_⟩⟩;let⟨Pv,h0,h1,h2,h3⟩:=NV ws xs rp h (λH'=>cG X.K H' a xs) (λG' H' s s'=>au.mx s' (au.mx s hq))
  exact y5z Pv h0 h1 h2 h3
 |_=>exact h.ke
def Pg:aq K G (bQ lo hi) ((L.so (hi-lo).oR).ej λk=>V.d0 (lo+(k:dt))):=by
 unfold bQ;generalize L.so (hi-lo).oR=l
 induction l with
 |m8=>rfl
 |m6 k l ih=>exact⟨_,_,rfl,rfl,ih⟩
def RI(r1:m_ K Z G1 σ H1 e1)(h:bx K Z EE D G1 (bT i s1 (bQ lo hi) e1)):
  ∃W:dt->dt->St->Hp->Prop,(∃m,W 0 m σ H1)/\∀j m σ H,W j m σ H ->
   ((rM lo (hi-lo).oR).stop j H/\D.nx σ H)\/((rM lo (hi-lo).oR).go j H/\∃N:St->Hp->Prop,(∀aN H',N aN H'->∃m',m'<m/\W (j+1) m' aN H')/\∀x H',(rM lo (hi-lo).oR).lr j H x H'->bP i x σ H' λiT H2=>eE K Z EE s1 {D with nx:=N,ct:=N,bk:=D.nx} iT H2):=by
 let⟨Pv,h0,h1,h2,h3⟩:=Mx (i:=i) (D:=D) r1 (Pg (lo:=lo) (hi:=hi)) h (λ_=>w7) (λ_ _ _ _=>trivial)
 refine y1j Pv h0 (λj aN H' hj p=>h2 j _ aN H' ?_ p) (λaN H' p=>h3 aN H' (by simpa using p))
 simp[hj]
def z1n(i:dt){p1 p2:qY}(hN:X.N.p9)(hp:_V (mG X.g_ X.w) X.A X.el X.xe)(hc:X.wK=true)(hm:X.mg "range"=none)(ha:DA Z X EE [a] dA)(hb:kO Z X EE o3 s1)
  (hi:fi (X.N[i]?=O x) jJ)(hx:fi (WH X.el.fj x) jN)(hf:fi (X.fn x=true\/X.el.fj.lH.fI x=O .local) jL)(hg:fi (Gl X "range") jJ)(k9:fi (lq [a] X.el=[(false,eval a X.el)]) jJ)(hs:∀x,YS (.pY (.je "range" p1) [a] [] p2) X.el x=pR x:=by intro _;rfl):
  DS Z X EE (.For (.je x p) (.pY (.je "range" p1) [a] [] p2) o3 [] fZ) (eN i gb dA s1):=by
 refine PS.ll (DU hp hc (Lh hg hm ha k9) (uj i hN hi hx hf) hb hs) ?_;rintro D σ H ⟨G,e,iA,h⟩;refine⟨G,e,iA,(jG h).pQ (λws e1 h G1 vs H1 r1 q1 p1=>?_) λ_ _ h=>h⟩
 unfold gb at h;split at h
 .rename_i hh;split at hh
  .rename_i j;split at hh
   .rename_i hj;cases hh;let⟨y,r,rfl,e1,e2⟩:=p1;cases(show y=V.d0 j from e1);cases(show r=[]from e2);refine⟨j,rfl,(wb hj).1,(wb hj).2,?_⟩;have z:=RI (i:=i) (D:=D) r1 (bx.iD q1 h)
    rwa [eW.Ŭ]at z
   .cases hh
  .cases hh
 .exact h.ke
def z1o(i:dt){p1 p2:qY}(hN:X.N.p9)(hp:_V (mG X.g_ X.w) X.A X.el X.xe)(hc:X.wK=true)(hm:X.mg "range"=none)(ha:DA Z X EE [a,c] dA)(hb:kO Z X EE o3 s1)
  (hi:fi (X.N[i]?=O x) jJ)(hx:fi (WH X.el.fj x) jN)(hf:fi (X.fn x=true\/X.el.fj.lH.fI x=O .local) jL)(hg:fi (Gl X "range") jJ)(k9:fi (lq [a,c] X.el=[(false,eval a X.el),(false,eval c X.el)]) jJ)(hZ:fi (lq [c] X.el=[(false,eval c X.el)]) jJ)(hs:∀x,YS (.pY (.je "range" p1) [a,c] [] p2) X.el x=pR x:=by intro _;rfl):
  DS Z X EE (.For (.je x p) (.pY (.je "range" p1) [a,c] [] p2) o3 [] fZ) (eN i An dA s1):=by
 refine PS.ll (DU hp hc (y1h hg hm ha k9 hZ) (uj i hN hi hx hf) hb hs) ?_;rintro D σ H ⟨G,e,iA,h⟩;refine⟨G,e,iA,(jG h).pQ (λws e1 h G1 vs H1 r1 q1 p1=>?_) λ_ _ h=>h⟩
 unfold An at h;split at h
 .rename_i hh;split at hh
  .rename_i j k;split at hh
   .rename_i hj;cases hh;let⟨y,r,rfl,e1,y2,r2,rfl,e2,e3⟩:=p1;cases(show y=V.d0 j from e1);cases(show y2=V.d0 k from e2);cases(show r2=[]from e3);exact⟨j,k,rfl,⟨(wb hj.1).1,(wb hj.1).2,(wb hj.2).1,(wb hj.2).2⟩,RI (i:=i) (D:=D) r1 (bx.iD q1 h)⟩
   .cases hh
  .cases hh
 .exact h.ke
end
open PyProof.Rows (envOfC)
inductive FR where
 |ok (s:S)|ex (c:e5)|no
def nG(K:Fg)(F:L W->FR):Sp:=λvs H Q E=>∃G ws,au G H/\aq K G ws vs/\match F ws with
 |.ok s=>∀G' H' v,bc G H G' H'->fQ K ⟨H,G,[]⟩ G' H' s (O v)->Q v H'
 |.ex c=>∀H',au H H'->E c none H'
 |.no=>pV
def SR.fn:SR->FR
 |.nx _=>.ok (.fr .aH)
 |.rt s _=>.ok s
 |.ex c _=>.ex c
 |_=>.no
def Zh(n:dt)(ws:L W):L S:=ws.ej .fr++L.oS (n-ws.J) .no
def Lz{N:L eh}(s:au G H)(r:aq K G ws vs):m_ K ⟨H,G,[]⟩ G (L2.XD N vs) H (Zh N.J ws):=by
 have hl:=r.J
 have kQ:∀(i:dt)(s:S),(Zh N.J ws)[i]?=O s->(s=.no)\/∃w,s=.fr w/\ws[i]?=O w:=λi s h=>by
  unfold Zh at h;rw[w5z]at h;split at h
  .rw[w1c]at h;let⟨w,h1,rfl⟩:=w0p.mp h;exact .j' ⟨w,rfl,h1⟩
  .rw[w2r]at h;split at h
   .cases h;exact .h8 rfl
   .cases h
 refine⟨s,λi t h=>?_,?_,λi j b b' w1 w2 a h1 h2 _ _=>?_,λa o h _=>h,(λa h=>nomatch h),λa _=>rfl⟩
 .rcases kQ i t h with rfl|⟨w,rfl,h1⟩
  .trivial
  .let⟨v,h2,h3⟩:=r.BX h1;refine⟨v,?_,h3⟩;have hi:i<vs.J:=(w0c.mp h2).1;unfold L2.XD;rw[w0x (by simpa using hi),w1c,h2];rfl
 .unfold Zh L2.XD;simp[hl]
 .rcases kQ i _ h1 with z|⟨w,z,_⟩<;>cases z
theorem m_.hX(r:m_ K ⟨H,G,[]⟩ G' σ H' e)(s:au G G'):bc G H G' H':=
 ⟨λa o h=>r.Ww a o h (by simp),s,r.mI,λa h=>r.gen a h⟩
def MW{F:L W->FR}{Q:VK}{E:XK}(h:nG K F vs H Q E):∃G ws,F ws≠.no/\aq K G ws vs:=by
 let⟨G,ws,_,r,h⟩:=h;refine⟨G,ws,λz=>?_,r⟩
 rw[z]at h;exact h
def RJ{F:L W->FR}(he:r.fn=F ws)(h:match F ws with
  |.ok s=>∀G' H' v,bc G H G' H'->fQ K ⟨H,G,[]⟩ G' H' s (O v)->Q v H'
  |.ex c=>∀H',au H H'->E c none H'
  |.no=>pV):bx K ⟨H,G,[]⟩ (λ_=>E) {nx:=λ_ H'=>Q .aH H',rt:=Q} G r:=by
 rw[<- he]at h;cases r with
 |nx e=>exact λG' aN H' r s=>h G' H' .aH (r.hX s) ⟨.aH,rfl,rfl⟩
 |rt s e=>exact λG' aN v H' r q p=>h G' H' v (r.hX q) p
 |ex c e=>exact λG' aN H' r s=>h H' (r.hX s).hh
 |bk e=>exact h.ke
 |ct e=>exact h.ke
 |no=>exact h.ke
def HJ(A:At K mg x st ps)(sc:bV N ps (ax st))(oO:∀ws,F ws≠.no->ws.J=ps.J)
  (hb:∀ws,F ws≠.no->∀(f:fh)(bN:e5)(A:tf)(l4:L tY)(s:kx)(H:Hp)(Z:Zt),eL k (A.LO (Ot x (ax st) s.d_.e6.eG f bN)) ->
   ∃d,kO Z (B3 P w K mg g0 N x (ax st) f bN A l4 s H) (λ_=>E0) (bB st) d/\(d (Zh N.J ws)).fn=F ws):oh P w K mg g0 (k+1) x ps (nG K F):=by
 refine A.HF sc (λvs H Q E h=>?_) (λf bN A l4 s H vs Q hr h=>?_)
 .grind [MW,aq.J]
 .let⟨G,ws,sg,rp,h⟩:=h;have hn:F ws≠.no:=λz=>by rw[z]at h;exact h
  let⟨d,hd,he⟩:=hb ws hn f bN A l4 s H ⟨H,G,[]⟩ hr;exact⟨_,hd,G,Zh N.J ws,Lz sg rp,RJ he h⟩
def aA(F:L W->FR)(dA:gF (L W)):gF W:=λe=>(dA e).nR λws e1=>match F ws with
 |.ok (.fr w)=>.ok w e1
 |.ok (.gD none ws')=>.ok (.fy ws') e1
 |.ok (.ba kvs)=>.ok (.ba kvs) e1
 |.ex c=>.ex c e1
 |_=>.no
def j5(F:L W->FR)(dA:gF (L W)):gF (L W):=λe=>(dA e).nR λws e1=>match F ws with
 |.ok (.gD none ws')=>.ok ws' e1
 |.ex c=>.ex c e1
 |_=>.no
def gU(F:L W->FR)(dA:gF (L W)):gF W:=λe=>(dA e).nR λws e1=>match F ws with
 |.ok (.fr w)=>.ok w e1
 |.ok (.gD none ws')=>.ok (.fy ws') e1
 |_=>.no
section
variable{X:Cx}{e:l_}{k:dt}{ps:L eh}{F:L W->FR}
def Gk(r1:m_ K Z G1 σ H1 e1)(g:bc G1 H1 G' H')(q:fQ K ⟨H1,G1,[]⟩ G' H' s (O v))(hs:s=.fr w\/∃ws,s=.gD none ws/\w=.fy ws):
  ∃fL,m_ K Z fL σ H' e1/\au G1 fL/\nQ K fL w v:=by
 rcases hs with rfl|⟨ws,rfl,rfl⟩
 .let⟨u,h1,h2⟩:=q;cases h1;exact⟨G',r1.wq g,g.gg,h2⟩
 .let⟨a,xs,h1,h2,h3,h4,h5⟩:=q;cases h1;have hn:H1 a=none:=h4;let⟨sg,rg⟩:=(r1.wq g).é h2 h3 (wa r1 hn) (DC r1 hn);exact⟨_,rg,g.gg.iD sg,⟨a,xs,rfl,cG.of cI,aq.ll sg ws h5⟩⟩
def za0(r1:m_ K Z G1 σ H1 e1)(g:bc G1 H1 G' H')(q:fQ K ⟨H1,G1,[]⟩ G' H' (.ba kvs) (O v)):
  ∃fL,m_ K Z fL σ H' e1/\au G1 fL/\nQ K fL (.ba kvs) v:=by
 let⟨a,h1,h2,h3,h4⟩:=q;cases h1;have hn:H1 a=none:=h4;have r:=r1.wq g;have sg:au G' (l5 G' a (dO kvs)):=v7 h3 _;refine⟨l5 G' a (dO kvs),⟨λc o z=>?_,λj s z=>?_,r.oO,r.mR,r.Ww,r.mD,λc z=>?_⟩,g.gg.iD sg,⟨a,rfl,cI⟩⟩
 .by_cases hc:c=a
  .grind [cI]
  .rw[bg hc]at z;exact r.mI c o z
 .have y:=r.r5 j s z;have y1:=r1.r5 j s z;cases s with
  |no=>trivial
  |fr w=>
   let⟨u,y1,y2⟩:=y;exact⟨u,y1,nQ.ll sg w y2⟩
  |gD b2 w2=>
   let⟨c,ys,x1,x2,x3,x4,x5⟩:=y;refine⟨c,ys,x1,x2,?_,x4,aq.ll sg w2 x5⟩;rw[bg (qr x2 h2 (λz=>Ak rfl z.symm))];exact x3
  |ba kv=>
   let⟨c,x1,x2,x3,x4⟩:=y;let⟨c',w1,w2,_⟩:=y1;rw[x1]at w1;cases w1;refine⟨c,x1,x2,?_,x4⟩;rw[bg (gQ w2 hn)];exact x3
  |dw sh ks ws=>
   let⟨c,kv,ka,x1,x2,x3,x4,x5,zeu,x7⟩:=y;let⟨c',kv',ka',w1,w2,_⟩:=y1;rw[x1]at w1;cases w1;refine⟨c,kv,ka,x1,x2,?_,x4,x5,zeu.ll sg,x7._x sg λ_ _ _ z=>z⟩
   rw[bg (gQ w2 hn)];exact x3
 .by_cases hc:c=a
  .grind [wa]
  .rw[bg hc];exact r.gen c z
theorem Na(r1:m_ K Z G1 σ H1 e1)(s1:au G G1)(h:XH K Z EE σ G c e1):∀H',au H1 H'->EE σ c none H':=λH' sh=>
 h G1 H' (r1.wq ⟨sh,.oQ _,r1.mI.iD sh,λ_ _=>rfl⟩) s1
def z7y(C:og X.g_ X.w X.K X.mg X.g0 k x ps (nG X.K F))(hr:bL k X.A)(hx:dN (eJ X.g_ X.w) X EE)(ha:DA Z X EE (e::es) dA)(hg:fi (Gl X x) jJ)
  (fb:fi ((x==("__debug__":eh))=false) jK)(he:fi (lq (e::es) X.el=(false,eval e X.el)::lq es X.el) jJ)(df:fi ((r8 fZ (lq es X.el)).pX (·.1)=false) jJ):
  DE Z X EE (.pY (.je x p) (e::es) [] fZ) (aA F dA):=by
 refine PE.ll (Ha C hr hx ha hg fb he df) ?_;rintro σ H Q ⟨G,e,iA,h⟩;simp only[aA,R.ak]at h;refine⟨G,e,iA,h.pQ (λws e1 h G1 vs H1 r1 s1 p1=>?_) λ_ _ h=>h⟩
 refine⟨G1,ws,r1.mI,by rw[w0s];exact p1,?_⟩;cases q:F ws with
 |ok s=>
  rw[q]at h;intro G' H' v g sl;cases s with
  |no=>exact h.ke
  |fr w=>
   let⟨fL,r2,s2,p2⟩:=Gk r1 g sl (.h8 rfl);exact(show ∀G' v H',_->_->nQ X.K G' w v->Q v H' from h) fL v H' r2 (s1.iD s2) p2
  |gD b ws'=>
   cases b with
   |O _=>exact h.ke
   |none=>
    let⟨fL,r2,s2,p2⟩:=Gk r1 g sl (.j' ⟨ws',rfl,rfl⟩);exact(show ∀G' v H',_->_->nQ X.K G' (.fy ws') v->Q v H' from h) fL v H' r2 (s1.iD s2) p2
  |ba kvs=>
   let⟨fL,r2,s2,p2⟩:=za0 r1 g sl;exact(show ∀G' v H',_->_->nQ X.K G' (.ba kvs) v->Q v H' from h) fL v H' r2 (s1.iD s2) p2
  |dw _ _ _=>exact h.ke
 |ex c=>
  rw[q]at h;exact Na r1 s1 h
 |no=>rw[q]at h;exact h.ke
def z7z(C:og X.g_ X.w X.K X.mg X.g0 k x ps (nG X.K F))(hr:bL k X.A)(hx:dN (eJ X.g_ X.w) X EE)(ha:DA Z X EE (e::es) dA)(hg:fi (Gl X x) jJ)
  (fb:fi ((x==("__debug__":eh))=false) jK)(he:fi (lq (e::es) X.el=(false,eval e X.el)::lq es X.el) jJ)(df:fi ((r8 fZ (lq es X.el)).pX (·.1)=false) jJ):
  DF Z X EE (.pY (.je x p) (e::es) [] fZ) (j5 F dA):=by
 refine PE.ll (Ha C hr hx ha hg fb he df) ?_;rintro σ H Q ⟨G,e,iA,h⟩;simp only[j5,R.ak]at h;refine⟨G,e,iA,h.pQ (λws e1 h G1 vs H1 r1 s1 p1=>?_) λ_ _ h=>h⟩
 refine⟨G1,ws,r1.mI,by grind,?_⟩;cases q:F ws with
 |ok s=>
  rw[q]at h;intro G' H' v g sl;cases s with
  |no=>exact h.ke
  |fr w=>exact h.ke
  |gD b ws'=>
   cases b with
   |O _=>exact h.ke
   |none=>
    let⟨a,xs,h1,h2,h3,h4,h5⟩:=sl;cases h1;have hn:H1 a=none:=h4;exact h G' a xs H' (r1.wq g) (s1.iD g.gg) h2 h3 (wa r1 hn) (DC r1 hn) h5
  |ba kvs=>exact h.ke
  |dw _ _ _=>exact h.ke
 |ex c=>
  rw[q]at h;exact Na r1 s1 h
 |no=>rw[q]at h;exact h.ke
def z1p(C:oh X.g_ X.w X.K X.mg X.g0 k x ps (nG X.K F))(hr:eL k X.A)(ha:DA Z X EE (e::es) dA)(hg:fi (Gl X x) jJ)
  (fb:fi ((x==("__debug__":eh))=false) jK)(he:fi (lq (e::es) X.el=(false,eval e X.el)::lq es X.el) jJ)(df:fi ((r8 fZ (lq es X.el)).pX (·.1)=false) jJ):
  DE Z X EE (.pY (.je x p) (e::es) [] fZ) (gU F dA):=by
 refine PE.ll (z1e C hr ha hg fb he df) ?_;rintro σ H Q ⟨G,e,iA,h⟩;simp only[gU,R.ak]at h;refine⟨G,e,iA,h.pQ (λws e1 h G1 vs H1 r1 s1 p1=>?_) λ_ _ h=>h⟩
 refine⟨G1,ws,r1.mI,by grind,?_⟩;cases q:F ws with
 |ok s=>
  rw[q]at h;intro G' H' v g sl;cases s with
  |no=>exact h.ke
  |fr w=>
   let⟨fL,r2,s2,p2⟩:=Gk r1 g sl (.h8 rfl);exact(show ∀G' v H',_->_->nQ X.K G' w v->Q v H' from h) fL v H' r2 (s1.iD s2) p2
  |gD b ws'=>
   cases b with
   |O _=>exact h.ke
   |none=>
    let⟨fL,r2,s2,p2⟩:=Gk r1 g sl (.j' ⟨ws',rfl,rfl⟩);exact(show ∀G' v H',_->_->nQ X.K G' (.fy ws') v->Q v H' from h) fL v H' r2 (s1.iD s2) p2
  |ba kvs=>exact h.ke
  |dw _ _ _=>exact h.ke
 |ex c=>rw[q]at h;exact h.ke
 |no=>rw[q]at h;exact h.ke
def cz(C:fh)(d:gF (L W)):L S->SR:=λe=>(d e).cM λws e1=>if ws.J<=16777216 then .ex (.ei C) e1 else .no
def q22{C Ac:fh}{np aW:qY}(hx:sJ X EE)(hC:ZU X.K C Ac=true)(hm:X.mg x=O (.ei C))(hc:X.wK=true)(ha:DA Z X EE (e::es) dA)(hg:fi (Gl X x) jJ)
  (fb:fi ((x==("__debug__":eh))=false) jK)(he:fi (lq (e::es) X.el=(false,eval e X.el)::lq es X.el) jJ)(df:fi ((r8 aW (lq es X.el)).pX (·.1)=false) jJ):
  DS Z X EE (.Raise (O (.pY (.je x np) (e::es) [] aW)) none fZ) (cz C dA):=by
 refine PS.ll (y56 hx hc hg hm hC ha fb he df) ?_;rintro D σ H ⟨G,e,iA,h⟩;refine⟨G,e,iA,(jG h).pQ (λws e1 h G1 vs H1 r1 s1 p1=>?_) λ_ _ h=>h⟩
 split at h
 .rename_i hl;exact⟨by rw[p1.J,vN];exact hl,h G1 σ H1 r1 s1⟩
 .exact h.ke
def oz(K:Fg)(c:fh)(i n:dt)(b h:L S->SR):L S->SR:=λe=>match b e with
 |.ex ie e'=>if ZV K ie (.ei c)=O true then(match h (e'.my i (.fr (.zt ie)))with
  |.nx _=>.nx (L.oS n .no)
  |.bk _=>.bk (L.oS n .no)
  |.ct _=>.ct (L.oS n .no)
  |.rt s uP=>.rt s uP
  |_=>.no)else .no
 |r=>r
def m_._t{e:L S}(r:m_ K Z G σ H e)(n:dt):m_ K Z G (L.oS n none) H (L.oS n .no):=by
 have E_:∀(i:dt)(s:S),(L.oS n S.no)[i]?=O s->s=.no:=λi s h=>by
  rw[w2r]at h;split at h
  .cases h;rfl
  .cases h
 refine⟨r.mI,λi s h=>?_,by simp,λi j b b' w1 w2 a h1 h2 _ _=>?_,r.Ww,r.mD,r.gen⟩
 .rw[E_ i s h];trivial
 .cases E_ _ _ h1
def z70{o3 nH:L vv}{sN:vv}{c n:eh}{Cc:fh}{np vJ:qY}{dB dH:L S->SR}
  (hm:X.mg c=O (.ei Cc))(hN:X.N.p9)(hi:X.N[i]?=O n)(hx:X.el.fj.lH.fI n=O .local)
  (hb:∀(EE:L2.St->XK)(pn:L (fh×nU))(xe:e5->kx->Prop),dN (eJ X.g_ X.w) (X.tr pn xe) EE->kO Z (X.tr pn xe) EE o3 dB)
  (hh:∀e:fh,kO Z (X.hn e) (λ_=>E0) (sN::nH) dH)(hg:fi (Gl X c) jJ)
  (hs:fi (X.zf=X.el::X.l4) jJ)(hf:fi (X.el.Μ=O X.el.EU) jJ)(fb:fi ((c==("__debug__":eh))=false) jK):
  DS Z X EE (.Try o3 [.ż (O (.je c np)) (O n) (sN::nH) vJ] [] [] fZ) (oz X.K Cc i X.N.J dB dH):=by
 refine PS.ll (z7d (tb:=λEE=>eE X.K Z EE dB) (th:=eE X.K Z (λ_=>E0) dH) hg hm hN hi hx hb hh hs hf fb) ?_
 rintro D σ H ⟨G,e,iA,h⟩;refine⟨G,e,iA,?_⟩;unfold oz at h;cases q:dB e with
 |nx e'=>rw[q]at h;exact h
 |bk e'=>rw[q]at h;exact h
 |ct e'=>rw[q]at h;exact h
 |rt w e'=>rw[q]at h;exact h
 |no=>rw[q]at h;exact h
 |ex ie e'=>
  rw[q]at h;intro G1 vg H1 r1 s1;dsimp only at h;split at h
  .rename_i hq;refine⟨hq,λex hex=>?_⟩
   have g:=bc.wg r1.mI hex (oC ex ie);refine⟨_,e'.my i (.fr (.zt ie)),(r1.wq g).my (v:=.ei ex) ⟨ex,rfl,cI⟩,?_⟩;have sg:=s1.iD g.gg;cases q2:dH (e'.my i (.fr (.zt ie)))with
   |nx e2=>rw[q2]at h;exact λG2 iT H2 r2 s2=>h G2 _ H2 (r2._t _) (sg.iD s2)
   |bk e2=>rw[q2]at h;exact λG2 iT H2 r2 s2=>h G2 _ H2 (r2._t _) (sg.iD s2)
   |ct e2=>rw[q2]at h;exact λG2 iT H2 r2 s2=>h G2 _ H2 (r2._t _) (sg.iD s2)
   |rt w e2=>rw[q2]at h;exact λG2 iT v H2 r2 s2 p2=>h G2 iT v H2 r2 (sg.iD s2) p2
   |ex c2 e2=>rw[q2]at h;exact h.ke
   |no=>rw[q2]at h;exact h.ke
  .exact h.ke
end
end D
namespace L2
open PySem PySem.Spec PyProof.Rows
section
variable{X:Cx}{vX zG rW:l_}{vr:L l_}{fj:vP}{fZ:qY}{wi:TI}{g:TG}{tc:TT}{te:TE}
def y6j{Nl Nf:L eh}{js:L dt}{y:eh}{py kJ:qY}{gy:TG}(hc:X.wK=true)(hi:PI X zG rW wi)
  (hk:fj.sP=.Zc)(d3:∀y∈fj.lH,y.2≠.mZ)(oG:∀x∈fj.lH,x.2=.local->fj.lH.fI x.1=O .local)
  (du:∀x∈fj.lH,x.2=.nL->X.el.vW x.1=O .mZ\/X.el.vW x.1=O .nL)
  (hj:∀(i j:dt) y,Nf[i]?=O y->js[i]?=O j->X.N[j]?=O y)(vd:js.J=Nf.J)
  (qS:∀y∈Nf,(y,AW.nL)∈fj.lH/\jy X.el.fj y/\X.el.vW y≠O .local)
  (gC:∀y∈Nf,(_z fj X.el).lH.fI y=O .mZ\/(_z fj X.el).lH.fI y=O .nL)
  (hg:∀cl C aB aI ex,PG (X.cp (Nl++Nf) fj cl C aB aI ex) zG g)(ht:∀cl C aB aI ex,uM (X.cp (Nl++Nf) fj cl C aB aI ex) vr tc)(he:∀cl C aB aI ex,PE (X.cp (Nl++Nf) fj cl C aB aI ex) vX te)
  (IE:PG X (.je y py) gy)(qX:Yh (.Yj vX [⟨zG,rW,vr,0⟩] fj fZ) (O (.je y py)) kJ.y' X.el=pR true)
  (hs:∀x,YS rW X.el x=pR x:=by intro _;rfl):
  PS X (.Yz [.je y py] (.Yj vX [⟨zG,rW,vr,0⟩] fj fZ) kJ) (uB (iL wi Nl.J js g tc te) gy):=by
 intro eS s σ H D I h;let⟨cl,fA,jC,qT⟩:=FZ (fj:=fj) (el:=X.el) λx hx hf=>I.ok.Yk x.1 (du x hx hf)
 rw[exec_Assign_Name_used _ _ _ _ qX];refine i6 (ò (i6 ?_));show kX _ _ (do let _ <- comprehension _ _ _ _ _ _ _ _) _ _ _;refine i6 (zed (Q:=λ_ ja=>kX (mG X.g_ X.w) X.A (pR ()) (λ_ s3=>kX (mG X.g_ X.w) X.A (pR Flow.next) (SP X eS D) X.xe s3) X.xe ja) (use:=O (ZD (.je y py) X.el)) rfl hs fA hk oG (bw (hi eS s σ H _ I h) λv s1 h1=>bw h1 λFf s2 h2=>?_))
 let⟨it,fp,tn,dr,H2,e,I2,T,jc,f2,rd⟩:=h2;subst e;refine Z0 (zel d3 (by intro y hy;simp at hy) (λdU d5 fe=>?_) hk)
 dsimp only at d5 fe |-
 have xZ:(s2.d_.nV {ie:=.hJ "list", qZ:=none,lg:=.mx ([]:L e5).ky}).e6.eG=s2.d_.e6.eG+1:=fH.YU ..;rw[xZ]at d5 fe |-
 have fD:H2 s2.d_.e6.eG=none:=I2.aR.u3 (w0d _);let⟨W,⟨m0,w0⟩,Yf⟩:=rd s2.d_.e6.eG fD;have rC:=T.CZ 0 s2.d_ jc;have IS:=QM (Nl:=Nl) (Nf:=Nf) (js:=js) (cl:=cl) (tk:=s2.nW+([]:L (eh×e5)).J) I2 f2 rC hk d3 jC qT hj vd qS gC d5 fe
 have Md:∀b u,s2.d_.f6 b=O u->dU.f6 b=O u:=λb u q=>by
  have cb:=fH.sf q;exact(fe.2 b (w0y (w1v cb))).iD (fH.q_ _ (fH.q_ _ q))
 have Ed:tn 0 dU:=T.pU 0 s2.d_ dU jc λb hb o q=>Md b o q
 have JI:∀b∈fp,l5 H2 s2.d_.e6.eG (.fy []) b=none:=λb hb=>by
  let⟨o,q,_⟩:=rC b hb;rw[bg (w0y (fH.sf q))];exact(f2 b hb).1
 have kL:∀{H':Hp},(∀b∈fp,H' b=none)->∀b∈fp,fO (X.cp (Nl++Nf) fj cl (s2.d_.e6.eG+1) {s2 with d_:=s2.d_.nV {ie:=.hJ "list", qZ:=none,lg:=.mx ([]:L e5).ky}} (l5 H2 s2.d_.e6.eG (.fy [])) fp) [] H' b:=λhn b hb=>by
  refine⟨hn b hb,(IS.ok.xc b hb).1,IS.ok.mT b hb,.h8 hb,(IS.ok.xc b hb).2,λp hp=>(by cases hp)⟩
 have ϲ:∀s4:kx,s4={s2 with d_:=dU,nW:=s2.nW+([]:L (eh×e5)).J} ->
   YN (mG X.g_ X.w) X.A (.Ļ (.Yj vX [⟨zG,rW,vr,0⟩] fj fZ) 0 (.ei it) (.ei s2.d_.e6.eG) (Ā fj cl (s2.d_.e6.eG+1) X.el))
    (ļ (mG X.g_ X.w) X.A X.xe (O (ZD (.je y py) X.el)) (λ_ ja=>kX (mG X.g_ X.w) X.A (pR ()) (λ_ s3=>kX (mG X.g_ X.w) X.A (pR Flow.next) (SP X eS D) X.xe s3) X.xe ja) (.ei s2.d_.e6.eG) (s2.d_.e6.eG+1)) s4:=by
  rintro s4 rfl;refine Qe (λn s'=>∃i H',g8 (X.cp (Nl++Nf) fj cl (s2.d_.e6.eG+1) {s2 with d_:=s2.d_.nV {ie:=.hJ "list", qZ:=none,lg:=.mx ([]:L e5).ky}} (l5 H2 s2.d_.e6.eG (.fy [])) fp) [] (L.oS Nl.J none++pj js σ) H' s'/\tn i s'.d_/\(∀b∈fp,H' b=none)/\W i n H') ?_ m0 ⟨0,_,IS,Ed,JI,w0⟩
  rintro n s3 ⟨i,H3,I3,vf,xg,w3⟩;rcases Yf i n H3 w3 with⟨stop,qn⟩|⟨go,YF⟩
  .refine bw (T.done (X.cp (Nl++Nf) fj cl (s2.d_.e6.eG+1) {s2 with d_:=s2.d_.nV {ie:=.hJ "list", qZ:=none,lg:=.mx ([]:L e5).ky}} (l5 H2 s2.d_.e6.eG (.fy [])) fp) rfl rfl rfl hc i [] s3 _ H3 _ I3 (kL xg) vf stop) λr s5 ⟨hr,I5⟩=>?_
   subst hr;let⟨m5,IP,_⟩:=I5.T4;let⟨o5,NH,NG,N6,NU,V3,VV⟩:=id IP;have J5:g8 X eS σ H3 s5:=SG I2 f2 I5 (h':=s5.d_) ⟨rfl,λ_ _=>rfl⟩
   have fC:fO X eS H3 (s2.d_.e6.eG+1):=I2.jB (w5h _) I5.nL;have f1:∀b∈[s2.d_.e6.eG+1],fO X eS H3 b:=λb hb=>by rw[w0u.mp hb];exact fC
   have J6:=J5.å f1 (λb hb=>by rw[w0u.mp hb];exact⟨o5,N6,λv z=>by rw[NU]at z;cases z⟩)
   refine bw (IE _ s5 σ H3 (.ei s2.d_.e6.eG) _ _ J6 rfl qn) λ_ s6 ⟨Nj,H6,I6,q6⟩=>?_
   have pC:=I6.OB (s2.d_.e6.eG+1,o5) (w0e _ (w0e _ (zY (w0u.rj rfl) N6)));refine⟨m5,⟨o5,NH,NG,pC.1,NU,V3,VV⟩,λh' tI=>oo (oo ⟨Nj,H6,?_,q6⟩)⟩
   let⟨zfs,g1,g2,g3,g4,g5⟩:=fC;exact I6.eV.ZO (t':=s6.nW) (λb o hb e=>(tI.2 b hb).iD e) pC.2.1 g1 g3 g4 g5
  .refine bw (T.Zd (X.cp (Nl++Nf) fj cl (s2.d_.e6.eG+1) {s2 with d_:=s2.d_.nV {ie:=.hJ "list", qZ:=none,lg:=.mx ([]:L e5).ky}} (l5 H2 s2.d_.e6.eG (.fy [])) fp) rfl rfl rfl hc i [] s3 _ H3 _ I3 (kL xg) vf go) λr s5 ⟨u,hr,h5⟩=>?_
   subst hr;refine bw h5 λ_ s6 ⟨x,H6,I6,r6,y6,Au,HU⟩=>?_
   have Hv:=I6.å (kL HU) (T.CZ _ _ Au);refine bw (hg _ _ _ _ _ _ s6 _ H6 x u _ Hv r6 (YF x H6 y6)) λ_ s7 ⟨mz,H7,I7,kp,q7⟩=>?_
   refine bw (ht _ _ _ _ _ _ s7 mz H7 _ I7 q7) λok s8 ⟨H8,I8,q8⟩=>?_
   have ZT:∀{qA:St}{H9:Hp}{s9:kx},g8 (X.cp (Nl++Nf) fj cl (s2.d_.e6.eG+1) {s2 with d_:=s2.d_.nV {ie:=.hJ "list", qZ:=none,lg:=.mx ([]:L e5).ky}} (l5 H2 s2.d_.e6.eG (.fy [])) fp) ([]++i_ fp s6.d_) qA H9 s9 ->
     Kp (L.oS Nl.J none++pj js σ) qA->(∃m',m'<n/\W (i+1) m' H9)->∃m,m<n/\∃i H',g8 (X.cp (Nl++Nf) fj cl (s2.d_.e6.eG+1) {s2 with d_:=s2.d_.nV {ie:=.hJ "list", qZ:=none,lg:=.mx ([]:L e5).ky}} (l5 H2 s2.d_.e6.eG (.fy [])) fp) [] (L.oS Nl.J none++pj js σ) H' s9/\tn i s9.d_/\(∀b∈fp,H' b=none)/\W i m H':=λ{qA H9 s9} I9 hw ⟨m',hm,w9⟩=>by
    refine⟨m',hm,i+1,H9,I9.eV.weak (by rw[I9.oO,<- IS.oO]) hw,T.pU _ _ _ Au λb hb o q=>(I9.OB (b,o) (w0e _ (w0e _ (zY hb q)))).1,λb hb=>?_,w9⟩
    let⟨o,q,d⟩:=T.CZ _ _ Au b hb;exact(I9.OB (b,o) (w0e _ (w0e _ (zY hb q)))).2.1
   cases ok with
   |false=>exact ZT I8 kp (by simpa using q8)
   |true=>
    have K_:=by simpa only[ZI]using q8
    refine bw (he _ _ _ _ _ _ s8 mz H8 _ I8 K_) λy s9 ⟨yv,H9,I9,r9,ys,hD,hz,q9⟩=>?_
    refine bw (Li _ s9 mz H9 (.ei s2.d_.e6.eG) [yv] (.ei s2.d_.e6.eG) [y] (λv H'=>v=.aH/\H'=l5 H9 s2.d_.e6.eG (.fy (ys++[yv]))) I9 rfl (.m6 r9 .m8) ⟨_,ys,yv,rfl,rfl,hD,hz,rfl,rfl⟩) λ_ Xo ⟨_,TY,Hu,_,_,HN⟩=>?_
    subst HN;exact ZT Hu kp q9
 exact zb1 (ϲ _ rfl) (T.self X.A 0 _ _ _ Ed (ϲ _ rfl))
end
def Qh{X:Cx}{y:eh}{py kJ:qY}{gy:TG}{vX zG rW:l_}{vr:L l_}{fj sc:vP}{fZ:qY}{wi:TI}{g:TG}{tc:TT}{te:TE}{Nl Nf N:L eh}{js:L dt}(hc:X.wK=true)(hi:PI X zG rW wi)
  (ok:dE sc fj N Nf js=true)
  (hg:∀cl C aB aI ex,PG (X.cp (Nl++Nf) fj cl C aB aI ex) zG g)(ht:∀cl C aB aI ex,uM (X.cp (Nl++Nf) fj cl C aB aI ex) vr tc)(he:∀cl C aB aI ex,PE (X.cp (Nl++Nf) fj cl C aB aI ex) vX te)
  (IE:PG X (.je y py) gy)(qX:Yh (.Yj vX [⟨zG,rW,vr,0⟩] fj fZ) (O (.je y py)) kJ.y' X.el=pR true)
  (hsc:fi (X.el.fj=sc) jJ)(hN:fi (X.N=N) jJ)(hs:∀x,YS rW X.el x=pR x:=by intro _;rfl):
  PS X (.Yz [.je y py] (.Yj vX [⟨zG,rW,vr,0⟩] fj fZ) kJ) (uB (iL wi Nl.J js g tc te) gy):=by
 unfold dE at ok;simp only[w0q,w1l,ZE,ϥ,w3b,w2e]at ok;obtain⟨⟨⟨⟨⟨⟨k1,k2⟩,k3⟩,k4⟩,k5⟩,k6⟩,k7⟩:=ok;have sP:∀x,X.el.vW x=sc.lH.fI x:=λx=>by rw[<- hsc];rfl
 refine y6j hc hi k1 k2 (λx hx hl=>(k3 x hx).Ψ λz=>z hl) (λx hx hf=>?_) (λi j y e1 e2=>?_) k5 (λy hy=>?_) (λy hy=>?_) hg ht he IE qX hs
 .rw[sP];rcases k4 x hx with(z|z)|z
  .exact nS hf z
  .exact .h8 z
  .exact .j' z
 .have cb:i<js.J:=(w0c.mp e2).1;have z:=k6 i cb;rw[e1,e2]at z;rw[hN]
  simpa using z
 .let⟨z1,z2⟩:=k7 y hy;refine⟨kd.ZJ z1,?_,?_⟩
  .rw[hsc];rcases z2 with z|z
   .exact .j' (.h8 z)
   .exact .j' (.j' z)
  .rw[sP];rcases z2 with z|z<;>(rw[z];decide)
 .exact Ks (k7 y hy).1
def uk(K:Fg):R2:=λx y H Q=>∃l b xs zs,x=.ei l/\y=.ei b/\cG K H l xs/\cG K H b zs/\xs.J+zs.J<=pg/\∀p,H p=none->Q (.ei p) (l5 H p (.fy (xs++zs)))
def z1q:fM X (Zb .Add) (uk X.K):=by
 intro eS s σ H x y v u Q I rx ry h;let⟨l,b,xs,zs,rfl,rfl,h1,h2,hz,q⟩:=h;cases rx;cases ry;let⟨aC,r1,p1,_⟩:=I.wD h1;let⟨fg,r2,p2,_⟩:=I.wD h2;let⟨⟨ie,dd,lg,sl⟩,ho,hc,n,hd⟩:=id p1.yM;let⟨⟨BY,xa,data2,Bz⟩,nO,eC,n2,Yg⟩:=id p2.yM;simp only at hc hd eC Yg;subst hc hd eC Yg;have l1:=r1.J;have l2:=r2.J;refine ā ⟨_,ho,rfl⟩ ⟨_,nO,rfl⟩ noFill_list_add seq_list_add kd.F.slot_list_add kd.F.entry_list_add (kd.F.args_list_add_2 _ _) (list_addW l b aC.ky fg.ky n n2 dd xa sl Bz (by grind)) ⟨ho,nO,?_⟩;have ea:aC.ky++fg.ky=(aC++fg).ky:=by simp
 rw[ea];exact⟨.ei _,_,I.JA (t':=s.nW) (r1.N' r2) (by grind),rfl,q _ I.u3⟩
end L2
namespace D
open PySem L2
variable{A:tf}{X:Cx}{dA:gF (L W)}{c:gF fJ}{da db:gF W}{G H:Hp}{EE:L2.St->XK}{eS:L (fh×nU)}{Ι es:L l_}{js:L dt}{e pe:L S}{q:L S->SR}{ws:L W}{i kt n:dt}{zp aW p1 p2 pn fZ:qY}{K:Fg}{s:kx}{σ:St}{α:Type}{cv:e5}{w:W}{Z:Zt}
def ο:W->W->fG W
 |.d0 i,.d0 j=>O (.d0 (i+j))
 |.str x,.str y=>if x.J+y.J<=16777216 then O (.str (x++y))else none
 |.ff xs,.ff ys=>if xs≠[]/\xs.J+ys.J<=16777216 then O (.ff (xs++ys))else none
 |.fy xs,.fy ys=>if xs.J+ys.J<=16777216 then O (.fy (xs++ys))else none
 |_,_=>none
def rH:W->W->fG W
 |.d0 i,.d0 j=>O (.d0 (i-j))
 |_,_=>none
def kE:W->W->fG W
 |.d0 i,.d0 j=>if(-(2^64)<i/\i<2^64)\/(-(2^64)<j/\j<2^64)then O (.d0 (i*j))else none
 |_,_=>none
def cR:W->W->fG W
 |.d0 i,.d0 j=>if 0<j/\j<1073741824 then O (.d0 (i / j))else none
 |_,_=>none
def b8:W->W->fG W
 |.d0 i,.d0 j=>if 0<j then O (.d0 (i%j))else none
 |_,_=>none
def ud:W->W->fG W
 |.d0 i,.d0 j=>if 0<=j/\j<=1000000/\i._y<2^64 then O (.d0 (i^j.oR))else none
 |_,_=>none
def nX:W->W->fG W
 |.d0 i,.d0 j=>O (.bl (decide (i<j)))
 |_,_=>none
def CS:W->W->fG W
 |.d0 i,.d0 j=>O (.bl (decide (i<=j)))
 |_,_=>none
def mB:W->W->fG W
 |.d0 i,.d0 j=>O (.bl (decide (j<i)))
 |_,_=>none
def AY:W->W->fG W
 |.d0 i,.d0 j=>O (.bl (decide (j<=i)))
 |_,_=>none
def lp:W->fG W
 |.d0 i=>O (.d0 (-i))
 |_=>none
def So:iq K (λx y H Q=>o_ (λi j=>.d0 (i+j)) x y H Q\/((∃i j,x=.str i/\y=.str j/\i.J+j.J<=pg/\Q (.str (i++j)) H)\/(um K x y H Q\/uk K x y H Q))) ο:=by
 intro G H x y wx wy w Q s px py hf h;unfold ο at hf;split at hf
 .cases hf;cases px;cases py;exact .h8 ⟨_,_,rfl,rfl,h G _ H (.oQ s) rfl⟩
 .split at hf
  .rename_i hl;cases hf;cases px;cases py;exact .j' (.h8 ⟨_,_,rfl,rfl,by rw[vN];exact hl,h G _ H (.oQ s) rfl⟩)
  .cases hf
 .rename_i us ws;split at hf
  .rename_i hl;cases hf;let⟨a,xs,rfl,ha,ra⟩:=px;let⟨b,ys,rfl,hb,rb⟩:=py;have l1:=ra.J;have l2:=rb.J;refine .j' (.j' (.h8 ⟨a,b,xs,ys,rfl,rfl,s.ff ha,s.ff hb,λz=>hl.1 ?_,by rw[l1,l2,vN];exact hl.2,λz=>?_,λz p hp=>?_⟩))
   .subst z;cases us with
    |m8=>rfl
    |m6 _ _=>simp at l1
   .subst z
    have:ws=[]:=by cases ws with
     |m8=>rfl
     |m6 _ _=>simp at l2
    subst this;exact h G _ H (.oQ s) ⟨a,xs,rfl,ha,by simpa using ra⟩
   .have g:=bc.wg s hp (.ff (xs++ys));exact h _ _ _ g ⟨p,_,rfl,c6.of cI,aq.N' (aq.ll g.gg _ ra) (aq.ll g.gg _ rb)⟩
  .cases hf
 .split at hf
  .rename_i hl;cases hf;let⟨a,xs,rfl,ha,ra⟩:=px;let⟨b,ys,rfl,hb,rb⟩:=py;have l1:=ra.J;have l2:=rb.J;refine .j' (.j' (.j' ⟨a,b,xs,ys,rfl,rfl,s.mx ha,s.mx hb,by rw[l1,l2,vN];exact hl,λp hp=>?_⟩))
   have g:=bc.wg s hp (.fy (xs++ys));exact h _ _ _ g ⟨p,_,rfl,cG.of cI,aq.N' (aq.ll g.gg _ ra) (aq.ll g.gg _ rb)⟩
  .cases hf
 .cases hf
def z71:iq K (o_ λi j=>.d0 (i-j)) rH:=by
 intro G H x y wx wy w Q s px py hf h;unfold rH at hf;split at hf
 .cases hf;cases px;cases py;exact⟨_,_,rfl,rfl,h G _ H (.oQ s) rfl⟩
 .cases hf
def z72:iq K (rI vi λi j=>.d0 (i*j)) kE:=by
 intro G H x y wx wy w Q s px py hf h;unfold kE at hf;split at hf
 .split at hf
  .rename_i hc;cases hf;cases px;cases py;exact⟨_,_,rfl,rfl,hc,h G _ H (.oQ s) rfl⟩
  .cases hf
 .cases hf
def z1r:iq K (rI BE λi j=>.d0 (i / j)) cR:=by
 intro G H x y wx wy w Q s px py hf h;unfold cR at hf;split at hf
 .split at hf
  .rename_i hc;cases hf;cases px;cases py;exact⟨_,_,rfl,rfl,hc,h G _ H (.oQ s) rfl⟩
  .cases hf
 .cases hf
def z73:iq K (rI (λ_ j=>0<j) λi j=>.d0 (i%j)) b8:=by
 intro G H x y wx wy w Q s px py hf h;unfold b8 at hf;split at hf
 .split at hf
  .rename_i hc;cases hf;cases px;cases py;exact⟨_,_,rfl,rfl,hc,h G _ H (.oQ s) rfl⟩
  .cases hf
 .cases hf
def z74:iq K (rI BF λi j=>.d0 (i^j.oR)) ud:=by
 intro G H x y wx wy w Q s px py hf h;unfold ud at hf;split at hf
 .split at hf
  .rename_i hc;cases hf;cases px;cases py;exact⟨_,_,rfl,rfl,hc,h G _ H (.oQ s) rfl⟩
  .cases hf
 .cases hf
def Tq:iq K (o_ λi j=>.bl (decide (i<j))) nX:=by
 intro G H x y wx wy w Q s px py hf h;unfold nX at hf;split at hf
 .cases hf;cases px;cases py;exact⟨_,_,rfl,rfl,h G _ H (.oQ s) rfl⟩
 .cases hf
def U4:iq K (o_ λi j=>.bl (decide (i<=j))) CS:=by
 intro G H x y wx wy w Q s px py hf h;unfold CS at hf;split at hf
 .cases hf;cases px;cases py;exact⟨_,_,rfl,rfl,h G _ H (.oQ s) rfl⟩
 .cases hf
def Tr:iq K (o_ λi j=>.bl (decide (j<i))) mB:=by
 intro G H x y wx wy w Q s px py hf h;unfold mB at hf;split at hf
 .cases hf;cases px;cases py;exact⟨_,_,rfl,rfl,h G _ H (.oQ s) rfl⟩
 .cases hf
def U5:iq K (o_ λi j=>.bl (decide (j<=i))) AY:=by
 intro G H x y wx wy w Q s px py hf h;unfold AY at hf;split at hf
 .cases hf;cases px;cases py;exact⟨_,_,rfl,rfl,h G _ H (.oQ s) rfl⟩
 .cases hf
def z75:ER K (rU λi=>.d0 (-i)) lp:=by
 intro G H x wx w Q s px hf h;unfold lp at hf;split at hf
 .cases hf;cases px;exact⟨_,rfl,h G _ H (.oQ s) rfl⟩
 .cases hf
mutual
noncomputable def TX:W->W->Option Bool
 |.aH,.aH=>some true
 |.aH,.bl _=>some false|.aH,.int _=>some false|.aH,.str _=>some false|.aH,.tup _=>some false|.aH,.lst _=>some false
 |.bl a,.bl b=>some (a==b)
 |.bl a,.int b=>some ((if a then 1 else 0)==b)
 |.bl _,.aH=>some false|.bl _,.str _=>some false|.bl _,.tup _=>some false|.bl _,.lst _=>some false
 |.int a,.int b=>some (a==b)
 |.int a,.bl b=>some (a==(if b then 1 else 0))
 |.int _,.aH=>some false|.int _,.str _=>some false|.int _,.tup _=>some false|.int _,.lst _=>some false
 |.str a,.str b=>some (a==b)
 |.str _,.aH=>some false|.str _,.bl _=>some false|.str _,.int _=>some false|.str _,.tup _=>some false|.str _,.lst _=>some false
 |.tup _,.aH=>some false|.tup _,.bl _=>some false|.tup _,.int _=>some false|.tup _,.str _=>some false|.tup _,.lst _=>some false
 |.lst _,.aH=>some false|.lst _,.bl _=>some false|.lst _,.int _=>some false|.lst _,.str _=>some false|.lst _,.tup _=>some false
 |.tup xs,.tup ys=>gY xs ys
 |.lst xs,.lst ys=>gY xs ys
 |.exc _,_=>none
 |_,.exc _=>none
 |.ba _,_=>none
 |_,.ba _=>none
 |.dw _ _ _ _,_=>none
 |.fn _ _ _,_=>none
 |_,.dw _ _ _ _=>none
 |_,.fn _ _ _=>none
noncomputable def gY:List W->List W->Option Bool
 |[],[]=>some true
 |[],_::_=>some false
 |_::_,[]=>some false
 |x::xs,y::ys=>match TX x y,gY xs ys with
  |some a,some b=>some (a&&b)
  |_,_=>none
end
def aU:W->W->fG W
 |.ff ws,.d0 i=>et ws i
 |.fy ws,.d0 i=>et ws i
 |.str z,.d0 i=>if z.J<=16777216 then(et z.rq.n9 i).ej λc=>.str ⟨#[c]⟩else none
 |_,_=>none
def aq.et{i:eW}(r:aq K G ws xs)(h:L2.et ws i=O w):∃x,L2.et xs i=O x/\nQ K G w x:=by
 unfold L2.et at h |-
 rw[r.J];cases q:oJ ws.J i with
 |none=>rw[q]at h;cases h
 |O j=>
  rw[q]at h;exact r.BX h
def Ts:iq K (O4 K) aU:=by
 intro G H x y wx wy w Q s px py hf h;unfold aU at hf;split at hf
 .let⟨a,xs,rfl,ha,ra⟩:=px;cases py;let⟨v,hv,rv⟩:=ra.et hf;exact .j' (.h8 ⟨a,xs,_,v,rfl,rfl,s.ff ha,hv,h G v H (.oQ s) rv⟩)
 .let⟨a,xs,rfl,ha,ra⟩:=px;cases py;let⟨v,hv,rv⟩:=ra.et hf;exact .h8 ⟨a,xs,_,v,rfl,rfl,s.mx ha,hv,h G v H (.oQ s) rv⟩
 .cases px;cases py;split at hf
  .rename_i hl;let⟨c,hc,rfl⟩:=w0p.mp hf;exact .j' (.j' ⟨_,_,c,rfl,rfl,by rw[vN];exact hl,hc,h G _ H (.oQ s) rfl⟩)
  .cases hf
 .cases hf
def S.Yl:S->fG W
 |.fr w=>O w
 |.gD _ ws=>O (.fy ws)
 |.no=>none
 |.ba _=>none
 |.dw _ _ _=>none
def fU(i:dt)(d:gF W):gF W:=λe=>match e[i]?.nR S.Yl with
 |none=>.no
 |O _=>(d e).nR λk e1=>match e1[i]?.nR S.Yl with
  |none=>.no
  |O w=>bS (aU w k) e1
def CU:W->fG W
 |.str z=>if z.J<=16777216 then O (.d0 z.J)else none
 |.ff ws=>O (.d0 ws.J)
 |.fy ws=>O (.d0 ws.J)
 |_=>none
def bo:L W->fG W
 |[w]=>CU w
 |_=>none
def Sq:vp K (λxs H Q=>∃x n,xs=[x]/\BL K x H n/\Q (.d0 n) H) bo:=by
 intro G H xs ws w Q s pr hf h;unfold bo at hf;split at hf
 .let⟨x,r,rfl,px,pr⟩:=pr;cases(show r=[]from pr);unfold CU at hf;split at hf
  .split at hf
   .rename_i hl;cases hf;cases px;exact⟨_,_,rfl,⟨by grind [vN],rfl⟩,h G _ H (.oQ s) rfl⟩
   .cases hf
  .cases hf;let⟨a,xs,rfl,ha,ra⟩:=px;exact⟨_,_,rfl,.j' ⟨xs,s.ff ha,rfl⟩,h G _ H (.oQ s) (by rw[ra.J];rfl)⟩
  .cases hf;let⟨a,xs,rfl,ha,ra⟩:=px;exact⟨_,_,rfl,.h8 ⟨xs,s.mx ha,rfl⟩,h G _ H (.oQ s) (by rw[ra.J];rfl)⟩
  .cases hf
 .cases hf
def bu:W->fJ
 |.aH=>true|.bl _=>true|.d0 _=>true|.str _=>true|_=>false
def y6k(h:bu w=true)(p:nQ K G w v):nQ K G' w v:=by
 cases w with
 |aH=>exact p
 |bl b=>exact p
 |d0 i=>exact p
 |str x=>exact p
 |_=>cases h
def gW(i:dt)(f:L W->fG W):gF W:=λe=>match e[i]?.nR S.Yl with
 |none=>.no
 |O w=>match f [w]with
  |none=>.no
  |O v=>match e[i]? with
   |O (.fr _)=>.ok v e
   |_=>if bu v=true then .ok v e else .no
section
variable{a b e:l_}{d:gF W}{p:qY}{x:eh}
theorem Q2q(ha:DE Z X EE a d)(hb:DE Z X EE b db)(hs:gn b:=by intro _ _;rfl):DE Z X EE (.Hz a b fZ) (ag aU d db):=PE.ll (Hk SA ha hb hs) (u9 Ts)
def m_.Yl{e:L S}(r:m_ K Z G σ H e)(h:e[i]?.nR S.Yl=O w):∃v,σ[i]?=O (O v) /\
  (nQ K G w v\/∃ws a xs u,(∀z,e[i]?≠O (.fr z))/\w=.fy ws/\v=.ei a/\H a=O u/\(u=.fy xs\/∃o,u=.jn o (.fy xs))/\G a=none/\aq K G ws xs):=by
 let⟨s,h1,h2⟩:=w2s.mp h;cases s with
 |no=>cases h2
 |ba _=>cases h2
 |dw _ _ _=>cases h2
 |fr w'=>
  cases h2;let⟨v,h3,h4⟩:=r.fr h1;exact⟨v,h3,.h8 h4⟩
 |gD b ws=>
  cases h2;let⟨a,xs,h3,h4,h5,h6,h7⟩:=r.gD h1;exact⟨.ei a,h3,.j' ⟨ws,a,xs,_,(λz y=>by rw[h1]at y;cases y),rfl,rfl,h4,.h8 rfl,h5,h7⟩⟩
theorem za1{K:Fg}{a:fh}{u:HO}(s:au G H)(h:H a=O u)(hg:G a=none):au G (l5 G a u)/\au (l5 G a u) H:=
 ⟨v7 hg _,λc o z=>by
  by_cases hc:c=a
  .subst hc;rw[cI]at z;cases z;exact h
  .rw[bg hc]at z;exact s c o z⟩
def z76(i:dt)(hb:DE Z X EE b d)(hN:fi (X.N[i]?=O x) jJ)(hv:fi (jy X.el.fj x) jM)(hd:fi ((x==("__debug__":eh))=false) jK)
  (dR:fi ((x==("__classdict__":eh))=false) jK)(hs:gn b:=by intro _ _;rfl):DE Z X EE (.Hz (.je x p) b fZ) (fU i d):=by
 refine PE.ll (Hk SA (pv i hN hv hd dR) hb hs) ?_;rintro σ H Q ⟨G,e,iA,h⟩;unfold fU at h;split at h
 .exact h.ke
 .rename_i w0 Wr;let⟨v,hv,_⟩:=iA.Yl Wr;refine⟨v,hv,G,e,iA,(R.ak.mp h).pQ (λk e1 h G1 u H1 r1 s1 p1=>?_) λ_ _ h=>h⟩
  split at h
  .exact h.ke
  .rename_i w hw;let⟨w',hf,h2⟩:=bq.mp h;let⟨v',Cz,q⟩:=r1.Yl hw;rw[hv]at Cz;cases Cz;rcases q with q|⟨ws,a,xs,u,he,rfl,rfl,q1,qu,q2,q3⟩
   .exact Ts G1 H1 v u w k w' Q r1.mI q p1 hf λG' v H' g p=>h2 G' v H' (r1.wq g) (s1.iD g.gg) p
   ·-- an Zd of ze7 gD wD
    unfold aU at hf;split at hf
    .rename_i Ν;cases Ν
    .rename_i Ν;cases Ν;cases p1;let⟨y,hy,ry⟩:=q3.et hf;refine .h8 ⟨a,xs,_,y,rfl,rfl,?_,hy,h2 G1 y H1 r1 s1 ry⟩;rcases qu with rfl|⟨o,rfl⟩
     .exact cG.of q1
     .exact .h8 (.j' ⟨o,q1⟩)
    all_goals grind
def z77{r:L V->Hp->VK->Prop}{f:L W->fG W}(i:dt){id:ET}{fn:eh}(hc:ft X (.rn id) r)(hf:vp X.K r f)(hv:_a fn=O (.rn id))(hm:X.mg fn=none)
  (hN:fi (X.N[i]?=O x) jJ)(gC:fi (jy X.el.fj x) jM)(hd:fi ((x==("__debug__":eh))=false) jK)(dR:fi ((x==("__classdict__":eh))=false) jK)
  (hg:fi (Gl X fn) jJ)(hn:fi (fn≠"__name__") jK)(fb:fi ((fn==("__debug__":eh))=false) jK)(hs:fi (lq [.je x p] X.el=(false,eval (.je x p) X.el)::lq [] X.el) jJ)(df:fi ((r8 fZ (lq [] X.el)).pX (·.1)=false) jJ):
  DE Z X EE (.pY (.je fn pn) [.je x p] [] fZ) (gW i f):=by
 refine PE.ll (Ly hc hg hm hv (v9 (pv i hN gC hd dR) DX hs) hn fb hs df) ?_;rintro σ H Q ⟨G,e,iA,h⟩;unfold gW at h;split at h
 .exact h.ke
 .rename_i w hw;split at h
  .exact h.ke
  .rename_i y hy;let⟨v,hv,q⟩:=iA.Yl hw;refine⟨v,hv,?_⟩;rcases q with q|⟨ws,a,xs,u,he,rfl,rfl,q1,qu,q2,q3⟩
   .refine hf G H [v] [w] y Q iA.mI (.WS q) hy λG' v H' g p=>?_
    split at h
    .exact h G' v H' (iA.wq g) g.gg p
    .split at h
     .exact h G' v H' (iA.wq g) g.gg p
     .exact h.ke
   .split at h
    .rename_i hz;exact nS hz (he _)
    split at h
    .rename_i hsc;let⟨s1,s2⟩:=za1 (K:=X.K) iA.mI q1 q2
     have Wj:cG X.K (l5 G a u) a xs:=by
      rcases qu with rfl|⟨o,rfl⟩
      .exact cG.of cI
      .exact .h8 (.j' ⟨o,cI⟩)
     refine hf (l5 G a u) H [.ei a] [.fy ws] y Q s2 (.WS ⟨a,xs,rfl,Wj,aq.ll s1 ws q3⟩) hy λG' v H' g p=>?_
     have g':bc G H G H':=⟨g.hh,.oQ _,iA.mI.iD g.hh,λ_ _=>rfl⟩
     exact(show ∀G' v H',_->_->nQ X.K G' y v->Q v H' from h) G v H' (iA.wq g') (.oQ _) (y6k hsc p)
    .exact h.ke
def dF(i:dt)(d:gF (L W)):L S->SR:=λe=>match e[i]? with
 |O (.gD _ _)=>(d e).cM λws e1=>match ws,e1[i]? with
  |[w],O (.gD b xs)=>if xs.J<16777216 then .nx (e1.my i (.gD b (xs++[w])))else .no
  |_,_=>.no
 |_=>.no
def z78(i:dt)(ha:DA Z X EE (e::es) dA)(hN:fi (X.N[i]?=O x) jJ)(hv:fi (jy X.el.fj x) jM)(hd:fi ((x==("__debug__":eh))=false) jK)(dR:fi ((x==("__classdict__":eh))=false) jK)
  (cC:fi (Z_ (.je x p) "append" X.el (eval (.je x p) X.el)=eval (.je x p) X.el) jJ)
  (fX:fi (((r8 aW (lq (e::es) X.el)).oP (λx=>!x.1)&&(_D aW (_G [] X.el)).oP (λx=>x.1.sG)&&decide ((e::es).J+([]:L Yr).J+(if([]:L Yr).yw then 0 else 1)<30))=true) jJ)
  (cD:fi ((zp._g==aW.y')=true) jJ)(hs:fi (lq (e::es) X.el=(false,eval e X.el)::lq es X.el) jJ)(b7:fi ((r8 aW (lq es X.el)).pX (·.1)=false) jJ)
  (qX:fi (Yh (.pY (.Zn (.je x p) "append" zp) (e::es) [] aW) none fZ.y' X.el=pR false) jJ):
  DS Z X EE (.l_ (.pY (.Zn (.je x p) "append" zp) (e::es) [] aW) fZ) (dF i dA):=by
 refine PS.ll (DH (z7i (pv i hN hv hd dR) ha cC fX cD hs b7) qX) ?_;rintro D σ H ⟨G,e,iA,h⟩;unfold dF at h;split at h
 .rename_i b0 G8 tD;let⟨a,xs,h1,h2,h3,h4,h5⟩:=iA.gD tD;refine⟨.ei a,h1,.h8 ⟨rfl,xs,cG.of h2⟩,G,e,iA,(jG h).pQ (λws e1 h G1 vs H1 r1 s1 p1=>?_) λ_ _ h=>h⟩
  split at h
  .rename_i w b ys Co;let⟨a',zs,g1,g2,g3,g4,g5⟩:=r1.gD Co;rw[h1]at g1;cases g1;let⟨y,r,rfl,py,pr⟩:=p1;cases(show r=[]from pr);split at h
   .rename_i hl;refine⟨a,zs,y,rfl,rfl,g2,by rw[g5.J,vN];exact hl,?_⟩;exact h G1 σ _ (r1.mut Co h1 (g5.N' (.WS py))) s1
   .exact h.ke
  .exact h.ke
 .exact h.ke
def iZ(i:dt):gF W:=λe=>match e[i]? with
 |O (.gD b ws)=>match ws[ws.J-1]? with
  |O w=>.ok w (e.my i (.gD b ws.YQ))
  |none=>.no
 |_=>.no
def z79(i:dt)(hN:fi (X.N[i]?=O x) jJ)(hv:fi (jy X.el.fj x) jM)(hd:fi ((x==("__debug__":eh))=false) jK)(dR:fi ((x==("__classdict__":eh))=false) jK)
  (cC:fi (Z_ (.je x p) "pop" X.el (eval (.je x p) X.el)=eval (.je x p) X.el) jJ)(cD:fi ((zp._g==aW.y')=true) jJ):DE Z X EE (.pY (.Zn (.je x p) "pop" zp) [] [] aW) (iZ i):=by
 refine PE.ll (z7b kd.F.Ŝ kd.F.zdB kd.F.type_list_pop z7c (pv i hN hv hd dR) cC cD) ?_;rintro σ H Q ⟨G,e,iA,h⟩;unfold iZ at h;split at h
 .rename_i b ws he;let⟨a,xs,h1,h2,h3,h4,h5⟩:=iA.gD he;split at h
  .rename_i w hw;let⟨y,hy,ry⟩:=h5.BX hw;refine⟨.ei a,h1,.h8 ⟨rfl,xs,cG.of h2⟩,a,xs,y,rfl,rfl,h2,by rw[h5.J];exact hy,?_⟩;exact h G y _ (iA.mut he h1 h5.YQ) (.oQ _) ry
  .exact h.ke
 .exact h.ke
end
def cq(c:gF fJ)(d:gF W)(pe:L S):L W->fG (L W)
 |[]=>O []
 |w::ws=>match c (.fr w::pe)with
  |.ok true e1=>match d e1 with
   |.ok y _=>(cq c d pe ws).ej (y::·)
   |_=>none
  |.ok false _=>cq c d pe ws
  |_=>none
def i4(e:L S)(j:dt):L S:=match e[j]? with
 |O (.gD none ws)=>e.my j (.fr (.fy ws))
 |_=>e
def bt(js:L dt)(e:L S):L S:=js.t_ i4 e
def rD(e:L S)(j:dt):S:=match e[j]? with
 |O (.fr w)=>.fr w
 |_=>.no
def iP(js:L dt)(e:L S):L S:=js.ej (rD e)
def fv(js:L dt)(c:gF fJ)(d:gF W)(ws:L W)(e1:L S):R (L W):=
 if ws.J<=16777216 then(match cq c d (iP js (bt js e1)) ws with
  |O oN=>.ok oN (bt js e1)
  |none=>.no)else .no
def dP(js:L dt)(di:gF W)(c:gF fJ)(d:gF W):gF (L W):=λe=>(di e).nR λw e1=>match gc w with
 |O ws=>fv js c d ws e1
 |none=>.no
def c8(g:L W->fG (L W))(js:L dt)(di:gF (L W))(c:gF fJ)(d:gF W):gF (L W):=λe=>(di e).nR λw e1=>match g w with
 |O ws=>fv js c d ws e1
 |none=>.no
def cP:gF fJ:=λe=>.ok true e
def m_.bt(r:m_ K Z G σ H e):∀(js:L dt),∃G',au G G'/\m_ K Z G' σ H (bt js e):=by
 intro js
 induction js generalizing G e with
 |m8=>exact⟨G,.oQ _,r⟩
 |m6 j js ih=>
  have WS:∃G',au G G'/\m_ K Z G' σ H (i4 e j):=by
   unfold i4;split
   .rename_i ws hw;let⟨v,G',_,s,_,r'⟩:=r.ŉ hw;exact⟨G',s,r'⟩
   .exact⟨G,.oQ _,r⟩
  let⟨G1,s1,r1⟩:=WS;let⟨G2,s2,r2⟩:=ih r1;exact⟨G2,s1.iD s2,r2⟩
def m_.block(r:m_ K Z G σ H e)(js:L dt){x:V}(p:nQ K G w x):m_ K ⟨H,G,[]⟩ G (O x::pj js σ) H (.fr w::iP js e):=by
 have kQ:∀(i:dt)(s:S),(S.fr w::iP js e)[i]?=O s->s=.no\/∃u,s=.fr u/\((i=0/\u=w)\/∃k j,i=k+1/\js[k]?=O j/\e[j]?=O (.fr u)):=λi s h=>by
  cases i with
  |zc=>cases h;exact .j' ⟨w,rfl,.h8 ⟨rfl,rfl⟩⟩
  |zD k=>
   rw[w0v]at h;unfold iP at h;rw[w1c]at h;let⟨j,h1,h2⟩:=w0p.mp h;unfold rD at h2;split at h2
   .rename_i u hu;subst h2;exact .j' ⟨u,rfl,.j' ⟨k,j,rfl,h1,hu⟩⟩
   .subst h2;exact .h8 rfl
 refine⟨r.mI,λi s h=>?_,?_,λi j b b' w1 w2 a h1 h2 _ _=>?_,λa o h _=>h,(λa h=>nomatch h),λa _=>rfl⟩
 .rcases kQ i s h with rfl|⟨u,rfl,⟨rfl,rfl⟩|⟨k,j,rfl,h1,h2⟩⟩
  .trivial
  .exact⟨x,rfl,p⟩
  .let⟨v,h3,h4⟩:=r.fr h2;refine⟨v,?_,h4⟩;rw[w0v];unfold pj;rw[w1c,h1];simp[h3]
 .simp[iP,pj]
 .rcases kQ i _ h1 with z|⟨u,z,_⟩<;>cases z
def m_.qk(r:m_ K Z G σ H e)(hg:G a=none)(hz:Z.H a=none)(hi:a∉Z.io)(hf:kT σ e a)(N5:H a=O (.fy ls)):m_ K Z G σ (l5 H a o) e:=by
 refine⟨λc u z=>?_,λj s z=>?_,r.oO,r.mR,λc u z n=>?_,λc z=>?_,r.gen⟩
 .rw[bg (gQ z hg)];exact r.mI c u z
 .have y:=r.r5 j s z;cases s with
  |no=>trivial
  |fr w=>exact y
  |gD b2 w2=>
   let⟨c,ys,y1,y2,y3,y4,y5⟩:=y;refine⟨c,ys,y1,?_,y3,y4,y5⟩;rw[bg];exact y2;rintro rfl;let⟨c',_,z1,_⟩:=r.gD z;rw[z1]at y1;cases y1;exact hf j b2 w2 z z1
  |ba kvs=>
   let⟨c,y1,y2,y3,y4⟩:=y;refine⟨c,y1,?_,y3,y4⟩;rw[bg (qr y2 N5 (Ak rfl))];exact y2
  |dw sh ks ws=>exact jX._x y (.oQ _) λl o ys k1 k2 k3=>⟨by rw[bg (qr k1 N5 (Ai rfl))];exact k1,k2,k3⟩
 .rw[bg (gQ z hz)];exact r.Ww c u z n
 .by_cases hc:c=a
  .grind
  .rw[bg hc];exact r.mD c z
structure _Z(dr:It)(xs:L V)(SQ:Hp->Prop):Prop where
 go:∀i H,SQ H->i<xs.J->dr.go i H
 lr:∀i H x H',SQ H->dr.lr i H x H'->i<xs.J->H'=H/\xs[i]?=O x
 stop:∀i H,SQ H->xs.J<=i->dr.stop i H
theorem Sr:_Z (AJ K a) xs (λH=>cG K H a xs):=
 ⟨λi H q h=>⟨xs,xs[i],q,by simp[h]⟩,λi H x H' q ⟨e,y⟩ h=>⟨e,y xs q⟩,λi H q h=>⟨xs,q,h⟩⟩
theorem Ss:_Z (AK K a) xs (λH=>c6 K H a xs):=
 ⟨λi H q h=>⟨xs,xs[i],q,by simp[h]⟩,λi H x H' q ⟨e,y⟩ h=>⟨e,y xs q⟩,λi H q h=>⟨xs,q,h⟩⟩
theorem z8a:_Z (rM lo n) ((L.so n).ej λk=>V.d0 (lo+(k:dt))) (λ_=>w7):=
 ⟨λi H q h=>show i<n by simpa using h,λi H x H' q ⟨e,y⟩ h=>⟨e,by simp at h;simp[h,y]⟩,λi H q h=>show n<=i by simpa using h⟩
def GJ{dr:It}{xs:L V}{SQ:Hp->Prop}{oN:L W}{d:gF W}{Q:VK}{G0:Hp}(W0:_Z dr xs SQ)(r1:m_ K Z G1 σ H1 e1)(s1:au G0 G1)(rp:aq K G1 ws xs)(vB:∀G' H',au G1 G'->au G' H'->SQ H')(hl:ws.J<=16777216)
  (hz:∀p,H1 p=none->p∉Z.io)(hc:cq c d (iP js e1) ws=O oN)
  (h:∀G' a xs H',m_ K Z G' σ H' e1->au G0 G'->H' a=O (.fy xs)->G' a=none->Z.H a=none->kT σ e1 a->aq K G' oN xs->Q (.ei a) H'):
  ∀D,H1 D=none->∃W:dt->dt->Hp->Prop,(∃m,W 0 m (l5 H1 D (.fy [])))/\∀i m H2,W i m H2 ->
   (dr.stop i H2/\Q (.ei D) H2)\/(dr.go i H2/\∀x H3,dr.lr i H2 x H3->bP 0 x (L.oS 1 none++pj js σ) H3 λuK H4=>Kp (L.oS 1 none++pj js σ) uK/\(λσ H Q=>∃Z',Zy K Z' (λ_=>E0) c σ H Q) uK H4 λb H5=>
    if b=true then(λσ H Q=>∃Z',vh K Z' σ H λG e=>(d e).yt (λw e'=>∀G' v H',m_ K Z' G' σ H' e'->au G G'->nQ K G' w v->Q v H') (XH K Z' (λ_=>E0) σ G)) uK H5 λy H6=>∃ys,H6 D=O (.fy ys)/\ys.J<pg/\∃m',m'<m/\W (i+1) m' (l5 H6 D (.fy (ys++[y])))else ∃m',m'<m/\W (i+1) m' H5):=by
 intro D hD;have vd:=rp.J
 refine⟨λi m H2=>m=ws.J-i/\i<=ws.J/\∃G2 ys done oM,m_ K Z G2 σ H2 e1/\au G1 G2/\H2 D=O (.fy ys)/\G2 D=none/\aq K G2 done ys/\done.J<=i/\cq c d (iP js e1) (ws.m9 i)=O oM/\done++oM=oN,
  ⟨ws.J,by omega,w1k _,G1,[],[],oN,r1.wq (bc.pM r1.mI hD _),.oQ _,cI,r1.mI.nL hD,rfl,w0d _,hc,rfl⟩,?_⟩
 rintro i m H2 ⟨rfl,hi,G2,ys,done,oM,r2,s2,Yg,oF,uw,VS,eC,ho⟩;have du:kT σ e1 D:=DC r1 hD;have CC:Z.H D=none:=wa r1 hD
 by_cases cb:i<ws.J
 .refine .j' ⟨W0.go i H2 (vB G2 H2 s2 r2.mI) (by omega),λx H3 hy=>?_⟩
  let⟨rfl,hx⟩:=W0.lr i H2 x H3 (vB G2 H2 s2 r2.mI) hy (by omega);let⟨w,hw,pw⟩:=rp.lZ hx;rw[Qg hw]at eC;refine⟨Kp.WS,⟨H3,G2,[]⟩,G2,.fr w::iP js e1,r2.block js (nQ.ll s2 w pw),?_⟩;unfold cq at eC;cases qc:c (.fr w::iP js e1)with
  |no=>rw[qc]at eC;cases eC
  |ex _ _=>rw[qc]at eC;cases eC
  |ok k e2=>
   rw[qc]at eC;intro G3 H5 r3 s3;have g3:=r3.hX s3;cases k with
   |false=>
    exact⟨ws.J-(i+1),by omega,rfl,cb,G3,ys,done,oM,r2.wq g3,s2.iD s3,g3.hh _ _ Yg,by rw[g3.rZ D (by rw[Yg];simp)];exact oF,aq.ll s3 _ uw,by omega,eC,ho⟩
   |true=>
    refine⟨⟨H3,G2,[]⟩,G3,e2,r3,?_⟩;dsimp only at eC;cases qd:d e2 with
    |no=>rw[qd]at eC;cases eC
    |ex _ _=>rw[qd]at eC;cases eC
    |ok y e3=>
     rw[qd]at eC;intro G4 v H6 r4 s4 p4;have g4:=r4.hX (s3.iD s4);let⟨uv,hr,rfl⟩:=w0p.mp eC;have Cm:H6 D=O (.fy ys):=g4.hh _ _ Yg;have Cp:G4 D=none:=by rw[g4.rZ D (by rw[Yg];simp)];exact oF
     refine⟨ys,Cm,?_,ws.J-(i+1),by omega,rfl,cb,G4,ys++[v],done++[y],uv,(r2.wq g4).qk Cp CC (hz D hD) du Cm,s2.iD (s3.iD s4),cI,Cp,(aq.ll (s3.iD s4) _ uw).N' (.WS p4),by simp;omega,hr,by rw[w0k];exact ho⟩;rw[uw.J,vN];omega
 .have:i=ws.J:=by omega
  subst this;rw[w3w]at eC;cases eC;rw[w0s]at ho;subst ho;exact .h8 ⟨W0.stop _ H2 (vB G2 H2 s2 r2.mI) (by omega),h G2 D ys H2 r2 (s1.iD s2) Yg oF CC du uw⟩
section
variable{vX rW a b:l_}{vr:L l_}{fj sc:vP}{pt:qY}{x:eh}{Nf N:L eh}{di:gF W}{d:gF W}
def uL(Z:Zt)(X:Cx)(EE:L2.St->XK)(vr:L l_)(c:gF fJ):Prop:=uM X vr (Zy X.K Z EE c)
theorem z1s:uL Z X EE [] cP:=λeS s σ H Q I ⟨G,e,r,h⟩=>z09 eS s σ H Q I (h G H r (.oQ _))
theorem z1t(h:DT Z X EE a c):uL Z X EE [a] c:=z1a h
def cT(K:Fg)(c:gF fJ):TT:=λσ H Q=>∃Z',Zy K Z' (λ_=>E0) c σ H Q
def cE(K:Fg)(d:gF W):TE:=λσ H Q=>∃Z',vh K Z' σ H λG e=>(d e).yt (λw e'=>∀G' v H',m_ K Z' G' σ H' e'->au G G'->nQ K G' w v->Q v H') (XH K Z' (λ_=>E0) σ G)
def Qi{D:Z1}{r:R (L W)}{k:W->L S->SR}(h:bx K Z EE D G ((r.nR λws e'=>.ok (.fy ws) e').cM k)):r.yt (λws e'=>bx K Z EE D G (k (.fy ws) e')) (XH K Z EE σ G):=by
 cases r with
 |ok a e=>exact h
 |ex c e=>exact λG' H' r q=>h G' σ H' r q
 |no=>exact h
theorem Bx(ht:∀Z' cl C aB aI ex,uL Z' (X.cp Y fj cl C aB aI ex) (λ_=>E0) vr c):∀cl C aB aI ex,uM (X.cp Y fj cl C aB aI ex) vr (cT X.K c):=λcl C aB aI ex eS s σ H Q I ⟨Z',h⟩=>ht Z' cl C aB aI ex eS s σ H Q I h
theorem By(he:∀Z' cl C aB aI ex,DE Z' (X.cp Y fj cl C aB aI ex) (λ_=>E0) vX d):∀cl C aB aI ex,PE (X.cp Y fj cl C aB aI ex) vX (cE X.K d):=λcl C aB aI ex eS s σ H Q I ⟨Z',h⟩=>he Z' cl C aB aI ex eS s σ H Q I h
theorem l6(r:m_ K Z G σ H e):∀p,H p=none->p∉Z.io:=λp hp hi=>r.mD p hi hp
def Qj:∀σ H Q,nh K Z EE (dP js di c d) σ H Q->iL (CG K (f7 K Z EE di)) 1 js (bP 0) (cT K c) (cE K d) σ H Q:=by
 rintro σ H Q ⟨G,e,iA,h⟩;simp only[dP,R.ak]at h;refine⟨G,e,iA,h.pQ (λw e1 h G1 v1 H1 r1 s1 p1=>?_) λ_ _ h=>h⟩
 split at h
 .rename_i ws hw;unfold fv at h;split at h
  .rename_i hl;split at h
   .rename_i oN ho;let⟨G2,s2,r2⟩:=r1.bt js;have p2:=nQ.ll s2 w p1;have io:=l6 r2;cases w with
    |ff us=>
     cases hw;let⟨a,xs,rfl,hq,rp⟩:=p2;exact⟨a,rfl,.j' ⟨⟨xs,r2.mI.ff hq⟩,GJ Ss r2 (s1.iD s2) rp (λG' H' s s'=>au.ff s' (au.ff s hq)) hl io ho h⟩⟩
    |fy us=>
     cases hw;let⟨a,xs,rfl,hq,rp⟩:=p2;exact⟨a,rfl,.h8 ⟨⟨xs,r2.mI.mx hq⟩,GJ Sr r2 (s1.iD s2) rp (λG' H' s s'=>au.mx s' (au.mx s hq)) hl io ho h⟩⟩
    |_=>cases hw
   .exact h.ke
  .exact h.ke
 .exact h.ke
def z1u(hc:X.wK=true)(hi:DE Z X EE rW di)(ok:dE sc fj N Nf js=true)
  (ht:∀Z' cl C aB aI ex,uL Z' (X.cp ([x]++Nf) fj cl C aB aI ex) (λ_=>E0) vr c)(he:∀Z' cl C aB aI ex,DE Z' (X.cp ([x]++Nf) fj cl C aB aI ex) (λ_=>E0) vX d)
  (hg:∀cl C aB aI ex,PG (X.cp ([x]++Nf) fj cl C aB aI ex) (.je x pt) (bP 0))
  (hsc:fi (X.el.fj=sc) jJ)(hN:fi (X.N=N) jJ)(hs:∀x,YS rW X.el x=pR x:=by intro _;rfl):
  DF Z X EE (.Yj vX [⟨.je x pt,rW,vr,0⟩] fj fZ) (dP js di c d):=by
 exact PE.ll (Gj (Nl:=[x]) (tc:=cT X.K c) (te:=cE X.K d) hc (Hb hi) ok hg (Bx ht) (By he) hsc hN hs) Qj
def x91(i:dt){y:eh}{py kJ:qY}(Ia:X.N.p9)(hc:X.wK=true)(hi:DE Z X EE rW di)(ok:dE sc fj N Nf js=true)
  (ht:∀Z' cl C aB aI ex,uL Z' (X.cp ([x]++Nf) fj cl C aB aI ex) (λ_=>E0) vr c)(he:∀Z' cl C aB aI ex,DE Z' (X.cp ([x]++Nf) fj cl C aB aI ex) (λ_=>E0) vX d)
  (hg:∀cl C aB aI ex,PG (X.cp ([x]++Nf) fj cl C aB aI ex) (.je x pt) (bP 0))
  (hsc:fi (X.el.fj=sc) jJ)(hN:fi (X.N=N) jJ)(hs:∀x,YS rW X.el x=pR x:=by intro _;rfl)(IJ:fi (X.N[i]?=O y) jJ)(Jg:fi (WH X.el.fj y) jN)(IA:fi (X.fn y=true\/X.el.fj.lH.fI y=O .local) jL)(qX:fi (Yh (.Yj vX [⟨.je x pt,rW,vr,0⟩] fj fZ) (O (.je y py)) kJ.y' X.el=pR true) jJ):
  DS Z X EE (.Yz [.je y py] (.Yj vX [⟨.je x pt,rW,vr,0⟩] fj fZ) kJ) (aG i (gv (dP js di c d))):=by
 refine PS.ll (Qh (Nl:=[x]) (tc:=cT X.K c) (te:=cE X.K d) hc (Hb hi) ok hg (Bx ht) (By he) (uj i Ia IJ Jg IA) qX hsc hN hs) ?_;rintro D σ H ⟨G,e,iA,h⟩;refine Qj σ H _ ⟨G,e,iA,?_⟩;refine(Qi h).pQ (λw e1 h G1 a xs H1 r1 s1 q1 q2 q3 q4 p1=>?_) λ_ _ h=>h
 let⟨sg,rg⟩:=r1.é q1 q2 q3 q4;exact h _ _ H1 (rg.my (v:=.ei a) ⟨a,xs,rfl,cG.of cI,aq.ll sg w p1⟩) (s1.iD sg)
def Ph:∀σ H Q,nh K Z EE (c8 gb js dA c d) σ H Q->iL (xm (qe K Z EE dA)) 1 js (bP 0) (cT K c) (cE K d) σ H Q:=by
 rintro σ H Q ⟨G,e,iA,h⟩;simp only[c8,R.ak]at h;refine⟨G,e,iA,h.pQ (λws e1 h G1 vs H1 r1 s1 p1=>?_) λ_ _ h=>h⟩
 unfold gb at h;split at h
 .rename_i us hh;split at hh
  .rename_i j;split at hh
   .rename_i hj;cases hh;let⟨y,r,rfl,e1,e2⟩:=p1;cases(show y=V.d0 j from e1);cases(show r=[]from e2);refine⟨j,rfl,(wb hj).1,(wb hj).2,?_⟩;unfold fv at h;split at h
    .rename_i hl;split at h
     .rename_i oN ho;let⟨G2,s2,r2⟩:=r1.bt js;have z:=GJ (dr:=rM 0 (j-0).oR) z8a r2 (s1.iD s2) (Pg (lo:=0) (hi:=j)) (λ_ _ _ _=>trivial) hl (l6 r2) ho h
      rwa [eW.Ŭ]at z
     .exact h.ke
    .exact h.ke
   .cases hh
  .cases hh
 .exact h.ke
def y6l(hc:X.wK=true)(hm:X.mg "range"=none)(ha:DA Z X EE [a] dA)(ok:dE sc fj N Nf js=true)
  (ht:∀Z' cl C aB aI ex,uL Z' (X.cp ([x]++Nf) fj cl C aB aI ex) (λ_=>E0) vr c)(he:∀Z' cl C aB aI ex,DE Z' (X.cp ([x]++Nf) fj cl C aB aI ex) (λ_=>E0) vX d)
  (hg:∀cl C aB aI ex,PG (X.cp ([x]++Nf) fj cl C aB aI ex) (.je x pt) (bP 0))
  (ID:fi (Gl X "range") jJ)(k9:fi (lq [a] X.el=[(false,eval a X.el)]) jJ)(hsc:fi (X.el.fj=sc) jJ)(hN:fi (X.N=N) jJ)(hs:∀x,YS (.pY (.je "range" p1) [a] [] p2) X.el x=pR x:=by intro _;rfl):
  DF Z X EE (.Yj vX [⟨.je x pt,.pY (.je "range" p1) [a] [] p2,vr,0⟩] fj fZ) (c8 gb js dA c d):=by
 exact PE.ll (Gj (Nl:=[x]) (tc:=cT X.K c) (te:=cE X.K d) hc (Lh ID hm ha k9) ok hg (Bx ht) (By he) hsc hN hs) Ph
def x7g(i:dt){y:eh}{py kJ:qY}(Ia:X.N.p9)(hc:X.wK=true)(hm:X.mg "range"=none)(ha:DA Z X EE [a] dA)(ok:dE sc fj N Nf js=true)
  (ht:∀Z' cl C aB aI ex,uL Z' (X.cp ([x]++Nf) fj cl C aB aI ex) (λ_=>E0) vr c)(he:∀Z' cl C aB aI ex,DE Z' (X.cp ([x]++Nf) fj cl C aB aI ex) (λ_=>E0) vX d)
  (hg:∀cl C aB aI ex,PG (X.cp ([x]++Nf) fj cl C aB aI ex) (.je x pt) (bP 0))
  (ID:fi (Gl X "range") jJ)(k9:fi (lq [a] X.el=[(false,eval a X.el)]) jJ)(hsc:fi (X.el.fj=sc) jJ)(hN:fi (X.N=N) jJ)(hs:∀x,YS (.pY (.je "range" p1) [a] [] p2) X.el x=pR x:=by intro _;rfl)(IJ:fi (X.N[i]?=O y) jJ)(Jg:fi (WH X.el.fj y) jN)(IA:fi (X.fn y=true\/X.el.fj.lH.fI y=O .local) jL)(qX:fi (Yh (.Yj vX [⟨.je x pt,.pY (.je "range" p1) [a] [] p2,vr,0⟩] fj fZ) (O (.je y py)) kJ.y' X.el=pR true) jJ):
  DS Z X EE (.Yz [.je y py] (.Yj vX [⟨.je x pt,.pY (.je "range" p1) [a] [] p2,vr,0⟩] fj fZ) kJ) (aG i (gv (c8 gb js dA c d))):=by
 refine PS.ll (Qh (Nl:=[x]) (tc:=cT X.K c) (te:=cE X.K d) hc (Lh ID hm ha k9) ok hg (Bx ht) (By he) (uj i Ia IJ Jg IA) qX hsc hN hs) ?_;rintro D σ H ⟨G,e,iA,h⟩;refine Ph σ H _ ⟨G,e,iA,?_⟩;refine(Qi h).pQ (λw e1 h G1 a xs H1 r1 s1 q1 q2 q3 q4 p1=>?_) λ_ _ h=>h
 let⟨sg,rg⟩:=r1.é q1 q2 q3 q4;exact h _ _ H1 (rg.my (v:=.ei a) ⟨a,xs,rfl,cG.of cI,aq.ll sg w p1⟩) (s1.iD sg)
end
mutual
noncomputable def dY:W->Nat
 |.tup ws=>jm ws+1
 |.lst ws=>jm ws+1
 |_=>0
noncomputable def jm:List W->Nat
 |[]=>0
 |w::ws=>max (dY w) (jm ws)
end
mutual
theorem Mz(I:Inv X pins σ H s)(sg:au G H):∀(w:W){w':W}{v:V}{k:Bool},Rep X.K G w v->Rep X.K G w' v->TX w w'=some k->k=true
 |.aH,w',v,k,h,h',e=>by
  cases(show v=.aH from h);cases w'<;>first|(cases e;done)|(cases h';cases e;rfl)|(exfalso;let⟨_,_,z,_⟩:=h';first|done|cases z)|(exfalso;let⟨_,z,_⟩:=h';first|done|cases z)
 |.bl b,w',v,k,h,h',e=>by
  cases(show v=.bl b from h);cases w'<;>first|(cases e;done)|(cases h';cases e;exact beq_self_eq_true _)|(exfalso;let⟨_,_,z,_⟩:=h';first|done|cases z)|(exfalso;let⟨_,z,_⟩:=h';first|done|cases z)
 |.int b,w',v,k,h,h',e=>by
  cases(show v=.int b from h);cases w'<;>first|(cases e;done)|(cases h';cases e;exact beq_self_eq_true _)|(exfalso;let⟨_,_,z,_⟩:=h';first|done|cases z)|(exfalso;let⟨_,z,_⟩:=h';first|done|cases z)
 |.str b,w',v,k,h,h',e=>by
  cases(show v=.str b from h);cases w'<;>first|(cases e;done)|(cases h';cases e;exact beq_self_eq_true _)|(exfalso;let⟨_,_,z,_⟩:=h';first|done|cases z)|(exfalso;let⟨_,z,_⟩:=h';first|done|cases z)
 |.tup ws,w',v,k,h,h',e=>by
  let⟨a,xs,rfl,q,r⟩:=h;cases w' with
  |tup ws'=>
   let⟨a',iS,z,q',r'⟩:=h';cases z;have:=I.jg (sg.tup q) (sg.tup q');subst this;exact LA I sg ws r r' (e)
  |lst ws'=>
   let⟨a',iS,z,q',r'⟩:=h';cases z;let⟨aC,_,p1,_⟩:=I.tuple (sg.tup q);let⟨fg,_,p2,_⟩:=I.list (sg.seq q');exact absurd rfl (SeqAt.ne_of_list_tuple p2.isList (show s.heap.IsTuple a _ from p1))
  |aH=>cases h'
  |bl _=>cases h'
  |int _=>cases h'
  |str _=>cases h'
  |exc _=>cases e
  |ba _=>cases e
  |dw _ _ _ _=>cases e
  |fn _ _ _=>cases e
 |.lst ws,w',v,k,h,h',e=>by
  let⟨a,xs,rfl,q,r⟩:=h;cases w' with
  |lst ws'=>
   let⟨a',iS,z,q',r'⟩:=h';cases z;have:=I.kA (sg.seq q) (sg.seq q');subst this;exact LA I sg ws r r' (e)
  |tup ws'=>
   let⟨a',iS,z,q',r'⟩:=h';cases z;let⟨aC,_,p1,_⟩:=I.tuple (sg.tup q');let⟨fg,_,p2,_⟩:=I.list (sg.seq q);exact absurd rfl (SeqAt.ne_of_list_tuple p2.isList (show s.heap.IsTuple a _ from p1))
  |aH=>cases h'
  |bl _=>cases h'
  |int _=>cases h'
  |str _=>cases h'
  |exc _=>cases e
  |ba _=>cases e
  |dw _ _ _ _=>cases e
  |fn _ _ _=>cases e
 |.exc c,w',v,k,h,h',e=>by cases w'<;>cases e
 |.ba c,w',v,k,h,h',e=>by cases w'<;>cases e
 |.dw _ _ _ _,w',v,k,h,h',e=>by cases w'<;>cases e
 |.fn _ _ _,w',v,k,h,h',e=>by cases w'<;>cases e
theorem LA(I:Inv X pins σ H s)(sg:au G H):∀(ws:List W){ws':List W}{vs:List V}{k:Bool},aq X.K G ws vs->aq X.K G ws' vs->gY ws ws'=some k->k=true
 |[],ws',vs,k,h,h',e=>by
  cases h;cases ws' with
  |nil=>cases e;rfl
  |cons _ _=>let⟨_,_,z,_⟩:=h';cases z
 |w::ws,ws',vs,k,h,h',e=>by
  let⟨x,r,rfl,h1,h2⟩:=h;cases ws' with
  |nil=>cases h'
  |cons w' ws'=>
   let⟨x',r',z,VE,E4⟩:=h';cases z;have e:(match TX w w',gY ws ws' with|some a,some b=>some (a&&b)|_,_=>none)=some k:=e;cases q1:TX w w' with
   |none=>rw[q1]at e;cases e
   |some b1=>
    cases q2:gY ws ws' with
    |none=>rw[q1,q2]at e;cases e
    |some b2=>
     rw[q1,q2]at e;rw[Mz I sg w h1 VE q1,LA I sg ws h2 E4 q2]at e;cases e;rfl
end
def Bo:∀{xs ys:L W}{b:fJ},gY xs ys=O b->(∀(j:dt) x y,xs[j]?=O x->ys[j]?=O y->∃k,TX x y=O k)/\b=((L.so (min xs.J ys.J)).oP (λj=>((TX (xs.mF j .aH) (ys.mF j .aH)).mF false))&&xs.J==ys.J):=by
 intro xs
 induction xs with
 |m8=>
  intro ys b h;refine⟨λj x y hx=>by simp at hx,?_⟩
  cases ys<;>(cases h;simp)
 |m6 x xs ih=>
  intro ys b h;cases ys with
  |m8=>refine⟨λj x y hx hy=>by simp at hy,?_⟩;cases h;simp
  |m6 y ys=>
   have h:(match TX x y,gY xs ys with|O a,O b=>O (a&&b)|_,_=>none)=O b:=h;cases q1:TX x y with
   |none=>rw[q1]at h;cases h
   |O b1=>
    cases q2:gY xs ys with
    |none=>rw[q1,q2]at h;cases h
    |O b2=>
     rw[q1,q2]at h;cases h;let⟨h1,h2⟩:=ih q2;refine⟨λj x' zew hx hy=>?_,?_⟩
     .cases j with
      |zc=>simp at hx hy;subst hx hy;exact⟨_,q1⟩
      |zD j=>exact h1 j x' zew (by simpa using hx) (by simpa using hy)
     .rw[h2];simp only[w0r,dt.succ_min_succ,L.range_succ_eq_map,w3o,L.all_map]
      have e0:(TX ((x::xs).mF 0 .aH) ((y::ys).mF 0 .aH)).mF false=b1:=by
       show(TX x y).mF false=b1;rw[q1];rfl
      rw[e0,fJ.and_assoc];congr 1;congr 1;simp
theorem Ll:∀{xs:L W}{j:dt}{x:W},xs[j]?=O x->dY x<=jm xs
 |[],_,_,h=>by simp at h
 |y::ys,0,x,h=>by simp at h;subst h;simp only[jm];omega
 |y::ys,j+1,x,h=>by
  have:=Ll (xs:=ys) (j:=j) (by simpa using h);simp only[jm];omega
def GK{xs:L α}{x d:α}(h:xs[j]?=O x):xs.mF j d=x:=by
 simp[L.mF,h]
def MX(I:g8 X eS σ H s)(sg:au G H)(hu:A.r7<r_)(n1:∀ws,w=.ff ws->∀ws',w'≠.ff ws')(n2:∀ws,w=.fy ws->∀ws',w'≠.fy ws')(h:nQ X.K G w v)(h':nQ X.K G w' v')(r:ot v u)(r':ot v' u')(e:TX w w'=O b):vx._W A s u u' b:=by
 have tl:∀{ws:L W}{v:V}{u:e5},nQ X.K G (.fy ws) v->ot v u->∃l nT,u=.ei l/\s.d_.Z4 l nT:=λh r=>by
  let⟨a,xs,rfl,q,_⟩:=h;cases r;let⟨aC,_,p,_⟩:=I.wD (sg.mx q);exact⟨a,_,rfl,p.yM⟩
 have tt:∀{ws:L W}{v:V}{u:e5},nQ X.K G (.ff ws) v->ot v u->∃l nT,u=.ei l/\s.d_.VU l nT:=λh r=>by
  let⟨a,xs,rfl,q,_⟩:=h;cases r;let⟨aC,_,p,_⟩:=I.zb (sg.ff q);exact⟨a,_,rfl,p⟩
 have tn:∀{v:V}{u:e5},nQ X.K G .aH v->ot v u->u=.none:=λh r=>by cases h;exact r
 have tb:∀{k:fJ}{v:V}{u:e5},nQ X.K G (.bl k) v->ot v u->u=.rl k:=λh r=>by cases h;exact r
 have ti:∀{k:eW}{v:V}{u:e5},nQ X.K G (.d0 k) v->ot v u->∃t,u=.d0 k t:=λh r=>by cases h;exact r
 have ts:∀{k:eh}{v:V}{u:e5},nQ X.K G (.str k) v->ot v u->∃t,u=.str k t:=λh r=>by cases h;exact r
 cases w with
 |aH=>
  obtain rfl:=tn h r;cases w' with
  |aH=>obtain rfl:=tn h' r';cases e;exact .none_none
  |bl k=>obtain rfl:=tb h' r';cases e;exact .đ k
  |d0 k=>let⟨t,rfl⟩:=ti h' r';cases e;exact .Ŗ k t
  |str k=>let⟨t,rfl⟩:=ts h' r';cases e;exact .ŗ k t
  |ff k=>let⟨l,it,rfl,p⟩:=tt h' r';cases e;exact .none_tuple p hu
  |fy k=>let⟨l,it,rfl,p⟩:=tl h' r';cases e;exact .none_list p hu
  |zt k=>cases e
  |ba k=>cases e
  |dw _ _ _ _=>cases e
  |fn _ _ _=>cases e
 |bl j=>
  obtain rfl:=tb h r;cases w' with
  |aH=>obtain rfl:=tn h' r';cases e;exact .ü j
  |bl k=>obtain rfl:=tb h' r';cases e;exact .Ù j k
  |d0 k=>let⟨t,rfl⟩:=ti h' r';cases e;exact .Ķ j k t
  |str k=>let⟨t,rfl⟩:=ts h' r';cases e;exact .ķ j k t
  |ff k=>let⟨l,it,rfl,p⟩:=tt h' r';cases e;exact .bool_tuple j p hu
  |fy k=>let⟨l,it,rfl,p⟩:=tl h' r';cases e;exact .bool_list j p hu
  |zt k=>cases e
  |ba k=>cases e
  |dw _ _ _ _=>cases e
  |fn _ _ _=>cases e
 |d0 j=>
  let⟨t1,rfl⟩:=ti h r;cases w' with
  |aH=>obtain rfl:=tn h' r';cases e;exact .Ō j t1
  |bl k=>obtain rfl:=tb h' r';cases e;exact .ŋ j t1 k
  |d0 k=>let⟨t,rfl⟩:=ti h' r';cases e;exact .ĉ j t1 k t
  |str k=>let⟨t,rfl⟩:=ts h' r';cases e;exact .Ċ j t1 k t
  |ff k=>let⟨l,it,rfl,p⟩:=tt h' r';cases e;exact .int_tuple j t1 p hu
  |fy k=>let⟨l,it,rfl,p⟩:=tl h' r';cases e;exact .int_list j t1 p hu
  |zt k=>cases e
  |ba k=>cases e
  |dw _ _ _ _=>cases e
  |fn _ _ _=>cases e
 |str j=>
  let⟨t1,rfl⟩:=ts h r;cases w' with
  |aH=>obtain rfl:=tn h' r';cases e;exact .ū j t1
  |bl k=>obtain rfl:=tb h' r';cases e;exact .Ū j t1 k
  |d0 k=>let⟨t,rfl⟩:=ti h' r';cases e;exact .ğ j t1 k t
  |str k=>let⟨t,rfl⟩:=ts h' r';cases e;exact .Ġ j t1 k t
  |ff k=>let⟨l,it,rfl,p⟩:=tt h' r';cases e;exact .str_tuple j t1 p hu
  |fy k=>let⟨l,it,rfl,p⟩:=tl h' r';cases e;exact .str_list j t1 p hu
  |zt k=>cases e
  |ba k=>cases e
  |dw _ _ _ _=>cases e
  |fn _ _ _=>cases e
 |ff j=>
  let⟨l1,Jm,rfl,p1⟩:=tt h r;cases w' with
  |aH=>obtain rfl:=tn h' r';cases e;exact .tuple_none p1 hu
  |bl k=>obtain rfl:=tb h' r';cases e;exact .tuple_bool k p1 hu
  |d0 k=>let⟨t,rfl⟩:=ti h' r';cases e;exact .tuple_int k t p1 hu
  |str k=>let⟨t,rfl⟩:=ts h' r';cases e;exact .tuple_str k t p1 hu
  |ff k=>grind
  |fy k=>let⟨l,it,rfl,p⟩:=tl h' r';cases e;exact .tuple_list p1 p hu
  |zt k=>cases e
  |ba k=>cases e
  |dw _ _ _ _=>cases e
  |fn _ _ _=>cases e
 |fy j=>
  let⟨l1,Jm,rfl,p1⟩:=tl h r;cases w' with
  |aH=>obtain rfl:=tn h' r';cases e;exact .list_none p1 hu
  |bl k=>obtain rfl:=tb h' r';cases e;exact .list_bool k p1 hu
  |d0 k=>let⟨t,rfl⟩:=ti h' r';cases e;exact .list_int k t p1 hu
  |str k=>let⟨t,rfl⟩:=ts h' r';cases e;exact .list_str k t p1 hu
  |fy k=>grind
  |ff k=>let⟨l,it,rfl,p⟩:=tt h' r';cases e;exact .list_tuple p1 p hu
  |zt k=>cases e
  |ba k=>cases e
  |dw _ _ _ _=>cases e
  |fn _ _ _=>cases e
 |zt j=>cases w'<;>cases e
 |ba j=>cases w'<;>cases e
 |dw _ _ _ _=>cases w'<;>cases e
 |fn _ _ _=>cases w'<;>cases e
theorem RK(I:g8 X eS σ H s)(sg:au G H)(hd:dY w<=0)(hu:A.r7<r_)(h:nQ X.K G w v)(h':nQ X.K G w' v')(r:ot v u)(r':ot v' u')(e:TX w w'=O b):vx._W A s u u' b:=
 MX I sg hu (λws z=>by grind [dY]) (λws z=>by grind [dY]) h h' r r' e
theorem QO(h:nQ K G w v):∀x,v≠.qN x:=λx z=>by
 subst z;cases w with
 |ff ws=>let⟨_,_,z,_⟩:=h;cases z
 |fy ws=>let⟨_,_,z,_⟩:=h;cases z
 |zt c=>let⟨_,z,_⟩:=h;cases z
 |ba c=>let⟨_,z,_⟩:=h;cases z
 |dw _ _ _ _=>let⟨_,_,_,z,_⟩:=h;cases z
 |fn _ _ _=>let⟨_,_,_,_,z,_⟩:=h;cases z
 |_=>cases h
theorem QP{v:V}{u u':e5}{b:fJ}(rv:ot v u)(hf:∀x,v≠.qN x)(h:vx._W A s u u' b)(hs:u=u'->b=true):vx.O9 A s u u' b:=λg_ w E Q hq=>by
 unfold ń;refine Zk ?_;refine ð (λvC=>?_) (λ_=>?_)
 .have hb:=hs (ą vC);subst hb;exact i6 (Ä (oo hq))
 .have z:=i6 (h g_ w E (λa s'=>kX (mG g_ w) A (truthOfDropped a) Q E s') (η hq))
  cases v with
  |qN x=>exact nS rfl (hf x)
  |aH=>cases rv;exact z
  |bl _=>cases rv;exact z
  |d0 _=>let⟨t,rfl⟩:=rv;exact z
  |str _=>let⟨t,rfl⟩:=rv;exact z
  |wX _=>let⟨t,rfl⟩:=rv;exact z
  |ei _=>cases rv;exact z
  |ty _=>cases rv;exact z
def Tt(I:g8 X eS σ H s)(sg:au G H):∀(n:dt){w w':W}{v v':V}{u u':e5}{b:fJ}{A:tf},dY w<=n->A.r7+n<r_->nQ X.K G w v->nQ X.K G w' v'->ot v u->ot v' u'->TX w w'=O b->vx._W A s u u' b:=by
 intro n
 induction n with
 |zc=>
  intro w w' v v' u u' b A hd hu h h' r r' e;exact RK I sg hd (by omega) h h' r r' e
 |zD n ih=>
  intro w w' v v' u u' b A hd hu h h' r r' e
  have nT:∀{ws ws':L W}{xs iS:L V}{aC its':L e5}{k:fJ},jm ws<=n->aq X.K G ws xs->aq X.K G ws' iS->oK xs aC->oK iS its'->gY ws ws'=O k ->
    ∀j (h1:j<aC.ky.eG) (h2:j<its'.ky.eG),vx.O9 A.Nx s aC.ky[j] its'.ky[j] ((TX (ws.mF j .aH) (ws'.mF j .aH)).mF false):=by
   intro ws ws' xs iS aC its' k hd r1 r2 v1 v2 he j h1 h2;have l1:=r1.J;have l2:=r2.J;have m1:=v1.J;have m2:=v2.J;have i1:j<xs.J:=by rw[m1];simpa using h1
   have i2:j<iS.J:=by rw[m2];simpa using h2
   let⟨u1,e1,Ao⟩:=v1.BX (w0a i1);let⟨u2,e2,D_⟩:=v2.BX (w0a i2);let⟨w1,f1,p1⟩:=r1.lZ (w0a i1);let⟨w2,f2,p2⟩:=r2.lZ (w0a i2);let⟨b',uT⟩:=(Bo he).1 j w1 w2 f1 f2;rw[GK f1,GK f2,uT]
   have g1:aC.ky[j]=u1:=by
    let⟨_,z⟩:=w0c.mp e1
    simpa using z
   have g2:its'.ky[j]=u2:=by
    let⟨_,z⟩:=w0c.mp e2
    simpa using z
   rw[g1,g2];have Iw:dY w1<=n:=w1d (Ll f1) hd
   have Je:A.Nx.r7+n<r_:=by
    have:A.Nx.r7=A.r7+1:=rfl;omega
   refine QP Ao (QO p1) (ih Iw Je p1 p2 Ao D_ uT) λz=>?_
   subst z;have:=Ao.sE D_;rw[this]at p1;exact Mz I sg w1 p1 p2 uT
  cases w with
  |ff ws=>
   cases w' with
   |ff ws'=>
    let⟨a,xs,rfl,q1,r1⟩:=h;let⟨a',iS,rfl,q2,r2⟩:=h';cases r;cases r';let⟨aC,v1,p1,_⟩:=I.zb (sg.ff q1);let⟨its',v2,p2,_⟩:=I.zb (sg.ff q2);have e:gY ws ws'=O b:=e;have z:=vx._W.ű (show s.d_.VU a _ from p1) (show s.d_.VU a' _ from p2) (show A.r7<r_ by omega) (nT (by simp only[dY]at hd;omega) r1 r2 v1 v2 e);have l1:=r1.J;have l2:=r2.J;have m1:=v1.J;have m2:=v2.J;have eb:=(Bo e).2;have n1:aC.J=ws.J:=by omega
    have n2:its'.J=ws'.J:=by omega
    rw[eb];simp only[w0i,n1,n2]at z;exact z
   |_=>exact MX I sg (by omega) (by intro ws';simp) (by intro ws';simp) h h' r r' e
  |fy ws=>
   cases w' with
   |fy ws'=>
    let⟨a,xs,rfl,q1,r1⟩:=h;let⟨a',iS,rfl,q2,r2⟩:=h';cases r;cases r';let⟨aC,v1,p1,_⟩:=I.wD (sg.mx q1);let⟨its',v2,p2,_⟩:=I.wD (sg.mx q2);have e:gY ws ws'=O b:=e;have l1:=r1.J;have l2:=r2.J;have m1:=v1.J;have m2:=v2.J;have eb:=(Bo e).2;have n1:aC.J=ws.J:=by omega
    have n2:its'.J=ws'.J:=by omega
    by_cases hl:ws.J=ws'.J
    .have z:=vx._W.lists p1.yM p2.yM (by simp only[w0i];omega) (show A.r7<r_ by omega) (nT (by simp only[dY]at hd;omega) r1 r2 v1 v2 e);rw[eb,hl];simp only[w0i,n1,hl,dt.min_self,û,w6k]at z |-
     exact z
    .have z:=vx._W.zc2 (A:=A) p1.yM p2.yM (by simp only[w0i,ϥ];omega) (show A.r7<r_ by omega)
     have:b=false:=by
      rw[eb];have:(ws.J==ws'.J)=false:=by simp[hl]
      rw[this,w6d]
     rw[this];exact z
   |_=>exact MX I sg (by omega) (by intro ws';simp) (by intro ws';simp) h h' r r' e
  |_=>exact RK I sg (by simp[dY]) (by omega) h h' r r' e
def LB(I:g8 X eS σ H s)(sg:au G H)(hu:A.r7<r_)(n1:∀ws,w=.ff ws->∀ws',w'≠.ff ws')(n2:∀ws,w=.fy ws->∀ws',w'≠.fy ws')(h:nQ X.K G w v)(h':nQ X.K G w' v')(r:ot v u)(r':ot v' u')(e:TX w w'=O b):vx.Ϡ A s u u' (!b):=by
 have tl:∀{ws:L W}{v:V}{u:e5},nQ X.K G (.fy ws) v->ot v u->∃l nT,u=.ei l/\s.d_.Z4 l nT:=λh r=>by
  let⟨a,xs,rfl,q,_⟩:=h;cases r;let⟨aC,_,p,_⟩:=I.wD (sg.mx q);exact⟨a,_,rfl,p.yM⟩
 have tt:∀{ws:L W}{v:V}{u:e5},nQ X.K G (.ff ws) v->ot v u->∃l nT,u=.ei l/\s.d_.VU l nT:=λh r=>by
  let⟨a,xs,rfl,q,_⟩:=h;cases r;let⟨aC,_,p,_⟩:=I.zb (sg.ff q);exact⟨a,_,rfl,p⟩
 have tn:∀{v:V}{u:e5},nQ X.K G .aH v->ot v u->u=.none:=λh r=>by cases h;exact r
 have tb:∀{k:fJ}{v:V}{u:e5},nQ X.K G (.bl k) v->ot v u->u=.rl k:=λh r=>by cases h;exact r
 have ti:∀{k:eW}{v:V}{u:e5},nQ X.K G (.d0 k) v->ot v u->∃t,u=.d0 k t:=λh r=>by cases h;exact r
 have ts:∀{k:eh}{v:V}{u:e5},nQ X.K G (.str k) v->ot v u->∃t,u=.str k t:=λh r=>by cases h;exact r
 cases w with
 |aH=>
  obtain rfl:=tn h r;cases w' with
  |aH=>obtain rfl:=tn h' r';cases e;exact .none_none
  |bl k=>obtain rfl:=tb h' r';cases e;exact .đ k
  |d0 k=>let⟨t,rfl⟩:=ti h' r';cases e;exact .Ŗ k t
  |str k=>let⟨t,rfl⟩:=ts h' r';cases e;exact .ŗ k t
  |ff k=>let⟨l,it,rfl,p⟩:=tt h' r';cases e;exact .none_tuple p hu
  |fy k=>let⟨l,it,rfl,p⟩:=tl h' r';cases e;exact .none_list p hu
  |zt k=>cases e
  |ba k=>cases e
  |dw _ _ _ _=>cases e
  |fn _ _ _=>cases e
 |bl j=>
  obtain rfl:=tb h r;cases w' with
  |aH=>obtain rfl:=tn h' r';cases e;exact .ü j
  |bl k=>obtain rfl:=tb h' r';cases e;exact .Ù j k
  |d0 k=>let⟨t,rfl⟩:=ti h' r';cases e;exact .Ķ j k t
  |str k=>let⟨t,rfl⟩:=ts h' r';cases e;exact .ķ j k t
  |ff k=>let⟨l,it,rfl,p⟩:=tt h' r';cases e;exact .bool_tuple j p hu
  |fy k=>let⟨l,it,rfl,p⟩:=tl h' r';cases e;exact .bool_list j p hu
  |zt k=>cases e
  |ba k=>cases e
  |dw _ _ _ _=>cases e
  |fn _ _ _=>cases e
 |d0 j=>
  let⟨t1,rfl⟩:=ti h r;cases w' with
  |aH=>obtain rfl:=tn h' r';cases e;exact .Ō j t1
  |bl k=>obtain rfl:=tb h' r';cases e;exact .ŋ j t1 k
  |d0 k=>let⟨t,rfl⟩:=ti h' r';cases e;exact .ĉ j t1 k t
  |str k=>let⟨t,rfl⟩:=ts h' r';cases e;exact .Ċ j t1 k t
  |ff k=>let⟨l,it,rfl,p⟩:=tt h' r';cases e;exact .int_tuple j t1 p hu
  |fy k=>let⟨l,it,rfl,p⟩:=tl h' r';cases e;exact .int_list j t1 p hu
  |zt k=>cases e
  |ba k=>cases e
  |dw _ _ _ _=>cases e
  |fn _ _ _=>cases e
 |str j=>
  let⟨t1,rfl⟩:=ts h r;cases w' with
  |aH=>obtain rfl:=tn h' r';cases e;exact .ū j t1
  |bl k=>obtain rfl:=tb h' r';cases e;exact .Ū j t1 k
  |d0 k=>let⟨t,rfl⟩:=ti h' r';cases e;exact .ğ j t1 k t
  |str k=>let⟨t,rfl⟩:=ts h' r';cases e;exact .Ġ j t1 k t
  |ff k=>let⟨l,it,rfl,p⟩:=tt h' r';cases e;exact .str_tuple j t1 p hu
  |fy k=>let⟨l,it,rfl,p⟩:=tl h' r';cases e;exact .str_list j t1 p hu
  |zt k=>cases e
  |ba k=>cases e
  |dw _ _ _ _=>cases e
  |fn _ _ _=>cases e
 |ff j=>
  let⟨l1,Jm,rfl,p1⟩:=tt h r;cases w' with
  |aH=>obtain rfl:=tn h' r';cases e;exact .tuple_none p1 hu
  |bl k=>obtain rfl:=tb h' r';cases e;exact .tuple_bool k p1 hu
  |d0 k=>let⟨t,rfl⟩:=ti h' r';cases e;exact .tuple_int k t p1 hu
  |str k=>let⟨t,rfl⟩:=ts h' r';cases e;exact .tuple_str k t p1 hu
  |ff k=>grind
  |fy k=>let⟨l,it,rfl,p⟩:=tl h' r';cases e;exact .tuple_list p1 p hu
  |zt k=>cases e
  |ba k=>cases e
  |dw _ _ _ _=>cases e
  |fn _ _ _=>cases e
 |fy j=>
  let⟨l1,Jm,rfl,p1⟩:=tl h r;cases w' with
  |aH=>obtain rfl:=tn h' r';cases e;exact .list_none p1 hu
  |bl k=>obtain rfl:=tb h' r';cases e;exact .list_bool k p1 hu
  |d0 k=>let⟨t,rfl⟩:=ti h' r';cases e;exact .list_int k t p1 hu
  |str k=>let⟨t,rfl⟩:=ts h' r';cases e;exact .list_str k t p1 hu
  |fy k=>grind
  |ff k=>let⟨l,it,rfl,p⟩:=tt h' r';cases e;exact .list_tuple p1 p hu
  |zt k=>cases e
  |ba k=>cases e
  |dw _ _ _ _=>cases e
  |fn _ _ _=>cases e
 |zt j=>cases w'<;>cases e
 |ba j=>cases w'<;>cases e
 |dw _ _ _ _=>cases w'<;>cases e
 |fn _ _ _=>cases w'<;>cases e
theorem za2(I:g8 X eS σ H s)(sg:au G H)(hd:dY w<=0)(hu:A.r7<r_)(h:nQ X.K G w v)(h':nQ X.K G w' v')(r:ot v u)(r':ot v' u')(e:TX w w'=O b):vx.Ϡ A s u u' (!b):=
 LB I sg hu (λws z=>by grind [dY]) (λws z=>by grind [dY]) h h' r r' e
def QQ(I:g8 X eS σ H s)(sg:au G H)(hu:A.r7+(n+1)<r_)(hd:jm ws<=n)(r1:aq X.K G ws xs)(r2:aq X.K G ws' iS)(v1:oK xs aC)(v2:oK iS its')(he:gY ws ws'=O k):
  ∀j (h1:j<aC.ky.eG) (h2:j<its'.ky.eG),vx.O9 A.Nx s aC.ky[j] its'.ky[j] ((TX (ws.mF j .aH) (ws'.mF j .aH)).mF false):=by
 intro j h1 h2;have l1:=r1.J;have l2:=r2.J;have m1:=v1.J;have m2:=v2.J;have i1:j<xs.J:=by rw[m1];simpa using h1
 have i2:j<iS.J:=by rw[m2];simpa using h2
 let⟨u1,e1,Ao⟩:=v1.BX (w0a i1);let⟨u2,e2,D_⟩:=v2.BX (w0a i2);let⟨w1,f1,p1⟩:=r1.lZ (w0a i1);let⟨w2,f2,p2⟩:=r2.lZ (w0a i2);let⟨b',uT⟩:=(Bo he).1 j w1 w2 f1 f2;rw[GK f1,GK f2,uT]
 have g1:aC.ky[j]=u1:=by
  grind
 have g2:its'.ky[j]=u2:=by
  grind
 rw[g1,g2];have Iw:dY w1<=n:=w1d (Ll f1) hd
 have Je:A.Nx.r7+n<r_:=by
  grind
 refine QP Ao (QO p1) (Tt I sg n Iw Je p1 p2 Ao D_ uT) λz=>?_
 subst z;have:=Ao.sE D_
 grind [Mz]
def z1v(I:g8 X eS σ H s)(sg:au G H)(n:dt){w':W}{v v':V}{u u':e5}{b:fJ}(hd:dY w<=n+1)(hu:A.r7+(n+1)<r_)(h:nQ X.K G w v)(h':nQ X.K G w' v')(r:ot v u)(r':ot v' u')(e:TX w w'=O b):vx.Ϡ A s u u' (!b):=by
 cases w with
 |ff ws=>
  cases w' with
  |ff ws'=>
   let⟨a,xs,rfl,q1,r1⟩:=h;let⟨a',iS,rfl,q2,r2⟩:=h';cases r;cases r';let⟨aC,v1,p1,_⟩:=I.zb (sg.ff q1);let⟨its',v2,p2,_⟩:=I.zb (sg.ff q2);have e:gY ws ws'=O b:=e;have z:=vx.Ϡ.ű (show s.d_.VU a _ from p1) (show s.d_.VU a' _ from p2) (show A.r7<r_ by omega) (QQ I sg hu (by simp only[dY]at hd;omega) r1 r2 v1 v2 e);have l1:=r1.J;have l2:=r2.J;have m1:=v1.J;have m2:=v2.J;have eb:=(Bo e).2;have n1:aC.J=ws.J:=by omega
   have n2:its'.J=ws'.J:=by omega
   rw[eb];simp only[w0i,n1,n2]at z;exact z
  |_=>exact LB I sg (by omega) (by intro ws';simp) (by intro ws';simp) h h' r r' e
 |fy ws=>
  cases w' with
  |fy ws'=>
   let⟨a,xs,rfl,q1,r1⟩:=h;let⟨a',iS,rfl,q2,r2⟩:=h';cases r;cases r';let⟨aC,v1,p1,_⟩:=I.wD (sg.mx q1);let⟨its',v2,p2,_⟩:=I.wD (sg.mx q2);have e:gY ws ws'=O b:=e;have l1:=r1.J;have l2:=r2.J;have m1:=v1.J;have m2:=v2.J;have eb:=(Bo e).2;have n1:aC.J=ws.J:=by omega
   have n2:its'.J=ws'.J:=by omega
   by_cases hl:ws.J=ws'.J
   .have z:=vx.Ϡ.lists p1.yM p2.yM (by simp only[w0i];omega) (show A.r7<r_ by omega) (QQ I sg hu (by simp only[dY]at hd;omega) r1 r2 v1 v2 e);rw[eb,hl];simp only[w0i,n1,hl,dt.min_self,û,w6k]at z |-
    exact z
   .have z:=vx.Ϡ.zc2 (A:=A) p1.yM p2.yM (by simp only[w0i,ϥ];omega) (show A.r7<r_ by omega)
    have:b=false:=by
     rw[eb];have:(ws.J==ws'.J)=false:=by simp[hl]
     rw[this,w6d]
    rw[this];exact z
  |_=>exact LB I sg (by omega) (by intro ws';simp) (by intro ws';simp) h h' r r' e
 |_=>exact za2 I sg (by simp[dY]) (by omega) h h' r r' e
def rh(x y:W):fG W:=if dY x<=150 then(TX x y).ej .bl else none
def D1(K:Fg):R2:=λx y H Q=>∃G wx wy b,au G H/\dY wx<=150/\nQ K G wx x/\nQ K G wy y/\TX wx wy=O b/\Q (.bl b) H
def SJ(hu:X.A.r7+150<r_):fM X (YO .Eq) (D1 X.K):=by
 intro eS s σ H x y v u Q I rx ry h;let⟨G,wx,wy,b,sg,hd,hx,hy,e,q⟩:=h;exact Tt I sg 150 hd hu hx hy rx ry e _ _ _ _ ⟨.bl b,H,I,rfl,q⟩
def Tu:iq K (D1 K) rh:=by
 intro G H x y wx wy w Q s px py hf h;unfold rh at hf;split at hf
 .rename_i hd;let⟨b,hb,rfl⟩:=w0p.mp hf;exact⟨G,wx,wy,b,s,hd,px,py,hb,h G _ H (.oQ s) rfl⟩
 .cases hf
def Ym(x y:W):fG W:=if dY x<=150 then(TX x y).ej λb=>.bl (!b)else none
def D6(K:Fg):R2:=λx y H Q=>∃G wx wy b,au G H/\dY wx<=150/\nQ K G wx x/\nQ K G wy y/\TX wx wy=O b/\Q (.bl (!b)) H
def SK(hu:X.A.r7+150<r_):fM X (YO .NotEq) (D6 X.K):=by
 intro eS s σ H x y v u Q I rx ry h;let⟨G,wx,wy,b,sg,hd,hx,hy,e,q⟩:=h;exact z1v I sg 149 hd hu hx hy rx ry e _ _ _ _ ⟨.bl (!b),H,I,rfl,q⟩
def Tv:iq K (D6 K) Ym:=by
 intro G H x y wx wy w Q s px py hf h;unfold Ym at hf;split at hf
 .rename_i hd;let⟨b,hb,rfl⟩:=w0p.mp hf;exact⟨G,wx,wy,b,s,hd,px,py,hb,h G _ H (.oQ s) rfl⟩
 .cases hf
def zr:W->W->fG W
 |.aH,.aH=>O (.bl true)
 |_,.aH=>O (.bl false)
 |.bl a,.bl b=>O (.bl (a==b))
 |_,.bl _=>O (.bl false)
 |_,_=>none
def iG:W->W->fG W
 |.aH,.aH=>O (.bl false)
 |_,.aH=>O (.bl true)
 |.bl a,.bl b=>O (.bl (!(a==b)))
 |_,.bl _=>O (.bl true)
 |_,_=>none
def D7:R2:=λx y H Q=>(y=.aH\/∃b,y=.bl b)/\Q (.bl (!decide (x=y))) H
def y6m{x y:V}{v u:e5}(rx:ot x v)(ry:ot y u)(h:y=.aH\/∃b,y=.bl b):plainIs v u=true/\(v==u)=decide (x=y):=by
 rcases h with rfl|⟨b,rfl⟩
 .cases ry
  cases x<;>first
   |(cases rx;exact⟨rfl,by first|rfl|(rw[w3l];simp)⟩)
   |(let⟨t,rfl⟩:=rx;exact⟨rfl,by rw[w3l];simp⟩)
 .cases ry
  cases x<;>first
   |(cases rx;exact⟨rfl,by first|rfl|(rw[w3l];simp)⟩)
   |(let⟨t,rfl⟩:=rx;exact⟨rfl,by rw[w3l];simp⟩)
def z1w:fM X (YO .IsNot) D7:=by
 intro eS s σ H x y v u Q I rx ry h;let⟨hy,q⟩:=h;let⟨h1,h2⟩:=y6m rx ry hy;exact wpAny_isNot_plain h1 (Sy I q (by rw[h2]))
def z8b{x y:V}{wx wy:W}(px:nQ K G wx x)(py:nQ K G wy y)(h:iG wx wy=O w):(y=.aH\/∃b,y=.bl b)/\w=.bl (!decide (x=y)):=by
 cases wy with
 |aH=>
  cases(show y=.aH from py);refine⟨.h8 rfl,?_⟩;cases wx with
  |ff ws=>let⟨_,_,rfl,_⟩:=px;cases h;simp
  |fy ws=>let⟨_,_,rfl,_⟩:=px;cases h;simp
  |zt c=>let⟨_,rfl,_⟩:=px;cases h;simp
  |ba c=>let⟨_,rfl,_⟩:=px;cases h;simp
  |dw _ _ _ _=>let⟨_,_,_,rfl,_⟩:=px;cases h;simp
  |fn _ _ _=>let⟨_,_,_,_,rfl,_⟩:=px;cases h;simp
  |_=>cases px;cases h;simp
 |bl b=>
  cases(show y=.bl b from py);refine⟨.j' ⟨b,rfl⟩,?_⟩;cases wx with
  |ff ws=>let⟨_,_,rfl,_⟩:=px;cases h;simp
  |fy ws=>let⟨_,_,rfl,_⟩:=px;cases h;simp
  |zt c=>let⟨_,rfl,_⟩:=px;cases h;simp
  |ba c=>let⟨_,rfl,_⟩:=px;cases h;simp
  |dw _ _ _ _=>let⟨_,_,_,rfl,_⟩:=px;cases h;simp
  |fn _ _ _=>let⟨_,_,_,_,rfl,_⟩:=px;cases h;simp
  |bl k=>cases px;cases h;cases k<;>cases b<;>rfl
  |_=>cases px;cases h;simp
 |_=>cases wx<;>cases h
def z8c:iq K D7 iG:=by
 intro G H x y wx wy w Q s px py hf h;let⟨h1,rfl⟩:=z8b px py hf;exact⟨h1,h G _ H (.oQ s) rfl⟩
section
variable{a b c e:l_}{p:qY}{x:eh}
theorem z8d(ha:DE Z X EE a da)(hb:DE Z X EE b db):DE Z X EE (._q a .Sub b fZ) (ag rH da db):=xQ z6z z71 ha hb
theorem z8e(ha:DE Z X EE a da)(hb:DE Z X EE b db):DE Z X EE (._q a .ν b fZ) (ag kE da db):=xQ z60 z72 ha hb
theorem z1x(ha:DE Z X EE a da)(hb:DE Z X EE b db):DE Z X EE (._q a .FloorDiv b fZ) (ag cR da db):=xQ z01 z1r ha hb
theorem z8f(ha:DE Z X EE a da)(hb:DE Z X EE b db):DE Z X EE (._q a ._T b fZ) (ag b8 da db):=xQ z61 z73 ha hb
theorem z8g(ha:DE Z X EE a da)(hb:DE Z X EE b db):DE Z X EE (._q a .Pow b fZ) (ag ud da db):=xQ z62 z74 ha hb
theorem z8h(ha:DE Z X EE a da):DE Z X EE (._Y .USub a fZ) (jQ lp da):=U3 z63 z75 ha
theorem Q2r(ha:DE Z X EE a da)(hb:DE Z X EE b db):DE Z X EE (.Vq a [.Lt] [b] fZ) (ag nX da db):=Aj Ti Tq ha hb (dJ _)
theorem Q2s(ha:DE Z X EE a da)(hb:DE Z X EE b db):DE Z X EE (.Vq a [.LtE] [b] fZ) (ag CS da db):=Aj U1 U4 ha hb (dJ _)
theorem Q2t(ha:DE Z X EE a da)(hb:DE Z X EE b db):DE Z X EE (.Vq a [.Gt] [b] fZ) (ag mB da db):=Aj Tj Tr ha hb (dJ _)
theorem Q2u(hu:X.A.r7+150<r_)(ha:DE Z X EE a da)(hb:DE Z X EE b db):DE Z X EE (.Vq a [.Eq] [b] fZ) (ag rh da db):=Aj (SJ hu) Tu ha hb (dJ _)
theorem Q2v(hu:X.A.r7+150<r_)(ha:DE Z X EE a da)(hb:DE Z X EE b db):DE Z X EE (.Vq a [.NotEq] [b] fZ) (ag Ym da db):=Aj (SK hu) Tv ha hb (dJ _)
theorem Q2w(ha:DE Z X EE a da)(hb:DE Z X EE b db):DT Z X EE (.Vq a [.Lt] [b] fZ) (av (ag nX da db)):=xK Ti Tq ha hb (dJ _)
theorem Q2x(ha:DE Z X EE a da)(hb:DE Z X EE b db):DT Z X EE (.Vq a [.Gt] [b] fZ) (av (ag mB da db)):=xK Tj Tr ha hb (dJ _)
theorem Q2y(ha:DE Z X EE a da)(hb:DE Z X EE b db):DT Z X EE (.Vq a [.GtE] [b] fZ) (av (ag AY da db)):=xK U2 U5 ha hb (dJ _)
theorem Q2z(hu:X.A.r7+150<r_)(ha:DE Z X EE a da)(hb:DE Z X EE b db):DT Z X EE (.Vq a [.Eq] [b] fZ) (av (ag rh da db)):=xK (SJ hu) Tu ha hb (dJ _)
theorem Q20(hu:X.A.r7+150<r_)(ha:DE Z X EE a da)(hb:DE Z X EE b db):DT Z X EE (.Vq a [.NotEq] [b] fZ) (av (ag Ym da db)):=xK (SK hu) Tv ha hb (dJ _)
theorem z8i(ha:DE Z X EE a da)(hb:DE Z X EE b db):DT Z X EE (.Vq a [.IsNot] [b] fZ) (av (ag iG da db)):=xK z1w z8c ha hb (dJ _)
def OD{k:dt}(h:bL k A):A.r7+150<r_:=by have:=h.un;omega
def fE(xs:L W)(lo hi:fG eW):L W:=(xs.m9 (HT.cn xs.J 0 lo)).n5 (HT.cn xs.J xs.J hi-HT.cn xs.J 0 lo)
def aq.cut{xs:L V}(r:aq K G ws xs)(lo hi:fG eW):aq K G (fE ws lo hi) (kY xs lo hi):=by
 unfold fE kY;rw[r.J];exact(r.m9 _).n5 _
def DO(Z:Zt)(X:Cx)(EE:L2.St->XK)(e:fG l_)(d:gF (fG eW)):Prop:=PO X e (λσ H Q=>∃G e,m_ X.K Z G σ H e/\(d e).yt (λo e'=>∀G' H',m_ X.K Z G' σ H' e'->au G G'->Q o H') (XH X.K Z EE σ G))
def bG:gF (fG eW):=λe=>.ok none e
def cB(d:gF W):gF (fG eW):=λe=>(d e).nR λw e1=>match w with
 |.d0 i=>.ok (O i) e1
 |_=>.no
theorem PO.ll{e:fG l_}{t t':TO}(h:PO X e t)(i:∀σ H Q,t' σ H Q->t σ H Q):PO X e t':=λeS s σ H Q I q=>h eS s σ H Q I (i σ H Q q)
theorem z1y:DO Z X EE none bG:=PO.ll z04 λσ H Q ⟨G,e,r,h⟩=>h G H r (.oQ _)
def z1z(h:DE Z X EE e da):DO Z X EE (O e) (cB da):=by
 refine PO.ll (z05 h) ?_;rintro σ H Q ⟨G,e,iA,h⟩;simp only[cB,R.ak]at h;refine⟨G,e,iA,h.pQ (λx e1 h G1 v1 H1 r1 s1 p1=>?_) λ_ _ h=>h⟩
 cases x with
 |d0 i=>cases(show v1=V.d0 i from p1);exact⟨i,rfl,h G1 H1 r1 s1⟩
 |_=>exact h.ke
def O7:W->fG eW->fG eW->fG W
 |.fy ws,lo,hi=>O (.fy (fE ws lo hi))
 |.ff ws,lo,hi=>if ¬(HT.cn ws.J 0 lo=0/\HT.cn ws.J ws.J hi=ws.J)then O (.ff (fE ws lo hi))else none
 |_,_,_=>none
def XE:W->e5
 |.aH=>.hJ "NoneType"
 |.bl _=>.hJ "bool"
 |.d0 _=>.hJ "int"
 |.str _=>.hJ "str"
 |.ff _=>.hJ "tuple"
 |.fy _=>.hJ "list"
 |.zt c=>c
 |.ba _=>.hJ "dict"
 |.dw _ _ _ _=>.hJ "dict"
 |.fn _ _ _=>.hJ "dict"
def l7(K:Fg)(cv:e5):W->fG W
 |.zt (.ei D)=>if bD K D=true then(pW K (.ei D) cv).ej .bl else none
 |.zt _=>none
 |.ba _=>none
 |.dw _ _ _ _=>none
 |.fn _ _ _=>none
 |w=>(pW K (XE w) cv).ej .bl
def z13{v:V}{u:e5}{b:fJ}{Q:VK}(I:g8 X eS σ H s)(sg:au G H)(p:nQ X.K G w v)(r:ot v u)(h:l7 X.K cv w=O (.bl b))(q:Q (.bl b) H):
  kX (mG X.g_ X.w) X.A (zN (.rn "isinstance") [u,cv]) (EP X eS σ Q) X.xe s:=by
 have vR:∀tk,EP X eS σ Q (.rl b) {s with nW:=tk}:=λtk=>⟨.bl b,H,I.wY _,rfl,q⟩
 have zu:∀{t:e5},(pW X.K t cv).ej W.bl=O (.bl b)->pW X.K t cv=O b:=λz=>by
  let⟨y,h1,h2⟩:=w0p.mp z;cases h2;exact h1
 cases w with
 |aH=>cases p;cases r;exact χ kd.W.kitx_none I.ko w7.intro (zu h) (λz=>nomatch z) vR
 |bl y=>cases p;cases r;exact χ kd.W.kitx_bool I.ko w7.intro (zu h) (λz=>nomatch z) vR
 |d0 y=>cases p;let⟨t,rfl⟩:=r;exact χ kd.W.kitx_int I.ko w7.intro (zu h) (λz=>nomatch z) vR
 |str y=>cases p;let⟨t,rfl⟩:=r;exact χ kd.W.kitx_str I.ko w7.intro (zu h) (λz=>nomatch z) vR
 |ff ws=>
  let⟨a,xs,rfl,hq,_⟩:=p;cases r;let⟨aC,_,⟨o,h1,h2,_⟩,_⟩:=I.zb (sg.ff hq);exact χ kd.W.kitx_tuple I.ko ⟨o,h1,h2⟩ (zu h) (λz=>nomatch z) vR
 |fy ws=>
  let⟨a,xs,rfl,hq,_⟩:=p;cases r;let⟨aC,_,⟨o,n,h1,h2,_⟩,_⟩:=I.wD (sg.mx hq);exact χ kd.W.kitx_list I.ko ⟨o,h1,h2⟩ (zu h) (λz=>nomatch z) vR
 |ba c=>simp[l7]at h
 |dw _ _ _ _=>simp[l7]at h
 |fn _ _ _=>simp[l7]at h
 |zt c=>
  let⟨e,rfl,he⟩:=p;cases r;unfold l7 at h;split at h
  .rename_i D Ν;cases Ν;split at h
   .rename_i hC;let⟨⟨o,vs,h1,h2,h3⟩,_⟩:=(show bh X.g_ X.w H s.d_ e (oC e (.ei D))from I.aR e _ (sg _ _ he));exact χ (y6a (iU.of hC)) I.ko ⟨o,vs,h1,h2,h3⟩ (zu h) (λz=>nomatch z) vR
   .cases h
  all_goals first|(cases h;done)|(rename_i h1 h2 h3 h4 h5;exact nS rfl (h2 c))|(rename_i h1 h2 h3 h4;exact nS rfl (h2 c))|(rename_i h1 h2 h3;exact nS rfl (h2 c))|(rename_i h1 h2;exact nS rfl (h2 c))
def gA(K:Fg)(cv:e5)(d:gF W):gF W:=λe=>(d e).nR λw e1=>match l7 K cv w with
 |O (.bl b)=>.ok (.bl b) e1
 |_=>.no
def y2c{c:V}(hc:BG c cv):ft X (.rn "isinstance") (λxs H Q=>∃x G w b,xs=[x,c]/\au G H/\nQ X.K G w x/\l7 X.K cv w=O (.bl b)/\Q (.bl b) H):=by
 intro eS s σ H xs us Q I r h;let⟨x,G,w,b,rfl,sg,p,hi,q⟩:=h;let⟨u,u2,rfl,rx,rc⟩:=Ĥ r
 have ec:u2=cv:=by
  cases c with
  |ty n=>exact(show u2=e5.hJ n from rc).iD (show cv=e5.hJ n from hc).symm
  |ei a=>exact(show u2=e5.ei a from rc).iD (show cv=e5.ei a from hc).symm
  |_=>exact hc.ke
 subst ec;exact z13 I sg p rx hi q
def nF{c0:V}(hc:BG c0 cv)(jC:PE X c (tC c0))(hm:X.mg "isinstance"=none)(he:DE Z X EE e da)(hg:fi (Gl X "isinstance") jJ)(hs:fi (lq [e,c] X.el=(false,eval e X.el)::lq [c] X.el) jJ)(hZ:fi (lq [c] X.el=(false,eval c X.el)::lq [] X.el) jJ)(df:fi ((r8 fZ (lq [c] X.el)).pX (·.1)=false) jJ):
  DE Z X EE (.pY (.je "isinstance" p) [e,c] [] fZ) (gA X.K cv da):=by
 refine PE.ll (Ly (y2c hc) hg hm uD.ri._R.«isinstance» (v9 he (v9 jC DX hZ) hs) (by decide) (by decide) hs df) ?_;rintro σ H Q ⟨G,e,iA,h⟩;simp only[gA,R.ak]at h;refine⟨G,e,iA,h.pQ (λw e1 h G1 v1 H1 r1 s1 p1=>?_) λ_ _ h=>h⟩
 split at h
 .rename_i b hb;exact⟨v1,G1,w,b,rfl,r1.mI,p1,hb,h G1 _ H1 r1 s1 rfl⟩
 .exact h.ke
theorem nZ{n:eh}{a:fh}(hm:X.mg n=O (.ei a))(hg:fi (Gl X n) jJ)(hd:fi ((n==("__debug__":eh))=false) jK):PE X (.je n fZ) (tC (.ei a)):=GI (v:=.ei a) hg hm rfl hd
theorem z14{n:eh}{T:ET}(hv:_a n=O (.hJ T))(hm:X.mg n=none)(hg:fi (Gl X n) jJ)(hn:fi (n≠"__name__") jK)(hd:fi ((n==("__debug__":eh))=false) jK):PE X (.je n fZ) (tC (.ty T)):=z0v (v:=.ty T) hg hm hv rfl hn hd
def gG:L W->fG W
 |[.fy ws]=>O (.ff ws)
 |[.ff ws]=>O (.ff ws)
 |_=>none
def z8j:vp K (λxs H Q=>∃p ys,xs=[.ei p]/\((cG K H p ys/\∀l,H l=none->Q (.ei l) (l5 H l (.ff ys)))\/(c6 K H p ys/\Q (.ei p) H))) gG:=by
 intro G H xs ws w Q s pr hf h;unfold gG at hf;split at hf
 .cases hf;let⟨x,r,rfl,px,pr⟩:=pr;cases(show r=[]from pr);let⟨a,ys,rfl,ha,ra⟩:=px;refine⟨a,ys,rfl,.h8 ⟨s.mx ha,λl hl=>?_⟩⟩
  have g:=bc.wg s hl (.ff ys);exact h _ _ _ g ⟨l,ys,rfl,c6.of cI,aq.ll g.gg _ ra⟩
 .cases hf;let⟨x,r,rfl,px,pr⟩:=pr;cases(show r=[]from pr);let⟨a,ys,rfl,ha,ra⟩:=px;exact⟨a,ys,rfl,.j' ⟨s.ff ha,h G _ H (.oQ s) ⟨a,ys,rfl,ha,ra⟩⟩⟩
 .cases hf
theorem y6n(hm:X.mg "tuple"=none)(ha:DA Z X EE [e] dA)(hg:fi (Gl X "tuple") jJ)(he:fi (lq [e] X.el=(false,eval e X.el)::lq [] X.el) jJ)(df:fi ((r8 fZ (lq [] X.el)).pX (·.1)=false) jJ):DE Z X EE (.pY (.je "tuple" p) [e] [] fZ) (ck gG dA):=
 Sn zaM z8j uD.ri._R.«tuple» hm ha hg (by decide) (by decide) he df
theorem z8k(hm:X.mg "len"=none)(ha:DA Z X EE [e] dA)(hg:fi (Gl X "len") jJ)(he:fi (lq [e] X.el=(false,eval e X.el)::lq [] X.el) jJ)(df:fi ((r8 fZ (lq [] X.el)).pX (·.1)=false) jJ):DE Z X EE (.pY (.je "len" p) [e] [] fZ) (ck bo dA):=
 MV QC Sq kd.boot_len hm ha hg (by decide) (by decide) he df
theorem z15(i:dt)(hm:X.mg "len"=none)(hN:fi (X.N[i]?=O x) jJ)(gC:fi (jy X.el.fj x) jM)(hd:fi ((x==("__debug__":eh))=false) jK)(dR:fi ((x==("__classdict__":eh))=false) jK)
  (hg:fi (Gl X "len") jJ)(hs:fi (lq [.je x p] X.el=(false,eval (.je x p) X.el)::lq [] X.el) jJ)(df:fi ((r8 fZ (lq [] X.el)).pX (·.1)=false) jJ):DE Z X EE (.pY (.je "len" pn) [.je x p] [] fZ) (gW i bo):=
 z77 i QC Sq kd.boot_len hm hN gC hd dR hg (by decide) (by decide) hs df
def AQ:L S->SR:=λ_=>.no
theorem y2d{st:L vv}:kO Z X EE st AQ:=λeS s σ H D I ⟨G,e,r,h⟩=>h.ke
end
section
variable{P:qM}{w:pT}{mg:eh->fG e5}{g0:fH}
def Hc(hF:∀ws,F ws=.no)(h:nG K F vs H Q E):pV:=by
 grind [MW]
def qv(K:Fg):Sp:=λvs H Q _=>∃(a:fh)(ns:L eW),vs=[.ei a]/\cG K H a (ns.ej V.d0)/\ns.J<=63/\∀H',Q (.bl true) H'
theorem Qk:∀(ns:L eW),aq K G (ns.ej W.d0) (ns.ej V.d0)
 |[]=>rfl
 |n::ns=>⟨_,_,rfl,rfl,Qk ns⟩
def y6o(hF:∀ns:L eW,ns.J<=63->F [.fy (ns.ej .d0)]=.ok (.fr (.bl true)))(h:qv K vs H Q E):nG K F vs H Q E:=by
 let⟨a,ns,rfl,hS,hl,q⟩:=h;refine⟨λb=>if b=a then H a else none,[.fy (ns.ej .d0)],λb o z=>?_,⟨.ei a,[],rfl,⟨a,ns.ej V.d0,rfl,?_,Qk ns⟩,rfl⟩,?_⟩
 .grind
 .rcases hS with(h|⟨o,h⟩)|h
  .exact .h8 (.h8 (by simpa using h))
  .exact .h8 (.j' ⟨o,by simpa using h⟩)
  .exact .j' h
 .rw[hF ns hl];intro G' H' v g sl;let⟨u,h1,h2⟩:=sl;cases h1;cases(show v=V.bl true from h2);exact q H'
def z8l{e:e5}(z:eJ P w [] H s (λ_ _ _=>pV) e s'):pV:=by
 let⟨_,_,_,_,_,_,_,_,_,_,h⟩:=z;exact h
def BZ{x:eh}{st:vv}{ps:L eh}{F:L W->FR}(A:At K mg x st ps)(hF:∀ws,F ws=.no:=by intro _;rfl):oh P w K mg g0 0 x ps (nG K F):=by
 let⟨f,fd,F0,m,b⟩:=A.ex;exact⟨f,fd,⟨λvs H Q E h=>(Hc hF h).ke,λA l4 s H args us vs Q _ _ _ _ h=>(Hc hF h).ke⟩,m,F0.kp,b⟩
end
def qP:W->fG eh
 |.d0 i=>if i._y.log2<1000 then O (eh.Yy (toString i))else none
 |.str z=>if z.J<=1000000 then O z else none
 |_=>none
def sY:gF eh:=λe=>.ok eh.ZG e
def mV(x:eh)(d:gF eh):gF eh:=λe=>(d e).nR λy e1=>.ok (x++y) e1
def qJ(d:gF W)(r:gF eh):gF eh:=λe=>(d e).nR λw e1=>match qP w with
 |O x=>(r e1).nR λy e2=>.ok (x++y) e2
 |none=>.no
def jj(d:gF eh):gF W:=λe=>(d e).nR λx e1=>.ok (.str x) e1
def Kk(x y z:eh):x++(y++z)=(x++y)++z:=by
 show eh.mk _=eh.mk _;congr 1;exact(w6i).symm
def zaO(x):x++eh.ZG=x:=by
 show eh.mk _=x
 simp_all [eh.ZG]
section
variable{e:l_}{d:gF eh}
def vm(Z:Zt)(X:Cx)(EE:L2.St->XK)(n:dt)(es:L l_)(d:gF eh):Prop:=PF X es (λm7 σ H Q=>m7.J+n*1000001<=16777216/\∃G e,m_ X.K Z G σ H e/\(d e).yt (λy e'=>∀G' H',m_ X.K Z G' σ H' e'->au G G'->Q (m7++y) H') (XH X.K Z EE σ G))
theorem PF.ll(h:PF X es t)(i:∀m7 σ H Q,t' m7 σ H Q->t m7 σ H Q):PF X es t':=λm7 eS s σ H Q I q=>h m7 eS s σ H Q I (i m7 σ H Q q)
theorem SM:vm Z X EE 0 [] sY:=PF.ll z7f λm7 σ H Q ⟨hl,G,e,r,h⟩=>⟨by rw[vN];omega,by
 have z:=h G H r (.oQ _)
 rwa [zaO]at z⟩
def MY{x:eh}{j fZ}(r:vm Z X EE n es d)(hx:x.J<=1000000:=by decide +kernel):vm Z X EE (n+1) (.Zo (.str x) j fZ::es) (mV x d):=by
 refine PF.ll (z7g r) ?_;rintro m7 σ H Q ⟨hl,G,e,iA,h⟩;unfold mV at h;have e1:(m7++x).J=m7.J+x.J:=kd.eh.ŏ _ _;refine⟨by rw[e1,vN];omega,by omega,G,e,iA,(R.ak.mp h).pQ (λy e1 h G1 H1 r1 s1=>?_) λ_ _ h=>h⟩
 have z:=h G1 H1 r1 s1
 rwa [Kk]at z
def z16(h:qP w=O x):x.J<=1000000:=by
 unfold qP at h;split at h
 .split at h
  .rename_i hl;cases h;have:=kd.int_text_length_le (k:=1000) (by decide) hl
   grind [ofString_length]
  .cases h
 all_goals grind
def UQ(h:qP w=O x)(p:nQ K G w v):BH v x:=by
 unfold qP at h;split at h
 .split at h
  .cases h;cases p;exact⟨by omega,rfl⟩
  .cases h
 .split at h
  .cases h;cases p;exact⟨by rw[vN];omega,rfl⟩
  .cases h
 .cases h
def z8m(he:DE Z X EE e da)(r:vm Z X EE n es d):vm Z X EE (n+1) (.Ϝ e (-1) none fZ::es) (qJ da d):=by
 refine PF.ll (z7h he r) ?_;rintro m7 σ H Q ⟨hl,G,e,iA,h⟩;simp only[qJ,R.ak]at h;refine⟨G,e,iA,h.pQ (λw e1 h G1 v1 H1 r1 s1 p1=>?_) λ_ _ h=>h⟩
 split at h
 .rename_i x hx;have N_:=z16 hx;have vy:(m7++x).J=m7.J+x.J:=kd.eh.ŏ _ _;refine⟨x,UQ hx p1,by rw[vy,vN];omega,by omega,G1,e1,r1,(R.ak.mp h).pQ (λy e2 h G2 H2 r2 s2=>?_) λ_ _ h=>XH.iD s1 h⟩
  have z:=h G2 H2 r2 (s1.iD s2)
  rwa [Kk]at z
 .exact h.ke
def RL{oM:L l_}(h:vm Z X EE n (v1::v2::oM) d)(hn:n*1000001<=16777216):DE Z X EE (.ž (v1::v2::oM) fZ) (jj d):=by
 refine PE.ll (z1c h) ?_;rintro σ H Q ⟨G,e,iA,h⟩;simp only[jj,R.ak]at h;refine⟨by show 0+_<=_;omega,G,e,iA,h.pQ (λy e1 h G1 H1 r1 s1=>?_) λ_ _ h=>h⟩
 have e0:eh.ZG++y=y:=by
  show eh.mk _=y
  simp_all [eh.ZG]
 rw[e0];exact h G1 _ H1 r1 s1 rfl
end
section
variable{β:Type}{c:Prop} [ϙ c]{a:α}{e':L S}{k:α->L S->R β}{ks:α->L S->SR}{x y:R α}{s t:SR}{v:e5}{st:S}
theorem z17:(R.ok a e).nR k=k a e:=rfl
theorem z18:(R.ex v e:R α).nR k=.ex v e:=rfl
theorem z19:(R.no:R α).nR k=.no:=rfl
def y6p:(if c then x else y).nR k=if c then x.nR k else y.nR k:=by split<;>rfl
theorem z8n:(R.ok a e).cM ks=ks a e:=rfl
theorem z8o:(R.ex v e:R α).cM ks=.ex v e:=rfl
theorem z8p:(R.no:R α).cM ks=.no:=rfl
def z2a:(if c then x else y).cM ks=if c then x.cM ks else y.cM ks:=by split<;>rfl
def SR.mx:SR->(L S->SR)->SR
 |.nx e,b=>b e
 |r,_=>r
def z8q{p:L S->SR}:ao p q e=(p e).mx q:=by
 unfold ao SR.mx;cases p e<;>rfl
theorem z8r:(SR.nx e).mx q=q e:=rfl
theorem z8s:(SR.rt st e).mx q=.rt st e:=rfl
theorem z8t:(SR.ex v e).mx q=.ex v e:=rfl
theorem z8u:(SR.bk e).mx q=.bk e:=rfl
theorem z8v:(SR.ct e).mx q=.ct e:=rfl
theorem z8w:(SR.no).mx q=.no:=rfl
def z2b:(if c then s else t).mx q=if c then s.mx q else t.mx q:=by split<;>rfl
theorem Q22:(SR.nx e).fn=.ok (.fr .aH):=rfl
theorem Q23:(SR.rt st e).fn=.ok st:=rfl
theorem Q24:(SR.ex v e).fn=.ex v:=rfl
theorem Q25:(SR.no).fn=.no:=rfl
def z8x:(if c then s else t).fn=if c then s.fn else t.fn:=by split<;>rfl
theorem x92:bS (O a) e=.ok a e:=rfl
theorem x93:bS (none:fG α) e=.no:=rfl
def y2f{o p:fG α}:bS (if c then o else p) e=if c then bS o e else bS p e:=by split<;>rfl
def uH(i:dt)(e:L S):fG S->R W
 |O (.fr w)=>.ok w e
 |O (.gD none ws)=>.ok (.fy ws) (e.my i (.fr (.fy ws)))
 |_=>.no
def z8y:ae i e=uH i e e[i]?:=by
 unfold ae uH;cases e[i]? with
 |none=>rfl
 |O s=>cases s with
  |gD b ws=>cases b<;>rfl
  |_=>rfl
theorem z8z:uH i e (O (.fr w))=.ok w e:=rfl
theorem z2c:uH i e (O (.gD none ws))=.ok (.fy ws) (e.my i (.fr (.fy ws))):=rfl
theorem Vr:dC w e=.ok w e:=rfl
theorem Q26{f:W->W->fG W}:ag f da db e=(da e).nR λx e1=>(db e1).nR λy e2=>bS (f x y) e2:=rfl
theorem Q27{f:W->fG W}:jQ f da e=(da e).nR λx e1=>bS (f x) e1:=rfl
def ya(e:L S):W->R fJ
 |.bl k=>.ok k e
 |_=>.no
theorem z2d:av da e=(da e).nR λx e1=>ya e1 x:=rfl
theorem z2e{b:fJ}:ya e (.bl b)=.ok b e:=rfl
theorem z80:e9 da e=(da e).nR λx e1=>bS (mr x) e1:=rfl
theorem z81{p q:gF fJ}:eY p q e=(p e).nR λx e1=>if x=true then q e1 else .ok false e1:=rfl
theorem Q28{p q:gF fJ}:kZ p q e=(p e).nR λx e1=>if x=true then .ok true e1 else q e1:=rfl
theorem z82{p:gF fJ}:j6 p e=(p e).nR λx e1=>.ok (!x) e1:=rfl
def BU(q:gF W)(e:L S):W->R W
 |.bl true=>q e
 |.bl false=>.ok (.bl false) e
 |_=>.no
theorem z2f{p q:gF W}:ix p q e=(p e).nR λx e1=>BU q e1 x:=rfl
def z83{q:gF W}{b:fJ}:BU q e (.bl b)=if b=true then q e else .ok (.bl false) e:=by cases b<;>rfl
def OC(q:gF W)(e:L S):W->R W
 |.bl true=>.ok (.bl true) e
 |.bl false=>q e
 |_=>.no
theorem z84{p q:gF W}:k8 p q e=(p e).nR λx e1=>OC q e1 x:=rfl
def Q29{q:gF W}{b:fJ}:OC q e (.bl b)=if b=true then .ok (.bl true) e else q e:=by cases b<;>rfl
def C6(e:L S):W->R W
 |.bl k=>.ok (.bl (!k)) e
 |_=>.no
theorem z2g{p:gF W}:lC p e=(p e).nR λx e1=>C6 e1 x:=rfl
theorem z85{b:fJ}:C6 e (.bl b)=.ok (.bl (!b)) e:=rfl
theorem Q3a{p:gF fJ}{q q':gF W}:uO p q q' e=(p e).nR λx e1=>if x=true then q e1 else q' e1:=rfl
theorem z86:af e=.ok [] e:=rfl
theorem z2h{p:gF W}{q:gF (L W)}:aa p q e=(p e).nR λx e1=>(q e1).nR λxs e2=>.ok (x::xs) e2:=rfl
theorem z87{p:gF (L W)}:bI p e=(p e).nR λxs e1=>if xs.J<=16777216 then .ok (.ff xs) e1 else .no:=rfl
theorem z88{p:gF (L W)}:cy p e=(p e).nR λxs e1=>if xs.J<=16777216 then .ok xs e1 else .no:=rfl
theorem Q3b{p:gF (L W)}:gv p e=(p e).nR λxs e1=>.ok (.fy xs) e1:=rfl
theorem Q3c{f:L W->fG W}{p:gF (L W)}:ck f p e=(p e).nR λxs e1=>bS (f xs) e1:=rfl
theorem Q3d:cX e=.nx e:=rfl
theorem Q3e:AQ e=.no:=rfl
theorem z2i{d:gF W}:gK d e=(d e).cM λ_ e'=>.nx e':=rfl
theorem z89{d:gF W}:aV d e=(d e).cM λw e'=>.rt (.fr w) e':=rfl
theorem z2j{d:gF (L W)}:j7 d e=(d e).cM λw e'=>.rt (.gD none w) e':=rfl
def è(e:L S):fG S->SR
 |O (.gD none ws)=>.rt (.gD none ws) e
 |O (.fr w)=>.rt (.fr w) e
 |_=>.no
def z2k:iy i e=è e e[i]?:=by
 grind [iy,è]
theorem z2l:è e (O (.gD none ws))=.rt (.gD none ws) e:=rfl
theorem z9a:è e (O (.fr w))=.rt (.fr w) e:=rfl
theorem z9b{p:gF fJ}{q':L S->SR}:aS p q q' e=(p e).cM λx e1=>if x=true then q e1 else q' e1:=rfl
theorem z9c{d:gF W}:aG i d e=(d e).cM λw e'=>.nx (e'.my i (.fr w)):=rfl
theorem z2m{d:gF (L W)}:cO i d e=(d e).cM λw e'=>.nx (e'.my i (.gD none w)):=rfl
def iw(e:L S):FR->R W
 |.ok (.fr w)=>.ok w e
 |.ok (.gD none ws)=>.ok (.fy ws) e
 |.ok (.ba kvs)=>.ok (.ba kvs) e
 |.ex c=>.ex c e
 |_=>.no
theorem y6q{kvs:Dd}:iw e (.ok (.ba kvs))=.ok (.ba kvs) e:=rfl
def z2n{F:L W->FR}{d:gF (L W)}:aA F d e=(d e).nR λws e1=>iw e1 (F ws):=by
 unfold aA;congr 1
theorem z2o:iw e (.ok (.fr w))=.ok w e:=rfl
theorem y6r:iw e (.ok (.gD none ws))=.ok (.fy ws) e:=rfl
theorem z2p:iw e (.ex v)=.ex v e:=rfl
theorem z2q:iw e .no=.no:=rfl
def y6s{f g:FR}:iw e (if c then f else g)=if c then iw e f else iw e g:=by split<;>rfl
def ly(e:L S):FR->R (L W)
 |.ok (.gD none ws)=>.ok ws e
 |.ex c=>.ex c e
 |_=>.no
def y6t{F:L W->FR}{d:gF (L W)}:j5 F d e=(d e).nR λws e1=>ly e1 (F ws):=by
 unfold j5;congr 1
theorem y2g:ly e (.ok (.gD none ws))=.ok ws e:=rfl
theorem y6u:ly e (.ex v)=.ex v e:=rfl
def y2h{f g:FR}:ly e (if c then f else g)=if c then ly e f else ly e g:=by split<;>rfl
def sO(e:L S):FR->R W
 |.ok (.fr w)=>.ok w e
 |.ok (.gD none ws)=>.ok (.fy ws) e
 |_=>.no
def y6v{F:L W->FR}{d:gF (L W)}:gU F d e=(d e).nR λws e1=>sO e1 (F ws):=by
 unfold gU;congr 1
theorem y6w:sO e (.ok (.fr w))=.ok w e:=rfl
theorem y2i:sO e (.ok (.gD none ws))=.ok (.fy ws) e:=rfl
def yE(i:dt)(b:L S->SR)(e:L S):fG (L W)->SR
 |O ws=>bT i b ws e
 |none=>.no
def z9d{d:gF W}{b:L S->SR}:jA i d b e=(d e).cM λw e1=>yE i b e1 (gc w):=by
 unfold jA;congr 1
def z2r{g:L W->fG (L W)}{d:gF (L W)}{b:L S->SR}:eN i g d b e=(d e).cM λw e1=>yE i b e1 (g w):=by
 unfold eN;congr 1
theorem y2j{b:L S->SR}:yE i b e (O ws)=bT i b ws e:=rfl
def SR.Yf:SR->(L S->SR)->SR
 |.nx e,k=>k e
 |.ct e,k=>k e
 |.bk e,_=>.nx e
 |.rt s e,_=>.rt s e
 |.ex c e,_=>.ex c e
 |.no,_=>.no
def xF{b:L S->SR}:bT i b (w::ws) e=(b (e.my i (.fr w))).Yf (bT i b ws):=by
 show(match b (e.my i (.fr w))with|.nx e'=>bT i b ws e'|.ct e'=>bT i b ws e'|.bk e'=>.nx e'|.rt s e'=>.rt s e'|.ex c e'=>.ex c e'|.no=>.no)=_;cases b (e.my i (.fr w))<;>rfl
theorem xG:(SR.nx e).Yf q=q e:=rfl
theorem z2s:(SR.ct e).Yf q=q e:=rfl
theorem z2t:(SR.bk e).Yf q=.nx e:=rfl
theorem z2u:(SR.rt st e).Yf q=.rt st e:=rfl
theorem z2v:(SR.ex v e).Yf q=.ex v e:=rfl
theorem z2w:(SR.no).Yf q=.no:=rfl
def y6x:(if c then s else t).Yf q=if c then s.Yf q else t.Yf q:=by split<;>rfl
def DK{p:gF fJ}{b:L S->SR}:bK p b (n+1) e=(p e).cM λx e1=>if x=true then(b e1).Yf (bK p b n)else .nx e1:=by
 show(p e).cM _=_;congr 1;funext x e1
 split
 .cases b e1<;>rfl
 .rfl
def lJ(k:W->R W):fG W->R W
 |none=>.no
 |O w=>k w
def z9e{d:gF W}:fU i d e=lJ (λ_=>(d e).nR λk e1=>lJ (λw=>bS (aU w k) e1) (e1[i]?.nR S.Yl)) (e[i]?.nR S.Yl):=by
 unfold fU lJ;cases e[i]?.nR S.Yl with
 |none=>rfl
 |O w=>
  dsimp only;try congr 1
theorem y2k{k:W->R W}:lJ k (O w)=k w:=rfl
theorem Q3f:S.Yl (.fr w)=O w:=rfl
theorem z9f{b:fG dt}:S.Yl (.gD b ws)=O (.fy ws):=rfl
def s_(e:L S)(y:fG W):fG S->R W
 |O (.fr _)=>bS y e
 |_=>match y with
  |none=>.no
  |O v=>if bu v=true then .ok v e else .no
def z9g{f:L W->fG W}:gW i f e=lJ (λw=>s_ e (f [w]) e[i]?) (e[i]?.nR S.Yl):=by
 unfold gW lJ;cases q:e[i]? with
 |none=>rfl
 |O s=>
  cases s with
  |no=>rfl
  |ba _=>rfl
  |dw _ _ _=>rfl
  |fr w=>
   show(match f [w]with|none=>R.no|O v=>R.ok v e)=s_ e (f [w]) (O (.fr w));generalize f [w]=y;cases y<;>rfl
  |gD b ws=>
   show(match f [W.fy ws]with|none=>R.no|O v=>if bu v=true then R.ok v e else R.no)=s_ e (f [W.fy ws]) (O (.gD b ws));generalize f [W.fy ws]=y;cases y<;>rfl
theorem z9h{y:fG W}:s_ e y (O (.fr w))=bS y e:=rfl
theorem z2x{b:fG dt}{v:W}:s_ e (O v) (O (.gD b ws))=if bu v=true then .ok v e else .no:=rfl
def BV(i:dt)(e:L S):L W->fG S->SR
 |[w],O (.gD b xs)=>if xs.J<16777216 then .nx (e.my i (.gD b (xs++[w])))else .no
 |_,_=>.no
def zP(k:SR):fG S->SR
 |O (.gD _ _)=>k
 |_=>.no
def z9i{d:gF (L W)}:dF i d e=zP ((d e).cM λws e1=>BV i e1 ws e1[i]?) e[i]?:=by
 unfold dF zP;cases e[i]? with
 |none=>rfl
 |O s=>cases s with
  |gD b xs=>
   dsimp only;try congr 1
  |_=>rfl
theorem Q3g{k:SR}{b:fG dt}:zP k (O (.gD b ws))=k:=rfl
theorem Q3h{b:fG dt}{xs:L W}:BV i e [w] (O (.gD b xs))=if xs.J<16777216 then .nx (e.my i (.gD b (xs++[w])))else .no:=rfl
def zQ(i:dt)(e:L S)(b:fG dt)(ws:L W):fG W->R W
 |O w=>.ok w (e.my i (.gD b ws.YQ))
 |none=>.no
def zR(i:dt)(e:L S):fG S->R W
 |O (.gD b ws)=>zQ i e b ws ws[ws.J-1]?
 |_=>.no
def z9j:iZ i e=zR i e e[i]?:=by
 unfold iZ zR;cases e[i]? with
 |none=>rfl
 |O s=>cases s with
  |gD b ws=>
   show(match ws[ws.J-1]? with|O w=>_|none=>_)=zQ i e b ws ws[ws.J-1]?;cases ws[ws.J-1]?<;>rfl
  |_=>rfl
def z2y{b:fG dt}:zR i e (O (.gD b (ws++[w])))=.ok w (e.my i (.gD b ws)):=by
 show zQ i e b (ws++[w]) (ws++[w])[(ws++[w]).J-1]?=_;have:(ws++[w])[(ws++[w]).J-1]?=O w:=by simp
 rw[this];show R.ok w (e.my i (.gD b (ws++[w]).YQ))=_;rw[L.dropLast_concat]
theorem y6y{C:fh}{d:gF (L W)}:cz C d e=(d e).cM λws e1=>if ws.J<=16777216 then .ex (.ei C) e1 else .no:=rfl
theorem y2l:bG e=.ok none e:=rfl
def xA(e:L S):W->R (fG eW)
 |.d0 i=>.ok (O i) e
 |_=>.no
theorem z2z{d:gF W}:cB d e=(d e).nR λw e1=>xA e1 w:=rfl
theorem y6z{i:eW}:xA e (.d0 i)=.ok (O i) e:=rfl
def CL(e:L S):fG W->R W
 |O (.bl b)=>.ok (.bl b) e
 |_=>.no
def z9k{d:gF W}:gA K cv d e=(d e).nR λw e1=>CL e1 (l7 K cv w):=by
 unfold gA;congr 1
theorem z9l{b:fJ}:CL e (O (.bl b))=.ok (.bl b) e:=rfl
def u_{D:fh}{k:fJ}(hc:bD K D=true)(h:pW K (.ei D) cv=O k):l7 K cv (.zt (.ei D))=O (.bl k):=by show(if bD K D=true then _ else _)=_;rw[gE hc,h];rfl
def wH(n:dt):SR->SR
 |.nx _=>.nx (L.oS n .no)
 |.bk _=>.bk (L.oS n .no)
 |.ct _=>.ct (L.oS n .no)
 |.rt s e=>.rt s e
 |_=>.no
def uF(K:Fg)(c:fh)(i n:dt)(h:L S->SR):SR->SR
 |.ex ie e'=>if ZV K ie (.ei c)=O true then wH n (h (e'.my i (.fr (.zt ie))))else .no
 |r=>r
def z9m{c : fh}{b h : L S -> SR} : oz K c i n b h e = uF K c i n h (b e) := by
  unfold oz uF;cases b e with
  | ex ie e' => dsimp only; split
                . cases h (e'.my i (.fr (.zt ie))) <;> rfl
                . rfl
  | _ => rfl
theorem z9n{c:fh}{h:L S->SR}:uF K c i n h (.nx e)=.nx e:=rfl
theorem z9o{c:fh}{h:L S->SR}:uF K c i n h (.rt st e)=.rt st e:=rfl
def z9p{c:fh}{h:L S->SR}(hx:ZV K v (.ei c)=O true):uF K c i n h (.ex v e)=wH n (h (e.my i (.fr (.zt v)))):=by show(if _ then _ else _)=_;rw[gE hx]
theorem z20:wH n (.rt st e)=.rt st e:=rfl
theorem z21:wH n (.nx e)=.nx (L.oS n .no):=rfl
def mM(e:L S):fG (L W)->R (L W)
 |O oN=>.ok oN e
 |none=>.no
def z22{cc:gF fJ}{d:gF W}:fv js cc d ws e=if ws.J<=16777216 then mM (bt js e) (cq cc d (iP js (bt js e)) ws)else .no:=by
 unfold fv mM;split
 .cases cq cc d (iP js (bt js e)) ws<;>rfl
 .rfl
def sS(js:L dt)(cc:gF fJ)(d:gF W)(e:L S):fG (L W)->R (L W)
 |O ws=>fv js cc d ws e
 |none=>.no
def z23{di:gF W}{cc:gF fJ}{d:gF W}:dP js di cc d e=(di e).nR λw e1=>sS js cc d e1 (gc w):=by
 unfold dP;congr 1
def y60{g:L W->fG (L W)}{di:gF (L W)}{cc:gF fJ}{d:gF W}:c8 g js di cc d e=(di e).nR λw e1=>sS js cc d e1 (g w):=by
 unfold c8;congr 1
theorem x94{cc:gF fJ}{d:gF W}:sS js cc d e (O ws)=fv js cc d ws e:=rfl
theorem x95{oN:L W}:mM e (O oN)=.ok oN e:=rfl
theorem y2m:cP e=.ok true e:=rfl
theorem y61:bt [] e=e:=rfl
theorem y2n{j:dt}:bt (j::js) e=bt js (i4 e j):=rfl
theorem z24:iP [] e=[]:=rfl
theorem y62{j:dt}:iP (j::js) e=rD e j::iP js e:=rfl
theorem Gm{d:gF W}{g:W->W}:∀(ws:L W),(∀w∈ws,∃e',d (.fr w::pe)=.ok (g w) e')->cq cP d pe ws=O (ws.ej g)
 |[],_=>rfl
 |w::ws,h=>by
  let⟨e',he⟩:=h w (by simp);show(match d (.fr w::pe)with|.ok y _=>(cq cP d pe ws).ej (y::·)|_=>none)=_;rw[he,Gm ws λu hu=>h u (by simp[hu])]
  rfl
theorem Gd{cc:gF fJ}{d:gF W}:cq cc d pe (w::ws)=(match cc (.fr w::pe)with
  |.ok true e1=>(match d e1 with|.ok y _=>(cq cc d pe ws).ej (y::·)|_=>none)
  |.ok false _=>cq cc d pe ws
  |_=>none):=rfl
end
section
variable{i j:eW}{x y:eh}{b c:fJ}{us:L W}
theorem z9q:ο (.d0 i) (.d0 j)=O (.d0 (i+j)):=rfl
theorem z9r:ο (.str x) (.str y)=if x.J+y.J<=16777216 then O (.str (x++y))else none:=rfl
theorem z9s:ο (.fy ws) (.fy us)=if ws.J+us.J<=16777216 then O (.fy (ws++us))else none:=rfl
theorem z9t:rH (.d0 i) (.d0 j)=O (.d0 (i-j)):=rfl
theorem z9u:kE (.d0 i) (.d0 j)=if(-18446744073709551616<i/\i<18446744073709551616)\/(-18446744073709551616<j/\j<18446744073709551616)then O (.d0 (i*j))else none:=rfl
theorem z25:cR (.d0 i) (.d0 j)=if 0<j/\j<1073741824 then O (.d0 (i / j))else none:=rfl
theorem z9v:b8 (.d0 i) (.d0 j)=if 0<j then O (.d0 (i%j))else none:=rfl
def z9w:ud (.d0 i) (.d0 j)=if 0<=j/\j<=1000000/\-18446744073709551616<i/\i<18446744073709551616 then O (.d0 (i^j.oR))else none:=by
 show(if 0<=j/\j<=1000000/\i._y<2^64 then _ else _)=_;have e:(2:dt)^64=18446744073709551616:=by decide
 rw[e]
 by_cases h:0<=j/\j<=1000000/\i._y<18446744073709551616
 .rw[gE h,gE (by omega)]
 .rw[kl h,kl (by omega)]
theorem Q3i:nX (.d0 i) (.d0 j)=O (.bl (decide (i<j))):=rfl
theorem Q3j:CS (.d0 i) (.d0 j)=O (.bl (decide (i<=j))):=rfl
theorem Q3k:mB (.d0 i) (.d0 j)=O (.bl (decide (j<i))):=rfl
theorem Q3l:AY (.d0 i) (.d0 j)=O (.bl (decide (j<=i))):=rfl
theorem Q3m:lp (.d0 i)=O (.d0 (-i)):=rfl
def Q3n:rh (.d0 i) (.d0 j)=O (.bl (decide (i=j))):=by
 show O (W.bl (i==j))=_;congr 2
def Q3o:rh (.str x) (.str y)=O (.bl (decide (x=y))):=by
 show O (W.bl (x==y))=_;congr 2
def Q3p:rh (.bl b) (.bl c)=O (.bl (decide (b=c))):=by
 show O (W.bl (b==c))=_;congr 2
def Q3q:Ym (.d0 i) (.d0 j)=O (.bl (!decide (i=j))):=by
 show O (W.bl (!(i==j)))=_;congr 2
def z0j:Ym (.str x) (.str y)=O (.bl (!decide (x=y))):=by
 show O (W.bl (!(x==y)))=_;congr 2
def Q3r:Ym (.bl b) (.bl c)=O (.bl (!decide (b=c))):=by
 show O (W.bl (!(b==c)))=_;congr 2
def Q3s:zr (.bl b) (.bl c)=O (.bl (decide (b=c))):=by
 show O (W.bl (b==c))=_;congr 2
theorem Q3t:zr .aH .aH=O (.bl true):=rfl
theorem Q3u:zr (.bl b) .aH=O (.bl false):=rfl
theorem Q3v:zr (.d0 i) .aH=O (.bl false):=rfl
theorem Q3w:zr (.str x) .aH=O (.bl false):=rfl
theorem Q3x:zr (.ff ws) .aH=O (.bl false):=rfl
theorem Q3y:zr (.fy ws) .aH=O (.bl false):=rfl
def z9x:iG (.bl b) (.bl c)=O (.bl (!decide (b=c))):=by
 show O (W.bl (!(b==c)))=_;congr 2
theorem z9y:iG .aH .aH=O (.bl false):=rfl
theorem z9z:iG (.bl b) .aH=O (.bl true):=rfl
theorem z90:iG (.d0 i) .aH=O (.bl true):=rfl
theorem z91:iG (.str x) .aH=O (.bl true):=rfl
theorem z92:iG (.ff ws) .aH=O (.bl true):=rfl
theorem z93:iG (.fy ws) .aH=O (.bl true):=rfl
theorem WB:aU (.ff ws) (.d0 i)=et ws i:=rfl
theorem WA:aU (.fy ws) (.d0 i)=et ws i:=rfl
theorem Q3z:bo [.ff ws]=O (.d0 ws.J):=rfl
theorem Q30:bo [.fy ws]=O (.d0 ws.J):=rfl
theorem Tw:bo [.str x]=if x.J<=16777216 then O (.d0 x.J)else none:=rfl
theorem Q31:gG [.fy ws]=O (.ff ws):=rfl
theorem Q32:gG [.ff ws]=O (.ff ws):=rfl
theorem Q33:mr (.bl b)=O b:=rfl
theorem Q34:mr (.d0 i)=O (i != 0):=rfl
theorem Q35:mr .aH=O false:=rfl
theorem Q36:mr (.ff ws)=O (!ws.yw):=rfl
theorem Q37:mr (.fy ws)=O (!ws.yw):=rfl
theorem Q38:gc (.ff ws)=O ws:=rfl
theorem Q39:gc (.fy ws)=O ws:=rfl
theorem Xs:bu (.d0 i)=true:=rfl
theorem Xr:bu (.bl b)=true:=rfl
theorem Xu:bu (.str x)=true:=rfl
theorem Xt:bu .aH=true:=rfl
theorem Xx{lo hi:fG eW}:O7 (.fy ws) lo hi=O (.fy (fE ws lo hi)):=rfl
def at0{xs:L α}:et xs 0=xs[0]?:=by
 cases xs with
 |m8=>rfl
 |m6 a l=>exact v_ (j:=0) rfl
def at1{xs:L α}:et xs 1=xs[1]?:=by
 cases xs with
 |m8=>rfl
 |m6 a l=>
  cases l with
  |m8=>rfl
  |m6 b l=>exact v_ (j:=1) rfl
def at2{xs:L α}:et xs 2=xs[2]?:=by
 cases xs with
 |m8=>rfl
 |m6 a l=>
  cases l with
  |m8=>rfl
  |m6 b l=>
   cases l with
   |m8=>rfl
   |m6 c l=>exact v_ (j:=2) rfl
def MZ{xs:L α}{k:eW}(h0:0<=k):et xs k=xs[k.oR]?:=by
 unfold et oJ;rw[gE h0]
 by_cases h:k<xs.J
 .rw[gE h];rfl
 .rw[kl h];exact(w2o (by omega)).symm
def zag{a b:ET}(h:eh.Yy a=eh.Yy b):a=b:=by
 rw[eh.zc',eh.zc']at h;have h1:(a.n9.ej ϗ.oR).ky=(b.n9.ej ϗ.oR).ky:=Yc eh.rq h;have h2:a.n9.ej ϗ.oR=b.n9.ej ϗ.oR:=by simpa using Yc tP.n9 h1
 have h3:a.n9=b.n9:=by
  have sE:∀c d:ϗ,c.oR=d.oR->c=d:=λc d e=>by
   apply ϗ.ext;exact UInt32.toNat_inj.mp e
  exact(w6l sE).mp h2
 exact ET.toList_inj.mp h3
theorem xJ{a b:ET}:(eh.Yy a=eh.Yy b)=(a=b):=Ş ⟨zag,λh=>by rw[h]⟩
end
def iN:W->fG W
 |.fy ws=>O (.ff ws.wd)
 |_=>none
def gR:L W->fG (L fJ)
 |[]=>O []
 |.bl b::ws=>(gR ws).ej (b::·)
 |_=>none
def ϣ:L W->fG W
 |[.fy ws]=>(gR ws).ej λbs=>.bl (bs.oP id)
 |_=>none
def ϳ:L W->fG W
 |[.d0 i,.d0 j]=>O (.d0 (if j>i then j else i))
 |_=>none
def k_:L W->fG W
 |[.d0 i]=>O (.d0 i)
 |[.bl b]=>O (.d0 (if b then 1 else 0))
 |_=>none
def sX(y x:W):fJ:=(TX y x).mF false
def ki:W->W->fG W
 |x,.ff ws=>if bu x=true/\ws.oP bu=true then O (.bl (ws.pX λy=>sX y x))else none
 |x,.fy ws=>if bu x=true/\ws.oP bu=true then O (.bl (ws.pX λy=>sX y x))else none
 |_,_=>none
def kF:W->W->fG W
 |x,.ff ws=>if bu x=true/\ws.oP bu=true then O (.bl (!ws.pX λy=>sX y x))else none
 |x,.fy ws=>if bu x=true/\ws.oP bu=true then O (.bl (!ws.pX λy=>sX y x))else none
 |_,_=>none
def Dv(h:bu w=true)(p:nQ K G w v):gN v=true:=by
 cases w with
 |aH=>cases p;rfl
 |bl b=>cases p;rfl
 |d0 b=>cases p;rfl
 |str b=>cases p;rfl
 |_=>cases h
def z26(h:bu w=true)(h':bu u=true)(p:nQ K G w v)(q:nQ K G u x):uR v x=sX w u:=by
 cases w<;>cases u<;>first|(cases p;cases q;rfl)|exact nS (show false=true from h') w1w|exact nS (show false=true from h) w1w
theorem DD{u:W}{x:V}(hu:bu u=true)(q:nQ K G u x):∀{ws:L W}{xs:L V},ws.oP bu=true->aq K G ws xs->xs.oP gN=true/\Fd x xs=ws.pX λy=>sX y u
 |[],xs,_,r=>by cases r;exact⟨rfl,rfl⟩
 |w::ws,xs,h,r=>by
  let⟨y,r',rfl,p,r⟩:=r;rw[w3o,w0q]at h;let⟨i1,i2⟩:=DD hu q h.2 r;refine⟨by rw[w3o,Dv h.1 p,i1];rfl,?_⟩;show(uR y x||Fd x r')=(sX w u||ws.pX _);rw[z26 h.1 hu p q,i2]
def Tx:iq K (GW K false) ki:=by
 intro G H x y wx wy w Q s px py hf h;cases wy with
 |ff ws=>
  simp only[ki]at hf;split at hf
  .rename_i hc;cases hf;let⟨a,xs,rfl,ha,ra⟩:=py;let⟨i1,i2⟩:=DD hc.1 px hc.2 ra;refine⟨a,xs,rfl,.j' (s.ff ha),Dv hc.1 px,i1,?_⟩;rw[i2];exact h G _ H (.oQ s) rfl
  .cases hf
 |fy ws=>
  simp only[ki]at hf;split at hf
  .rename_i hc;cases hf;let⟨a,xs,rfl,ha,ra⟩:=py;let⟨i1,i2⟩:=DD hc.1 px hc.2 ra;refine⟨a,xs,rfl,.h8 (s.mx ha),Dv hc.1 px,i1,?_⟩;rw[i2];exact h G _ H (.oQ s) rfl
  .cases hf
 |_=>simp[ki]at hf
def z94:iq K (GW K true) kF:=by
 intro G H x y wx wy w Q s px py hf h;cases wy with
 |ff ws=>
  simp only[kF]at hf;split at hf
  .rename_i hc;cases hf;let⟨a,xs,rfl,ha,ra⟩:=py;let⟨i1,i2⟩:=DD hc.1 px hc.2 ra;refine⟨a,xs,rfl,.j' (s.ff ha),Dv hc.1 px,i1,?_⟩;rw[i2];exact h G _ H (.oQ s) rfl
  .cases hf
 |fy ws=>
  simp only[kF]at hf;split at hf
  .rename_i hc;cases hf;let⟨a,xs,rfl,ha,ra⟩:=py;let⟨i1,i2⟩:=DD hc.1 px hc.2 ra;refine⟨a,xs,rfl,.h8 (s.mx ha),Dv hc.1 px,i1,?_⟩;rw[i2];exact h G _ H (.oQ s) rfl
  .cases hf
 |_=>simp[kF]at hf
def y2o:ER K (λx H1 Q=>∃p ys,x=.ei p/\cG K H1 p ys/\∀l,H1 l=none->Q (.ei l) (l5 H1 l (.ff ys.wd))) iN:=by
 intro G H x wx w Q s px hf h;unfold iN at hf;split at hf
 .cases hf;let⟨a,xs,rfl,ha,ra⟩:=px;refine⟨a,xs,rfl,s.mx ha,λl hl=>?_⟩
  have g:=bc.wg s hl (.ff xs.wd);exact h _ _ _ g ⟨l,_,rfl,c6.of cI,aq.ll g.gg _ ra.wd⟩
 .cases hf
def zbD:∀{bs:L fJ},gR ws=O bs->ws=bs.ej .bl:=by
 induction ws with
 |m8=>intro bs h;cases h;rfl
 |m6 w ws ih=>
  intro bs h;cases w with
  |bl b=>
   let⟨cs,h1,rfl⟩:=w0p.mp (show(gR ws).ej (b::·)=O bs from h);exact Yc _ (ih h1)
  |_=>cases h
theorem Ql:∀(bs:L fJ),gR (bs.ej .bl)=O bs
 |[]=>rfl
 |b::bs=>by
  show(gR (bs.ej W.bl)).ej (b::·)=_;rw[Ql bs];rfl
theorem Pj:∀{bs:L fJ}{xs:L V},aq K G (bs.ej W.bl) xs->xs=bs.ej V.bl
 |[],xs,h=>h
 |b::bs,xs,h=>by
  let⟨x,r,rfl,h1,h2⟩:=h;rw[Pj h2,show x=V.bl b from h1];rfl
def z95:vp K (λxs H Q=>∃p ys,xs=[.ei p]/\cG K H p ys/\(∀y∈ys,∃b,y=.bl b)/\Q (.bl (ys.oP λy=>decide (y=.bl true))) H) ϣ:=by
 intro G H xs ws w Q s pr hf h;unfold ϣ at hf;split at hf
 .let⟨bs,hb,rfl⟩:=w0p.mp hf;have:=zbD hb;subst this;let⟨x,r,rfl,px,pr⟩:=pr;cases(show r=[]from pr);let⟨a,ys,rfl,ha,ra⟩:=px;have:=Pj ra;subst this;refine⟨a,_,rfl,s.mx ha,λy hy=>?_,h G _ H (.oQ s) ?_⟩
  .let⟨b,_,rfl⟩:=w1e.mp hy;exact⟨b,rfl⟩
  .show V.bl _=V.bl _;congr 1;rw[L.all_map];congr 1;funext b
   cases b<;>rfl
 .cases hf
def z96:vp K (λxs H Q=>∃i j,xs=[.d0 i,.d0 j]/\Q (.d0 (if j>i then j else i)) H) ϳ:=by
 intro G H xs ws w Q s pr hf h;unfold ϳ at hf;split at hf
 .cases hf;let⟨x,r,rfl,px,y,r2,rfl,py,pr⟩:=pr;cases(show r2=[]from pr);cases px;cases py;exact⟨_,_,rfl,h G _ H (.oQ s) rfl⟩
 .cases hf
def z97:vp K (λxs H Q=>(∃i,xs=[.d0 i]/\Q (.d0 i) H)\/∃k,xs=[.bl k]/\Q (.d0 (if k then 1 else 0)) H) k_:=by
 intro G H xs ws w Q s pr hf h;unfold k_ at hf;split at hf
 .cases hf;let⟨x,r,rfl,px,pr⟩:=pr;cases(show r=[]from pr);cases px;exact .h8 ⟨_,rfl,h G _ H (.oQ s) rfl⟩
 .cases hf;let⟨x,r,rfl,px,pr⟩:=pr;cases(show r=[]from pr);cases px;exact .j' ⟨_,rfl,h G _ H (.oQ s) rfl⟩
 .cases hf
section
variable{a b c e:l_}{p mh fo:qY}{x:eh}
theorem Q4a(hu:X.A.r7+150<r_)(ha:DE Z X EE a da)(hb:DE Z X EE b db)(hm:Y_ .In b=false:=by with_unfolding_all rfl):DE Z X EE (.Vq a [.In] [b] fZ) (ag ki da db):=Aj Qb Tx ha hb hm
theorem Q4b(hu:X.A.r7+150<r_)(ha:DE Z X EE a da)(hb:DE Z X EE b db)(hm:Y_ .In b=false:=by with_unfolding_all rfl):DT Z X EE (.Vq a [.In] [b] fZ) (av (ag ki da db)):=xK Qb Tx ha hb hm
theorem z98(hu:X.A.r7+150<r_)(ha:DE Z X EE a da)(hb:DE Z X EE b db)(hm:Y_ .Z7 b=false:=by with_unfolding_all rfl):DT Z X EE (.Vq a [.Z7] [b] fZ) (av (ag kF da db)):=xK zaK z94 ha hb hm
theorem y2p(hc:X.wK=true)(yW:X.mg "tuple"=none)(yX:X.mg "reversed"=none)(he:DE Z X EE e da)(yQ:fi (Gl X "tuple") jJ)(oF:fi (Gl X "reversed") jJ)
  (k9:fi (lq [.pY (.je "reversed" p2) [e] [] fo] X.el=(false,eval (.pY (.je "reversed" p2) [e] [] fo) X.el)::lq [] X.el) jJ)(hZ:fi (lq [e] X.el=(false,eval e X.el)::lq [] X.el) jJ):
  DE Z X EE (.pY (.je "tuple" p1) [.pY (.je "reversed" p2) [e] [] fo] [] mh) (jQ iN da):=PE.ll (y1w hc yW yX he yQ oF k9 hZ) (RG y2o)
theorem z99(hc:X.wK=true)(hm:X.mg "all"=none)(ha:DA Z X EE [e] dA)(hg:fi (Gl X "all") jJ)(he:fi (lq [e] X.el=(false,eval e X.el)::lq [] X.el) jJ)(df:fi ((r8 fZ (lq [] X.el)).pX (·.1)=false) jJ):DE Z X EE (.pY (.je "all" p) [e] [] fZ) (ck ϣ dA):=
 MV (y58 hc) z95 uD.ri._R.«all» hm ha hg (by decide) (by decide) he df
theorem z27(hc:X.wK=true)(hm:X.mg "max"=none)(ha:DA Z X EE [a,b] dA)(hg:fi (Gl X "max") jJ)(he:fi (lq [a,b] X.el=(false,eval a X.el)::lq [b] X.el) jJ)(df:fi ((r8 fZ (lq [b] X.el)).pX (·.1)=false) jJ):DE Z X EE (.pY (.je "max" p) [a,b] [] fZ) (ck ϳ dA):=
 MV (y1l hc) z96 uD.ri._R.«max» hm ha hg (by decide) (by decide) he df
theorem z28(hm:X.mg "int"=none)(ha:DA Z X EE [e] dA)(hg:fi (Gl X "int") jJ)(he:fi (lq [e] X.el=(false,eval e X.el)::lq [] X.el) jJ)(df:fi ((r8 fZ (lq [] X.el)).pX (·.1)=false) jJ):DE Z X EE (.pY (.je "int" p) [e] [] fZ) (ck k_ dA):=
 Sn y1m z97 uD.ri._R.«int» hm ha hg (by decide) (by decide) he df
end
theorem y63:iN (.fy ws)=O (.ff ws.wd):=rfl
def Vb{bs:L fJ}:ϣ [.fy (bs.ej .bl)]=O (.bl (bs.oP id)):=by
 show(gR (bs.ej W.bl)).ej _=_;rw[Ql];rfl
theorem Q0a{i:eW}:ϳ [.d0 i,.d0 j]=O (.d0 (if j>i then j else i)):=rfl
theorem Q4d{i:eW}:k_ [.d0 i]=O (.d0 i):=rfl
theorem Q4e:k_ [.bl b]=O (.d0 (if b then 1 else 0)):=rfl
theorem Nz:((0:dt):eW)=0:=rfl
theorem NA:((1:dt):eW)=1:=rfl
theorem Q0b:sY e=.ok eh.ZG e:=rfl
theorem Q0c:mV x d e=(d e).nR λy e1=>.ok (x++y) e1:=rfl
def B'(r:gF eh)(e:L S):fG eh->R eh
 |O x=>(r e).nR λy e2=>.ok (x++y) e2
 |none=>.no
def Q0d:qJ d r e=(d e).nR λw e1=>B' r e1 (qP w):=by
 unfold qJ;congr 1
theorem y2q:B' r e (O x)=(r e).nR λy e2=>.ok (x++y) e2:=rfl
theorem z29:jj d e=(d e).nR λx e1=>.ok (.str x) e1:=rfl
theorem SN{b:L S->SR}(I:dt->L S->Prop):∀(ws:L W)(k:dt)(e:L S),I k e->(∀(j:dt)(w:W)(e:L S),ws[j]?=O w->I (k+j) e->∃e',b (e.my i (.fr w))=.nx e'/\I (k+j+1) e')->∃e',bT i b ws e=.nx e'/\I (k+ws.J) e'
 |[],k,e,h0,_=>⟨e,rfl,h0⟩
 |w::ws,k,e,h0,h=>by
  let⟨e1,h1,h2⟩:=h 0 w e rfl h0
  let⟨e2,h3,h4⟩:=SN I ws (k+1) e1 h2 λj u e hu hI=>by
   have z:=h (j+1) u e (by simpa using hu) (by grind);rw[show k+(j+1)+1=k+1+j+1 by omega]at z;exact z
  grind [xF,xG]
def v5:(bQ lo hi).J=(hi-lo).oR:=by simp[bQ]
def y2s{lo hi:eW}{j:dt}(h:(bQ lo hi)[j]?=O w):w=.d0 (lo+j)/\j<(hi-lo).oR:=by
 unfold bQ at h;rw[w1c]at h;let⟨k,h1,rfl⟩:=w0p.mp h;let⟨h2,h3⟩:=w0c.mp h1;simp at h2 h3;subst h3;exact⟨rfl,by omega⟩
def xD{b:L S->SR}{lo hi:eW}(n:dt)(hn:(hi-lo).oR=n)(I:dt->L S->Prop)(e:L S)(h0:I 0 e)(h:∀(j:dt)(e:L S),j<n->I j e->∃e',b (e.my i (.fr (.d0 (lo+j))))=.nx e'/\I (j+1) e'):∃e',bT i b (bQ lo hi) e=.nx e'/\I n e':=by
 let⟨e',h1,h2⟩:=SN (b:=b) (i:=i) I (bQ lo hi) 0 e h0 λj w e hw hI=>by
  let⟨rfl,hj⟩:=y2s hw;rw[w2t]at hI |-
  exact h j e (by omega) hI
 rw[v5,hn,w2t]at h2;exact⟨e',h1,h2⟩
def w_(F:L W->FR)(i:dt)(dA:gF (L W)):gF W:=λe=>match e[i]? with
 |O (.gD _ _)=>(dA e).nR λus e1=>match e1[i]? with
  |O (.gD _ ws)=>match F (.fy ws::us)with
   |.ok (.fr w)=>if bu w=true then .ok w e1 else .no
   |_=>.no
  |_=>.no
 |_=>.no
mutual
noncomputable def cu(K:Fg):W->Value->Bool
 |.aH,u=>match u with|.none=>true|_=>false
 |.bl b,u=>match u with|.bool c=>b==c|_=>false
 |.int i,u=>match u with|.int j _=>decide (i=j)|_=>false
 |.str x,u=>match u with|.str y _=>decide (x=y)|_=>false
 |.tup ws,u=>match u with
  |.ref a=>match K.lookup a with
   |some o=>(o.cls==.type "tuple"&&o.dict.isNone)&&(match o.data with|.seq aC _=>Nat.ble aC.size 1000000&&j4 K ws aC.toList|_=>false)
   |none=>false
  |_=>false
 |.lst _,_=>false
 |.exc _,_=>false
 |.ba _,_=>false
 |.dw _ _ _ _,_=>false
 |.fn _ _ _,_=>false
noncomputable def j4(K:Fg):List W->List Value->Bool
 |[],us=>us.isEmpty
 |w::ws,us=>match us with
  |u::us=>cu K w u&&j4 K ws us
  |[]=>false
end
mutual
theorem MA{K:Fg}:∀(w:W){u:Value},cu K w u=true->∃v,RelV v u/\∀G,Rep K G w v
 |.aH,u,h=>by
  unfold cu at h;split at h
  .exact⟨.aH,rfl,λ_=>rfl⟩
  .cases h
 |.bl b,u,h=>by
  unfold cu at h;split at h
  .rename_i c;have:b=c:=by simpa using h
   exact⟨.bl b,by rw[this];rfl,λ_=>rfl⟩
  .cases h
 |.int i,u,h=>by
  unfold cu at h;split at h
  .rename_i j t;have:i=j:=by simpa using h
   exact⟨.int i,⟨t,by rw[this]⟩,λ_=>rfl⟩
  .cases h
 |.str x,u,h=>by
  unfold cu at h;split at h
  .rename_i y t;have:x=y:=by simpa using h
   exact⟨.str x,⟨t,by rw[this]⟩,λ_=>rfl⟩
  .cases h
 |.tup ws,u,h=>by
  unfold cu at h;split at h
  .rename_i a;split at h
   .rename_i o ho;rw[w0q]at h;let⟨h1,h2⟩:=h;split at h2
    .rename_i aC n hd;rw[w0q]at h2;let⟨h3,h4⟩:=h2;let⟨xs,r,q⟩:=QR ws h4;exact⟨.ref a,rfl,λG=>⟨a,xs,rfl,.inr ⟨o,aC,n,ho,by simpa using ((w0q _ _).mp h1).1,Option.isNone_iff_eq_none.mp ((w0q _ _).mp h1).2,hd,by rw[sizeLine_eq];have:=w4j h3;omega,r⟩,q G⟩⟩
    .cases h2
   .cases h
  .cases h
 |.lst _,u,h=>by unfold cu at h;cases h
 |.exc _,u,h=>by unfold cu at h;cases h
 |.ba _,u,h=>by unfold cu at h;cases h
 |.dw _ _ _ _,u,h=>by unfold cu at h;cases h
 |.fn _ _ _,u,h=>by unfold cu at h;cases h
theorem QR{K:Fg}:∀(ws:List W){us:List Value},j4 K ws us=true->∃xs,Vals xs us/\∀G,aq K G ws xs
 |[],us,h=>by
  unfold j4 at h;cases us with
  |nil=>exact⟨[],.nil,λ_=>rfl⟩
  |cons _ _=>cases h
 |w::ws,us,h=>by
  unfold j4 at h;cases us with
  |nil=>cases h
  |cons u us=>
   rw[w0q]at h;let⟨v,r,q⟩:=MA w h.1;let⟨xs,r',q'⟩:=QR ws h.2;exact⟨v::xs,.cons r r',λG=>⟨v,xs,rfl,q G,q' G⟩⟩
end
def q5m{x:eh}{u:e5}(hm:X.mg x=O u)(hc:cu X.K w u=true)(hg:fi (Gl X x) jJ)(hd:fi ((x==("__debug__":eh))=false) jK):DE Z X EE (.je x fZ) (dC w):=by
 let⟨v,r,q⟩:=MA w hc;exact PE.ll (GI hg hm r hd) λσ H Q ⟨G,e,iA,h⟩=>h G v H iA (.oQ _) (q G)
def X0(l : fh)(nT : tP e5)(n : dt)(b : fh)(l8 : tP e5)(n2 : dt)(T : ET)(hT : T = "list" \/ T = "tuple")(Wg : ¬(!nT.yw && oq.L.Ď (nT.eG + l8.eG)) = true)(k9 : nT.eG <= pg)(hZ : nT.eG + l8.eG <= pg + 1) :
  _s (oq.«list.extend» { fZ := [e5.ei l, e5.ei b] }) fun _ R s =>
     s.d_.f6 l = O { ie := e5.hJ "list", lg := _B.mx nT n } /\
      (∃ o, s.d_.f6 b = O o /\ o.ie = .hJ T /\ o.lg = _B.mx l8 n2) /\
       R (Except.ok (Flow.yr e5.none)) { s with d_ := s.d_.YJ l (nU.Yx λx => x ++ l8) } := by
 refine _s._K λg_ w A R s h => ?_
 let⟨hl, ⟨o, hb, hc, hd⟩, h⟩:= h;let⟨ie, qZ, lg, zx⟩:= o;simp only at hc hd;subst hc hd;refine i6 (i6 (zei rfl (oo (oo ?_))));refine i6 (i6 (AutoSeq1.ñ hb (oo (zei ?_ ?_))))
 .rcases hT with rfl | rfl <;> simp
 refine i6 (i6 (i6 (wpAny_load' hb (oo (oo ?_)))));refine i6 (i6 (i6 (wpAny_load' hl (oo (oo ?_)))));refine wpAny_ite_false (by simpa using Wg) ?_;exact i6 (Ĩ hl rfl (oo ⟨_, rfl, h⟩) k9 (by rw [tP.size_append]; exact hZ))
def D2(K:Fg):V->L V->Hp->VK->Prop:=λx vs H Q=>∃l b xs zs,x=.ei l/\vs=[.ei b]/\H l=O (.fy xs)/\(cG K H b zs\/c6 K H b zs)/\xs.J+zs.J<=pg/\Q .aH (l5 H l (.fy (xs++zs)))
def T_:BN X "list.extend" (D2 X.K):=by
 intro eS s σ H x vs v us Q I rx rv h;let⟨l,b,xs,zs,rfl,rfl,hH,hB,hz,q⟩:=h;cases rx;let⟨u,rfl,ru⟩:=rv.WS;cases ru;let⟨z,aC,n,r,hl,e⟩:=I.zC hH
 have vR:∀(T:ET)(fg:L e5)(n2:dt)(o:nU),T="list"\/T="tuple"->oK zs fg->s.d_.f6 b=O o->o.ie=.hJ T->o.lg=.mx fg.ky n2->kX (mG X.g_ X.w) X.A (zN (.rn "list.extend") [.ei l,.ei b]) (EP X eS σ Q) X.xe s:=λT fg n2 o hT r2 e2 hc hd=>by
  have vG:=r2.J;have hsz:aC.ky.eG+fg.ky.eG<=pg:=by rw[w0i,w0i];omega
  have Ct:¬(!aC.ky.yw&&oq.L.Ď (aC.ky.eG+fg.ky.eG))=true:=by
   rw[zdO hsz,w6d];exact w1w
  refine _b F.zdz ⟨_,e,rfl⟩ F.entry_list_extend (F.args_list_extend_2 _ _)
   (X0 l aC.ky n b fg.ky n2 T hT Ct (by rw[w0i];omega) (by omega)) ⟨e,⟨o,e2,hc,hd⟩,?_⟩
  refine⟨.aH,_,I.zy (its':=aC++fg) hH e (by simp) (r.N' r2) ?_,rfl,q⟩;rw[w0g];omega
 rcases hB with hB|hB
 .let⟨fg,r2,pl,_⟩:=I.wD hB;let⟨o,e2,hc,n2,hd⟩:=pl.yM;exact vR "list" fg n2 o (.h8 rfl) r2 e2 hc hd
 .let⟨fg,r2,⟨o,e2,hc,n2,hd⟩,_⟩:=I.zb hB;exact vR "tuple" fg n2 o (.j' rfl) r2 e2 hc hd
def ox(i:dt)(d:gF (L W)):L S->SR:=λe=>match e[i]? with
 |O (.gD _ _)=>(d e).cM λws e1=>match ws,e1[i]? with
  |[w],O (.gD b xs)=>match gc w with
   |O ys=>if xs.J+ys.J<=16777216 then .nx (e1.my i (.gD b (xs++ys)))else .no
   |none=>.no
  |_,_=>.no
 |_=>.no
section
variable{e:l_}{p:qY}{x:eh}
def Q0f(i:dt)(ha:DA Z X EE (e::es) dA)(hN:fi (X.N[i]?=O x) jJ)(hv:fi (jy X.el.fj x) jM)(hd:fi ((x==("__debug__":eh))=false) jK)(dR:fi ((x==("__classdict__":eh))=false) jK)
  (cC:fi (Z_ (.je x p) "extend" X.el (eval (.je x p) X.el)=eval (.je x p) X.el) jJ)
  (fX:fi (((r8 aW (lq (e::es) X.el)).oP (λx=>!x.1)&&(_D aW (_G [] X.el)).oP (λx=>x.1.sG)&&decide ((e::es).J+([]:L Yr).J+(if([]:L Yr).yw then 0 else 1)<30))=true) jJ)
  (cD:fi ((zp._g==aW.y')=true) jJ)(hs:fi (lq (e::es) X.el=(false,eval e X.el)::lq es X.el) jJ)(b7:fi ((r8 aW (lq es X.el)).pX (·.1)=false) jJ)
  (qX:fi (Yh (.pY (.Zn (.je x p) "extend" zp) (e::es) [] aW) none fZ.y' X.el=pR false) jJ):
  DS Z X EE (.l_ (.pY (.Zn (.je x p) "extend" zp) (e::es) [] aW) fZ) (ox i dA):=by
 refine PS.ll (DH (Hl kd.F.Ŝ kd.F.zdz kd.F.type_list_extend T_ (pv i hN hv hd dR) ha cC fX cD hs b7) qX) ?_;rintro D σ H ⟨G,e,iA,h⟩;unfold ox at h;split at h
 .rename_i b0 G8 tD;let⟨a,xs,h1,h2,h3,h4,h5⟩:=iA.gD tD;refine⟨.ei a,h1,.h8 ⟨rfl,xs,cG.of h2⟩,G,e,iA,(jG h).pQ (λws e1 h G1 vs H1 r1 s1 p1=>?_) λ_ _ h=>h⟩
  split at h
  .rename_i w b ys Co;let⟨a',zs,g1,g2,g3,g4,g5⟩:=r1.gD Co;rw[h1]at g1;cases g1;let⟨y,r,rfl,py,pr⟩:=p1;cases(show r=[]from pr);split at h
   .rename_i us hu;split at h
    .rename_i hl
     have YF:∀c cs,y=.ei c->(cG X.K G1 c cs\/c6 X.K G1 c cs)->aq X.K G1 us cs->D2 X.K (.ei a) [y] H1 (λv H'=>D.nx σ H'):=λc cs hy hq hr=>by
      subst hy;refine⟨a,c,zs,cs,rfl,rfl,g2,?_,by rw[g5.J,hr.J,vN];exact hl,?_⟩
      .rcases hq with q|q
       .exact .h8 (r1.mI.mx q)
       .exact .j' (r1.mI.ff q)
      .exact h G1 σ _ (r1.mut Co h1 (g5.N' hr)) s1
     unfold gc at hu;split at hu
     .cases hu;let⟨c,cs,hy,q,hr⟩:=py;exact YF c cs hy (.j' q) hr
     .cases hu;let⟨c,cs,hy,q,hr⟩:=py;exact YF c cs hy (.h8 q) hr
     .cases hu
    .exact h.ke
   .exact h.ke
  .exact h.ke
 .exact h.ke
end
def oy(i:dt)(dv dk:gF W):L S->SR:=λe=>(dv e).cM λw e1=>match e1[i]? with
 |O (.gD _ _)=>(dk e1).cM λk e2=>match k,e2[i]? with
  |.d0 k,O (.gD b ws)=>match oJ ws.J k with
   |O j=>.nx (e2.my i (.gD b (ws.my j w)))
   |none=>.no
  |_,_=>.no
 |_=>.no
section
variable{e k:l_}{d dk:gF W}{p jf:qY}{x:eh}
def Q0g(i:dt)(he:DE Z X EE e d)(hk:DE Z X EE k dk)(hN:fi (X.N[i]?=O x) jJ)(hv:fi (jy X.el.fj x) jM)(hd:fi ((x==("__debug__":eh))=false) jK)(dR:fi ((x==("__classdict__":eh))=false) jK)
  (ha:∀v,ZD (.Hz (.je x p) k jf) X.el v=(do
   let ov <- Ξ [v] (eval (.je x p) X.el)
   let iv <- Ξ [v,ov] (eval k X.el)
   ϸ jf
   Ξ [v,ov,iv] (Ė ov iv v)
   release [v,ov,iv] []):=by intro _;rfl)
  (hs:fi (zdK [.Hz (.je x p) k jf] e fZ.y' X.el=pR false) jJ)(hw:fi (zdJ [.Hz (.je x p) k jf] e X.el=pR none) jJ)
  (h1:fi ((Ys [.Hz (.je x p) k jf] X.el).ej (·.2)=[ZD (.Hz (.je x p) k jf) X.el]) jJ):
  DS Z X EE (.Yz [.Hz (.je x p) k jf] e fZ) (oy i d dk):=by
 refine PS.ll (z6x he (z6w (pv i hN hv hd dR) hk y53 ha) hs hw h1) ?_;rintro D σ H ⟨G,e,iA,h⟩;refine⟨G,e,iA,(jG h).pQ (λw e1 h G1 v1 H1 r1 s1 p1=>?_) λ_ _ h=>h⟩
 split at h
 .rename_i b0 G8 tD;let⟨a,xs,q1,q2,q3,q4,q5⟩:=r1.gD tD;refine⟨.ei a,q1,G1,e1,r1,(jG (σ:=σ) h).pQ (λkw e2 h G2 v2 H2 r2 s2 p2=>?_) λ_ _ h G' H' r s=>h G' H' r (s1.iD s)⟩
  .split at h
   .rename_i kk b ws mX;let⟨a',zs,g1,g2,g3,g4,g5⟩:=r2.gD mX;rw[q1]at g1;cases g1;cases p2;split at h
    .rename_i j hj;refine⟨a,zs,_,j,rfl,rfl,g2,by rw[g5.J];exact hj,?_⟩;exact h G2 σ _ (r2.mut mX q1 (g5.my j (nQ.ll s2 w p1))) (s1.iD s2)
    .exact h.ke
   .exact h.ke
 .exact h.ke
end
def WI:W->W->fG W
 |.str i,.str j=>O (.bl (decide (i.rq.n9<j.rq.n9)))
 |_,_=>none
def A5:W->W->fG W
 |.str i,.str j=>O (.bl (!decide (j.rq.n9<i.rq.n9)))
 |_,_=>none
def O5(f:eh->eh->fJ):R2:=λx y H Q=>∃i j,x=.str i/\y=.str j/\Q (.bl (f i j)) H
def Ua:fM X (YO .LtE) (O5 λi j=>!decide (j.rq.n9<i.rq.n9)):=by
 intro eS s σ H x y v u Q I rx ry h;let⟨i,j,rfl,rfl,q⟩:=h;let⟨t,rfl⟩:=rx;let⟨t',rfl⟩:=ry;exact kd.P.le_str (Sy I q rfl)
def Ub:iq K (O5 λi j=>!decide (j.rq.n9<i.rq.n9)) A5:=by
 intro G H x y wx wy w Q s px py hf h;unfold A5 at hf;split at hf
 .cases hf;cases px;cases py;exact⟨_,_,rfl,rfl,h G _ H (.oQ s) rfl⟩
 .cases hf
theorem Q0j(ha:DE Z X EE a da)(hb:DE Z X EE b db):DE Z X EE (.Vq a [.LtE] [b] fZ) (ag A5 da db):=Aj Ua Ub ha hb (dJ _)
def ES(K:Fg)(r:V->L V->Hp->VK->Prop)(f:W->L W->fG W):Prop:=∀(G H:Hp)(x:V)(xs:L V)(wx:W)(ws:L W)(w:W)(Q:VK),au G H->nQ K G wx x->aq K G ws xs->f wx ws=O w->(∀G' v H',bc G H G' H'->nQ K G' w v->Q v H')->r x xs H Q
def lI(T:ET):W->fJ
 |.str _=>T=="str"
 |.fy _=>T=="list"
 |_=>false
def dQ(T:ET)(f:W->L W->fG W)(d:gF W)(dA:gF (L W)):gF W:=λe=>(d e).nR λx e1=>if lI T x=true then(dA e1).nR λws e2=>bS (f x ws) e2 else .no
section
variable{o e:l_}{d:gF W}{p:qY}{x:eh}
def MB{T id:ET}{name:eh}{r:V->L V->Hp->VK->Prop}{f:W->L W->fG W}(pa:ĭ T)(r5:Ð T name id)(Cy:í (.rn id)=pR (.hJ "method_descriptor"))(hm:wR X id r)(hf:ES X.K r f)(ho:DE Z X EE o d)(ha:DA Z X EE (e::es) dA)
  (cC:fi (Z_ o name X.el (eval o X.el)=eval o X.el) jJ)
  (fX:fi (((r8 aW (lq (e::es) X.el)).oP (λx=>!x.1)&&(_D aW (_G [] X.el)).oP (λx=>x.1.sG)&&decide ((e::es).J+([]:L Yr).J+(if([]:L Yr).yw then 0 else 1)<30))=true) jJ)
  (cD:fi ((zp._g==aW.y')=true) jJ)(hs:fi (lq (e::es) X.el=(false,eval e X.el)::lq es X.el) jJ)(b7:fi ((r8 aW (lq es X.el)).pX (·.1)=false) jJ):
  DE Z X EE (.pY (.Zn o name zp) (e::es) [] aW) (dQ T f d dA):=by
 refine PE.ll (Hl pa r5 Cy hm ho ha cC fX cD hs b7) ?_;rintro σ H Q ⟨G,e,iA,h⟩;simp only[dQ,R.ak]at h;refine⟨G,e,iA,h.pQ (λwx e1 h G1 v1 H1 r1 s1 p1=>?_) λ_ _ h=>h⟩
 split at h
 .rename_i hk;refine⟨?_,G1,e1,r1,(R.ak.mp h).pQ (λws e2 h G2 vs H2 r2 s2 p2=>?_) λ_ _ h=>XH.iD s1 h⟩
  .cases wx with
   |str z=>cases p1;exact(by simpa [lI]using hk:T="str")
   |fy ws=>
    let⟨a,xs,rfl,q,_⟩:=p1;exact .h8 ⟨by simpa [lI]using hk,xs,r1.mI.mx q⟩
   |_=>cases hk
  .let⟨w,hw,h⟩:=bq.mp h;exact hf G2 H2 v1 vs wx ws w Q r2.mI (nQ.ll s2 wx p1) p2 hw λG' v H' g p=>h G' v H' (r2.wq g) ((s1.iD s2).iD g.gg) p
 .exact h.ke
end
def kN:L W->fG (L eh)
 |[]=>O []
 |.str x::r=>(kN r).ej (x::·)
 |_=>none
def km(ZC:eh)(ys:L eh):fJ:=dt.ble ((ys.ej λx=>x.J)._l+ys.J*ZC.J) 16777216
def d7:W->L W->fG W
 |.str ZC,[w]=>match gc w with
  |O ws=>match kN ws with
   |O ys=>if km ZC ys=true then O (.str (wF.Ο ZC ys))else none
   |none=>none
  |none=>none
 |_,_=>none
def ĕ(K:Fg):V->L V->Hp->VK->Prop:=λx vs H Q=>∃ZC b zs ys,x=.str ZC/\vs=[.ei b]/\(cG K H b zs\/c6 K H b zs)/\zs=ys.ej V.str/\km ZC ys=true/\Q (.str (wF.Ο ZC ys)) H
theorem Mf:∀{ys:L eh}{aC:L e5},oK (ys.ej V.str) aC->uD.ri.StrsAre aC ys
 |[],aC,h=>by cases h;exact .m8
 |y::ys,aC,h=>by
  cases h with
  |m6 r t=>
   let⟨k,rfl⟩:=r;exact .m6 y k (Mf t)
def z3a:wR X "str.join" (ĕ X.K):=by
 intro eS s σ H x vs v us Q I rx rv h;let⟨ZC,b,zs,ys,rfl,rfl,hB,rfl,hz,q⟩:=h;let⟨t,rfl⟩:=rx;let⟨u,rfl,ru⟩:=rv.WS;cases ru;have Of:=w4j hz;have vR:∀(t':Z8)(k:dt),EP X eS σ Q (e5.str (wF.Ο ZC ys) t') {s with nW:=k}:=λt' k=>⟨.str _,H,I.wY k,⟨t',rfl⟩,q⟩
 rcases hB with hB|hB
 .let⟨aC,r,pl,_⟩:=I.wD hB;exact uD.ri.join_list pl.yM (by simpa using Mf r) Of vR
 .let⟨aC,r,pl,_⟩:=I.zb hB;exact uD.ri.join_tuple pl (by simpa using Mf r) Of vR
def y64:∀{ys:L eh}{xs:L V},kN ws=O ys->aq K G ws xs->xs=ys.ej V.str:=by
 induction ws with
 |m8=>intro ys xs h r;cases h;exact r
 |m6 w ws ih=>
  intro ys xs h r;cases w with
  |str x=>
   let⟨zs,h1,rfl⟩:=w0p.mp (show(kN ws).ej (x::·)=O ys from h);let⟨v,t,rfl,p,q⟩:=r;cases p;exact Yc _ (ih h1 q)
  |_=>cases h
def z3b:ES K (ĕ K) d7:=by
 intro G H x xs wx ws w Q s px pr hf h;unfold d7 at hf;split at hf
 .rename_i ZC w0;let⟨y,r,rfl,py,pr⟩:=pr;cases(show r=[]from pr);cases px;split at hf
  .rename_i us hu;split at hf
   .rename_i ys hy;split at hf
    .rename_i ho;cases hf
     have YF:∀c cs,y=.ei c->(cG K G c cs\/c6 K G c cs)->aq K G us cs->ĕ K (.str ZC) [y] H Q:=λc cs hc hq hr=>by
      subst hc;refine⟨ZC,c,cs,ys,rfl,rfl,?_,y64 hy hr,ho,h G _ H (.oQ s) rfl⟩;rcases hq with q|q
      .exact .h8 (s.mx q)
      .exact .j' (s.ff q)
     unfold gc at hu;split at hu
     .cases hu;let⟨c,cs,hc,q,hr⟩:=py;exact YF c cs hc (.j' q) hr
     .cases hu;let⟨c,cs,hc,q,hr⟩:=py;exact YF c cs hc (.h8 q) hr
     .cases hu
    .cases hf
   .cases hf
  .cases hf
 .cases hf
section
variable{o e:l_}{d:gF W}
theorem z3c(ho:DE Z X EE o d)(ha:DA Z X EE [e] dA)
  (cC:fi (Z_ o "join" X.el (eval o X.el)=eval o X.el) jJ)
  (fX:fi (((r8 aW (lq [e] X.el)).oP (λx=>!x.1)&&(_D aW (_G [] X.el)).oP (λx=>x.1.sG)&&decide ([e].J+([]:L Yr).J+(if([]:L Yr).yw then 0 else 1)<30))=true) jJ)
  (cD:fi ((zp._g==aW.y')=true) jJ)(hs:fi (lq [e] X.el=(false,eval e X.el)::lq [] X.el) jJ)(b7:fi ((r8 aW (lq [] X.el)).pX (·.1)=false) jJ):
  DE Z X EE (.pY (.Zn o "join" zp) [e] [] aW) (dQ "str" d7 d dA):=
 MB kd.F.ŝ kd.F.slot_str_join kd.F.type_str_join z3a z3b ho ha cC fX cD hs b7
end
def SR.cV(r:SR)(k:L S->SR):SR:=match r with
 |.nx e'=>k e'
 |.ct e'=>k e'
 |.bk e'=>.nx e'
 |.rt s e'=>.rt s e'
 |.ex c e'=>.ex c e'
 |.no=>.no
def kh(x:eh):L eh->fG dt
 |[]=>none
 |y::ys=>if y=x then O 0 else(kh x ys).ej (·+1)
structure qE(P:qM)(w:pT)(K:Fg)(d:fh)(tb:L (eh×eW)):Prop where
 YV:∀h,K.In h->uD.ri.StrTab P w h d (kd.W.kdpD tb)
 CZ:∃o,K.fI d=O o/\o.ie=.hJ "dict" /\ o.qZ=none
def nJ(tb:L (eh×eW)):W->fG W
 |.str s=>if kd.W.kdpHas tb s=true then O (.d0 (kd.W.kdpLook tb s 0))else none
 |_=>none
section
variable{e k:l_}{dk:gF W}{p:qY}{x:eh}{d:fh}{tb:L (eh×eW)}
def LK(d:fh)(tb:L (eh×eW)):R2:=λx y H Q=>∃s,x=.ei d/\y=.str s/\kd.W.kdpHas tb s=true/\Q (.d0 (kd.W.kdpLook tb s 0)) H
def Uc(T:qE X.g_ X.w X.K d tb):rN X (LK d tb):=by
 intro YW Ye eS s σ H x y v u Q I rx ry h hs;let⟨z,rfl,rfl,hh,q⟩:=h;cases rx;let⟨t,rfl⟩:=ry;let⟨o,h1,h2,h3⟩:=T.CZ;exact uD.ri.ģ ⟨o,I.ko d o h1,h2⟩ F.Ŧ.fI (kd.W.kdp_getItem (T.YV s.d_ I.ko) hh λt'=>⟨.d0 _,H,I.wY _,⟨t',rfl⟩,q⟩) hs
def y65(T:qE X.g_ X.w X.K d tb)(hm:X.mg x=O (.ei d))(hk:DE Z X EE k dk)(hg:fi (Gl X x) jJ)(hd:fi ((x==("__debug__":eh))=false) jK)(hs:gn k:=by intro _ _;rfl):
  DE Z X EE (.Hz (.je x p) k fZ) (jQ (nJ tb) dk):=by
 refine PE.ll (Hk (Uc T) (GI (v:=.ei d) hg hm rfl hd) hk hs) ?_;rintro σ H Q ⟨G,e,iA,h⟩;simp only[jQ,R.ak,bq]at h;refine⟨G,e,iA,h.pQ (λw e1 h G1 v1 H1 r1 s1 p1=>?_) λ_ _ h=>h⟩
 let⟨w',hw,h⟩:=h;unfold nJ at hw;split at hw
 .split at hw
  .rename_i hh;cases hw;cases p1;exact⟨_,rfl,rfl,hh,h G1 _ H1 r1 s1 rfl⟩
  .cases hw
 .cases hw
end
def zU(i:dt)(e:L S)(b:fG dt)(ws:L W)(w:W):fG dt->SR
 |O j=>.nx (e.my i (.gD b (ws.my j w)))
 |none=>.no
def zT(i:dt)(e:L S)(w:W):W->fG S->SR
 |.d0 k,O (.gD b ws)=>zU i e b ws w (oJ ws.J k)
 |_,_=>.no
def De(i:dt)(dk:gF W)(w:W)(e:L S):fG S->SR
 |O (.gD _ _)=>(dk e).cM λk e2=>zT i e2 w k e2[i]?
 |_=>.no
def Q0l{dv:gF W}:oy i dv dk e=(dv e).cM λw e1=>De i dk w e1 e1[i]?:=by
 unfold oy;congr 1
theorem y66:De i dk w e (O (.gD b ws))=(dk e).cM λk e2=>zT i e2 w k e2[i]?:=rfl
theorem y67:zT i e w (.d0 k) (O (.gD b ws))=zU i e b ws w (oJ ws.J k):=rfl
theorem y2t:zU i e b ws w (O j)=.nx (e.my i (.gD b (ws.my j w))):=rfl
def tS(e:L S):FR->R W
 |.ok (.fr w)=>if bu w=true then .ok w e else .no
 |_=>.no
def tR(F:L W->FR)(us:L W)(e:L S):fG S->R W
 |O (.gD _ ws)=>tS e (F (.fy ws::us))
 |_=>.no
def tQ(F:L W->FR)(i:dt)(dA:gF (L W))(e:L S):fG S->R W
 |O (.gD _ _)=>(dA e).nR λus e1=>tR F us e1 e1[i]?
 |_=>.no
def z3d:w_ F i dA e=tQ F i dA e e[i]?:=by
 unfold w_ tQ;cases e[i]? with
 |none=>rfl
 |O s=>cases s with
  |gD b ws=>
   dsimp only;congr 1
  |_=>rfl
theorem y2u:tQ F i dA e (O (.gD b ws))=(dA e).nR λus e1=>tR F us e1 e1[i]?:=rfl
theorem y2v:tR F us e (O (.gD b ws))=tS e (F (.fy ws::us)):=rfl
theorem y68:tS e (.ok (.fr w))=if bu w=true then .ok w e else .no:=rfl
def yD(i:dt)(e:L S)(b:fG dt)(xs:L W):fG (L W)->SR
 |O ys=>if xs.J+ys.J<=16777216 then .nx (e.my i (.gD b (xs++ys)))else .no
 |none=>.no
def yC(i:dt)(e:L S):L W->fG S->SR
 |[w],O (.gD b xs)=>yD i e b xs (gc w)
 |_,_=>.no
def yB(i:dt)(d:gF (L W))(e:L S):fG S->SR
 |O (.gD _ _)=>(d e).cM λws e1=>yC i e1 ws e1[i]?
 |_=>.no
def Q0m:ox i d e=yB i d e e[i]?:=by
 unfold ox yB;cases e[i]? with
 |none=>rfl
 |O s=>cases s with
  |gD b ws=>
   dsimp only;congr 1
  |_=>rfl
theorem y69:yB i d e (O (.gD b xs))=(d e).cM λws e1=>yC i e1 ws e1[i]?:=rfl
theorem y7a:yC i e [w] (O (.gD b xs))=yD i e b xs (gc w):=rfl
theorem y2w:yD i e b xs (O ys)=if xs.J+ys.J<=16777216 then .nx (e.my i (.gD b (xs++ys)))else .no:=rfl
theorem z3e:dQ T f d dA e=(d e).nR λx e1=>if lI T x=true then(dA e1).nR λws e2=>bS (f x ws) e2 else .no:=rfl
theorem Q0n:lI "str" (.str z)=true:=rfl
theorem Q0o:lI "list" (.fy ws)=true:=rfl
theorem Q0p{i:eh}:WI (.str i) (.str j)=O (.bl (decide (i.rq.n9<j.rq.n9))):=rfl
theorem le_str{i:eh}:A5 (.str i) (.str j)=O (.bl (!decide (j.rq.n9<i.rq.n9))):=rfl
def eg(i j:dt)(b:L S->SR):L (W×W)->L S->SR
 |[],e=>.nx e
 |p::ps,e=>(b ((e.my i (.fr p.1)).my j (.fr p.2))).cV (eg i j b ps)
def gL(i j:dt)(d:gF (L (W×W)))(b:L S->SR):L S->SR:=λe=>(d e).cM λps e1=>eg i j b ps e1
def fw(c:gF fJ)(d:gF W)(pe:L S):L (W×W)->fG (L W)
 |[]=>O []
 |p::ps=>match c (.fr p.1::.fr p.2::pe)with
  |.ok true e1=>match d e1 with
   |.ok y _=>(fw c d pe ps).ej (y::·)
   |_=>none
  |.ok false _=>fw c d pe ps
  |_=>none
def j3(js:L dt)(c:gF fJ)(d:gF W)(ps:L (W×W))(e1:L S):R (L W):=
 if ps.J<=16777216 then(match fw c d (iP js (bt js e1)) ps with
  |O oN=>.ok oN (bt js e1)
  |none=>.no)else .no
def fS(js:L dt)(di:gF (L (W×W)))(c:gF fJ)(d:gF W):gF (L W):=λe=>(di e).nR λps e1=>j3 js c d ps e1
structure lx(K:Fg)(G1:Hp)(dr:It)(ps:L (W×W)):Prop where
 go:∀(i:dt)(G H:Hp),au G1 G->au G H->i<ps.J->dr.go i H
 lr:∀(i:dt)(G H:Hp)(x:V)(H':Hp),au G1 G->au G H->dr.lr i H x H'->∀u v,ps[i]?=O (u,v) ->
  bc G H G H'/\∀(m n:dt)(σ:St)(Q:St->Hp->Prop),(∀y z,nQ K G u y->nQ K G v z->Q ((σ.my m (O y)).my n (O z)) H')->qR K 2 (fW (bP m) (fW (bP n) qQ)) x σ H' Q
 stop:∀(i:dt)(G H:Hp),au G1 G->au G H->ps.J<=i->dr.stop i H
def xt(K:Fg)(Z:Zt)(EE:L2.St->XK)(d:gF (L (W×W))):TI:=λσ H R=>vh K Z σ H λG e=>(d e).yt (λps e1=>∀G1 H1 dr,m_ K Z G1 σ H1 e1->au G G1->lx K G1 dr ps->R dr H1) (XH K Z EE σ G)
def DI(Z:Zt)(X:Cx)(EE:L2.St->XK)(tg rW:l_)(d:gF (L (W×W))):Prop:=PI X tg rW (xt X.K Z EE d)
theorem PI.ll(h:PI X tg rW wi)(m:∀σ H R,XQ σ H R->wi σ H R):PI X tg rW XQ:=λeS s σ H R I q=>h eS s σ H R I (m σ H R q)
def y2x(r:m_ K Z G' σ H e)(s:au G1 G')(pu:nQ K G' p.1 x)(pv:nQ K G' p.2 y)
  (h:bx K Z EE D G1 (eg i j s1 (p::ps) e))(hP:∀fL gm jY uP,m_ K Z fL gm jY uP->au G1 fL->bx K Z EE D G1 (eg i j s1 ps uP)->Pv gm jY):
  eE K Z EE s1 {D with nx:=Pv,ct:=Pv,bk:=D.nx} ((σ.my i (O x)).my j (O y)) H:=by
 refine⟨G',_,(r.my pu).my pv,?_⟩;unfold eg at h;cases q:s1 ((e.my i (.fr p.1)).my j (.fr p.2))with
 |nx e'=>rw[q]at h;exact λfL gm jY o9 ja=>hP fL gm jY e' o9 (s.iD ja) h
 |ct e'=>rw[q]at h;exact λfL gm jY o9 ja=>hP fL gm jY e' o9 (s.iD ja) h
 |bk e'=>rw[q]at h;exact λfL gm jY o9 ja=>h fL gm jY o9 (s.iD ja)
 |rt t e'=>rw[q]at h;exact λfL gm v jY o9 ja p=>h fL gm v jY o9 (s.iD ja) p
 |ex c e'=>rw[q]at h;exact λfL gm jY o9 ja=>h fL gm jY o9 (s.iD ja)
 |no=>rw[q]at h;exact h
def Pw{ps:L (W×W)}{k:dt}{p:W×W}(h:ps[k]?=O p):ps.m9 k=p::ps.m9 (k+1):=by
 let⟨h1,h2⟩:=w0c.mp h;rw[w2g h1,h2]
def m_.zez(r:m_ K Z G σ H e)(js:L dt){u:W}{y x:V}(q:nQ K G u y)(p:nQ K G w x):m_ K ⟨H,G,[]⟩ G (O y::O x::pj js σ) H (.fr u::.fr w::iP js e):=by
 have b:=r.block js p
 have kQ:∀(i:dt)(s:S),(S.fr w::iP js e)[i]?=O s->s=.no\/∃u,s=.fr u:=λi s h=>by
  cases i with
  |zc=>cases h;exact .j' ⟨w,rfl⟩
  |zD k=>
   rw[w0v]at h;unfold iP at h;rw[w1c]at h;let⟨j,h1,h2⟩:=w0p.mp h;unfold rD at h2;split at h2
   .subst h2;exact .j' ⟨_,rfl⟩
   .subst h2;exact .h8 rfl
 refine⟨b.mI,λi s h=>?_,?_,λi j b1 b2 w1 w2 a h1 h2 _ _=>?_,b.Ww,b.mD,b.gen⟩
 .cases i with
  |zc=>cases h;exact⟨y,rfl,q⟩
  |zD i=>
   rw[w0v]at h;have z:=b.r5 i s h;rcases kQ i s h with rfl|⟨u',rfl⟩
   .trivial
   .let⟨v,z1,z2⟩:=b.fr h;exact⟨v,by rw[w0v,z1];rfl,z2⟩
 .have:=b.oO;simp only[w0r]at this |-
  omega
 .cases i with
  |zc=>cases h1
  |zD i=>
   rw[w0v]at h1;rcases kQ i _ h1 with z|⟨u',z⟩<;>cases z
def y7b{dr:It}{ps:L (W×W)}{oN:L W}{d:gF W}{Q:VK}{G0 G1 H1:Hp}{e1:L S}(W0:lx K G1 dr ps)(r1:m_ K Z G1 σ H1 e1)(s1:au G0 G1)(hl:ps.J<=16777216)
  (hz:∀p,H1 p=none->p∉Z.io)(hc:fw c d (iP js e1) ps=O oN)
  (h:∀G' a xs H',m_ K Z G' σ H' e1->au G0 G'->H' a=O (.fy xs)->G' a=none->Z.H a=none->kT σ e1 a->aq K G' oN xs->Q (.ei a) H'):
  ∀D,H1 D=none->∃W:dt->dt->Hp->Prop,(∃m,W 0 m (l5 H1 D (.fy [])))/\∀i m H2,W i m H2 ->
   (dr.stop i H2/\Q (.ei D) H2)\/(dr.go i H2/\∀x H3,dr.lr i H2 x H3->qR K 2 (fW (bP 0) (fW (bP 1) qQ)) x (L.oS 2 none++pj js σ) H3 λuK H4=>Kp (L.oS 2 none++pj js σ) uK/\cT K c uK H4 λb H5=>
    if b=true then cE K d uK H5 λy H6=>∃ys,H6 D=O (.fy ys)/\ys.J<pg/\∃m',m'<m/\W (i+1) m' (l5 H6 D (.fy (ys++[y])))else ∃m',m'<m/\W (i+1) m' H5):=by
 intro D hD
 refine⟨λi m H2=>m=ps.J-i/\i<=ps.J/\∃G2 ys done oM,m_ K Z G2 σ H2 e1/\au G1 G2/\H2 D=O (.fy ys)/\G2 D=none/\aq K G2 done ys/\done.J<=i/\fw c d (iP js e1) (ps.m9 i)=O oM/\done++oM=oN,
  ⟨ps.J,by omega,w1k _,G1,[],[],oN,r1.wq (bc.pM r1.mI hD _),.oQ _,cI,r1.mI.nL hD,rfl,w0d _,hc,rfl⟩,?_⟩
 rintro i m H2 ⟨rfl,hi,G2,ys,done,oM,r2,s2,Yg,oF,uw,VS,eC,ho⟩;have du:kT σ e1 D:=DC r1 hD;have CC:Z.H D=none:=wa r1 hD
 by_cases cb:i<ps.J
 .refine .j' ⟨W0.go i G2 H2 s2 r2.mI cb,λx H3 hy=>?_⟩
  have hp:ps[i]?=O ((ps[i]).1,(ps[i]).2):=by rw[w0a cb]
  let⟨g3,IC⟩:=W0.lr i G2 H2 x H3 s2 r2.mI hy _ _ hp;have LD:=r2.wq g3;have E9:H3 D=O (.fy ys):=g3.hh _ _ Yg;rw[Pw hp]at eC;refine IC 0 1 _ _ λyv zv py pz=>⟨Kp.two,⟨H3,G2,[]⟩,G2,.fr (ps[i]).1::.fr (ps[i]).2::iP js e1,LD.zez js py pz,?_⟩
  unfold fw at eC;cases qc:c (.fr (ps[i]).1::.fr (ps[i]).2::iP js e1)with
  |no=>rw[qc]at eC;cases eC
  |ex _ _=>rw[qc]at eC;cases eC
  |ok k e2=>
   rw[qc]at eC;intro G3 H5 r3 s3;have g3:=r3.hX s3;cases k with
   |false=>
    exact⟨ps.J-(i+1),by omega,rfl,cb,G3,ys,done,oM,LD.wq g3,s2.iD s3,g3.hh _ _ E9,by rw[g3.rZ D (by rw[E9];simp)];exact oF,aq.ll s3 _ uw,by omega,eC,ho⟩
   |true=>
    refine⟨⟨H3,G2,[]⟩,G3,e2,r3,?_⟩;dsimp only at eC;cases qd:d e2 with
    |no=>rw[qd]at eC;cases eC
    |ex _ _=>rw[qd]at eC;cases eC
    |ok y e3=>
     rw[qd]at eC;intro G4 v H6 r4 s4 p4;have g4:=r4.hX (s3.iD s4);let⟨uv,hr,rfl⟩:=w0p.mp eC;have Cm:H6 D=O (.fy ys):=g4.hh _ _ E9;have Cp:G4 D=none:=by rw[g4.rZ D (by rw[E9];simp)];exact oF
     refine⟨ys,Cm,?_,ps.J-(i+1),by omega,rfl,cb,G4,ys++[v],done++[y],uv,(LD.wq g4).qk Cp CC (hz D hD) du Cm,s2.iD (s3.iD s4),cI,Cp,(aq.ll (s3.iD s4) _ uw).N' (.WS p4),by simp;omega,hr,by rw[w0k];exact ho⟩;rw[uw.J,vN];omega
 .have:i=ps.J:=by omega
  subst this;rw[w3w]at eC;cases eC;rw[w0s]at ho;subst ho;exact .h8 ⟨W0.stop _ G2 H2 s2 r2.mI (by omega),h G2 D ys H2 r2 (s1.iD s2) Yg oF CC du uw⟩
section
variable{vX rW e a:l_}{o3:L vv}{vr:L l_}{fj sc:vP}{pt p3:qY}{x y:eh}{Nf N:L eh}{di:gF (L (W×W))}{d:gF W}{s1:L S->SR}
def z3f(i j:dt)(hN:X.N.p9)(hp:_V (mG X.g_ X.w) X.A X.el X.xe)(hc:X.wK=true)(hl:DI Z X EE (.JJ [.je x p1,.je y p2] kt p3) e di)(hb:kO Z X EE o3 s1)
  (hi:fi (X.N[i]?=O x) jJ)(hx:fi (WH X.el.fj x) jN)(hf:fi (X.fn x=true\/X.el.fj.lH.fI x=O .local) jL)
  (hj:fi (X.N[j]?=O y) jJ)(hy:fi (WH X.el.fj y) jN)(Iy:fi (X.fn y=true\/X.el.fj.lH.fI y=O .local) jL)
  (hn:fi ((Ys [.je x p1,.je y p2] X.el).J=2) jJ)(oI:fi ((Ys [.je x p1,.je y p2] X.el).Ň (·.1)=none) jJ)
  (g1:fi ((Ys [.je x p1,.je y p2] X.el).ej (·.2)=ZD (.je x p1) X.el::(Ys [.je y p2] X.el).ej (·.2)) jJ)(g2:fi ((Ys [.je y p2] X.el).ej (·.2)=ZD (.je y p2) X.el::(Ys [] X.el).ej (·.2)) jJ)
  (hs:∀x,YS e X.el x=pR x:=by intro _;rfl):
  DS Z X EE (.For (.JJ [.je x p1,.je y p2] kt p3) e o3 [] fZ) (gL i j di s1):=by
 refine PS.ll (DU hp hc hl (Sx hc (Gi (uj i hN hi hx hf) (Gi (uj j hN hj hy Iy) Rn g2) g1) hn oI) hb hs) ?_;rintro D σ H ⟨G,e,iA,h⟩;refine⟨G,e,iA,(jG h).pQ (λps e1 h G1 H1 dr r1 q1 W0=>?_) λ_ _ h=>h⟩
 have h:=bx.iD q1 h;refine⟨λk m aN H'=>m=ps.J-k/\k<=ps.J/\∃G' e',m_ X.K Z G' aN H' e'/\au G1 G'/\bx X.K Z EE D G1 (eg i j s1 (ps.m9 k) e'),⟨ps.J,by omega,w1k _,G1,e1,r1,.oQ _,h⟩,?_⟩
 rintro k m aN H' ⟨rfl,hk,G',e',r',s',h'⟩
 by_cases cb:k<ps.J
 .refine .j' ⟨W0.go k G' H' s' r'.mI cb,λgm jY=>∃G' e',m_ X.K Z G' gm jY e'/\au G1 G'/\bx X.K Z EE D G1 (eg i j s1 (ps.m9 (k+1)) e'),?_,λv H2 hy=>?_⟩
  .rintro gm jY ⟨fL,uP,o9,ja,pL⟩;exact⟨ps.J-(k+1),by omega,rfl,cb,fL,uP,o9,ja,pL⟩
  .have hp:ps[k]?=O ((ps[k]).1,(ps[k]).2):=by rw[w0a cb]
   let⟨g3,IC⟩:=W0.lr k G' H' v H2 s' r'.mI hy _ _ hp;rw[Pw hp]at h';exact IC i j aN _ λy z py pz=>y2x (p:=((ps[k]).1,(ps[k]).2)) (r'.wq g3) s' py pz h' λfL gm jY uP o9 ja pL=>⟨fL,uP,o9,ja,pL⟩
 .have:k=ps.J:=by omega
  subst this;rw[w3w]at h';exact .h8 ⟨W0.stop _ G' H' s' r'.mI (by omega),h' G' aN H' r' s'⟩
def zbE:∀σ H Q,nh K Z EE (fS js di c d) σ H Q->iL (xt K Z EE di) 2 js (qR K 2 (fW (bP 0) (fW (bP 1) qQ))) (cT K c) (cE K d) σ H Q:=by
 rintro σ H Q ⟨G,e,iA,h⟩;simp only[fS,R.ak]at h;refine⟨G,e,iA,h.pQ (λps e1 h G1 H1 dr r1 s1 W0=>?_) λ_ _ h=>h⟩
 unfold j3 at h;split at h
 .rename_i hl;split at h
  .rename_i oN ho;let⟨G2,s2,r2⟩:=r1.bt js;have W1:lx K G2 dr ps:=⟨λi G H a=>W0.go i G H (s2.iD a),λi G H x H' a=>W0.lr i G H x H' (s2.iD a),λi G H a=>W0.stop i G H (s2.iD a)⟩
   exact y7b W1 r2 (s1.iD s2) hl (l6 r2) ho h
  .exact h.ke
 .exact h.ke
def y7c(hc:X.wK=true)(hi:DI Z X EE (.JJ [.je x p1,.je y p2] kt p3) rW di)(ok:dE sc fj N Nf js=true)
  (ht:∀Z' cl C aB aI ex,uL Z' (X.cp ([x,y]++Nf) fj cl C aB aI ex) (λ_=>E0) vr c)(he:∀Z' cl C aB aI ex,DE Z' (X.cp ([x,y]++Nf) fj cl C aB aI ex) (λ_=>E0) vX d)
  (hg:∀cl C aB aI ex,PG (X.cp ([x,y]++Nf) fj cl C aB aI ex) (.JJ [.je x p1,.je y p2] kt p3) (qR X.K 2 (fW (bP 0) (fW (bP 1) qQ))))
  (hsc:fi (X.el.fj=sc) jJ)(hN:fi (X.N=N) jJ)(hs:∀x,YS rW X.el x=pR x:=by intro _;rfl):
  DF Z X EE (.Yj vX [⟨.JJ [.je x p1,.je y p2] kt p3,rW,vr,0⟩] fj fZ) (fS js di c d):=by
 exact PE.ll (Gj (Nl:=[x,y]) (tc:=cT X.K c) (te:=cE X.K d) hc hi ok hg (Bx ht) (By he) hsc hN hs) zbE
def cH:L W->fG (L (W×W))
 |[]=>O []
 |.ff [u,v]::ws=>(cH ws).ej ((u,v)::·)
 |_=>none
def jH(d:gF W):gF (L (W×W)):=λe=>(d e).nR λw e1=>match gc w with
 |O ws=>bS (cH ws) e1
 |none=>.no
theorem Qm:∀{ws:L W}{ps:L (W×W)},cH ws=O ps->ws.J=ps.J/\∀(i:dt) u v,ps[i]?=O (u,v)->ws[i]?=O (.ff [u,v])
 |[],ps,h=>by cases h;exact⟨rfl,λi u v z=>by simp at z⟩
 |w::ws,ps,h=>by
  unfold cH at h;split at h
  .rename_i z;cases z
  .rename_i u v ws' z;cases z;let⟨q,hq,rfl⟩:=w0p.mp h;let⟨h1,h2⟩:=Qm hq;refine⟨by simp[h1],λi u' v' z=>?_⟩
   cases i with
   |zc=>simp at z;simp[z.1,z.2]
   |zD i=>simp only[w0v]at z |-;exact h2 i _ _ z
  .cases h
def Qn(W0:_Z dr xs SQ)(rp:aq K G1 ws xs)(hp:cH ws=O ps)(vB:∀G' H',au G1 G'->au G' H'->SQ H'):lx K G1 dr ps:=by
 let⟨hl,hg⟩:=Qm hp;have hx:=rp.J;refine⟨λi G H a b h=>W0.go i H (vB G H a b) (by omega),λi G H x H' a b hy u v h=>?_,λi G H a b h=>W0.stop i H (vB G H a b) (by omega)⟩
 have cb:i<ps.J:=(w0c.mp h).1;let⟨rfl,xl⟩:=W0.lr i H x H' (vB G H a b) hy (by omega);refine⟨bc.oQ b,λm n σ Q hQ=>?_⟩
 let⟨w,hw,pw⟩:=rp.lZ xl;rw[hg i u v h]at hw;cases hw;have pw:=nQ.ll a _ pw;let⟨c,ys,rfl,hq,y1,q1,rfl,p1,y2,q2,rfl,p2,rfl⟩:=pw;exact⟨c,[y1,y2],rfl,b.ff hq,rfl,y1,[y2],rfl,y2,[],rfl,rfl,hQ y1 y2 p1 p2⟩
def y7d(hl:DE Z X EE l zb3):DI Z X EE tg l (jH zb3):=by
 refine PI.ll (Hb hl) ?_;rintro σ H RR ⟨G,e,iA,h⟩;simp only[jH,R.ak]at h;refine⟨G,e,iA,h.pQ (λw e1 h G1 v1 H1 r1 s1 p1=>?_) λ_ _ h=>h⟩
 split at h
 .rename_i ws hw;let⟨ps,hp,h⟩:=bq.mp h;cases w with
  |ff us=>
   cases (hw);let⟨a,xs,rfl,hq,rp⟩:=p1;exact⟨a,rfl,.j' ⟨⟨xs,r1.mI.ff hq⟩,h _ _ _ r1 s1 (Qn Ss rp hp λG' H' s s'=>au.ff s' (au.ff s hq))⟩⟩
  |fy us=>
   cases (hw);let⟨a,xs,rfl,hq,rp⟩:=p1;exact⟨a,rfl,.h8 ⟨⟨xs,r1.mI.mx hq⟩,h _ _ _ r1 s1 (Qn Sr rp hp λG' H' s s'=>au.mx s' (au.mx s hq))⟩⟩
  |_=>cases hw
 .exact h.ke
def bZ:dt->L W->L (W×W)
 |_,[]=>[]
 |k,w::ws=>(.d0 k,w)::bZ (k+1) ws
def pf(dA:gF (L W)):gF (L (W×W)):=λe=>(dA e).nR λws e1=>match ws with
 |[.fy us]=>.ok (bZ 0 us) e1
 |_=>.no
theorem Ln:∀(k:dt)(ws:L W),(bZ k ws).J=ws.J
 |_,[]=>rfl
 |k,w::ws=>by simp[bZ,Ln (k+1) ws]
theorem Lo:∀(k:dt)(ws:L W)(i:dt)(u v:W),(bZ k ws)[i]?=O (u,v)->u=.d0 ((k+i:dt):eW)/\ws[i]?=O v
 |_,[],i,u,v,h=>by simp[bZ]at h
 |k,w::ws,i,u,v,h=>by
  cases i with
  |zc=>
   have e:(W.d0 k,w)=(u,v):=fG.O.sE h;cases e;exact⟨rfl,rfl⟩
  |zD i=>
   have h:(bZ (k+1) ws)[i]?=O (u,v):=h;let⟨h1,h2⟩:=Lo (k+1) ws i u v h;exact⟨by rw[h1];congr 2;omega,h2⟩
def Hy(K:Fg)(a:fh):It:=
 ⟨λi H=>∃xs x,cG K H a xs/\xs[i]?=O x,λi H x H'=>∃b y,x=.ei b/\H b=none/\(∀xs,cG K H a xs->xs[i]?=O y)/\H'=l5 H b (.ff [.d0 i,y]),λi H=>∃xs,cG K H a xs/\xs.J<=i⟩
def Qo{h':fH}{t':dt}{fp:L fh}{b:fh}{o:HO}(I:g8 X eS σ H s)(k:∀b o,b∉fp->s.d_.f6 b=O o->h'.f6 b=O o)(hf:∀b∈fp,fO X eS H b)(hp:s.d_.e6.eG<=b)(rZ:bh X.g_ X.w (l5 H b o) h' b o):g8 X eS σ (l5 H b o) {s with d_:=h',nW:=t'}:=by
 have hn:H b=none:=I.aR.u3 hp;have ne:∀c u,H c=O u->c≠b:=λc u e=>gQ e hn
 have C3:∀c u,H c=O u->c∉fp:=λc u e z=>by rw[(hf c z).1]at e;cases e
 have lt:∀c o,s.d_.f6 c=O o->c≠b:=λc o e=>w0y (w1a (fH.sf e) hp)
 refine I.YF (g':=s.Yw) (d':=s.Ϭ) (ch:=fp) (λc hc=>?_) (λc o _ _ hc e _=>k c o hc e) (λc o _ _ hc e _=>⟨o.zx,k c o hc e⟩) (λc o _ e n=>by rw[bg (lt c o e)];exact n)
  (λc o hc e=>⟨o,k c o hc e⟩) (λc xs e=>by rw[bg (ne c _ e)];exact e) (λc o u e=>by rw[bg (ne c _ e)];exact e) (λc ps e=>⟨#[],by rw[bg (ne c _ e),e];simp⟩) (λm hm=>?_) (λc u e=>?_) I.wC
 .let⟨f0,f1,f2,f3,f4,f5⟩:=hf c hc;exact⟨f3,f1,f4,f5⟩
 .let⟨o,es,ep,ho,r⟩:=hm;exact⟨o,es,ep,k _ o (λz=>(hf _ z).2.1 rfl) ho,r⟩
 .by_cases hb:c=b
  .subst hb;rw[cI]at e;cases e;exact rZ
  .rw[bg hb]at e;refine(I.aR c u e).fK (λd v hd q=>k d v ?_ q) (λd q=>by rw[bg (ne d _ q)];exact q) λd xs _ q=>by rw[bg (ne d _ q)];exact q
   rcases hd with z|z
   .rw[z];exact C3 c u e
   .exact C3 d _ z
theorem y2y{P:qM}{w:pT}(a e it:fh)(fY:e≠it):_X P w K (.JJ Ι kt pt) (Hy K a) [e,it] e (λi h=>∃tB,kd.ö h e it (i:dt) tB/\h.Ê it a i) where
 YD:=by simp
 CZ:=λi h ⟨tB,iK,jc⟩ b hb=>by
  simp only[w0h,w1b,Xz]at hb;rcases hb with rfl|rfl
  .exact⟨_,iK,λv z=>by cases z⟩
  .let⟨o,e,c,d⟩:=jc;exact⟨o,e,λv z=>by rw[d]at z;cases z⟩
 pU:=λi h h' ⟨tB,iK,jc⟩ k=>⟨tB,k e (by simp) _ iK,jc.at λo e=>k it (by simp) o e⟩
 Zd:=by
  intro X hP hw hK hc i eS s σ H E I hf st hg;subst hP hw hK;let⟨tB,iK,jc⟩:=st;let⟨xs,x,hq,hx⟩:=hg;let⟨aC,rv,p,hz⟩:=I.wD hq;let⟨u,hu,ru⟩:=rv.BX hx;refine wpAny_pyNext_enum_item iK jc p.yM (x:=u) (by simpa using hu) fY λh1 vF yT Jb Wu tE=>⟨_,rfl,?_⟩
  refine zek vF λh2 mX hZ=>?_
  have hZ:fH.Zq e h1 h2:=hZ;have cb:e<s.d_.e6.eG:=fH.sf iK;have kQ:H s.d_.e6.eG=none:=I.aR.u3 (w0d _);have zj:h2.f6 s.d_.e6.eG=O {ie:=.hJ "tuple", lg:=.mx #[.d0 i s.nW,u]}:=(hZ.2 _ (w3k cb)).iD Jb;refine⟨.ei s.d_.e6.eG,l5 H s.d_.e6.eG (.ff [.d0 i,x]),?_,rfl,⟨_,x,rfl,kQ,λys hy=>by rw[I.kA hy hq];exact hx,rfl⟩,⟨u,mX,?_⟩,λb hb=>?_⟩
  .show L2.g8 X eS σ _ {s with d_:=h2,nW:=s.nW+1};refine Qo (fp:=[e,it]) I (λb o hb q=>?_) hf (w0d _) ⟨?_,[.d0 i s.nW,u],.m6 ⟨_,rfl⟩ (.m6 ru .m8),⟨_,zj,rfl,?_⟩,⟨_,zj,rfl⟩⟩
   .simp only[w0h,w1b,Xz,ZL]at hb;exact(hZ.2 b hb.1).iD (tE b o hb.1 hb.2 q)
   .rw[vN];simp
   .exact⟨_,rfl⟩
  .exact yT.at λo q=>(hZ.2 it (Ne.symm fY)).iD q
  .have:b≠s.d_.e6.eG:=by
    obtain⟨o,q,_⟩:∃o,s.d_.f6 b=O o/\w7:=by
     simp only[w0h,w1b,Xz]at hb;rcases hb with rfl|rfl
     .exact⟨_,iK,trivial⟩
     .let⟨o,e,_⟩:=jc;exact⟨o,e,trivial⟩
    exact w0y (fH.sf q)
   rw[bg this];exact(hf b hb).1
 done:=by
  intro X hP hw hK hc i eS s σ H E I hf st hg;subst hP hw hK;let⟨tB,iK,jc⟩:=st;let⟨xs,hq,hx⟩:=hg;let⟨aC,rv,p,hz⟩:=I.wD hq;let⟨f0,f1,f2,f3,f4,f5⟩:=hf it (by simp);have hl:=rv.J;exact wpAny_pyNext_enum_end (I.ok.hd hc) iK jc p.yM (by simp;omega) λh' eb=>⟨rfl,I.ZO (t':=s.nW) (λb o hb e=>eb b o hb e) f0 f1 f3 f4 f5⟩
 self:=λ_ _ _ _ _ ⟨tB,iK,_⟩ h=>ħ iK h
def CD(K:Fg)(ta:TA):TI:=λσ H R=>ta σ H λvs H1=>∃a,vs=[.ei a]/\(∃xs,cG K H1 a xs)/\R (Hy K a) H1
def z3g{ta:TA}{p:qY}(hg:Gl X "enumerate")(hm:X.mg "enumerate"=none)(ha:PA X [a] ta)(hs:fi (lq [a] X.el=[(false,eval a X.el)]) jJ):PI X (.JJ Ι kt pt) (.pY (.je "enumerate" p) [a] [] fZ) (CD X.K ta):=by
 intro eS s σ H R I h;refine uD.ri.Ç (uh I hg hm uD.ri.zbU (uD.ri._F (bw (ha fZ eS s σ H _ I h) λus s1 ⟨vs,H1,I1,r1,q1⟩=>?_) hs rfl))
 let⟨l,e,⟨xs,hq⟩,q⟩:=q1;subst e;cases r1 with
 |m6 r rr=>
  cases rr;cases r;let⟨aC,rv,p,hz⟩:=I1.wD hq;refine call_enumerate_list p.yM λh' he ZX hsz hk=>?_
  refine ħ he ?_;refine⟨s1.d_.e6.eG+1,[s1.d_.e6.eG+1,s1.d_.e6.eG],_,_,H1,rfl,I1.NK (t':=s1.nW) hk,y2y l _ _ (w5l _),⟨_,he,ZX⟩,λb hb=>?_,q⟩
  simp only[w0h,w1b,Xz]at hb;rcases hb with rfl|rfl
  .exact I1.jB (by omega) (I1.aR.u3 (by omega))
  .exact I1.jB (w0d _) (I1.aR.u3 (w0d _))
def zbF(rp:aq K G1 ws xs)(hq:cG K G1 b xs):lx K G1 (Hy K b) (bZ 0 ws):=by
 have hx:=rp.J;have hl:=Ln 0 ws;refine⟨λi G H s s' h=>⟨xs,xs[i]'(by omega),au.mx s' (au.mx s hq),by simp⟩,λi G H x H' s s' hy u v h=>?_,λi G H s s' h=>⟨xs,au.mx s' (au.mx s hq),by omega⟩⟩
 let⟨c,y,rfl,hn,xl,rfl⟩:=hy;let⟨hu,hv⟩:=Lo 0 ws i u v h;let⟨w,hw,pw⟩:=rp.lZ (xl xs (au.mx s' (au.mx s hq)));rw[hv]at hw;cases hw;refine⟨bc.pM s' hn _,λm n σ Q hQ=>⟨c,[.d0 i,y],rfl,c6.of cI,rfl,.d0 i,[y],rfl,y,[],rfl,rfl,hQ _ _ ?_ (nQ.ll s _ pw)⟩⟩
 rw[hu,w2t];exact rfl
def z3h{p:qY}(hm:X.mg "enumerate"=none)(ha:DA Z X EE [a] dA)(hg:fi (Gl X "enumerate") jJ)(hs:fi (lq [a] X.el=[(false,eval a X.el)]) jJ):DI Z X EE (.JJ Ι kt pt) (.pY (.je "enumerate" p) [a] [] fZ) (pf dA):=by
 refine PI.ll (z3g hg hm ha hs) ?_;rintro σ H RR ⟨G,e,iA,h⟩;simp only[pf,R.ak]at h;refine⟨G,e,iA,h.pQ (λws e1 h G1 vs H1 r1 s1 p1=>?_) λ_ _ h=>h⟩
 split at h
 .rename_i us;let⟨y,r,rfl,e1,e2⟩:=p1;cases(show r=[]from e2);let⟨b,xs,rfl,hq,rp⟩:=e1;exact⟨b,rfl,⟨xs,r1.mI.mx hq⟩,h _ _ _ r1 s1 (zbF rp hq)⟩
 .exact h.ke
end
theorem Ud{x y:eh}{p3:qY}(hN:X.N.p9)(hc:X.wK=true)
  (hi:fi (X.N[0]?=O x) jJ)(hx:fi (WH X.el.fj x) jN)(hf:fi (X.fn x=true\/X.el.fj.lH.fI x=O .local) jL)
  (hj:fi (X.N[1]?=O y) jJ)(hy:fi (WH X.el.fj y) jN)(Iy:fi (X.fn y=true\/X.el.fj.lH.fI y=O .local) jL)
  (hn:fi ((Ys [.je x p1,.je y p2] X.el).J=2) jJ)(oI:fi ((Ys [.je x p1,.je y p2] X.el).Ň (·.1)=none) jJ)
  (g1:fi ((Ys [.je x p1,.je y p2] X.el).ej (·.2)=ZD (.je x p1) X.el::(Ys [.je y p2] X.el).ej (·.2)) jJ)(g2:fi ((Ys [.je y p2] X.el).ej (·.2)=ZD (.je y p2) X.el::(Ys [] X.el).ej (·.2)) jJ):
  PG X (.JJ [.je x p1,.je y p2] kt p3) (qR X.K 2 (fW (bP 0) (fW (bP 1) qQ))):=
 Sx hc (Gi (uj 0 hN hi hx hf) (Gi (uj 1 hN hj hy Iy) Rn g2) g1) hn oI
section
variable{ps:L (W×W)}{c:Prop} [ϙ c]{s t:SR}{k:L S->SR}{st:S}
theorem z3i:gL i j di b e=(di e).cM λps e1=>eg i j b ps e1:=rfl
theorem u4:eg i j b (p::ps) e=(b ((e.my i (.fr p.1)).my j (.fr p.2))).cV (eg i j b ps):=rfl
theorem o7:(SR.nx e).cV k=k e:=rfl
theorem y7e:(SR.ct e).cV k=k e:=rfl
theorem y7f:(SR.bk e).cV k=.nx e:=rfl
theorem y7g:(SR.rt st e).cV k=.rt st e:=rfl
theorem y7h:(SR.ex v e).cV k=.ex v e:=rfl
theorem y7i:(SR.no).cV k=.no:=rfl
def y2z:(if c then s else t).cV k=if c then s.cV k else t.cV k:=by split<;>rfl
def xX(e:L S):L W->R (L (W×W))
 |[.fy us]=>.ok (bZ 0 us) e
 |_=>.no
def Q0r:pf dA e=(dA e).nR λws e1=>xX e1 ws:=by
 unfold pf;congr 1
theorem z3j:xX e [.fy ws]=.ok (bZ 0 ws) e:=rfl
def xY(e:L S):fG (L W)->R (L (W×W))
 |O ws=>bS (cH ws) e
 |none=>.no
def Q0s:jH d e=(d e).nR λw e1=>xY e1 (gc w):=by
 unfold jH;congr 1
theorem x99:xY e (O ws)=bS (cH ws) e:=rfl
def y7j{cc:gF fJ}{d:gF W}:j3 js cc d ps e=if ps.J<=16777216 then mM (bt js e) (fw cc d (iP js (bt js e)) ps)else .no:=by
 unfold j3 mM;split
 .cases fw cc d (iP js (bt js e)) ps<;>rfl
 .rfl
theorem y7k:fS js di cc d e=(di e).nR λps e1=>j3 js cc d ps e1:=rfl
theorem zbb{cc:gF fJ}{d:gF W}{p:W×W}:fw cc d pe (p::ps)=(match cc (.fr p.1::.fr p.2::pe)with
  |.ok true e1=>(match d e1 with|.ok y _=>(fw cc d pe ps).ej (y::·)|_=>none)
  |.ok false _=>fw cc d pe ps
  |_=>none):=rfl
theorem Lp{cc:gF fJ}{d:gF W}{pe:L S}{q:W×W->fJ}{g:W×W->W}:∀(ps:L (W×W)),(∀p∈ps,∃e1,cc (.fr p.1::.fr p.2::pe)=.ok (q p) e1/\(q p=true->∃e2,d e1=.ok (g p) e2))->fw cc d pe ps=O ((ps.Tn q).ej g)
 |[],_=>rfl
 |p::ps,h=>by
  let⟨e1,h1,h2⟩:=h p (by simp);have ih:=Lp (cc:=cc) (d:=d) (pe:=pe) (q:=q) (g:=g) ps λu hu=>h u (by simp[hu])
  rw[zbb,h1,ih];cases hq:q p with
  |true=>
   let⟨e2,h3⟩:=h2 hq;simp only[hq,h3,w2q,ZI];rfl
  |false=>simp[hq,w2q]
end
theorem QS(r:aq K G ws xs):∀k:dt,aq K G (L.oS k ws).Yt (L.oS k xs).Yt
 |0=>rfl
 |k+1=>by
  rw[w2l,w2l,w4h,w4h];exact r.N' (QS r k)
section
variable{w:pT}
def OT{j b:fh}{k:dt}{vs:tP e5}{x:e5}{Q:e5->kx->Prop}(gi:s.d_.Z6 j b k)(gt:s.d_.VU b vs)(gx:vs[k]?=O x)
  (hQ:∀h',h'.Z6 j b (k+1)->fH.Zq j s.d_ h'->Q x {s with d_:=h'}):kX (mG g_ w) A (oq.V8.Zz (.ei j)) Q E s:=by
 let⟨o,ho,hc,hd⟩:=id gi;let⟨zdc,IY,_,m,A0⟩:=gt;unfold oq.V8.Zz;refine i6 (δ (name:=eh.Yy "__next__") gi.Ya F.ę (ε F.ę gi.Ya F.zch ?_ (F.zbT _)));show kX _ _ (ZH (.ei j) 0 >>= _) _ _ s;refine i6 (Yi ho hd (x:=.ei b) rfl ?_);show kX _ _ (if(e5.ei b==e5.none)=true then _ else _) _ _ s;rw[kl (show ¬((e5.ei b==e5.none)=true)from w1w)];show kX _ _ (ZH (.ei j) 1 >>= _) _ _ s;refine i6 (Yi ho hd (x:=.d0 k 0) rfl ?_);show kX _ _ (seqItems? (.ei b) >>= _) _ _ s;refine i6 (_o IY A0 ?_);simp only[w2j,gx];refine i6 (zeq ho hd (by simp) (oo ⟨x,rfl,oo (hQ _ ⟨_,fH.ß _ ho (nU.isFreed_of_fields (nU.zb5 hd _)),(nU.cls_mapFields ..).iD hc,by rw[nU.zb5 hd];simp[ZA]⟩ (fH.Zq.YJ ..))⟩))
def KJ(hh:A.Nr=none)(gi:s.d_.Z6 j b k)(gt:s.d_.VU b vs)(gx:vs[k]?=none)
  (hE:∀h' e,fH.ExtBut j s.d_ h'->(∃o,h'.f6 e=O o/\o.ie=.hJ "StopIteration")->E (.ei e) {s with d_:=h'}):kX (mG g_ w) A (oq.V8.Zz (.ei j)) Q E s:=by
 let⟨o,ho,hc,hd⟩:=id gi;let⟨zdc,IY,_,m,A0⟩:=gt;unfold oq.V8.Zz;refine i6 (δ (name:=eh.Yy "__next__") gi.Ya F.ę (ε F.ę gi.Ya F.zch ?_ (F.zbT _)));show kX _ _ (ZH (.ei j) 0 >>= _) _ _ s;refine i6 (Yi ho hd (x:=.ei b) rfl ?_);show kX _ _ (if(e5.ei b==e5.none)=true then _ else _) _ _ s;rw[kl (show ¬((e5.ei b==e5.none)=true)from w1w)];show kX _ _ (ZH (.ei j) 1 >>= _) _ _ s;refine i6 (Yi ho hd (x:=.d0 k 0) rfl ?_);show kX _ _ (seqItems? (.ei b) >>= _) _ _ s;refine i6 (_o IY A0 ?_);simp only[w2j,gx];refine i6 (Ä (i6 (zeq ho hd (by simp) ?_)));show kX _ _ (newExc (.hJ "StopIteration") [] >>= _) _ _ _;refine i6 ?_;simp only[newExc,newTuple];refine i6 (Z0 ?_ (by size_fits));refine i6 (m:=zcy _ _) (Â (a:=e5.none) (by first|rfl|(simp only[zcy];rfl)) (Z0 ?_ (by size_fits)));simp only[raiseNew];refine i6 (wpAny_handled ?_)
 first|rw[show A.Nx.Nr=none from hh]|rw[hh]
 refine i6 (oo (wpAny_throw (hE _ _ (((fH.Zq.YJ ..).pZ.nV _).nV _) ⟨_,fH.vM _ rfl,rfl⟩)))
def bW(t:fJ)(j b:fh)(k:dt)(h:fH):Prop:=if t=true then h.Z6 j b k else h.Ê j b k
def bX(t:fJ)(b:fh)(vs:tP e5)(h:fH):Prop:=if t=true then h.VU b vs else h.Z4 b vs
def bW.pU(x:bW t j b k h)(e:∀o,h.f6 j=O o->h'.f6 j=O o):bW t j b k h':=by
 cases t with
 |true=>let⟨o,ho,r⟩:=(show h.Z6 j b k from x);exact⟨o,e o ho,r⟩
 |false=>let⟨o,ho,r⟩:=(show h.Ê j b k from x);exact⟨o,e o ho,r⟩
def bX.pU(x:bX t b vs h)(e:∀o,h.f6 b=O o->h'.f6 b=O o):bX t b vs h':=by
 cases t with
 |true=>let⟨o,ho,r⟩:=(show h.VU b vs from x);exact⟨o,e o ho,r⟩
 |false=>let⟨o,ho,r⟩:=(show h.Z4 b vs from x);exact⟨o,e o ho,r⟩
def Br(gi:bW t j b k s.d_)(gt:bX t b vs s.d_)(gx:vs[k]?=O x)
  (hQ:∀h',bW t j b (k+1) h'->fH.Zq j s.d_ h'->Q x {s with d_:=h'}):kX (mG g_ w) A (oq.V8.Zz (.ei j)) Q E s:=by
 cases t with
 |true=>exact OT gi gt gx hQ
 |false=>exact wpAny_nextOf_list_item gi gt gx hQ
def Hd(hh:A.Nr=none)(gi:bW t j b k s.d_)(gt:bX t b vs s.d_)(gx:vs[k]?=none)
  (hE:∀h' e,fH.ExtBut j s.d_ h'->(∃o,h'.f6 e=O o/\o.ie=.hJ "StopIteration")->E (.ei e) {s with d_:=h'}):kX (mG g_ w) A (oq.V8.Zz (.ei j)) Q E s:=by
 cases t with
 |true=>exact KJ hh gi gt gx hE
 |false=>exact wpAny_nextOf_list_end hh gi gt gx hE
structure Zm(z I aT i j a b:fh):Prop where
 Iz:I≠z
 Oz:aT≠z
 iz:i≠z
 jz:j≠z
 IO:I≠aT
 Ii:I≠i
 Ij:I≠j
 Oi:aT≠i
 Oj:aT≠j
 ij:i≠j
 az:a≠z
 aO:a≠aT
 ai:a≠i
 aj:a≠j
 bz:b≠z
 bO:b≠aT
 bi:b≠i
 bj:b≠j
def z3k{i:fh}{q:e5}{Q:e5->kx->Prop}(D:Zm z I aT i j a b)
  (gz:YB s.d_ z I aT .none)(gI:zd s.d_ I (.ei i) (.ei j))(gO:zd s.d_ aT p q)
  (g1:bW t i a k s.d_)(g2:bW u j b k s.d_)(l1:bX t a xs s.d_)(l2:bX u b ys s.d_)(hx:xs[k]?=O x)(hy:ys[k]?=O y)
  (hQ:∀h',YB h' z I aT (ZA s.d_.e6.eG)->zd h' aT x y->bW t i a (k+1) h'->bW u j b (k+1) h'->zd h' s.d_.e6.eG x y->h'.e6.eG=s.d_.e6.eG+1 ->
   (∀c o,c≠z->c≠aT->c≠i->c≠j->s.d_.f6 c=O o->h'.f6 c=O o)->Q (.ei s.d_.e6.eG) {s with d_:=h'}):
  kX (mG g_ w) A (oq.«zip.__next__» ⟨[.ei z],[]⟩) (λvR s'=>∃v,vR=.done (.yr v)/\Q v s') E s:=by
 show kX _ _ (ZH (.ei z) 2 >>= _) _ _ _;refine i6 (Yi gz rfl (x:=.rl false) rfl ?_);show kX _ _ (ZH (.ei z) 3 >>= _) _ _ _;refine i6 (Yi gz rfl (x:=.ei I) rfl (i6 (_o gI rfl ?_)));show kX _ _ (oq.V8.Χ (.ei z) >>= _) _ _ _;refine i6 ?_;unfold oq.V8.Χ;refine i6 (Yi gz rfl (x:=.none) rfl (oo ?_));simp only[ZI];refine i6 (Ä (i6 (Yi gz rfl (x:=.ei aT) rfl (i6 (ϕ gz (by simp) λha za sa=>?_)))))
 replace za:YB ha z I aT .ϭ:=za
 refine i6 ?_;simp only[L.zipIdx_cons,L.zipIdx_nil,w2n,w3g];refine i6 (i6 (Ħ ?_));show kX _ _ (oq.V8.Zz (.ei i) >>= _) _ _ _;refine i6 (Br (s:={s with d_:=ha}) (g1.pU λo e=>sa.pZ _ _ D.iz e) (l1.pU λo e=>sa.pZ _ _ D.az e) hx λhb ib sb=>oo ?_)
 have Ob:zd hb aT p q:=sb.pZ _ _ D.Oi (sa.pZ _ _ D.Oz gO);refine i6 (_o Ob rfl (i6 (Ÿ Ob λhc Oc sc=>?_)))
 replace Oc:zd hc aT x q:=Oc
 refine i6 (Ŷ (oo (i6 (i6 (Ħ ?_)))));show kX _ _ (oq.V8.Zz (.ei j) >>= _) _ _ _;refine i6 (Br (s:={s with d_:=hc}) (g2.pU λo e=>sc.pZ _ _ D.Oj.symm (sb.pZ _ _ D.ij.symm (sa.pZ _ _ D.jz e))) (l2.pU λo e=>sc.pZ _ _ D.bO (sb.pZ _ _ D.bi (sa.pZ _ _ D.bz e))) hy λhd jd sd=>oo ?_)
 have Od:zd hd aT x q:=sd.pZ _ _ D.Oj Oc;refine i6 (_o Od rfl (i6 (Ÿ Od λhe Oe se=>?_)))
 replace Oe:zd he aT x y:=Oe
 refine i6 (Ŷ (oo (oo (i6 (_o Oe rfl (i6 (zen ?_)))))));have sz:he.e6.eG=s.d_.e6.eG:=by rw[se.1,sd.1,sc.1,sb.1,sa.1]
 have ze:YB he z I aT .ϭ:=se.pZ _ _ D.Oz.symm (sd.pZ _ _ D.jz.symm (sc.pZ _ _ D.Oz.symm (sb.pZ _ _ D.iz.symm za)));have zcW:∀c o,c≠z->c≠aT->c≠i->c≠j->s.d_.f6 c=O o->he.f6 c=O o:=λc o c1 c2 c3 c4 e=>se.pZ _ _ c2 (sd.pZ _ _ c4 (sc.pZ _ _ c2 (sb.pZ _ _ c3 (sa.pZ _ _ c1 e))))
 have zcN:bW t i a (k+1) he:=ib.pU λo e=>se.pZ _ _ D.Oi.symm (sd.pZ _ _ D.ij (sc.pZ _ _ D.Oi.symm e))
 have zcT:bW u j b (k+1) he:=jd.pU λo e=>se.pZ _ _ D.Oj.symm e
 have EL:z<he.e6.eG:=fH.sf ze;show kX _ _ (oq.V8.zdd (.ei z) (.ei he.e6.eG) >>= _) _ _ _;refine i6 ?_;unfold oq.V8.zdd;have zeH:YB (he.nV {ie:=.hJ "tuple", lg:=.mx #[x,y]}) z I aT .ϭ:=fH.q_ _ ze;refine i6 (ϕ zeH (by simp) λhg zg sg=>?_)
 replace zg:YB hg z I aT (ZA he.e6.eG):=zg
 refine ϕ zg (by simp) λhk zk sk=>?_
 replace zk:YB hk z I aT (ZA he.e6.eG):=zk
 have up:∀c o,c≠z->he.f6 c=O o->hk.f6 c=O o:=λc o c1 e=>sk.pZ _ _ c1 (sg.pZ _ _ c1 (fH.q_ _ e))
 have Tk:zd hk he.e6.eG x y:=sk.pZ _ _ (w3k EL) (sg.pZ _ _ (w3k EL) (fH.vM _ rfl));have nk:hk.e6.eG=he.e6.eG+1:=by rw[sk.1,sg.1,fH.YU]
 rw[sz]at zk Tk nk;refine oo ⟨_,rfl,?_⟩;show Q (.ei he.e6.eG) _;rw[sz];exact hQ hk zk (up _ _ D.Oz Oe) (zcN.pU λo e=>up _ o D.iz e) (zcT.pU λo e=>up _ o D.jz e) Tk nk λc o c1 c2 c3 c4 e=>up c o c1 (zcW c o c1 c2 c3 c4 e)
def Ue{i:fh}{q:e5}(hh:A.Nr=none)(D:Zm z I aT i j a b)
  (gz:YB s.d_ z I aT .none)(gI:zd s.d_ I (.ei i) (.ei j))(gO:zd s.d_ aT p q)
  (g1:bW t i a k s.d_)(g2:bW u j b k s.d_)(l1:bX t a xs s.d_)(l2:bX u b ys s.d_)(oE:xs[k]?=none\/ys[k]?=none)
  (hE:∀h' e,(∀c o,c≠z->c≠aT->c≠i->c≠j->s.d_.f6 c=O o->h'.f6 c=O o)->(∃o,h'.f6 e=O o/\o.ie=.hJ "StopIteration")->E (.ei e) {s with d_:=h'}):
  kX (mG g_ w) A (oq.«zip.__next__» ⟨[.ei z],[]⟩) Q E s:=by
 show kX _ _ (ZH (.ei z) 2 >>= _) _ _ _;refine i6 (Yi gz rfl (x:=.rl false) rfl ?_);show kX _ _ (ZH (.ei z) 3 >>= _) _ _ _;refine i6 (Yi gz rfl (x:=.ei I) rfl (i6 (_o gI rfl ?_)));show kX _ _ (oq.V8.Χ (.ei z) >>= _) _ _ _;refine i6 ?_;unfold oq.V8.Χ;refine i6 (Yi gz rfl (x:=.none) rfl (oo ?_));simp only[ZI];refine i6 (Ä (i6 (Yi gz rfl (x:=.ei aT) rfl (i6 (ϕ gz (by simp) λha za sa=>?_)))))
 replace za:YB ha z I aT .ϭ:=za
 refine i6 ?_;simp only[L.zipIdx_cons,L.zipIdx_nil,w2n,w3g];refine i6 (i6 (Ħ ?_));show kX _ _ (oq.V8.Zz (.ei i) >>= _) _ _ _;cases hx:xs[k]? with
 |none=>
  refine i6 (Hd (s:={s with d_:=ha}) hh (g1.pU λo e=>sa.pZ _ _ D.iz e) (l1.pU λo e=>sa.pZ _ _ D.az e) hx λhb e sb ge=>?_)
  let⟨oe,Cv,Iq⟩:=ge;have zeE:YB hb z I aT .ϭ:=sb _ _ D.iz.symm za;have nz:e≠z:=λx=>by grind
  refine ϕ zeE (by simp) λhc _ sc=>hE hc e (λc o c1 _ c3 _ x=>sc.pZ _ _ c1 (sb _ _ c3 (sa.pZ _ _ c1 x))) ⟨oe,sc.pZ _ _ nz Cv,Iq⟩
 |O x=>
  have hy:ys[k]?=none:=by grind
  refine i6 (Br (s:={s with d_:=ha}) (g1.pU λo e=>sa.pZ _ _ D.iz e) (l1.pU λo e=>sa.pZ _ _ D.az e) hx λhb ib sb=>oo ?_)
  have Ob:zd hb aT p q:=sb.pZ _ _ D.Oi (sa.pZ _ _ D.Oz gO);refine i6 (_o Ob rfl (i6 (Ÿ Ob λhc Oc sc=>?_)))
  refine i6 (Ŷ (oo (i6 (i6 (Ħ ?_)))));show kX _ _ (oq.V8.Zz (.ei j) >>= _) _ _ _;refine i6 (Hd (s:={s with d_:=hc}) hh (g2.pU λo e=>sc.pZ _ _ D.Oj.symm (sb.pZ _ _ D.ij.symm (sa.pZ _ _ D.jz e))) (l2.pU λo e=>sc.pZ _ _ D.bO (sb.pZ _ _ D.bi (sa.pZ _ _ D.bz e))) hy λhd e sd ge=>?_)
  let⟨oe,Cv,Iq⟩:=ge;have zeG:YB hd z I aT .ϭ:=sd _ _ D.jz.symm (sc.pZ _ _ D.Oz.symm (sb.pZ _ _ D.iz.symm za));have nz:e≠z:=λx=>by grind
  refine ϕ zeG (by simp) λhe _ se=>hE he e (λc o c1 c2 c3 c4 x=>se.pZ _ _ c1 (sd _ _ c4 (sc.pZ _ _ c2 (sb.pZ _ _ c3 (sa.pZ _ _ c1 x))))) ⟨oe,se.pZ _ _ nz Cv,Iq⟩
def z3l{i:fh}{q:e5}(D:Zm z I aT i j a b)
  (gz:YB s.d_ z I aT .none)(gI:zd s.d_ I (.ei i) (.ei j))(gO:zd s.d_ aT p q)
  (g1:bW t i a k s.d_)(g2:bW u j b k s.d_)(l1:bX t a xs s.d_)(l2:bX u b ys s.d_)(hx:xs[k]?=O x)(hy:ys[k]?=O y)
  (hQ:∀h',YB h' z I aT (ZA s.d_.e6.eG)->zd h' aT x y->bW t i a (k+1) h'->bW u j b (k+1) h'->zd h' s.d_.e6.eG x y->h'.e6.eG=s.d_.e6.eG+1 ->
   (∀c o,c≠z->c≠aT->c≠i->c≠j->s.d_.f6 c=O o->h'.f6 c=O o)->Q (O (.ei s.d_.e6.eG)) {s with d_:=h'}):kX (mG g_ w) A (ZN (.ei z)) Q E s:=by
 have hT:s.Zf (.ei z) "zip":=⟨_,gz,rfl⟩;unfold ZN;exact i6 (À (δ (name:=eh.Yy "__next__") hT F.Ω (ε F.Ω hT F.Ą (z3k D gz gI gO g1 g2 l1 l2 hx hy λh' a1 a2 a3 a4 a5 a6 a7=>oo (hQ h' a1 a2 a3 a4 a5 a6 a7)) (F.ú _))))
def z3m{i:fh}{q:e5}(hh:A.Nr=none)(D:Zm z I aT i j a b)
  (gz:YB s.d_ z I aT .none)(gI:zd s.d_ I (.ei i) (.ei j))(gO:zd s.d_ aT p q)
  (g1:bW t i a k s.d_)(g2:bW u j b k s.d_)(l1:bX t a xs s.d_)(l2:bX u b ys s.d_)(oE:xs[k]?=none\/ys[k]?=none)
  (hQ:∀h',(∀c o,c≠z->c≠aT->c≠i->c≠j->s.d_.f6 c=O o->h'.f6 c=O o)->Q none {s with d_:=h'}):kX (mG g_ w) A (ZN (.ei z)) Q E s:=by
 have hT:s.Zf (.ei z) "zip":=⟨_,gz,rfl⟩;unfold ZN;refine i6 (À (δ (name:=eh.Yy "__next__") hT F.Ω (ε F.Ω hT F.Ą (Ue hh D gz gI gO g1 g2 l1 l2 oE λh' e hk he=>?_) (F.ú _))))
 let⟨o,ho,hc⟩:=he;exact i6 (ĥ (T:="StopIteration") (b:=true) ⟨o,ho,hc⟩ zcR (oo (hQ _ hk)))
end
def Jn(t:fJ):ET:=if t=true then "tuple_iterator" else "list_iterator"
abbrev EM(t:fJ)(h:fH)(a:fh):fH:=h.nV {ie:=.hJ (Jn t),lg:=.x6 #[.ei a,.d0 0 0]}
abbrev Hq(t u:fJ)(h:fH)(a b:fh):fH:=(EM t h a).nV {ie:=.hJ (Jn u),lg:=.x6 #[.ei b,.d0 0 0]}
abbrev Hr(t u:fJ)(h:fH)(a b:fh):fH:=(Hq t u h a b).nV {ie:=.hJ "tuple", lg:=.mx #[.ei h.e6.eG,.ei (EM t h a).e6.eG]}
abbrev Hs(t u:fJ)(h:fH)(a b:fh):fH:=(Hr t u h a b).nV {ie:=.hJ "tuple", lg:=.mx #[.none,.none]}
abbrev AI(t u:fJ)(h:fH)(a b:fh):fH:=(Hs t u h a b).nV {ie:=.hJ "zip", lg:=.x6 #[.none,.rl false,.rl false,.ei (Hq t u h a b).e6.eG,.ei (Hr t u h a b).e6.eG]}
theorem Ug(t u)(a b)(xs ys):
  _s (oq.«zip.__new__» ⟨[.hJ "zip", .ei a,.ei b],[]⟩) (λ_ R s=>bX t a xs s.d_/\bX u b ys s.d_/\R (.ok (.yr (.ei (Hs t u s.d_ a b).e6.eG))) {s with d_:=AI t u s.d_ a b}):=
 ._K λg_ w A R s hyp=>by
  let⟨hp,g,d,tk,os⟩:=s;let⟨g1,g2,h⟩:=hyp;have zi:=sub_zip;have q2:bX u b ys (EM t hp a):=g2.pU λo e=>fH.q_ _ e
  cases t with
  |false=>
   have p1:fH.Z4 (kx.d_ ⟨hp,g,d,tk,os⟩) a xs:=g1;cases u with
   |false=>
    have p2:fH.Z4 (kx.d_ ⟨hp.nV {ie:=.hJ "list_iterator", lg:=.x6 #[.ei a,.d0 0 0]},g,d,tk,os⟩) b ys:=q2
    wp_walk using Ã p1,Ã p2
    exact⟨_,rfl,h⟩
   |true=>
    have p2:fH.VU (kx.d_ ⟨hp.nV {ie:=.hJ "list_iterator", lg:=.x6 #[.ei a,.d0 0 0]},g,d,tk,os⟩) b ys:=q2
    wp_walk using Ã p1,ζ p2
    exact⟨_,rfl,h⟩
  |true=>
   have p1:fH.VU (kx.d_ ⟨hp,g,d,tk,os⟩) a xs:=g1;cases u with
   |false=>
    have p2:fH.Z4 (kx.d_ ⟨hp.nV {ie:=.hJ "tuple_iterator", lg:=.x6 #[.ei a,.d0 0 0]},g,d,tk,os⟩) b ys:=q2
    wp_walk using ζ p1,Ã p2
    exact⟨_,rfl,h⟩
   |true=>
    have p2:fH.VU (kx.d_ ⟨hp.nV {ie:=.hJ "tuple_iterator", lg:=.x6 #[.ei a,.d0 0 0]},g,d,tk,os⟩) b ys:=q2
    wp_walk using ζ p1,ζ p2
    exact⟨_,rfl,h⟩
def QT(e:h.f6 j=O o)(c:o.ie=.hJ (Jn t))(d:o.lg=.x6 #[.ei a,.d0 0 0]):bW t j a 0 h:=by
 cases t with
 |true=>exact(show h.Z6 j a 0 from⟨o,e,c,d⟩)
 |false=>exact(show h.Ê j a 0 from⟨o,e,c,d⟩)
def y20{w:pT}(g1:bX t a xs s.d_)(g2:bX u b ys s.d_)
  (h:∀h',YB h' (s.d_.e6.eG+4) (s.d_.e6.eG+2) (s.d_.e6.eG+3) .none->zd h' (s.d_.e6.eG+2) (.ei s.d_.e6.eG) (.ei (s.d_.e6.eG+1)) ->
   zd h' (s.d_.e6.eG+3) .none .none->bW t s.d_.e6.eG a 0 h'->bW u (s.d_.e6.eG+1) b 0 h'->(∀c o,s.d_.f6 c=O o->h'.f6 c=O o)->Q (.ei (s.d_.e6.eG+4)) {s with d_:=h'}):
  kX (mG g_ w) A (zN (.hJ "zip") [.ei a,.ei b]) Q E s:=by
 refine ý F.called_zip (by decide) (F.typeCall_zip_2 _ _) (F.newCall_zip_2 _ _) (λCZ=>F.args_object_init_3 CZ _ _) F.entry_zip_new (Ug t u a b xs ys) ⟨g1,g2,?_⟩
 have n1:(EM t s.d_ a).e6.eG=s.d_.e6.eG+1:=fH.YU ..;have n2:(Hq t u s.d_ a b).e6.eG=s.d_.e6.eG+2:=by rw[fH.YU,n1]
 have n3:(Hr t u s.d_ a b).e6.eG=s.d_.e6.eG+3:=by rw[fH.YU,n2]
 have n4:(Hs t u s.d_ a b).e6.eG=s.d_.e6.eG+4:=by rw[fH.YU,n3]
 have k5:(AI t u s.d_ a b).f6 (Hs t u s.d_ a b).e6.eG=O _:=fH.vM _ rfl;have k4:(AI t u s.d_ a b).f6 (Hr t u s.d_ a b).e6.eG=O _:=fH.q_ _ (fH.vM _ rfl);have k3:(AI t u s.d_ a b).f6 (Hq t u s.d_ a b).e6.eG=O _:=fH.q_ _ (fH.q_ _ (fH.vM _ rfl));have k2:(AI t u s.d_ a b).f6 (EM t s.d_ a).e6.eG=O _:=fH.q_ _ (fH.q_ _ (fH.q_ _ (fH.vM _ rfl)));have k1:(AI t u s.d_ a b).f6 s.d_.e6.eG=O _:=fH.q_ _ (fH.q_ _ (fH.q_ _ (fH.q_ _ (fH.vM _ rfl))));have up:∀c o,s.d_.f6 c=O o->(AI t u s.d_ a b).f6 c=O o:=λc o e=>fH.q_ _ (fH.q_ _ (fH.q_ _ (fH.q_ _ (fH.q_ _ e))))
 show _/\_;rw[n2,n3,n4]at k5;rw[n1,n2]at k3;rw[n3]at k4;rw[n1]at k2;rw[n4];exact⟨⟨_,k5,rfl⟩,h _ k5 k3 k4 (QT k1 rfl rfl) (QT k2 rfl rfl) up⟩
def AL(K:Fg)(t:fJ)(H:Hp)(a:fh)(xs:L V):Prop:=if t=true then c6 K H a xs else cG K H a xs
def SH(I:g8 X eS σ H s)(h:AL X.K t H a xs):∃aC:L e5,oK xs aC/\bX t a aC.ky s.d_:=by
 cases t with
 |true=>
  let⟨aC,r,p,_⟩:=I.zb h;exact⟨aC,r,(show s.d_.VU a aC.ky from p)⟩
 |false=>
  let⟨aC,r,p,_⟩:=I.wD h;exact⟨aC,r,p.yM⟩
def bX.CZ(x:bX t a vs h):∃o,h.f6 a=O o/\o.ie=.hJ (if t=true then "tuple" else "list"):=by
 cases t with
 |true=>let⟨o,ho,c,_⟩:=(show h.VU a vs from x);exact⟨o,ho,c⟩
 |false=>let⟨o,ho,c,_⟩:=(show h.Z4 a vs from x);exact⟨o,ho,c⟩
def Y6{h':fH}{t':dt}{fp:L fh}(I:g8 X eS σ H s)(k:∀b o,b∉fp->s.d_.f6 b=O o->h'.f6 b=O o)(hf:∀b∈fp,fO X eS H b):g8 X eS σ H {s with d_:=h',nW:=t'}:=by
 have C3:∀c u,H c=O u->c∉fp:=λc u e z=>by rw[(hf c z).1]at e;cases e
 refine I.YF (g':=s.Yw) (d':=s.Ϭ) (ch:=fp) (λc hc=>?_) (λc o _ _ hc e _=>k c o hc e) (λc o _ _ hc e _=>⟨o.zx,k c o hc e⟩) (λc o _ e n=>n)
  (λc o hc e=>⟨o,k c o hc e⟩) (λc xs e=>e) (λc o u e=>e) (λc ps e=>⟨#[],by rw[e];simp⟩) (λm hm=>?_) (λc u e=>?_) I.wC
 .let⟨f0,f1,f2,f3,f4,f5⟩:=hf c hc;exact⟨f3,f1,f4,f5⟩
 .let⟨o,es,ep,ho,r⟩:=hm;exact⟨o,es,ep,k _ o (λz=>(hf _ z).2.1 rfl) ho,r⟩
 .refine(I.aR c u e).fK (λd v hd q=>k d v ?_ q) (λd q=>q) λd xs _ q=>q
  rcases hd with z|z
  .rw[z];exact C3 c u e
  .exact C3 d _ z
theorem y22(n a b:dt)(ha:a<n)(hb:b<n):Zm (n+4) (n+2) (n+3) n (n+1) a b where
 Iz:=by grind
 Oz:=by grind
 iz:=by grind
 jz:=by grind
 IO:=by grind
 Ii:=by grind
 Ij:=by grind
 Oi:=by grind
 Oj:=by grind
 ij:=by grind
 az:=by grind
 aO:=by grind
 ai:=by grind
 aj:=by grind
 bz:=by grind
 bO:=by grind
 bi:=by grind
 bj:=by grind
section
variable{a1 a2:l_}{pt:qY}
def RN(h:gc w=O us)(p:nQ K G w v):∃t a xs,v=.ei a/\AL K t G a xs/\aq K G us xs:=by
 cases w with
 |ff l=>
  cases h;let⟨a,xs,rfl,hq,rp⟩:=p;exact⟨true,a,xs,rfl,hq,rp⟩
 |fy l=>
  cases h;let⟨a,xs,rfl,hq,rp⟩:=p;exact⟨false,a,xs,rfl,hq,rp⟩
 |_=>cases h
def QU(s:au G H)(h:AL K t G a xs):AL K t H a xs:=by
 cases t with
 |true=>exact s.ff h
 |false=>exact s.mx h
end
def jq:S->S
 |.gD _ ws=>.fr (.fy ws)
 |.ba kvs=>.fr (.ba kvs)
 |.dw sh ks ws=>.fr (.dw false sh ks ws)
 |s=>s
def d4(e:L S):L S:=e.ej jq
def eu(e:L S):R W->R W
 |.ok w _=>if bu w=true then .ok w e else .no
 |.ex c _=>.ex c e
 |.no=>.no
def eZ(d:gF W):gF W:=λe=>eu e (d (d4 e))
def ez(e:L S):R fJ->R fJ
 |.ok b _=>.ok b e
 |.ex c _=>.ex c e
 |.no=>.no
def dn(d:gF fJ):gF fJ:=λe=>ez e (d (d4 e))
def m_.hide(r:m_ K Z G σ H e):m_ K ⟨H,H,[]⟩ H σ H (d4 e):=by
 have g:∀(i:dt)(s:S),(d4 e)[i]?=O s->∃s0,e[i]?=O s0/\s=jq s0:=λi s h=>by
  unfold d4 at h;rw[w1c]at h;let⟨s0,h1,h2⟩:=w0p.mp h;exact⟨s0,h1,h2.symm⟩
 refine⟨.oQ _,λi s h=>?_,by unfold d4;rw[w0b];exact r.oO,λi j b b' ws ws' a h1 _ _ _=>?_,λa o h _=>h,(λa h=>nomatch h),λa _=>rfl⟩
 .let⟨s0,h0,rfl⟩:=g i s h;have q:=r.r5 i s0 h0;cases s0 with
  |no=>trivial
  |fr w=>
   let⟨u,q1,q2⟩:=q;exact⟨u,q1,nQ.ll r.mI w q2⟩
  |gD b ws=>
   let⟨a,xs,q1,q2,q3,q4,q5⟩:=q;exact⟨.ei a,q1,a,xs,rfl,cG.of q2,aq.ll r.mI ws q5⟩
  |ba kvs=>
   let⟨a,q1,q2,_⟩:=q;exact⟨.ei a,q1,a,rfl,q2⟩
  |dw sh ks ws=>
   let⟨a,kvs,bC,q1,q2,_,_,q5,q6,q7⟩:=q;exact⟨.ei a,q1,a,kvs,bC,rfl,q2,q5,q6.ll r.mI,aq.ll r.mI ws q7.rG⟩
 .let⟨s0,_,h2⟩:=g i _ h1;cases s0 with
  |_=>cases h2
def m_.Ø(r:m_ K Z G σ H e)(r2:m_ K ⟨H,H,[]⟩ G2 σ H2 e2):m_ K Z G σ H2 e:=by
 have hh:au H H2:=λa o h=>r2.Ww a o h (λz=>nomatch z)
 exact r.wq ⟨hh,.oQ _,λa o h=>hh a o (r.mI a o h),λ_ _=>rfl⟩
def y7l(h:bu w=true)(p:nQ K G w v):nQ K G' w v:=by
 cases w with
 |aH=>exact p
 |bl b=>exact p
 |d0 b=>exact p
 |str b=>exact p
 |_=>cases h
def y23{e:kd.l_}(he:∀Z',DE Z' X EE e d):DE Z X EE e (eZ d):=by
 intro eS s σ H Q I hq;let⟨G,e0,iA,h⟩:=hq;refine he ⟨H,H,[]⟩ eS s σ H Q I ⟨H,d4 e0,iA.hide,?_⟩;unfold eZ eu at h;cases q:d (d4 e0)with
 |ok w e2=>
  rw[q]at h;dsimp only at h;split at h
  .rename_i hs;intro G2 v H2 r2 s2 p;exact h G v H2 (iA.Ø r2) (.oQ _) (y7l hs p)
  .exact h.ke
 |ex k e2=>
  rw[q]at h;intro G2 H2 r2 s2;exact h G H2 (iA.Ø r2) (.oQ _)
 |no=>rw[q]at h;exact h.ke
def y24{e:kd.l_}(he:∀Z',DT Z' X EE e c):DT Z X EE e (dn c):=by
 intro eS s σ H Q I hq;let⟨G,e0,iA,h⟩:=hq;refine he ⟨H,H,[]⟩ eS s σ H Q I ⟨H,d4 e0,iA.hide,?_⟩;unfold dn ez at h;cases q:c (d4 e0)with
 |ok w e2=>
  rw[q]at h;intro G2 H2 r2 s2;exact h G H2 (iA.Ø r2) (.oQ _)
 |ex k e2=>
  rw[q]at h;intro G2 H2 r2 s2;exact h G H2 (iA.Ø r2) (.oQ _)
 |no=>rw[q]at h;exact h.ke
section
variable [ϙ p]
theorem y25:eZ d e=eu e (d (d4 e)):=rfl
theorem y0b:dn d e=ez e (d (d4 e)):=rfl
theorem y26:eu e (.ok w e')=if bu w=true then .ok w e else .no:=rfl
theorem y27:eu e (.ex v e')=.ex v e:=rfl
theorem y0c:ez e (.ok k e')=.ok k e:=rfl
theorem y0d:ez e (.ex v e')=.ex v e:=rfl
def y0e:eu e (if p then x else y)=if p then eu e x else eu e y:=by split<;>rfl
def x7i:ez e (if p then x else y)=if p then ez e x else ez e y:=by split<;>rfl
theorem y7m:d4 []=[]:=rfl
theorem y28{s:D.S}:d4 (s::e)=jq s::d4 e:=rfl
theorem y7n:jq (.gD b ws)=.fr (.fy ws):=rfl
theorem z3n:jq (.fr w)=.fr w:=rfl
theorem z3o:jq .no=.no:=rfl
end
end D
namespace L2
open PySem PySem.Spec PyProof.Rows
structure zfb(l4:L tY)(H H':Hp)(h h':fH)(e:fh)(ie:e5)(B:fH):Prop where
 fK:B.StaysIn h'
 wC:B.f6 e=none
 zfr:h'.μ B l4
 tr:∃a0 fl,h'.TracedAtW B e ie a0 fl
 tB:∀b o,h.f6 b=O o->H b=none->b∉fV l4->B.f6 b=O o
 ph:∀b u o,H' b=O u->h'.f6 b=O o->B.f6 b=O o
 oP:∀b o,h.f6 b=O o->b∈fV l4\/∃o',B.f6 b=O o'
 rZ:h.f6 e=none
end L2
namespace D
open PySem L2
def lA(c:gF fJ)(d:gF W)(pe:L S):L W->fG (e5 ⊕ L W)
 |[]=>O (.j' [])
 |w::ws=>match c (.fr w::pe)with
  |.ok true e1=>match d e1 with
   |.ok y _=>(lA c d pe ws).ej (YL.ej id (y::·))
   |.ex k _=>O (.h8 k)
   |.no=>none
  |.ok false _=>lA c d pe ws
  |.ex k _=>O (.h8 k)
  |.no=>none
def lY(e:L S):fG (e5 ⊕ L W)->R (L W)
 |O (.j' oN)=>.ok oN e
 |O (.h8 k)=>.ex k e
 |none=>.no
def ow(js:L dt)(c:gF fJ)(d:gF W)(ws:L W)(e1:L S):R (L W):=
 if ws.J<=16777216 then lY (bt js e1) (lA c d (iP js (bt js e1)) ws)else .no
theorem y7o:ow js cc d ws e=if ws.J<=16777216 then lY (bt js e) (lA cc d (iP js (bt js e)) ws)else .no:=rfl
theorem y29:lY e (O (.j' oN))=.ok oN e:=rfl
theorem y3a:lY e (O (.h8 k))=.ex k e:=rfl
section
variable{X:Cx}{Z:Zt}{EE:L2.St->XK}{vX rW a b:l_}{vr:L l_}{fj sc:vP}{fZ pt:qY}{x:eh}{Nf N:L eh}{js:L dt}{di:gF W}{dA:gF (L W)}{c:gF fJ}{d:gF W}
def Q0v(h:(ow js c d ws e1).yt P Ex):ws.J<=16777216/\∃oN,lA c d (iP js (bt js e1)) ws=O oN/\YL.ke (λk=>Ex k (bt js e1)) (λo=>P o (bt js e1)) oN:=by
 unfold ow at h;split at h
 .rename_i hl;cases ho:lA c d (iP js (bt js e1)) ws with
  |none=>rw[ho]at h;exact h.ke
  |O oN=>rw[ho]at h;exact⟨hl,oN,rfl,by cases oN<;>exact h⟩
 .exact h.ke
end
end D
namespace L2
open PySem PySem.Spec PyProof.Rows
variable{A:tf}{g_:qM}{s:kx}{E:e5->kx->Prop}{w:pT}
def HA(t:SetTable):Prop:=t.place.n9.ø (·<·)/\t.dummies=#[]
def Me:e5->eW
 |.d0 n _=>n
 |_=>0
structure zeS(g_:qM)(w:pT)(es:tP (eW×e5))(t:SetTable)(S:L eW):Prop where
 zfp:ElemsOf (intKind g_ w) es.n9
 sz:es.eG<scanBound
 fit:t.Zw es.eG=true
 rise:HA t
 led:t.led=!w.p7.followText "set-order"
 _m:∀e∈es.n9,∃n k,e.2=e5.d0 n k
 perm:(es.n9.ej λe=>Me e.2).Perm S
namespace SI
def gD:Manifest.owners.fI (ET.ofList ['r','o','t','a','r','e','t','i','_','t','e','s'].wd)=O Manifest.sig_set_iterator:=by kernel_rfl
theorem next:Ð "set_iterator" "__next__" "set_iterator.__next__":=.of (owner:="set_iterator") (n:="__next__") (by rw[Ϻ,Ϧ];kernel_rfl) (by decide +kernel) (by decide +kernel) (by decide +kernel) (by first|exact .h8 (by decide +kernel)|exact .j' (by decide +kernel)) (by rw[Ŏ];kernel_rfl)
theorem rW:Ð "set_iterator" "__iter__" "set_iterator.__iter__":=.of (owner:="set_iterator") (n:="__iter__") (by rw[Ϻ,Ϧ];kernel_rfl) (by decide +kernel) (by decide +kernel) (by decide +kernel) (by first|exact .h8 (by decide +kernel)|exact .j' (by decide +kernel)) (by rw[Ŏ];kernel_rfl)
end SI
open PySem PySem.Spec PyProof.Rows
end L2
namespace D
open PySem L2
section
variable(l:fh)(nT:tP e5)(n:dt)(k:eW)(u:Z8)(dd:fG fh)(sl:tP (fG e5))
theorem y7p(h1:¬(k < -(2^63)||k>=2^63)=true)(h2:¬(nT.yw||k==1)=true)(h3:¬(k<=0||nT.yw)=true)(h4:¬nT.eG*k>(2^63-1) / 8)(h5:¬oq.JJ.zdS (nT.eG*k)=true)(h6:(L.t_ (λx1 x2=>x1++x2) #[] (L.oS k.oR nT)).eG<=pg):
  _s (oq.«tuple.__mul__» ⟨[.ei l,.d0 k u],[]⟩) (λ_ R s=>s.d_.f6 l=O {ie:=.hJ "tuple", qZ:=dd,lg:=.mx nT n,zx:=sl}/\R (.ok (.yr (e5.ei s.d_.e6.eG))) {s with d_:=s.d_.nV {ie:=e5.hJ "tuple", lg:=_B.mx (L.t_ (λx1 x2=>x1++x2) #[] (L.oS k.oR nT))}}):=
 ._K λg_ w A R s h=>by
  let⟨hp,g,d,tk,os⟩:=s;let⟨hl,h⟩:=h
  wp_walk
  refine ð (λz=>nS z h1) λ_=>?_
  wp_walk
  refine ð (λz=>nS z h4) λ_=>?_
  wp_walk
  exact⟨_,rfl,h⟩
theorem y7q(h1:¬(k < -(2^63)||k>=2^63)=true)(h2:¬(nT.yw||k==1)=true)(h3:(k<=0||nT.yw)=true):
  _s (oq.«tuple.__mul__» ⟨[.ei l,.d0 k u],[]⟩) (λ_ R s=>s.d_.f6 l=O {ie:=.hJ "tuple", qZ:=dd,lg:=.mx nT n,zx:=sl}/\R (.ok (.yr (e5.ei s.d_.e6.eG))) {s with d_:=s.d_.nV {ie:=e5.hJ "tuple", lg:=_B.mx #[]}}):=
 ._K λg_ w A R s h=>by
  let⟨hp,g,d,tk,os⟩:=s;let⟨hl,h⟩:=h
  wp_walk
  refine ð (λz=>nS z h1) λ_=>?_
  wp_walk
  exact⟨_,rfl,h⟩
theorem y7r(h1:¬(k < -(2^63)||k>=2^63)=true)(h2:(nT.yw||k==1)=true):
  _s (oq.«tuple.__mul__» ⟨[.ei l,.d0 k u],[]⟩) (λ_ R s=>s.d_.f6 l=O {ie:=.hJ "tuple", qZ:=dd,lg:=.mx nT n,zx:=sl}/\R (.ok (.yr (e5.ei l))) s):=
 ._K λg_ w A R s h=>by
  let⟨hp,g,d,tk,os⟩:=s;let⟨hl,h⟩:=h
  wp_walk
  refine ð (λz=>nS z h1) λ_=>?_
  wp_walk
  exact⟨_,rfl,h⟩
theorem y3b:_s (oq.«int.__rmul__» ⟨[.d0 k u,.ei l],[]⟩) (λ_ R s=>s.d_.f6 l=O {ie:=.hJ "tuple", qZ:=dd,lg:=.mx nT n,zx:=sl}/\R (.ok (.yr e5.notImplemented)) s):=
 ._K λg_ w A R s h=>by let⟨hp,g,d,tk,os⟩:=s;let⟨hl,h⟩:=h;wp_walk;exact⟨_,rfl,h⟩
end
variable{X:Cx}{dA:gF (L W)}{e:l_}{p:qY}{Z:Zt}
theorem zbc:fillsNumberSlot (.hJ "tuple") "mul"=pR false:=
 fillsNumberSlot_seq (id:="tuple.__mul__") (r:=O (.rn "tuple.__rmul__")) kd.F.ê.fI (by decide +kernel) kd.F.zdE.fI (by decide +kernel)
def zbd:seqRepeat? (.hJ "tuple")=pR (O (.rn "tuple.__mul__")):=by
 unfold seqRepeat?;rw[seqSlot_of (T:="tuple") (name:="__mul__") (id:="tuple.__mul__") kd.F.ê.fI (by decide +kernel),seqSlot_of (T:="tuple") (name:="__rmul__") (id:="tuple.__rmul__") kd.F.zdE.fI (by decide +kernel)];rfl
def xV(K:Fg):R2:=λx y H Q=>∃l k xs,x=.ei l/\y=.d0 k/\c6 K H l xs/\xs≠[]/\-(2^63)<=k/\k<2^63/\xs.J*k.oR<=pg /\
 (k=1->Q (.ei l) H)/\(k≠1->∀p,H p=none->Q (.ei p) (l5 H p (.ff (L.oS k.oR xs).Yt)))
def Px(aC:L e5)(m:dt):L.t_ (λx1 x2=>x1++x2) #[] (L.oS m aC.ky)=(L.oS m aC).Yt.ky:=by
 have:=Qc aC m [];rw[w1t]at this;exact this
def z3p:fM X (Zb .ν) (xV X.K):=by
 intro eS s σ H x y v u Q I rx ry h;let⟨l,k,xs,rfl,rfl,hH,fY,h1,h2,hz,q1,q2⟩:=h;cases rx;let⟨t,rfl⟩:=ry;let⟨aC,r,p1,_⟩:=I.zb hH;let⟨⟨ie,dd,lg,sl⟩,ho,hc,n,hd⟩:=id p1;simp only at hc hd;subst hc hd;have hl:=r.J;have yO:¬(k < -(2^63)||k>=2^63)=true:=by simp;omega
 have zff:aC.ky.yw=false:=by
  grind
 have top:∀{Q':e5->kx->Prop},(kX (mG X.g_ X.w) X.A (zN (.rn "tuple.__mul__") [.ei l,.d0 k t]) Q' X.xe s)->kX (mG X.g_ X.w) X.A (Zb .ν (.ei l) (.d0 k t)) Q' X.xe s:=λ{Q'} hq=>by
  refine wpAny_binaryOp_repeat_ref (T:="tuple") (U:="int") (by decide) ⟨_,ho,rfl⟩ (λs'=>Ų s' k t) zbc kd.F.fills_int_mul kd.F.zdx zbd kd.F.slot_int_index.fI
   (kd._b kd.F.zdx (Ų s k t) kd.F.entry_int_rmul (kd.F.args_int_rmul_2 _ _) (y3b l aC.ky n k t dd sl) ⟨ho,rfl,⟨_,ho,rfl⟩,hq⟩)
 by_cases tE:k=1
 .subst tE;exact top (kd._b kd.F.ê ⟨_,ho,rfl⟩ kd.F.Ń (kd.F.ĵ _ _) (y7r l aC.ky n 1 t dd sl yO (by simp)) ⟨ho,.ei l,H,I,rfl,q1 rfl⟩)
 .have E4:¬(aC.ky.yw||k==1)=true:=by grind
  have fr:=I.aR.u3 (w0d s.d_.e6.eG)
  by_cases V2:k<=0
  .refine top (kd._b kd.F.ê ⟨_,ho,rfl⟩ kd.F.Ń (kd.F.ĵ _ _) (y7q l aC.ky n k t dd sl yO E4 (by simp[V2])) ⟨ho,?_⟩);have e:k.oR=0:=by omega
   have z:=q2 tE _ fr;rw[e]at z;exact⟨.ei s.d_.e6.eG,_,I.wg (t':=s.nW) (λb o e=>fH.q_ _ e) (w0d _) (show bh X.g_ X.w _ _ _ (.ff (L.oS 0 xs).Yt)from⟨w1k _,[],.m8,uD.ri.YY.rZ _ _,_,fH.vM _ rfl,rfl⟩),rfl,z⟩
  .have vd:aC.J*k.oR<=pg:=by rw[<- hl];exact hz
   have xj:((aC.ky.eG:dt):eW)*k=((aC.J*k.oR:dt):eW):=by
    grind
   have sl8:(pg:eW)<=(2^63-1) / 8:=by decide
   have hfl:(L.oS k.oR aC).Yt.J=k.oR*aC.J:=RD ..;refine top (kd._b kd.F.ê ⟨_,ho,rfl⟩ kd.F.Ń (kd.F.ĵ _ _) (y7p l aC.ky n k t dd sl yO E4 (by grind) (by rw[xj];omega) (by rw[xj];unfold oq.JJ.zdS;grind) (by grind [Px])) ⟨ho,?_⟩);rw[Px];exact⟨.ei s.d_.e6.eG,_,I.wg (t':=s.nW) (λb o e=>fH.q_ _ e) (w0d _) (show bh X.g_ X.w _ _ _ (.ff (L.oS k.oR xs).Yt)from⟨by grind [RD],_,r.rep k.oR,uD.ri.YY.rZ _ _,_,fH.vM _ rfl,rfl⟩),rfl,q2 tE _ fr⟩
def rF:W->W->fG W
 |.ff ws,.d0 k=>if A8 k=true/\ws≠[]/\ws.J*k.oR<=16777216 then O (.ff (L.oS k.oR ws).Yt)else none
 |_,_=>none
def z3q:iq K (xV K) rF:=by
 intro G H x y wx wy w Q s px py hf h;unfold rF at hf;split at hf
 .rename_i ws k;split at hf
  .rename_i hc;cases hf;cases(show y=V.d0 k from py);let⟨l,xs,rfl,hq,rp⟩:=px;have hb:=wb hc.1;refine⟨l,k,xs,rfl,rfl,s.ff hq,λz=>hc.2.1 (by subst z;exact w4b.mp rp.J.symm),by omega,by omega,by rw[vN,rp.J];exact hc.2.2,λhk=>?_,λhk p hp=>?_⟩
   .subst hk;have e:(L.oS (1:eW).oR ws).Yt=ws:=by simp
    rw[e]at h;exact h G _ H (.oQ s) ⟨l,xs,rfl,hq,rp⟩
   .have g:bc G H (l5 G p (.ff (L.oS k.oR xs).Yt)) (l5 H p (.ff (L.oS k.oR xs).Yt)):=bc.wg s hp _;exact h _ _ _ g ⟨p,_,rfl,c6.of cI,aq.ll g.gg _ (QS rp _)⟩
  .cases hf
 .cases hf
theorem z3r{Z:Zt}(ha:DE Z X EE a da)(hb:DE Z X EE b db):DE Z X EE (._q a .ν b fZ) (ag rF da db):=xQ z3p z3q ha hb
def xT(K:Fg):R2:=λx y H Q=>∃a b ys,x=.ei a/\y=.ei b/\c6 K H a []/\c6 K H b ys/\Q (.ei b) H
open PyProof.Rows in
def zd0:fM X (Zb .Add) (xT X.K):=by
 intro eS s σ H x y v u Q I rx ry h;let⟨a,b,ys,rfl,rfl,ha,hb,q⟩:=h;cases rx;cases ry;let⟨aC,r1,p1,_⟩:=I.zb ha;let⟨fg,r2,p2,_⟩:=I.zb hb;cases r1;let⟨⟨ie,dd,lg,sl⟩,ho,hc,n,hd⟩:=id p1;let⟨⟨BY,xa,data2,Bz⟩,nO,eC,n2,Yg⟩:=id p2;simp only at hc hd eC Yg;subst hc hd eC Yg;exact ā ⟨_,ho,rfl⟩ ⟨_,nO,rfl⟩ ŕ ţ kd.F.ŧ kd.F.ł (kd.F.Ĵ _ _) (tuple_addW0 a b _ _ n n2 dd xa sl Bz rfl) ⟨ho,nO,.ei b,H,I,rfl,q⟩
def a_:W->W->fG W
 |.ff xs,.ff ys=>if xs.J+ys.J<=16777216 then O (.ff (xs++ys))else none
 |x,y=>ο x y
theorem z3s:a_ (.ff xs) (.ff ys)=if xs.J+ys.J<=16777216 then O (.ff (xs++ys))else none:=rfl
theorem z3t:a_ (.d0 i) (.d0 j)=O (.d0 (i+j)):=rfl
theorem z3u:a_ (.fy xs) (.fy ys)=if xs.J+ys.J<=16777216 then O (.fy (xs++ys))else none:=rfl
theorem z3v:a_ (.str x) (.str y)=if x.J+y.J<=16777216 then O (.str (x++y))else none:=rfl
def z3w{K:Fg}:iq K (λx y H Q=>xT K x y H Q\/(o_ (λi j=>.d0 (i+j)) x y H Q\/((∃i j,x=.str i/\y=.str j/\i.J+j.J<=pg/\Q (.str (i++j)) H)\/(um K x y H Q\/uk K x y H Q)))) a_:=by
 intro G H x y wx wy w Q s px py hf h;unfold a_ at hf;split at hf
 .rename_i xs ys;split at hf
  .rename_i hl
   by_cases h0:xs=[]
   .subst h0;cases hf;let⟨a,vs,rfl,hq,rp⟩:=px;let⟨b,us,rfl,Fb,uw⟩:=py;cases(show vs=[]from rp);exact .h8 ⟨a,b,us,rfl,rfl,s.ff hq,s.ff Fb,h G _ H (.oQ s) ⟨b,us,rfl,Fb,uw⟩⟩
   .exact .j' (So G H x y (.ff xs) (.ff ys) w Q s px py (by show(if xs≠[]/\xs.J+ys.J<=16777216 then O (W.ff (xs++ys))else none)=O w;rw[gE ⟨h0,hl⟩];exact hf) h)
  .cases hf
 .exact .j' (So G H x y _ _ w Q s px py hf h)
theorem z3x{Z:Zt}(ha:DE Z X EE a da)(hb:DE Z X EE b db):DE Z X EE (._q a .Add b fZ) (ag a_ da db):=xQ (zd0.or (zeD.or (zc_.or (zd1.or z1q)))) z3w ha hb
open PySem L2 PySem.Spec PyProof.Rows
end D
namespace L2
open PySem PySem.Spec PyProof.Rows
section
variable{κ:Type} [θ κ]
def fq(kvs:L (κ×V))(k:κ):fG V:=(kvs.Ć λkv=>decide (kv.1=k)).ej (·.2)
def Yo(kvs:L (κ×V))(k:κ)(v:V):L (κ×V):=
 if(kvs.pX λkv=>decide (kv.1=k))=true then kvs.ej (λkv=>if kv.1=k then(kv.1,v)else kv)else kvs++[(k,v)]
def Bj{k:κ}(e:p.1=k):fq (p::r) k=O p.2:=by simp[fq,w3c,e]
def Bk{k:κ}(e:¬p.1=k):fq (p::r) k=fq r k:=by simp[fq,w3c,e]
theorem Mg(k):∀kvs:L (κ×V),(kvs.pX λkv=>decide (kv.1=k))=(fq kvs k).sG
 |[]=>rfl
 |p::r=>by
  rw[w4a]
  by_cases e:p.1=k
  .simp_all [Bj]
  .rw[Bk e,_e e,fJ.false_or];exact Mg k r
def OW(kvs)(k:κ)(v):(Yo kvs k v).J<=kvs.J+1:=by
 grind [Yo]
def y7s{k:κ}(v)(h:fq kvs k=none):Yo kvs k v=kvs++[(k,v)]:=by
 simp_all [Yo,Mg]
def kU.dX(r:kU o u):o.sG=u.sG:=by
 cases o with
 |none=>cases u with
  |none=>rfl
  |O _=>exact(show pV from r).ke
 |O _=>cases u with
  |none=>exact(show pV from r).ke
  |O _=>rfl
def KV.tN(r:KV kvs vs)(k:κ):kU (fq kvs k) (î vs k):=by
 unfold KV at r
 induction r with
 |m8=>exact w7.intro
 | @m6 p q ps qs h t ih=>
  let⟨h1,h2⟩:=h
  by_cases e:p.1=k
  .have e':q.1=k:=h1.symm.iD e;have b:î (q::qs) k=O q.2:=by simp[î,w3c,e']
   rw[Bj e,b];exact h2
  simp_all [î,Bk]
def KV.pX(r:KV kvs vs)(k:κ):(kvs.pX λkv=>decide (kv.1=k))=vs.pX λkv=>decide (kv.1=k):=by
 unfold KV at r
 induction r with
 |m8=>rfl
 |m6 h t ih=>rw[w4a,w4a,ih,h.1]
def KV.Am(r:KV kvs vs)(k:κ)(ry:ot y u):
  KV (kvs.ej λkv=>if kv.1=k then(kv.1,y)else kv) (vs.ej λkv=>if kv.1=k then(kv.1,u)else kv):=by
 unfold KV at r |-
 induction r with
 |m8=>exact .m8
 | @m6 p q ps qs h t ih=>
  rw[w0j,w0j];refine .m6 ?_ ih
  grind
def KV.put(r:KV kvs vs)(k:κ)(ry:ot y u):KV (Yo kvs k y) (ũ vs k u):=by
 unfold Yo ũ;rw[r.pX k]
 by_cases e:(vs.pX λkv=>decide (kv.1=k))=true
 .rw[gE e,gE e];exact r.Am k ry
 .rw[kl e,kl e];exact YZ.Ϗ r ⟨rfl,ry⟩
def KV.wz{kvs:L (κ×V)}{vs:L (κ×e5)}(r:KV kvs vs):kvs.ej (·.1)=vs.ej (·.1):=by
 unfold KV at r
 induction r with
 |m8=>rfl
 |m6 h t ih=>grind
theorem KV.J{kvs:L (κ×V)}{vs:L (κ×e5)}(r:KV kvs vs):kvs.J=vs.J:=YZ.J r
end
variable{a b:fh}{H:Hp}{bC:L fh}{sh:Sh}{σ:St}{u:e5}
def EF{P:qM}{w:pT}{k:wB}(r:ot (kV k) u):(cU P w).is k u=true:=by
 cases k with
 |h8 i=>let⟨t,e⟩:=(show ∃t,u=e5.d0 i t from r);subst e;exact Y2 P w i t
 |j' x=>let⟨t,e⟩:=(show ∃t,u=e5.str x t from r);subst e;exact Y3 P w x t
abbrev KT(sh:Sh)(H:Hp):L (Kx×V)->L (Kx×fh×e5)->Prop:=YZ λp q=>p.1=q.1/\(cx H p.1 (.ei q.2.1)/\eX p.1 sh/\p.1.oY<=7)/\ot p.2 q.2.2
def KT.tN(r:KT sh H kvs xs)(k):kU (fq kvs k) ((Α xs k).ej (·.2)):=by
 induction r with
 |m8=>exact w7.intro
 | @m6 p q ps qs h t ih=>
  let⟨h1,_,h2⟩:=h
  by_cases e:p.1=k
  .have e':q.1=k:=h1.symm.iD e;have b:Α (q::qs) k=O q.2:=by simp[Α,w3c,e']
   rw[Bj e,b];exact h2
  simp_all [Α,Bk]
def KT.Am{kvs:L (Kx×V)}{xs:L (Kx×fh×e5)}(r:KT sh H kvs xs)(k:Kx){y:V}(ry:ot y u):
  KT sh H (kvs.ej λkv=>if kv.1=k then(kv.1,y)else kv) (xs.ej (Ĕ k u)):=by
 induction r with
 |m8=>exact .m8
 | @m6 p q ps qs h t ih=>
  rw[w0j,w0j];refine .m6 ?_ ih;let⟨h1,h2,h3⟩:=h;unfold Ĕ
  by_cases e:p.1=k
  .rw[gE e,gE (h1.symm.iD e)];exact⟨h1,h2,ry⟩
  .rw[kl e,kl (λz=>e (h1.iD z))];exact⟨h1,h2,h3⟩
def KT.put(r:KT sh H kvs xs)(k)(hb:cx H k (.ei b)/\eX k sh/\k.oY<=7)(ry:ot y u):
  KT sh H (Yo kvs k y) (ĝ xs k b u):=by
 have e:(kvs.pX λkv=>decide (kv.1=k))=(Α xs k).sG:=by
  rw[Mg,(r.tN k).dX,w2m]
 unfold Yo ĝ;rw[e]
 by_cases q:(Α xs k).sG=true
 .rw[gE q,gE q];exact r.Am k ry
 simp_all [YZ.Ϗ]
def iJ(kvs:L (Kx×V))(bC:L fh)(k:Kx)(b:fh):L fh:=if(fq kvs k).sG=true then bC else bC++[b]
def KT.iJ{kvs:L (Kx×V)}{xs:L (Kx×fh×e5)}(r:KT sh H kvs xs)(ka:xs.ej (·.2.1)=bC)(k:Kx):(ĝ xs k b u).ej (·.2.1)=L2.iJ kvs bC k b:=by
 unfold ĝ L2.iJ;rw[(r.tN k).dX,w2m]
 by_cases q:(Α xs k).sG=true
 .rw[gE q,gE q,w1f,<- ka];refine w1y λx _=>?_
  show(Ĕ k u x).2.1=x.2.1;unfold Ĕ;split<;>rfl
 .rw[kl q,kl q,w0m,ka];rfl
theorem KT.AN(r:KT sh H kvs xs)(ht:∀b u,gq u->H b=O u->H' b=O u):KT sh H' kvs xs:=
 YZ.zE r λ_ _ z=>⟨z.1,⟨cx.AN ht _ z.2.1.1,z.2.1.2⟩,z.2.2⟩
section
variable{P:qM}{w:pT}{h:fH}
theorem Tz{u:L2.HO}(ok:dD P w H h)(e:Rd H a u):bh P w H h a u:=e.ok ok
theorem EG(ok:dD P w H h)(e:Rd H a (.dK kvs)):kvs.J<=pg/\(a==ZZ)=false/\∃vs,KV kvs vs/\h.Ϛ (cU P w) a vs:=
 show bh P w H h a (.dK kvs)from Tz ok e
theorem Hn(ok:dD P w H h)(e:H a=O (.dK kvs)):kvs.J<=pg/\(a==ZZ)=false/\∃vs,KV kvs vs/\h.Ϛ (cU P w) a vs:=EG ok (.h8 e)
def YY.mx{aC:L e5}(p:YY h a aC.ky):∃o n,h.f6 a=O o/\o.ie=.hJ "tuple" /\ o.lg=.mx aC.ky n:=by
 let⟨o,h1,h2,n,h3⟩:=p;exact⟨o,n,h1,h2,h3⟩
mutual
theorem cx.is(ok:dD P w H h):∀(k:Kx){x:V}{v:Value},cx H k x->RelV x v->qD h k v
 |.aH,x,v,e,r=>by cases(show x=.aH from e);exact r
 |.bl b,x,v,e,r=>by cases(show x=.bl b from e);exact r
 |.int b,x,v,e,r=>by cases(show x=.int b from e);exact r
 |.str b,x,v,e,r=>by cases(show x=.str b from e);exact r
 |.tup ks,x,v,e,r=>by
  let⟨a,xs,rfl,q,rs⟩:=e;cases(show v=Value.ref a from r);let⟨_,aC,rv,p,_⟩:=(show bh P w H h a (.tup xs)from Rd.ok q ok);let⟨o,n,h1,h2,h3⟩:=IsTup.seq p;exact⟨a,o,aC.toArray,n,rfl,h1,h2,h3,by simpa using fu.are ok ks rs rv⟩
theorem fu.are(ok:dD P w H h):∀(ks:List Kx){xs:List V}{vs:List Value},fu H ks xs->Vals xs vs->ik h ks vs
 |[],xs,vs,e,r=>by
  cases(show xs=[]from e);cases r;rfl
 |k::ks,xs,vs,e,r=>by
  let⟨x,r0,rfl,h1,h2⟩:=e;cases r with
  |cons q t=>exact⟨_,_,rfl,cx.is ok k h1 q,fu.are ok ks h2 t⟩
end
theorem Bt(ok:dD P w H h)(e:cx H k (.ei a)/\eX k sh/\k.oY<=7):(d9 P w sh).is h k a:=⟨cx.is ok k e.1 rfl,e.2⟩
def EH{kvs:L (Kx×V)}(ok:dD P w H h)(e:Rd H a (.dT sh kvs bC)):kvs.J<=pg/\(a==ZZ)=false /\
  ∃xs,KT sh H kvs xs/\xs.ej (·.2.1)=bC/\h.DictOfH (d9 P w sh) a xs:=by
 let⟨z,y,xs,r,ka,o,es,ep,h1,h2,h3,h4,h5⟩:=(show bh P w H h a (.dT sh kvs bC)from Tz ok e);refine⟨z,y,xs,r,ka,o,es,ep,h1,h2,h3,h4,λx hx=>?_,h5⟩
 have oP:∀{l:L (Kx×V)}{m:L (Kx×fh×e5)},KT sh H l m->∀x∈m,(d9 P w sh).is h x.1 x.2.1:=by
  intro l m q
  induction q with
  |m8=>intro x hx;exact nomatch hx
  | @m6 p q ps qs hq t ih=>
   intro x hx;rcases w0h.mp hx with e|hx
   .subst e;exact Bt ok (by rw[<- hq.1];exact hq.2.1)
   .exact ih x hx
 exact oP r x hx
theorem TB(ok:dD P w H h)(e:H a=O (.dT sh kvs bC)):kvs.J<=pg/\(a==ZZ)=false /\
  ∃xs,KT sh H kvs xs/\xs.ej (·.2.1)=bC/\h.DictOfH (d9 P w sh) a xs:=EH ok (.h8 e)
end
def eK(H:Hp)(a:fh)(y:V)(r:fG V):Prop:=
 (∃kvs k,Rd H a (.dK kvs)/\y=kV k/\r=fq kvs k)\/∃sh kvs bC k b,Rd H a (.dT sh kvs bC)/\y=.ei b/\(cx H k (.ei b)/\eX k sh/\k.oY<=7)/\r=fq kvs k
def mJ(H:Hp)(a:fh)(y v:V)(H':Hp):Prop:=
 (∃kvs k,H a=O (.dK kvs)/\y=kV k/\kvs.J<pg/\H'=l5 H a (.dK (Yo kvs k v))) \/
 ∃sh kvs bC k b,H a=O (.dT sh kvs bC)/\y=.ei b/\(cx H k (.ei b)/\eX k sh/\k.oY<=7)/\kvs.J<pg/\H'=l5 H a (.dT sh (Yo kvs k v) (iJ kvs bC k b))
theorem eK.k{kvs:L (wB×V)}{k:wB}(e:H a=O (.dK kvs)):eK H a (kV k) (fq kvs k):=.h8 ⟨kvs,k,.h8 e,rfl,rfl⟩
theorem eK.t{kvs:L (Kx×V)}{k:Kx}(e:Rd H a (.dT sh kvs bC))(eb:cx H k (.ei b)/\eX k sh/\k.oY<=7):eK H a (.ei b) (fq kvs k):=.j' ⟨sh,kvs,bC,k,b,e,rfl,eb,rfl⟩
theorem mJ.k{kvs:L (wB×V)}{k:wB}{v:V}(e:H a=O (.dK kvs))(hl:kvs.J<pg):mJ H a (kV k) v (l5 H a (.dK (Yo kvs k v))):=.h8 ⟨kvs,k,e,rfl,hl,rfl⟩
theorem mJ.t{kvs:L (Kx×V)}{k:Kx}{v:V}(e:H a=O (.dT sh kvs bC))(eb:cx H k (.ei b)/\eX k sh/\k.oY<=7)(hl:kvs.J<pg):
  mJ H a (.ei b) v (l5 H a (.dT sh (Yo kvs k v) (iJ kvs bC k b))):=.j' ⟨sh,kvs,bC,k,b,e,rfl,eb,hl,rfl⟩
def g8.big(I:g8 X eS σ H s):ZZ<s.d_.e6.eG:=by
 have h:EO<s.d_.e6.eG:=(I.yl.YT.AN I.bk).lt;exact w6q (by decide) h
def Gn{A:tf}(hu:A.r7+20<r_):(d9 P w sh).room A.Nx:=by
 show A.Nx.r7+8<r_
 grind
def y3c(hu:A.r7+20<r_)(I:g8 X eS σ H s)(g:eK H a y (O v))(ry:ot y u)(h:∀w' s',g8 X eS σ H s'->ot v w'->Q w' s'):
  kX (mG X.g_ X.w) A (_w (.ei a) u) Q E s:=by
 rcases g with⟨kvs,k,e,ey,l⟩|⟨sh,kvs,bC,k,b,e,ey,eb,l⟩
 .subst ey;let⟨z,hd,vs,iA,dd⟩:=EG I.aR e;let⟨w',hw,wo⟩:=kU.Ũ (v:=v) (o:=î vs k) (by rw[l];exact iA.tN k);exact zeg (EF ry) dd.mapOf hw (h w' _ (I.wY _) wo)
 .subst ey;cases(show u=e5.ei b from ry);let⟨z,hd,xs,iA,_,dd⟩:=EH I.aR e;let⟨w',hw,wo⟩:=kU.Ũ (v:=v) (o:=(Α xs k).ej (·.2)) (by rw[l];exact iA.tN k);let⟨p,hp,IZ⟩:=w0p.mp hw;refine wpAny_getItem_heap (Gn hu) (Bt I.aR eb) dd hp ?_;rw[IZ];exact h w' _ (I.wY _) wo
def HK(hu:A.r7+20<r_)(I:g8 X eS σ H s)(g:eK H a y o)(ry:ot y u)(h:∀s',g8 X eS σ H s'->Q (.rl o.sG) s'):
  kX (mG X.g_ X.w) A (YO .In u (.ei a)) Q E s:=by
 rcases g with⟨kvs,k,e,ey,l⟩|⟨sh,kvs,bC,k,b,e,ey,eb,l⟩
 .subst ey;let⟨z,hd,vs,iA,dd⟩:=EG I.aR e;refine wpAny_in_of (EF ry) hd dd.mapOf ?_;rw[<- (iA.tN k).dX,<- l];exact h _ (I.wY _)
 .subst ey;cases(show u=e5.ei b from ry);let⟨z,hd,xs,iA,_,dd⟩:=EH I.aR e;refine wpAny_in_heap (Gn hu) (Bt I.aR eb) hd dd ?_;have q:=(iA.tN k).dX;rw[w2m]at q;rw[<- q,<- l];exact h _ (I.wY _)
def z3y(hu:A.r7+20<r_)(I:g8 X eS σ H s)(g:eK H a y o)(ry:ot y u)(h:∀s',g8 X eS σ H s'->Q (.rl (!o.sG)) s'):
  kX (mG X.g_ X.w) A (YO .Z7 u (.ei a)) Q E s:=by
 rcases g with⟨kvs,k,e,ey,l⟩|⟨sh,kvs,bC,k,b,e,ey,eb,l⟩
 .subst ey;let⟨z,hd,vs,iA,dd⟩:=EG I.aR e;refine wpAny_notIn_of (EF ry) hd dd.mapOf ?_;rw[<- (iA.tN k).dX,<- l];exact h _ (I.wY _)
 .subst ey;cases(show u=e5.ei b from ry);let⟨z,hd,xs,iA,_,dd⟩:=EH I.aR e;refine wpAny_notIn_heap (Gn hu) (Bt I.aR eb) hd dd ?_;have q:=(iA.tN k).dX;rw[w2m]at q;rw[<- q,<- l];exact h _ (I.wY _)
theorem DL(I:g8 X eS σ H s)(mu:BO (H a))(hs:fH.Zq a s.d_ h')(he:∃q,h'.f6 a=O q)(rZ:bh X.g_ X.w (l5 H a ob) h' a ob):
  g8 X eS σ (l5 H a ob) {s with d_:=h',nW:=t'}:=
 I._Q (x:=a) (e:=a) mu (.h8 rfl) (λb q hb z=>(hs.2 b hb).iD z) he rZ
theorem M0(z:kvs.J<=pg)(hd:(a==ZZ)=false)(iA:KV kvs vs)(dd:h'.Ϛ (cU P w) a vs):
  bh P w H' h' a (.dK kvs):=⟨z,hd,vs,iA,dd⟩
def y3d(hu:A.r7+20<r_)(I:g8 X eS σ H s)(g:mJ H a y v H')(ry:ot y u)(rv:ot v r)(h:∀s',g8 X eS σ H' s'->Q () s'):
  kX (mG X.g_ X.w) A (Ė (.ei a) u r) Q E s:=by
 rcases g with⟨kvs,k,e,ey,l,eH⟩|⟨sh,kvs,bC,k,b,e,ey,eb,l,eH⟩
 .subst ey eH;let⟨z,hd,vs,iA,dd⟩:=Hn I.aR e;have hz:vs.J<=pg:=by grind [KV.J]
  have hl:(Yo kvs k v).J<=pg:=by grind [OW]
  refine wpAny_setItem_pairs (hsz:=hz) (EF ry) dd λh' pI hs=>h _ ?_
  have he:∃q,h'.f6 a=O q:=let ⟨q,_,_,hq,_⟩:=pI;⟨q,hq⟩;exact DL I (by rw[e];exact w7.intro) hs he (M0 hl hd (iA.put k rv) pI)
 .subst ey eH;cases(show u=e5.ei b from ry);let⟨z,hd,xs,iA,ka,dd⟩:=TB I.aR e;have hz:xs.J<=pg:=by grind [YZ.J]
  have hl:(Yo kvs k v).J<=pg:=by grind [OW]
  refine wpAny_setItem_heap (hsz:=hz) (Gn hu) (Bt I.aR eb) dd λh' pI hs=>h _ ?_
  let⟨q,es,ep,hq,h2,h3,h4,_,h5⟩:=pI;refine DL I (by rw[e];exact w7.intro) hs ⟨q,hq⟩ ⟨hl,hd,_,(iA.put k eb rv).AN λc u ys ec=>?_,iA.iJ ka k,q,es,ep,hq,h2,h3,h4,h5⟩
  rw[bg (qr ec e (λz=>by subst z;exact ys))]
  exact ec
def sI(i:l_):Prop:=∀ov iv,Ģ i false ov iv=ř [ov,iv] (_w ov iv)
def z3z{id:ET}
  (hl:Ϲ (.hJ T) "__getitem__"=pR (O (.rn id)))(hs:sI Ye)
  (h:kX (mG g_ w) A (eval YW el) (λo aM=>kX (mG g_ w) A (eval Ye el) (λi nI=>nI.Zf o T/\kX (mG g_ w) A (_w o i) Q E nI) E aM) E s):
  kX (mG g_ w) A (eval (.Hz YW Ye fZ) el) Q E s:=by
 refine İ (YX h (λo aM dU=>YX dU (λi nI zm=>?_) λ_ _ x=>x) λ_ _ x=>x)
 let⟨hT,zm⟩:=zm;unfold ŭ;refine i6 ?_;rw[getitemInPython_of_ne hT.not_modules];refine i6 (Å hT hl ?_)
 have vR:kX (mG g_ w) A (Ģ Ye false o i) (λr Ef=>kX (mG g_ w) A (letTemporaryGo YW o r >>= λ_=>pR r) Q E Ef) E nI:=by
  rw[hs o i];exact wpAny_operating (YX zm (λr Ef Jh=>i6 (wpAny_letTemporaryGo (oo Jh))) λ_ _ x=>x)
 grind [oo,i6]
def Y7(I:g8 X eS σ H s)(g:eK H a y o):s.Zf (.ei a) "dict":=by
 rcases g with⟨kvs,k,e,_,_⟩|⟨sh,kvs,bC,k,b,e,_,_,_⟩
 .let⟨_,_,vs,_,dd⟩:=EG I.aR e;exact dd.Ya
 .let⟨_,_,xs,_,_,dd⟩:=EH I.aR e;exact dd.Ya
def Ei(td ty:TE):TE:=λσ H Q=>td σ H λx H1=>ty σ H1 λy H2=>∃a v,x=.ei a/\eK H2 a y (O v)/\Q v H2
def LW(ty td:TE):TE:=λσ H Q=>ty σ H λy H1=>td σ H1 λx H2=>∃a o,x=.ei a/\eK H2 a y o/\Q (.bl o.sG) H2
def zd7(ty td:TE):TE:=λσ H Q=>ty σ H λy H1=>td σ H1 λx H2=>∃a o,x=.ei a/\eK H2 a y o/\Q (.bl (!o.sG)) H2
def D'(td ty tv:TE):TS:=λD σ H=>tv σ H λv H1=>td σ H1 λx H2=>ty σ H2 λy H3=>∃a H4,x=.ei a/\mJ H3 a y v H4/\D.nx σ H4
def ME(hu:X.A.r7+20<r_)(ho:PE X o td)(hi:PE X i ty)(hs:sI i):PE X (.Hz o i fZ) (Ei td ty):=by
 intro eS s σ H Q I h;refine z3z kd.F.Ŧ.fI hs (bw (ho eS s σ H _ I h) λu s1 ⟨x,H1,I1,rx,q1⟩=>bw (hi eS s1 σ H1 _ I1 q1) λiv s2 ⟨y,H2,I2,ry,a,v,ex,g,q2⟩=>?_)
 subst ex;obtain rfl:u=e5.ei a:=rx;exact⟨Y7 I2 g,y3c hu I2 g ry λw' s3 I3 wo=>⟨v,H2,I3,wo,q2⟩⟩
def SS(hu:X.A.r7+20<r_)(hi:PE X i ty)(ho:PE X o td):PC X .In i o (LW ty td):=by
 intro eS s σ H Q I h;refine bw (hi eS s σ H _ I h) λiv s1 ⟨y,H1,I1,ry,q1⟩=>bw (ho eS s1 σ H1 _ I1 q1) λu s2 ⟨x,H2,I2,rx,a,ov,ex,g,q2⟩=>?_
 subst ex;obtain rfl:u=e5.ei a:=rx;exact HK hu I2 g ry λs3 I3=>⟨.bl ov.sG,H2,I3,rfl,q2⟩
def y3f(hu:X.A.r7+20<r_)(hi:PE X i ty)(ho:PE X o td):PC X .Z7 i o (zd7 ty td):=by
 intro eS s σ H Q I h;refine bw (hi eS s σ H _ I h) λiv s1 ⟨y,H1,I1,ry,q1⟩=>bw (ho eS s1 σ H1 _ I1 q1) λu s2 ⟨x,H2,I2,rx,a,ov,ex,g,q2⟩=>?_
 subst ex;obtain rfl:u=e5.ei a:=rx;exact z3y hu I2 g ry λs3 I3=>⟨.bl (!ov.sG),H2,I3,rfl,q2⟩
def RO(hu:X.A.r7+20<r_)(ho:PE X o td)(hi:PE X i ty)(hv:PE X YW tv)(hs:Yh YW (O (.Hz o i AO)) fZ.y' X.el=pR false):
  PS X (.Yz [.Hz o i AO] YW fZ) (D' td ty tv):=by
 intro eS s σ H D I h;refine wpAny_Assign_Subscript (bw (hv eS s σ H _ I h) λr s1 ⟨v,H1,I1,rv,q1⟩=>bw (ho eS s1 σ H1 _ I1 q1) λu s2 ⟨x,H2,I2,rx,q2⟩=>bw (hi eS s2 σ H2 _ I2 q2) λiv s3 ⟨y,H3,I3,ry,a,H4,ex,g,q3⟩=>?_) hs
 subst ex;obtain rfl:u=e5.ei a:=rx;exact y3d hu I3 g ry rv λs4 I4=>⟨σ,H4,I4,q3⟩
theorem y7t(h:fH)(hb:ZZ<h.e6.eG):bh P w H (h.nV {ie:=.hJ "dict", lg:=.qZ #[]}) h.e6.eG (.dK []):=
 ⟨w1k _,Ϥ.rj (Ne.symm (w0y hb)),[],.m8,fH.Ϛ.rZ h⟩
theorem y7u(h:fH)(hb:ZZ<h.e6.eG):bh P w H (h.nV {ie:=.hJ "dict", lg:=.qZ #[]}) h.e6.eG (.dT sh [] []):=
 ⟨w1k _,Ϥ.rj (Ne.symm (w0y hb)),[],.m8,rfl,_,#[],0,fH.vM _ rfl,⟨rfl,rfl,rfl⟩,rfl,rfl,L.nodup_nil⟩
def Aw:TE:=λ_ H Q=>∀p,H p=none->Q (.ei p) (l5 H p (.dK []))
theorem y7v:PE X (.Ze [] [] fZ) Aw:=λeS s σ H Q I h=>
 wpAny_Dict_empty ⟨.ei s.d_.e6.eG,_,I.wg (a:=s.d_.e6.eG) (o:=.dK []) (t':=s.nW) (λ_ _ q=>fH.q_ _ q) (w0d _) (y7t s.d_ I.big),rfl,h _ (I.aR.u3 (w0d _))⟩
end L2
namespace D
open PySem L2 PySem.Spec PyProof.Rows
variable{X:Cx}{σ:L2.St}{EE:L2.St->XK}{i:dt}{K:Fg}{x:eh}{κ:Type}{Z:Zt}
def lk [θ κ](kvs:L (κ×Sv))(x:κ):fG Sv:=(kvs.Ć λp=>decide (p.1=x)).ej (·.2)
def _M [θ κ](kvs:L (κ×Sv))(x:κ)(v:Sv):L (κ×Sv):=if(kvs.pX λp=>decide (p.1=x))=true then kvs.ej (λp=>if p.1=x then(p.1,v)else p)else kvs++[(x,v)]
theorem M1 [θ κ](x):∀kvs:L (κ×Sv),fq (zw kvs) x=(lk kvs x).ej sV
 |[]=>rfl
 |p::r=>by
  have ih:=M1 x r
  by_cases h:p.1=x
  all_goals simp_all [zw,Bj,lk,Bk]
def Uh [θ κ](x:κ)(v:Sv)(kvs:L (κ×Sv)):Yo (zw kvs) x (sV v)=zw (_M kvs x v):=by
 unfold Yo _M zw;rw[L.any_map];have e:((λkv:κ×V=>decide (kv.1=x)) ∘ λp:κ×Sv=>(p.1,sV p.2))=λp:κ×Sv=>decide (p.1=x):=rfl
 rw[e];split
 .rw[w1f,w1f];refine w1y λp _=>?_
  simp only[É.comp];split<;>rfl
 .rw[w0m];rfl
def vO:W->fG wB
 |.d0 i=>O (.h8 i)
 |.str x=>O (.j' x)
 |_=>none
def O_:W->fG Sv
 |.d0 i=>O (.h8 i)
 |.bl b=>O (.j' b)
 |_=>none
def EC:Sv->W
 |.h8 i=>.d0 i
 |.j' b=>.bl b
def MF(p:nQ K G w v)(h:vO w=O k):v=kV k:=by
 cases w<;>cases h<;>exact p
def Ui(p:nQ K G w v)(h:O_ w=O k):v=sV k:=by
 cases w<;>cases h<;>exact p
def y3g(k):nQ K G (EC k) (sV k):=by cases k<;>rfl
def sT:W->fG (L (wB×Sv))
 |.ba (.k kvs)=>O kvs
 |_=>none
def QV(h:sT w=O kvs):w=.ba (.k kvs):=by
 cases w with
 |ba d=>cases d<;>cases h;rfl
 |_=>cases h
def inD(w d:W):fG W:=(vO w).nR λk=>(sT d).ej λkvs=>.bl (lk kvs k).sG
def CM(d w:W):fG W:=(vO w).nR λk=>(sT d).nR λkvs=>(lk kvs k).ej EC
def SU:iq K (λy x H Q=>∃a o,x=.ei a/\eK H a y o/\Q (.bl o.sG) H) inD:=by
 intro G H x y wx wy w Q s px py hf h;let⟨k,hk,hf⟩:=w2s.mp hf;let⟨kvs,hd,hf⟩:=w0p.mp hf;cases hf;cases MF px hk;cases QV hd;let⟨e,rfl,he⟩:=py;refine⟨e,_,rfl,eK.k (k:=k) (s _ _ he),h G _ H (.oQ s) ?_⟩;rw[M1,w2m];rfl
def Uj:iq K (λx y H Q=>∃a v,x=.ei a/\eK H a y (O v)/\Q v H) CM:=by
 intro G H x y wx wy w Q s px py hf h;let⟨k,hk,hf⟩:=w2s.mp hf;let⟨kvs,hd,hf⟩:=w2s.mp hf;let⟨v,hv,rfl⟩:=w0p.mp hf;cases MF py hk;cases QV hd;let⟨e,rfl,he⟩:=px;have g:=eK.k (k:=k) (s _ _ he);rw[M1,hv]at g;exact⟨e,_,rfl,g,h G _ H (.oQ s) (y3g v)⟩
section
variable{a b e k:l_}{da db d dk:gF W}{fZ p jf:qY}
theorem Q0z(hu:X.A.r7+150<r_)(ha:DE Z X EE a da)(hb:DE Z X EE b db)(hm:fi (Y_ .In b=false) jJ):DE Z X EE (.Vq a [.In] [b] fZ) (ag inD da db):=
 PE.ll (z6p (SS (by omega) ha hb) hm) (u9 SU)
theorem Q00(hu:X.A.r7+150<r_)(ha:DE Z X EE a da)(hb:DE Z X EE b db)(hm:fi (Y_ .In b=false) jJ):DT Z X EE (.Vq a [.In] [b] fZ) (av (ag inD da db)):=
 PT.ll (Sw (SS (by omega) ha hb) hm) λσ H Q h=>u9 SU σ H _ (Lk h)
theorem Q01(hu:X.A.r7+150<r_)(ha:DE Z X EE a da)(hb:DE Z X EE b db)(hs:sI b:=by intro _ _;rfl):DE Z X EE (.Hz a b fZ) (ag CM da db):=
 PE.ll (ME (by omega) ha hb hs) (u9 Uj)
def m_.ba{G H:Hp}{e:L S}(r:m_ K Z G σ H e){kvs:Dd}(h:e[i]?=O (.ba kvs)):∃a,σ[i]?=O (O (.ei a))/\H a=O (dO kvs)/\G a=none/\Z.H a=none:=by
 let⟨a,h1,h2,h3,h4⟩:=r.r5 i _ h;refine⟨a,?_,h2,h3,h4⟩;cases q:σ[i]? with
 |none=>rw[q]at h1;cases h1
 |O z=>rw[q]at h1;rw[show z=O (.ei a)from h1]
def m_.Aq{G H:Hp}{e:L S}(r:m_ K Z G σ H e){kvs:Dd}{a:fh}(h2:H a=O (dO kvs))(h3:G a=none)(h4:Z.H a=none):m_ K Z G (σ.my i (O (.ei a))) H (e.my i (.ba kvs)):=by
 refine⟨r.mI,λj s z=>?_,by simpa using r.oO,λj k b1 b2 w1 w2 c z1 z2 z3 z4=>?_,r.Ww,r.mD,r.gen⟩
 .by_cases hj:j=i
  .subst hj
   have hi:j<e.J:=by
    have:=(w0c.mp z).1;simpa using this
   rw[w0t hi]at z;cases z;rw[w0t (by rw[<- r.oO];exact hi)];exact⟨a,rfl,h2,h3,h4⟩
  .rw[w0o (λz=>hj z.symm)]at z |-
   exact r.r5 j s z
 .have tB:∀(k:dt)(bb:fG dt)(ww:L W),(e.my i (S.ba kvs))[k]?=O (.gD bb ww)->k≠i/\e[k]?=O (.gD bb ww):=λk bb ww z=>by
   by_cases hk:k=i
   .subst hk
    have hi:k<e.J:=by
     have:=(w0c.mp z).1;simpa using this
    rw[w0t hi]at z;cases z
   .rw[w0o (λz=>hk z.symm)]at z;exact⟨hk,z⟩
  let⟨n1,q1⟩:=tB _ _ _ z1;let⟨n2,q2⟩:=tB _ _ _ z2;rw[w0o (λz=>n1 z.symm)]at z3
  rw[w0o (λz=>n2 z.symm)]at z4
  exact r.mR _ _ _ _ _ _ _ q1 q2 z3 z4
def Jj:S->fJ
 |.ba _=>true
 |.dw sh _ _=>sh.xo
 |_=>false
def m_.zeC{G H:Hp}{e:L S}(r:m_ K Z G σ H e){kvs kvs':Dd}{a:fh}(h:e[i]?=O (.ba kvs))(ha:σ[i]?=O (O (.ei a)))(ho:∀j s,j≠i->e[j]?=O s->Jj s=false):m_ K Z G σ (l5 H a (dO kvs')) (e.my i (.ba kvs')):=by
 let⟨a',h1,h2,h3,h4⟩:=r.ba h;rw[ha]at h1;cases h1;have hi:i<e.J:=(w0c.mp h).1;refine⟨λc o z=>?_,λj s z=>?_,by simpa using r.oO,λj k b1 b2 w1 w2 c z1 z2 z3 z4=>?_,λc o z n=>?_,λc z=>?_,r.gen⟩
 .rw[bg (gQ z h3)];exact r.mI c o z
 .by_cases hj:j=i
  .subst hj;rw[w0t hi]at z;cases z;exact⟨a,by rw[ha];rfl,cI,h3,h4⟩
  .rw[w0o (λz=>hj z.symm)]at z
   have y:=r.r5 j s z;cases s with
   |no=>trivial
   |fr w=>exact y
   |gD b2 w2=>
    let⟨c,ys,y1,y2,y3,y4,y5⟩:=y;refine⟨c,ys,y1,?_,y3,y4,y5⟩;rw[bg (qr y2 h2 (λz=>Ak rfl z.symm))];exact y2
   |ba kv=>have:=ho j _ hj z;cases this
   |dw sh ks ws=>
    have hI:sh.xo=false:=ho j _ hj z;exact jX._x y (.oQ _) λl o ys k1 k2 k3=>⟨by rw[bg (qr k1 h2 (λz=>by rw[ED hI]at z;exact Ak rfl z.symm))];exact k1,k2,k3⟩
 .have tB:∀(k:dt)(bb:fG dt)(ww:L W),(e.my i (S.ba kvs'))[k]?=O (.gD bb ww)->e[k]?=O (.gD bb ww):=λk bb ww z=>by
   by_cases hk:k=i
   .subst hk;rw[w0t hi]at z;cases z
   .rw[w0o (λz=>hk z.symm)]at z;exact z
  exact r.mR _ _ _ _ _ _ _ (tB _ _ _ z1) (tB _ _ _ z2) z3 z4
 .rw[bg (gQ z h4)];exact r.Ww c o z n
 .by_cases hc:c=a
  .subst hc;rw[cI];exact λz=>nomatch z
  .rw[bg hc];exact r.mD c z
def mQ(i:dt):L S->SR:=λe=>.nx (e.my i (.ba (.k [])))
def z30(i:dt){AO gX:qY}(hN:X.N.p9)(hi:fi (X.N[i]?=O x) jJ)(hx:fi (WH X.el.fj x) jN)(hs:fi (Yh (.Ze [] [] gX) (O (.je x AO)) fZ.y' X.el=pR false) jJ)(hf:fi (X.fn x=true\/X.el.fj.lH.fI x=O .local) jL):
  DS Z X EE (.Yz [.je x AO] (.Ze [] [] gX) fZ) (mQ i):=by
 refine PS.ll (Bw i hN y7v hi hx hs hf) ?_;rintro D σ H ⟨G,e,iA,h⟩;intro q hq;have g:=bc.pM iA.mI hq (.dK []);exact h G _ _ ((iA.wq g).Aq (kvs:=.k []) cI (iA.mI.nL hq) (wa iA hq)) (.oQ _)
def lE(i:dt):L S->SR:=λe=>match e[i]? with
 |O (.ba d)=>.rt (.ba d) e
 |_=>.no
def z31(i:dt)(hN:fi (X.N[i]?=O x) jJ)(hv:fi (jy X.el.fj x) jM)(hd:fi ((x==("__debug__":eh))=false) jK)
  (dR:fi ((x==("__classdict__":eh))=false) jK):DS Z X EE (.ξ (O (.je x p)) fZ) (lE i):=by
 refine PS.ll (DR (pv i hN hv hd dR)) ?_;rintro D σ H ⟨G,e,iA,h⟩;unfold lE at h;split at h
 .rename_i kvs hw;let⟨a,h1,h2,h3,h4⟩:=iA.ba hw;exact⟨.ei a,h1,h G σ _ H iA (.oQ _) ⟨a,rfl,h2,h3,h4⟩⟩
 .exact h.ke
def qm(i:dt)(e:L S):fJ:=(L.so e.J).oP λj=>decide (j=i)||!((e[j]?.ej Jj).mF false)
theorem z32{e:L S}(h:qm i e=true):∀j s,j≠i->e[j]?=O s->Jj s=false:=λj s hj hs=>by
 have hl:j<e.J:=(w0c.mp hs).1;have:=w1l.mp h j (w2e.rj hl);rw[hs]at this
 simpa [hj]using this
def lN(i:dt)(w kw:W)(e:L S):fG S->SR
 |O (.ba (.k kvs))=>match O_ w,vO kw with
  |O v,O x=>if kvs.J<16777216/\qm i e=true then .nx (e.my i (.ba (.k (_M kvs x v))))else .no
  |_,_=>.no
 |_=>.no
def lD(i:dt)(d dk:gF W):L S->SR:=λe=>(d e).cM λw e1=>match e1[i]? with
 |O (.ba _)=>(dk e1).cM λkw e2=>lN i w kw e2 e2[i]?
 |_=>.no
def z33(i:dt)(hu:X.A.r7+150<r_)(he:DE Z X EE e d)(hk:DE Z X EE k dk)(hN:fi (X.N[i]?=O x) jJ)(hv:fi (jy X.el.fj x) jM)(hd:fi ((x==("__debug__":eh))=false) jK)(dR:fi ((x==("__classdict__":eh))=false) jK)
  (hs:fi (Yh e (O (.Hz (.je x p) k jf)) fZ.y' X.el=pR false) jJ):DS Z X EE (.Yz [.Hz (.je x p) k jf] e fZ) (lD i d dk):=by
 refine PS.ll (RO (by omega) (pv i hN hv hd dR) hk he hs) ?_;rintro D σ H ⟨G,e,iA,h⟩;refine⟨G,e,iA,(jG h).pQ (λw e1 h G1 v1 H1 r1 s1 p1=>?_) λ_ _ h=>h⟩
 split at h
 .rename_i kv0 tD;let⟨a,q1,q2,q3,q4⟩:=r1.ba tD;refine⟨.ei a,q1,G1,e1,r1,(jG (σ:=σ) h).pQ (λkw e2 h G2 v2 H2 r2 s2 p2=>?_) λ_ _ h G' H' r s=>h G' H' r (s1.iD s)⟩
  unfold lN at h;split at h
  .rename_i kvs mX;let⟨a',g1,g2,g3,g4⟩:=r2.ba mX;rw[q1]at g1;cases g1;split at h
   .rename_i v t Wo tE;split at h
    .rename_i hc;cases Ui p1 Wo;cases MF p2 tE;refine⟨a,_,rfl,mJ.k (k:=t) g2 (by rw[vN];unfold zw;rw[w0b];exact hc.1),?_⟩;rw[Uh];exact h G2 σ _ (r2.zeC (kvs':=.k (_M kvs t v)) mX q1 (z32 hc.2)) (s1.iD s2)
    .exact h.ke
   .exact h.ke
  .exact h.ke
 .exact h.ke
end
def Jz(kvs:L (wB×Sv))(k:wB):fG fJ:=match lk kvs k with
 |O (.j' b)=>O b
 |_=>none
def xq(kvs l:L (wB×Sv)):L wB:=(l.Tn λp=>Jz kvs p.1==O true).ej (·.1)
def kW:wB->W
 |.h8 i=>.d0 i
 |.j' x=>.str x
def CO(e:L S):fG S->R (L W)
 |O (.ba (.k kvs))=>if kvs.J<16777216/\(kvs.oP λp=>(Jz kvs p.1).sG)=true then .ok ((xq kvs kvs).ej kW) e else .no
 |_=>.no
theorem Jd(h:n+150<r_):n+20<r_:=dt.lt_of_le_of_lt (w4s (by decide:20<=150) _) h
theorem z34:CO e (O (.ba (.k kvs)))=if kvs.J<16777216/\(kvs.oP λp=>(Jz kvs p.1).sG)=true then .ok ((xq kvs kvs).ej kW) e else .no:=rfl
theorem z35:mQ i e=.nx (e.my i (.ba (.k []))):=rfl
def ug(i:dt)(dk:gF W)(w:W)(e1:L S):fG S->SR
 |O (.ba _)=>(dk e1).cM λkw e2=>lN i w kw e2 e2[i]?
 |_=>.no
def z36:lD i d dk e=(d e).cM λw e1=>ug i dk w e1 e1[i]?:=by
 unfold lD ug;rfl
theorem z37:ug i dk w e (O (.ba dd))=(dk e).cM λkw e2=>lN i w kw e2 e2[i]?:=rfl
theorem y7w:lN i (.bl b) (.d0 n) e (O (.ba (.k kvs)))=if kvs.J<16777216/\qm i e=true then .nx (e.my i (.ba (.k (_M kvs (.h8 n) (.j' b)))))else .no:=rfl
theorem y7x:jq (.ba dd)=.fr (.ba dd):=rfl
theorem Q4f:CM (.ba (.k kvs)) (.d0 n)=(lk kvs (.h8 n)).ej EC:=rfl
end D
namespace L2
open PySem PySem.Spec PyProof.Rows
end L2
namespace D
open PySem L2
end D
namespace L2
open PySem PySem.Spec PyProof.Rows
section
open HT
def Xa{lo:fG eW}(ht:YY s.d_ t nT)(hs:s.d_.Ë sl vl vu .none)(pl:Z5 vl lo)(pu:Z5 vu hi)
  (hw:cn nT.eG 0 lo=0/\cn nT.eG nT.eG hi=nT.eG)(h:Q (.ei t) s):kX (mG g_ w) A (_w (.ei t) (.ei sl)) Q E s:=by
 let⟨os,pO,gB,Cn⟩:=id hs;have Ih:s.Zf (.ei sl) "slice":=⟨os,pO,gB⟩;unfold _w;try with_reducible refine Zk ?_
 first|refine i6 (oo ?_)|skip
 refine i6 (zep ht.Ya (by decide) ?_)
 refine i6 (δ (name:=eh.Yy "__getitem__") ht.Ya uD.ri.ώ
  (ε uD.ri.ώ ht.Ya zcg ?_ (zbS _ _)))
 show kX _ _ (oq.JJ.zdQ (.ei t) >>= _) _ _ s;refine i6 (zdR ht ?_);refine i6 (ϖ Ih ?_);rw[gE (by decide)];refine i6 (OH hs pl pu ?_);show kX _ _ (if(((cn nT.eG 0 lo:dt):eW)==0&&(1:eW)==1&&(cn nT.eG nT.eG hi-cn nT.eG 0 lo)==nT.eG)=true then _ else _) _ _ s;rw[gE (by rw[hw.1,hw.2];simp)];refine i6 (i6 (ϖ ht.Ya (oo ?_)));rw[gE (by decide)];exact i6 (Ä (oo ⟨_,rfl,oo h⟩))
end
def z38:uN X (λx lo hi H Q=>∃a xs,x=.ei a/\c6 X.K H a xs/\(HT.cn xs.J 0 lo=0/\HT.cn xs.J xs.J hi=xs.J)/\Q x H):=by
 intro eS s σ H x v vl vu lo hi sl Q I rx hs pl pu h;let⟨a,xs,rfl,hx,hw,q⟩:=h;cases rx;let⟨aC,r,ht,hz⟩:=I.zb hx;have vd:aC.ky.eG=xs.J:=by rw[w0i];exact r.J.symm
 refine⟨"tuple", _,uD.ri.ώ.fI,ht.Ya,?_⟩;exact Xa ht hs pl pu (by rw[vd];exact hw) ⟨.ei a,H,I,rfl,q⟩
def LH:V->fG eW->fG eW->Hp->VK->Prop:=λx lo hi H Q=>∃z,x=.str z/\z.J<=pg/\Q (.str (wF.Ye z lo hi)) H
def RP(p:Z5 v o):∃q:fG (eW×Z8),v=partValue q/\q.ej (·.1)=o:=by
 cases p with
 |none=>exact⟨none,rfl,rfl⟩
 |d0 i t=>exact⟨O (i,t),rfl,rfl⟩
def T5{X:Cx}:uN X LH:=by
 intro eS s σ H x v vl vu lo hi sl Q I rx hs pl pu h;let⟨z,rfl,hz,q⟩:=h;let⟨t,rfl⟩:=rx;let⟨ql,rfl,e1⟩:=RP pl;let⟨qu,rfl,e2⟩:=RP pu;refine⟨"str", _,F.zdC.fI,ϒ _ _ _,?_⟩;refine wpAny_getItem_str_slice (l:=ql) (u:=qu) (st:=none) hs rfl ?_
 have e3:sliceMade z t ql qu none=if((1:eW)==1&&(oq.eh.zdG lo hi 1 z.J).J==z.J)=true then .tN (.str z t)else .str ⟨((oq.eh.zdG lo hi 1 z.J).Λ (z.rq[·]?)).ky⟩:=by
  unfold sliceMade slicePicked;rw[e1,e2];rfl
 rw[e3];have hq:Q (.str (wF.Ye z lo hi)) H:=q;have hl:=wF.slice_le z lo hi;unfold wF.Ye at hq hl;split
 .rename_i c;rw[gE c]at hq;exact⟨.str z,H,I,⟨t,rfl⟩,hq⟩
 .rename_i c;rw[kl c]at hq hl;exact⟨w1d hl hz,.str _,H,I.wY _,⟨_,rfl⟩,hq⟩
def Ϸ(x:eh):L V:=x.rq.n9.ej λc=>V.str ⟨#[c]⟩
def EN(x:eh):It:=⟨λi _=>i<x.rq.eG,λi H v H'=>H'=H/\(Ϸ x)[i]?=O v,λi _=>x.rq.eG<=i⟩
theorem y7y{P:qM}{w:pT}{K:Fg}{tg:l_}{T:ET}(x:eh)(t:Z8)(it:fh)(hT:T="str_ascii_iterator"\/T="str_iterator"):_X P w K tg (EN x) [it] it (λi h=>h.Ĭ it T x t i) where
 YD:=by simp
 CZ:=λi h st b hb=>by
  have e:b=it:=by simpa using hb
  subst e;let⟨o,e,c,d⟩:=st;exact⟨o,e,λv z=>by rw[d]at z;cases z⟩
 pU:=λi h h' st k=>by
  let⟨o,e,c,d⟩:=st;exact⟨o,k it (by simp) o e,c,d⟩
 Zd:=by
  intro X hP hw hK hc i eS s σ H E I hf st hg;subst hP hw hK;have hg:i<x.rq.eG:=hg;let⟨f0,f1,f2,f3,f4,f5⟩:=hf it (by simp)
  have vR:∀v h' tk,SignAt x i v->h'.Ĭ it T x t (i+1)->(∀b o,b∉[it]->s.d_.f6 b=O o->h'.f6 b=O o)->∃u,O v=O u /\
    kX (mG X.g_ X.w) X.A (ä tg (.ei it) u) (λ_ s2=>∃y H',g8 X eS σ H' s2/\ot y u/\(EN x).lr i H y H'/\s2.d_.Ĭ it T x t (i+1)/\∀b∈[it],H' b=none) E {s with d_:=h',nW:=tk}:=by
   intro v h' tk hv n6 kk;let⟨c,u,VQ,rfl⟩:=hv;have I1:g8 X eS σ H {s with d_:=h',nW:=tk}:=I.ZO (λb o hb e=>kk b o (by simpa using hb) e) f0 f1 f3 f4 f5
   let⟨o,e,cc,d⟩:=id n6;refine⟨_,rfl,Hj (s:={s with d_:=h',nW:=tk}) e cc d (by rcases hT with rfl|rfl<;>decide) ⟨.str ⟨#[c]⟩,H,I1,⟨u,rfl⟩,⟨rfl,?_⟩,n6,λb hb=>(hf b hb).1⟩⟩
   unfold Ϸ;rw[w1c,w5p,VQ];rfl
  rcases hT with rfl|rfl
  .exact(Ö.strAscii (g_:=X.g_) (w:=X.w) (I.ok.hd hc) it x t).Zd i s _ _ hg st vR
  .exact(Ö.strWide (g_:=X.g_) (w:=X.w) (I.ok.hd hc) it x t).Zd i s _ _ hg st vR
 done:=by
  intro X hP hw hK hc i eS s σ H E I hf st hg;subst hP hw hK;have hg:x.rq.eG<=i:=hg;let⟨f0,f1,f2,f3,f4,f5⟩:=hf it (by simp);rcases hT with rfl|rfl
  .exact wpAny_pyNext_ascii_end (I.ok.hd hc) st (by simp;omega) λh' eb=>⟨rfl,I.ZO (t':=s.nW) (λb o hb e=>eb b o hb e) f0 f1 f3 f4 f5⟩
  .exact wpAny_pyNext_wide_end (I.ok.hd hc) st (by simp;omega) λh' eb=>⟨rfl,I.ZO (t':=s.nW) (λb o hb e=>eb b o hb e) f0 f1 f3 f4 f5⟩
 self:=λA i s Q E st h=>by
  rcases hT with rfl|rfl
  .exact wpAny_pyIter_striter_ascii st h
  .exact wpAny_pyIter_striter_wide st h
def CJ(tl:TE):TI:=λσ H R=>tl σ H λx H1=>∃z,x=.str z/\R (EN z) H1
def SV{X:Cx}{tg l:l_}{tl:TE}(hl:PE X l tl):PI X tg l (CJ tl):=by
 intro eS s σ H R I h;refine bw (hl eS s σ H _ I h) λv s1 ⟨x,H1,I1,r1,q1⟩=>?_
 let⟨z,e,q⟩:=q1;subst e;let⟨t,rfl⟩:=r1;refine wpAny_pyIter_strU ?_;refine⟨s1.d_.e6.eG,[s1.d_.e6.eG],_,_,H1,rfl,I1.NK (t':=s1.nW) λb o e=>fH.q_ _ e,y7y (T:=strIterType z) z t _ ?_,⟨_,fH.vM _ rfl,rfl,rfl⟩,λb hb=>?_,q⟩
 .unfold strIterType;split
  .exact .h8 rfl
  .exact .j' rfl
 .have e:b=s1.d_.e6.eG:=by simpa using hb
  subst e;exact I1.jB (w0d _) (I1.aR.u3 (w0d _))
def z39(he:PE X e te)(r:PF X es t):PF X (.Ϝ e 114 none fZ::es) (λm7 σ H Q=>te σ H λv H1=>∃z,v=.str z/\(ϋ z).J<=pg/\(m7++ϋ z).J<=pg/\t (m7++ϋ z) σ H1 Q):=by
 intro m7 eS s σ H Q I h;show kX _ _ (eval (.Ϝ e 114 none fZ) X.el) _ _ s;refine wpAny_FormattedValue_repr (bw (he eS s σ H _ I h) λu s1 ⟨v,H1,I1,rv,z,hz,h1,h2,q⟩=>?_)
 subst hz;let⟨tk,rfl⟩:=rv;refine wpAny_pyReprObj_str ?_ h1;exact zef ⟨_,_,rfl,h2,r _ eS _ σ H1 Q (I1.wY _) q⟩ ⟨_,_,rfl,h2,r _ eS _ σ H1 Q (I1.wY _) q⟩ h1
end L2
namespace D
open PySem L2
variable{X:Cx}{d:gF W}{H:Hp}{EE:L2.St->XK}{Ι es:L l_}{e:L S}{N:L eh}{i:dt}{zp aW p p2 fZ:qY}{K:Fg}{x:eh}{Z:Zt}
def wu:W->fG eW->fG eW->fG W
 |.str z,lo,hi=>if z.J<=16777216 then O (.str (wF.Ye z lo hi))else none
 |.ff ws,lo,hi=>if ¬(HT.cn ws.J 0 lo=0/\HT.cn ws.J ws.J hi=ws.J)then O (.ff (fE ws lo hi))else O (.ff ws)
 |w,lo,hi=>O7 w lo hi
def e8(d:gF W)(dl dh:gF (fG eW)):gF W:=λe=>(d e).nR λw e1=>(dl e1).nR λlo e2=>(dh e2).nR λhi e3=>bS (wu w lo hi) e3
section
variable{e a b:l_}{da db:gF W}
def y3j{lo hi:fG l_}{dl dh:gF (fG eW)}(he:DE Z X EE e da)(hl:DO Z X EE lo dl)(hh:DO Z X EE hi dh):DE Z X EE (.Hz e (.Zs lo hi none p2) fZ) (e8 da dl dh):=by
 refine PE.ll (y52 (((zet.or z68).or z38).or T5) he hl hh) ?_;rintro σ H Q ⟨G,e,iA,h⟩;simp only[e8,R.ak,bq]at h;refine⟨G,e,iA,h.pQ (λw e1 h G1 v1 H1 r1 s1 p1=>?_) λ_ _ h=>h⟩
 refine⟨G1,e1,r1,h.pQ (λlo e2 h G2 H2 r2 s2=>?_) λ_ _ h=>XH.iD s1 h⟩
 refine⟨G2,e2,r2,h.pQ (λhi e3 h G3 H3 r3 s3=>?_) λ_ _ h=>XH.iD (s1.iD s2) h⟩
 let⟨y,hf,h⟩:=h;have p3:=nQ.ll (s2.iD s3) w p1;have GX:=(s1.iD s2).iD s3;cases w with
 |str z=>
  simp only[wu]at hf;split at hf
  .rename_i hz;cases hf;cases p3;exact .j' ⟨z,rfl,by rw[vN];exact hz,h _ _ _ r3 GX rfl⟩
  .cases hf
 |fy ws=>
  cases hf;let⟨a,xs,rfl,q,r⟩:=p3;refine .h8 (.h8 (.h8 ⟨a,xs,rfl,r3.mI.mx q,λp hp=>?_⟩))
  have g:=bc.wg r3.mI hp (.fy (kY xs lo hi));exact h _ _ _ (r3.wq g) (GX.iD g.gg) ⟨p,_,rfl,cG.of cI,aq.ll g.gg _ (r.cut lo hi)⟩
 |ff ws=>
  simp only[wu]at hf;let⟨a,xs,rfl,q,r⟩:=p3;split at hf
  .rename_i hw;cases hf;refine .h8 (.h8 (.j' ⟨a,xs,rfl,r3.mI.ff q,by rw[r.J];exact hw,λp hp=>?_⟩))
   have g:=bc.wg r3.mI hp (.ff (kY xs lo hi));exact h _ _ _ (r3.wq g) (GX.iD g.gg) ⟨p,_,rfl,c6.of cI,aq.ll g.gg _ (r.cut lo hi)⟩
  .rename_i hw;cases hf;exact .h8 (.j' ⟨a,xs,rfl,r3.mI.ff q,by rw[r.J];exact ϙ.not_not.mp hw,h _ _ _ r3 GX ⟨a,xs,rfl,q,r⟩⟩)
 |_=>cases hf
def Wy:W->W->fG W
 |.str i,.str j=>match i.rq.n9 with
  |[c]=>O (.bl (decide (c∈j.rq.n9)))
  |_=>none
 |_,_=>none
def oV:W->W->fG W
 |.str x,.d0 n=>if 1<=x.J/\x.J<=1000/\0<=n/\n<=1000 then O (.str ⟨(L.oS n.oR x.rq).t_ (·++·) #[]⟩)else none
 |_,_=>none
def z4a:fM X (Zb .ν) (λx y H Q=>∃z n,x=.str z/\y=.d0 n/\1<=z.J/\z.J<=1000/\0<=n/\n<=1000/\Q (.str ⟨(L.oS n.oR z.rq).t_ (·++·) #[]⟩) H):=by
 intro eS s σ H x y v u Q I rx ry h;let⟨z,n,rfl,rfl,h1,h2,h3,h4,q⟩:=h;let⟨t,rfl⟩:=rx;let⟨t',rfl⟩:=ry
 have vd:z.J*n.oR<=1000000:=by
  have:n.oR<=1000:=by omega
  calc z.J*n.oR<=1000*1000:=dt.mul_le_mul h2 this
   _=1000000:=rfl
 refine P.mul_str ?_ (λzfM _=>?_) (λ_ _=>?_) ?_
 .grind
 .have:(1000:eW)<=(2^63-1) / n:=by
   rw[eW.le_ediv_iff_mul_le (by omega)];omega
  omega
 .grind [oq.eh.tooLong,vN]
 .by_cases e1:n<1
  .have h0:n=0:=by omega
   subst h0;rw[gE (by decide)];exact⟨by decide,.str _,H,I.wY _,⟨_,rfl⟩,q⟩
  by_cases e0:n=1
  .subst e0;rw[kl (by decide),gE (by simp)]
   have eq:(⟨(L.oS (1:eW).oR z.rq).t_ (·++·) #[]⟩:eh)=z:=by
    simp_all
   rw[eq]at q;exact⟨.str _,H,I,⟨_,rfl⟩,q⟩
  have e2:(n==1||z.J==0)=false:=by
   grind
  rw[kl e1,kl (by grind)];refine⟨?_,.str _,H,I.wY _,⟨_,rfl⟩,q⟩
  have hs:∀(m:dt)(m7:tP dt),((L.oS m z.rq).t_ (·++·) m7).eG=m7.eG+m*z.rq.eG:=by
   intro m
   induction m with
   |zc=>intro m7;simp
   |zD m ih=>
    grind
  show((L.oS n.oR z.rq).t_ (·++·) #[]).eG<=pg
  grind [vN,eh.J]
def z4b:iq K (λx y H Q=>∃z n,x=.str z/\y=.d0 n/\1<=z.J/\z.J<=1000/\0<=n/\n<=1000/\Q (.str ⟨(L.oS n.oR z.rq).t_ (·++·) #[]⟩) H) oV:=by
 intro G H x y wx wy w Q s px py hf h;unfold oV at hf;split at hf
 .split at hf
  .rename_i z n hc;cases hf;cases px;cases py;exact⟨z,n,rfl,rfl,hc.1,hc.2.1,hc.2.2.1,hc.2.2.2,h G _ H (.oQ s) rfl⟩
  .cases hf
 .cases hf
theorem z4c(ha:DE Z X EE a da)(hb:DE Z X EE b db):DE Z X EE (._q a .ν b fZ) (ag oV da db):=xQ z4a z4b ha hb
def ur:W->fG eh
 |.str z=>if(ϋ z).J<=1000000 then O (ϋ z)else none
 |_=>none
def mU(d:gF W)(r:gF eh):gF eh:=λe=>(d e).nR λw e1=>match ur w with
 |O x=>(r e1).nR λy e2=>.ok (x++y) e2
 |none=>.no
def z4d{d:gF eh}{n:dt}(he:DE Z X EE e da)(r:vm Z X EE n es d):vm Z X EE (n+1) (.Ϝ e 114 none fZ::es) (mU da d):=by
 refine PF.ll (z39 he r) ?_;rintro m7 σ H Q ⟨hl,G,e,iA,h⟩;simp only[mU,R.ak]at h;refine⟨G,e,iA,h.pQ (λw e1 h G1 v1 H1 r1 s1 p1=>?_) λ_ _ h=>h⟩
 split at h
 .rename_i x hx;unfold ur at hx;split at hx
  .split at hx
   .rename_i z hz;cases hx;cases p1;have vy:(m7++ϋ z).J=m7.J+(ϋ z).J:=kd.eh.ŏ _ _;refine⟨z,rfl,by rw[vN];omega,by rw[vy,vN];omega,by omega,G1,e1,r1,(R.ak.mp h).pQ (λy e2 h G2 H2 r2 s2=>?_) λ_ _ h=>XH.iD s1 h⟩
    have z:=h G2 H2 r2 (s1.iD s2)
    rwa [Kk]at z
   .cases hx
  .cases hx
 .exact h.ke
end
def d8(x:eh):L W:=x.rq.n9.ej λc=>W.str ⟨#[c]⟩
def fT(js:L dt)(di:gF W)(c:gF fJ)(d:gF W):gF (L W):=λe=>(di e).nR λw e1=>match w with
 |.str z=>fv js c d (d8 z) e1
 |_=>.no
section
variable{vX rW a:l_}{vr:L l_}{fj sc:vP}{pt:qY}{Nf:L eh}{js:L dt}{di:gF W}{dA:gF (L W)}{c:gF fJ}{kt:dt}
def SW:_Z (EN z) (Ϸ z) (λ_=>w7):=by
 refine⟨λi H q h=>show i<z.rq.eG by simpa [Ϸ]using h,λi H x H' q ⟨e,y⟩ h=>⟨e,y⟩,λi H q h=>show z.rq.eG<=i by simpa [Ϸ]using h⟩
theorem KI:∀(l:L dt),aq K G (l.ej λc=>W.str ⟨#[c]⟩) (l.ej λc=>V.str ⟨#[c]⟩)
 |[]=>rfl
 |c::l=>⟨_,_,rfl,rfl,KI l⟩
def zbe:∀σ H Q,nh K Z EE (fT js di c d) σ H Q->iL (CJ (f7 K Z EE di)) 1 js (bP 0) (cT K c) (cE K d) σ H Q:=by
 rintro σ H Q ⟨G,e,iA,h⟩;simp only[fT,R.ak]at h;refine⟨G,e,iA,h.pQ (λw e1 h G1 v1 H1 r1 s1 p1=>?_) λ_ _ h=>h⟩
 split at h
 .rename_i z;cases p1;refine⟨z,rfl,?_⟩;unfold fv at h;split at h
  .rename_i hl;split at h
   .rename_i oN ho;let⟨G2,s2,r2⟩:=r1.bt js;exact GJ SW r2 (s1.iD s2) (KI _) (λ_ _ _ _=>trivial) hl (l6 r2) ho h
   .exact h.ke
  .exact h.ke
 .exact h.ke
def y7z(hc:X.wK=true)(hi:DE Z X EE rW di)(ok:dE sc fj N Nf js=true)
  (ht:∀Z' cl C aB aI ex,uL Z' (X.cp ([x]++Nf) fj cl C aB aI ex) (λ_=>E0) vr c)(he:∀Z' cl C aB aI ex,DE Z' (X.cp ([x]++Nf) fj cl C aB aI ex) (λ_=>E0) vX d)
  (hg:∀cl C aB aI ex,PG (X.cp ([x]++Nf) fj cl C aB aI ex) (.je x pt) (bP 0))
  (hsc:fi (X.el.fj=sc) jJ)(hN:fi (X.N=N) jJ)(hs:∀x,YS rW X.el x=pR x:=by intro _;rfl):
  DF Z X EE (.Yj vX [⟨.je x pt,rW,vr,0⟩] fj fZ) (fT js di c d):=by
 exact PE.ll (Gj (Nl:=[x]) (tc:=cT X.K c) (te:=cE X.K d) hc (SV hi) ok hg (Bx ht) (By he) hsc hN hs) zbe
theorem Y8(hh:A.Nr=none)(it l)(fY:l≠it)(nT):
  Draws g_ w A it [it,l] nT.eG (λi v=>nT[i]?=O v) (λi h=>h.Z6 it l i/\h.VU l nT) where
 live:=λ_ _ st=>let ⟨o,ho,_⟩:=st.1;⟨o,ho⟩
 Μ:=λ_ _ _ st hk=>⟨st.1.at λo e=>hk it (by simp) o e,st.2.at λo e=>hk l (by simp) o e⟩
 Zd:=λi s Q E hi st hQ=>by
  refine OT st.1 st.2 (x:=nT[i]) (by simp[hi]) λh' IH tI=>?_
  exact hQ _ h' s.nW (by simp[hi]) ⟨IH,st.2.pZ tI.pZ fY⟩ tI
 done:=λs Q E st hE=>KJ hh st.1 st.2 (by simp) hE
theorem y3l(hh:A.Nr=none)(it l)(nT)(i)(hx:nT[i]?=none):
  Draws g_ w A it [it,l] i (λ_ _=>pV) (λj h=>j=i/\h.Z6 it l j/\h.VU l nT) where
 live:=λ_ _ st=>let ⟨o,ho,_⟩:=st.2.1;⟨o,ho⟩
 Μ:=λ_ _ _ st hk=>⟨st.1,st.2.1.at λo e=>hk it (by simp) o e,st.2.2.at λo e=>hk l (by simp) o e⟩
 Zd:=λj s Q E hi st hQ=>nS st.1 (w0y hi)
 done:=λs Q E st hE=>KJ hh st.2.1 st.2.2 hx hE
def kK(dA:gF (L W)):gF (L (W×W)):=λe=>(dA e).nR λws e1=>match ws with
 |[.ff us]=>.ok (bZ 0 us) e1
 |_=>.no
def yf(K:Fg)(a:fh):It:=
 ⟨λi H=>∃xs x,c6 K H a xs/\xs[i]?=O x,λi H x H'=>∃b y,x=.ei b/\H b=none/\(∀xs,c6 K H a xs->xs[i]?=O y)/\H'=l5 H b (.ff [.d0 i,y]),λi H=>∃xs,c6 K H a xs/\xs.J<=i⟩
section
open AutoSeq1 (wpAny_loadPart')
theorem W9(l)(nT)(n)(HL)(sl):
  _s (oq.«enumerate.__new__» ⟨[.hJ "enumerate", .ei l],[]⟩) (λ_ R s=>s.d_.f6 l=O {ie:=.hJ "tuple", qZ:=HL,lg:=.mx nT n,zx:=sl} /\
   R (.ok (.yr (.ei (s.d_.nV {ie:=.hJ "tuple_iterator", lg:=.x6 #[.ei l,.d0 0 0]}).e6.eG)))
    {s with d_:=(s.d_.nV {ie:=.hJ "tuple_iterator", lg:=.x6 #[.ei l,.d0 0 0]}).nV {ie:=.hJ "enumerate", lg:=.x6 #[.none,.rl false,.ei s.d_.e6.eG,ZA 0,.none,.none]}}):=
 ._K λg_ w A R s h=>by
  let⟨hp,g,d,tk,os⟩:=s;let⟨hl,h⟩:=h;have zi:=sub_enumerate;have hL:fH.VU (kx.d_ ⟨hp,g,d,tk,os⟩) l nT:=⟨_,hl,rfl,n,rfl⟩
  wp_walk using ñ hl
  refine wpAny_stack_any λst=>oo ?_
  split
  .rename_i c _ _ _ _ _;cases(c==e5.hJ "enumerate")
   .wp_walk using ñ hl,ζ hL
    exact⟨_,rfl,h⟩
   .wp_walk using ñ hl,ζ hL
    exact⟨_,rfl,h⟩
  .wp_walk using ñ hl,ζ hL
   exact⟨_,rfl,h⟩
end
def W_{s:kx}(hL:s.d_.VU l nT)
  (h:∀h',ö h' (s.d_.e6.eG+1) s.d_.e6.eG 0 .none->h'.Z6 s.d_.e6.eG l 0->h'.e6.eG=s.d_.e6.eG+2 ->
   (∀b o,s.d_.f6 b=O o->h'.f6 b=O o)->Q (.ei (s.d_.e6.eG+1)) {s with d_:=h'}):
  kX (mG g_ w) A (zN (.hJ "enumerate") [.ei l]) Q E s:=by
 let⟨⟨c,HL,zb6,sl⟩,hl,hc,n,hd⟩:=hL
 replace hc:c=.hJ "tuple":=hc
 replace hd:zb6=.mx nT n:=hd
 subst hc hd
 refine ý F.called_enumerate (by decide) (F.typeCall_enumerate_1 _) (F.newCall_enumerate_1 _) (λCZ=>F.Ĳ CZ _) F.entry_enumerate_new
  (W9 l nT n HL sl) ⟨hl,?_⟩
 have hz:(s.d_.nV {ie:=.hJ "tuple_iterator", lg:=.x6 #[.ei l,.d0 0 0]}).e6.eG=s.d_.e6.eG+1:=fH.YU ..;show _/\_;rw[hz]
 have he:ö ((s.d_.nV {ie:=.hJ "tuple_iterator", lg:=.x6 #[.ei l,.d0 0 0]}).nV
   {ie:=.hJ "enumerate", lg:=.x6 #[.none,.rl false,.ei s.d_.e6.eG,ZA 0,.none,.none]}) (s.d_.e6.eG+1) s.d_.e6.eG 0 .none:=by
  have:=fH.vM (s.d_.nV {ie:=.hJ "tuple_iterator", lg:=.x6 #[.ei l,.d0 0 0]})
   (o:={ie:=.hJ "enumerate", lg:=.x6 #[.none,.rl false,.ei s.d_.e6.eG,ZA 0,.none,.none]}) rfl
  grind
 refine⟨⟨_,he,rfl⟩,h _ he ⟨_,fH.q_ _ (fH.vM _ rfl),rfl,rfl⟩ (by rw[fH.YU,hz]) λb o x=>fH.q_ _ (fH.q_ _ x)⟩
theorem zbf{P:qM}{w:pT}(a e it:fh)(fY:e≠it):_X P w K (.JJ Ι kt pt) (yf K a) [e,it] e (λi h=>∃tB,kd.ö h e it (i:dt) tB/\h.Z6 it a i) where
 YD:=by simp
 CZ:=λi h ⟨tB,iK,jc⟩ b hb=>by
  simp only[w0h,w1b,Xz]at hb;rcases hb with rfl|rfl
  .exact⟨_,iK,λv z=>by cases z⟩
  .let⟨o,e,c,d⟩:=jc;exact⟨o,e,λv z=>by rw[d]at z;cases z⟩
 pU:=λi h h' ⟨tB,iK,jc⟩ k=>⟨tB,k e (by simp) _ iK,jc.at λo e=>k it (by simp) o e⟩
 Zd:=by
  intro X hP hw hK hc i eS s σ H E I hf st hg;subst hP hw hK;let⟨tB,iK,jc⟩:=st;let⟨xs,x,hq,hx⟩:=hg;let⟨aC,rv,p,hz⟩:=I.zb hq;let⟨u,hu,ru⟩:=rv.BX hx
  have N4:a≠it:=λz=>by
   let⟨o,e1,c1,_⟩:=jc;let⟨o',e2,c2,_⟩:=p;rw[z]at e2;rw[e1]at e2;cases e2;rw[c1]at c2;simp at c2
  have VT:e≠a:=λz=>by
   let⟨o',e2,c2,_⟩:=p;rw[<- z]at e2;have e1:s.d_.f6 e=O _:=iK;rw[e1]at e2;cases e2;simp at c2
  refine wpAny_pyNext_enum_itemD (Y8 (A:=X.A.Nx) (I.ok.hd hc) it a N4 aC.ky) iK ⟨jc,p⟩ (by simpa using (w0c.mp hu).1) fY (by simp[fY,VT]) λu' h1 tk Jc vF mY Jb Wu tE=>⟨_,rfl,?_⟩
  obtain rfl:u'=u:=fG.O.sE (by rw[<- Jc,<- hu];simp);have yT:=mY.1;refine zek vF λh2 mX hZ=>?_
  have hZ:fH.Zq e h1 h2:=hZ;have cb:e<s.d_.e6.eG:=fH.sf iK;have kQ:H s.d_.e6.eG=none:=I.aR.u3 (w0d _);have zj:h2.f6 s.d_.e6.eG=O {ie:=.hJ "tuple", lg:=.mx #[.d0 i tk,u']}:=(hZ.2 _ (w3k cb)).iD Jb;refine⟨.ei s.d_.e6.eG,l5 H s.d_.e6.eG (.ff [.d0 i,x]),?_,rfl,⟨_,x,rfl,kQ,λys hy=>by rw[I.jg hy hq];exact hx,rfl⟩,⟨u',mX,?_⟩,λb hb=>?_⟩
  .show L2.g8 X eS σ _ {s with d_:=h2,nW:=tk+1};refine Qo (fp:=[e,it]) I (λb o hb q=>?_) hf (w0d _) ⟨?_,[.d0 i tk,u'],.m6 ⟨_,rfl⟩ (.m6 ru .m8),⟨_,zj,rfl,?_⟩,⟨_,zj,rfl⟩⟩
   .simp only[w0h,w1b,Xz,ZL]at hb;exact(hZ.2 b hb.1).iD (tE b o hb.1 hb.2 q)
   .rw[vN];simp
   .exact⟨_,rfl⟩
  .exact yT.at λo q=>(hZ.2 it (Ne.symm fY)).iD q
  .have:b≠s.d_.e6.eG:=by
    obtain⟨o,q,_⟩:∃o,s.d_.f6 b=O o/\w7:=by
     simp only[w0h,w1b,Xz]at hb;rcases hb with rfl|rfl
     .exact⟨_,iK,trivial⟩
     .let⟨o,e,_⟩:=jc;exact⟨o,e,trivial⟩
    exact w0y (fH.sf q)
   rw[bg this];exact(hf b hb).1
 done:=by
  intro X hP hw hK hc i eS s σ H E I hf st hg;subst hP hw hK;let⟨tB,iK,jc⟩:=st;let⟨xs,hq,hx⟩:=hg;let⟨aC,rv,p,hz⟩:=I.zb hq;let⟨f0,f1,f2,f3,f4,f5⟩:=hf it (by simp);have hl:=rv.J
  have N4:a≠it:=λz=>by
   let⟨o,e1,c1,_⟩:=jc;let⟨o',e2,c2,_⟩:=p;rw[z]at e2;rw[e1]at e2;cases e2;rw[c1]at c2;simp at c2
  refine wpAny_pyNext_enum_endD (y3l (A:=X.A.Nx) (I.ok.hd hc) it a aC.ky i (by simp;omega)) iK ⟨rfl,jc,p⟩ λh' eb=>⟨rfl,I.ZO (t':=s.nW) (λb o hb e=>eb b o hb e) f0 f1 f3 f4 f5⟩
 self:=λ_ _ _ _ _ ⟨tB,iK,_⟩ h=>ħ iK h
def zeI(K:Fg)(ta:TA):TI:=λσ H R=>ta σ H λvs H1=>∃a,vs=[.ei a]/\(∃xs,c6 K H1 a xs)/\R (yf K a) H1
def y70{ta:TA}(hg:Gl X "enumerate")(hm:X.mg "enumerate"=none)(ha:PA X [a] ta)(hs:fi (lq [a] X.el=[(false,eval a X.el)]) jJ):PI X (.JJ Ι kt pt) (.pY (.je "enumerate" p) [a] [] fZ) (zeI X.K ta):=by
 intro eS s σ H R I h;refine uD.ri.Ç (uh I hg hm uD.ri.zbU (uD.ri._F (bw (ha fZ eS s σ H _ I h) λus s1 ⟨vs,H1,I1,r1,q1⟩=>?_) hs rfl))
 let⟨l,e,⟨xs,hq⟩,q⟩:=q1;subst e;cases r1 with
 |m6 r rr=>
  cases rr;cases r;let⟨aC,rv,p,hz⟩:=I1.zb hq;refine W_ p λh' he ZX hsz hk=>?_
  refine ħ he ?_;refine⟨s1.d_.e6.eG+1,[s1.d_.e6.eG+1,s1.d_.e6.eG],_,_,H1,rfl,I1.NK (t':=s1.nW) hk,zbf l _ _ (w5l _),⟨_,he,ZX⟩,λb hb=>?_,q⟩
  simp only[w0h,w1b,Xz]at hb;rcases hb with rfl|rfl
  .exact I1.jB (by omega) (I1.aR.u3 (by omega))
  .exact I1.jB (w0d _) (I1.aR.u3 (w0d _))
def Y9(rp:aq K G1 ws xs)(hq:c6 K G1 b xs):lx K G1 (yf K b) (bZ 0 ws):=by
 have hx:=rp.J;have hl:=Ln 0 ws;refine⟨λi G H s s' h=>⟨xs,xs[i]'(by omega),au.ff s' (au.ff s hq),by simp⟩,λi G H x H' s s' hy u v h=>?_,λi G H s s' h=>⟨xs,au.ff s' (au.ff s hq),by omega⟩⟩
 let⟨c,y,rfl,hn,xl,rfl⟩:=hy;let⟨hu,hv⟩:=Lo 0 ws i u v h;let⟨w,hw,pw⟩:=rp.lZ (xl xs (au.ff s' (au.ff s hq)));rw[hv]at hw;cases hw;refine⟨bc.pM s' hn _,λm n σ Q hQ=>⟨c,[.d0 i,y],rfl,c6.of cI,rfl,.d0 i,[y],rfl,y,[],rfl,rfl,hQ _ _ ?_ (nQ.ll s _ pw)⟩⟩
 rw[hu,w2t];exact rfl
def y71(hm:X.mg "enumerate"=none)(ha:DA Z X EE [a] dA)(hg:fi (Gl X "enumerate") jJ)(hs:fi (lq [a] X.el=[(false,eval a X.el)]) jJ):DI Z X EE (.JJ Ι kt pt) (.pY (.je "enumerate" p) [a] [] fZ) (kK dA):=by
 refine PI.ll (y70 hg hm ha hs) ?_;rintro σ H RR ⟨G,e,iA,h⟩;simp only[kK,R.ak]at h;refine⟨G,e,iA,h.pQ (λws e1 h G1 vs H1 r1 s1 p1=>?_) λ_ _ h=>h⟩
 split at h
 .rename_i us;let⟨y,r,rfl,e1,e2⟩:=p1;cases(show r=[]from e2);let⟨b,xs,rfl,hq,rp⟩:=e1;exact⟨b,rfl,⟨xs,r1.mI.ff hq⟩,h _ _ _ r1 s1 (Y9 rp hq)⟩
 .exact h.ke
end
theorem Q03:e8 d dl dh e=(d e).nR λw e1=>(dl e1).nR λlo e2=>(dh e2).nR λhi e3=>bS (wu w lo hi) e3:=rfl
theorem Q4g:wu (.fy ws) lo hi=O (.fy (fE ws lo hi)):=rfl
theorem Vc(h:z.J<=16777216):wu (.str z) lo hi=O (.str (wF.Ye z lo hi)):=gE h
theorem Q4i:Wy (.str ⟨#[c]⟩) (.str j)=O (.bl (decide (c∈j.rq.n9))):=rfl
def sR(js:L dt)(c:gF fJ)(d:gF W)(e1:L S):W->R (L W)
 |.str z=>fv js c d (d8 z) e1
 |_=>.no
def y72:fT js da c d e=(da e).nR λw e1=>sR js c d e1 w:=by
 unfold fT;congr 1
theorem y73:sR js c d e (.str z)=fv js c d (d8 z) e:=rfl
def uz(e1:L S):L W->R (L (W×W))
 |[.ff us]=>.ok (bZ 0 us) e1
 |_=>.no
def z4e:kK dA e=(dA e).nR λws e1=>uz e1 ws:=by
 unfold kK;congr 1
theorem y74:uz e [.ff ws]=.ok (bZ 0 ws) e:=rfl
def B8(r:gF eh)(e1:L S):fG eh->R eh
 |O x=>(r e1).nR λy e2=>.ok (x++y) e2
 |none=>.no
def z4f:mU d r e=(d e).nR λw e1=>B8 r e1 (ur w):=by
 unfold mU;congr 1
theorem Q4j:inD (.str x) (.ba (.k kvs))=O (.bl (lk kvs (.j' x)).sG):=rfl
theorem Q4k:CM (.ba (.k kvs)) (.str x)=(lk kvs (.j' x)).ej EC:=rfl
theorem y75:lN i (.d0 n) (.str x) e (O (.ba (.k kvs)))=if kvs.J<16777216/\qm i e=true then .nx (e.my i (.ba (.k (_M kvs (.j' x) (.h8 n)))))else .no:=rfl
def xW(e:L S):fG S->SR
 |O (.ba d)=>.rt (.ba d) e
 |_=>.no
def z4g:lE i e=xW e e[i]?:=by
 rfl
theorem z4h:xW e (O (.ba dd))=.rt (.ba dd) e:=rfl
def T6(h:0<=n/\n<=1000):oV (.str ⟨#[c]⟩) (.d0 n)=O (.str ⟨(L.oS n.oR c).ky⟩):=by
 show(if 1<=(eh.mk #[c]).J/\(eh.mk #[c]).J<=1000/\0<=n/\n<=1000 then O (W.str ⟨(L.oS n.oR #[c]).t_ (·++·) #[]⟩)else none)=_;have e1:(eh.mk #[c]).J=1:=rfl;rw[gE ⟨by omega,by omega,h.1,h.2⟩]
 have hs:∀(m:dt)(m7:L dt),((L.oS m #[c]).t_ (·++·) m7.ky)=(m7++L.oS m c).ky:=by
  intro m
  induction m with
  |zc=>intro m7;simp
  |zD m ih=>
   grind
 grind
def z4i{d:fh}(e:uD.ri.KTD.tabLook uD.ri.KTD.flatLooks (λb=>K.fI b) d (tb.ej λp=>(p.1,Į.d0 p.2))=true)
  (n:((tb.ej λp=>(p.1,Į.d0 p.2)).ej (·.1)).p9)(q:uD.ri.KTD.hashesOf (λb=>K.fI b) d=(tb.ej λp=>(p.1,Į.d0 p.2)).ej λp=>(kd.YG P w).ZW p.1)
  (o:∃o,K.fI d=O o/\o.ie=.hJ "dict" /\ o.qZ=none):qE P w K d tb:=by
 refine⟨λh x=>?_,o⟩
 have z:=kd.W.kt_tab_in P w x e n q;rw[w1f]at z;exact z
section
variable{e k:l_}{dk:gF W}{dA:gF (L W)}{tb:L (eh×eW)}
def x3p(T:∃d,X.mg x=O (.ei d)/\qE X.g_ X.w X.K d tb)(hk:DE Z X EE k dk)(hg:fi (Gl X x) jJ)(hd:fi ((x==("__debug__":eh))=false) jK)(hs:gn k:=by intro _ _;rfl):
  DE Z X EE (.Hz (.je x p) k fZ) (jQ (nJ tb) dk):=by
 grind [y65]
end
open PyProof.Rows (envOfC)
inductive sF(K:Fg)(G H:Hp)(vs:L V)(a1 a2:fh)(iR ws2 ws:L W):Prop where
 |mk (AG AH us:L V) (h0:vs=.ei a1::.ei a2::us) (sg:au G H) (ne:a1≠a2) (h1:H a1=O (.fy AG)) (h2:H a2=O (.fy AH)) (g1:G a1=none) (g2:G a2=none) (r1:aq K G iR AG) (r2:aq K G ws2 AH) (r:aq K G ws us):sF K G H vs a1 a2 iR ws2 ws
structure sH(K:Fg)(G H G' H':Hp)(a1 a2:fh)(o1 o2:L W):Prop where
 Ww:∀a o,H a=O o->a≠a1->a≠a2->H' a=O o
 gg:au G G'
 mI:au G' H'
 rZ:∀a,H a≠none->G' a=G a
 l1:∃ys,H' a1=O (.fy ys)/\aq K G' o1 ys
 l2:∃ys,H' a2=O (.fy ys)/\aq K G' o2 ys
def zF(r:FR)(P:L W->L W->Prop):Prop:=match r with
 |.ok (.fr (.ff [.fy o1,.fy o2]))=>P o1 o2
 |_=>pV
def BA(K:Fg)(F:L W->FR):Sp:=λvs H Q E=>∃G a1 a2 iR ws2 ws,sF K G H vs a1 a2 iR ws2 ws/\zF (F (.fy iR::.fy ws2::ws)) λo1 o2=>∀G' H',sH K G H G' H' a1 a2 o1 o2->Q .aH H'
def SR.fm:SR->FR
 |.nx (.gD (O 0) o1::.gD (O 1) o2::_)=>.ok (.fr (.ff [.fy o1,.fy o2]))
 |_=>.no
def kj(n:dt):L W->L S
 |.fy iR::.fy ws2::ws=>.gD (O 0) iR::.gD (O 1) ws2::(ws.ej .fr++L.oS (n-2-ws.J) .no)
 |_=>[]
theorem MG{r:FR}{P:L W->L W->Prop}(h:zF r P):r≠.no:=λz=>by rw[z]at h;exact h
def y3m{G:Hp}{y:eh}{a1 a2:fh}{iR ws2 ws:L W}{vs:L V}(m:sF K G H vs a1 a2 iR ws2 ws):m_ K ⟨H,G,[a1,a2]⟩ G (L2.XD (x::y::N) vs) H (kj (x::y::N).J (.fy iR::.fy ws2::ws)):=by
 let⟨AG,AH,us,rfl,s,ne,h1,h2,g1,g2,r1,r2,r⟩:=m;have hl:=r.J;have hk:(x::y::N).J-2-ws.J=N.J-ws.J:=by simp
 have oI:L2.XD (x::y::N) (.ei a1::.ei a2::us)=O (.ei a1)::O (.ei a2)::(us.ej O++L.oS (N.J-us.J) none):=by
  unfold L2.XD;simp
 have yS:kj (x::y::N).J (.fy iR::.fy ws2::ws)=.gD (O 0) iR::.gD (O 1) ws2::(ws.ej .fr++L.oS (N.J-ws.J) .no):=by
  show S.gD (O 0) iR::S.gD (O 1) ws2::(ws.ej S.fr++L.oS ((x::y::N).J-2-ws.J) S.no)=_;rw[hk]
 rw[oI,yS]
 have kQ:∀(i:dt)(s:S),(ws.ej S.fr++L.oS (N.J-ws.J) S.no)[i]?=O s->(s=.no)\/∃w,s=.fr w/\ws[i]?=O w:=λi s h=>by
  rw[w5z]at h;split at h
  .rw[w1c]at h;let⟨w,h1,rfl⟩:=w0p.mp h;exact .j' ⟨w,rfl,h1⟩
  .rw[w2r]at h;split at h
   .cases h;exact .h8 rfl
   .cases h
 have Cw:∀(i:dt)(b:fG dt)(w:L W),(S.gD (O 0) iR::S.gD (O 1) ws2::(ws.ej S.fr++L.oS (N.J-ws.J) S.no))[i]?=O (.gD b w)->i=0\/i=1:=λi b w h=>by
  rcases i with _|_|i
  .exact .h8 rfl
  .exact .j' rfl
  .rcases kQ i _ h with z|⟨w,z,_⟩<;>cases z
 refine⟨s,λi t h=>?_,by simp[hl],λi j b b' w1 w2 a z1 z2 z3 z4=>?_,λa o h _=>h,(λa h=>?_),λa _=>rfl⟩
 .rcases i with _|_|i
  .cases h;exact⟨a1,AG,rfl,h1,g1,rfl,r1⟩
  .cases h;exact⟨a2,AH,rfl,h2,g2,rfl,r2⟩
  .rcases kQ i t h with rfl|⟨w,rfl,q1⟩
   .trivial
   .let⟨v,q2,q3⟩:=r.BX q1;refine⟨v,?_,q3⟩;have hi:i<us.J:=(w0c.mp q2).1;show((us.ej O++L.oS (N.J-us.J) none)[i]?).mF none=_;rw[w0x (by simpa using hi),w1c,q2];rfl
 .rcases Cw i _ _ z1 with rfl|rfl<;>rcases Cw j _ _ z2 with rfl|rfl
  .rfl
  .cases z3;cases z4;exact nS rfl ne
  .cases z3;cases z4;exact nS rfl ne
  .rfl
 .have h:a∈[a1,a2]:=h;rcases w0h.mp h with rfl|h
  .show H a≠none;rw[h1];simp
  .cases w0u.mp h;show H a2≠none;rw[h2];simp
section
variable{P:qM}{w:pT}{mg:eh->fG e5}{g0:fH}
def z4j{F:L W->FR}{G:Hp}{a1 a2:fh}{ws:L W}{Q:VK}{E:XK}{r:SR}(he:r.fm=F ws)(h:zF (F ws) λo1 o2=>∀G' H',sH K G H G' H' a1 a2 o1 o2->Q .aH H'):
  bx K ⟨H,G,[a1,a2]⟩ (λ_=>E) {nx:=λ_ H'=>Q .aH H',rt:=Q} G r:=by
 rw[<- he]at h;unfold SR.fm at h;split at h
 .rename_i o1 o2 tl;intro G' aN H' r s;let⟨b1,EJ,k1,k2,k3,k4,k5⟩:=r.gD (i:=0) rfl;let⟨b2,EK,m1,m2,m3,m4,m5⟩:=r.gD (i:=1) rfl;have e1:a1=b1:=fG.O.sE k4;have e2:a2=b2:=fG.O.sE m4;subst e1;subst e2;refine h G' H' ⟨λa o z n1 n2=>r.Ww a o z ?_,s,r.mI,λa z=>r.gen a z,⟨EJ,k2,k5⟩,⟨EK,m2,m5⟩⟩
  grind
 .exact h.ke
def B2{y1 y2:eh}{st:vv}{ps:L eh}{k:dt}{F:L W->FR}(A:At K mg x st ps)(sc:bV (y1::y2::N) ps (ax st))(oO:∀ws,F ws≠.no->ws.J=ps.J)
  (hb:∀ws,F ws≠.no->∀(f:fh)(bN:e5)(A:tf)(l4:L tY)(s:kx)(H:Hp)(E:XK)(Z:Zt),bL k (A.LO (Ot x (ax st) s.d_.e6.eG f bN)) ->
   ∃d,kO Z (eM (eJ P w) P w K mg g0 (y1::y2::N) x (ax st) f bN A l4 s H E) (λ_=>E) (bB st) d/\(d (kj (y1::y2::N).J ws)).fm=F ws):og P w K mg g0 (k+1) x ps (BA K F):=by
 refine A.Vo sc (λvs H Q E h=>?_) (λf bN A l4 s H vs Q E hr h=>?_)
 .let⟨G,a1,a2,iR,ws2,ws,m,h⟩:=h;let⟨AG,AH,us,rfl,_,_,_,_,_,_,_,_,r⟩:=m
  grind [MG,aq.J]
 .let⟨G,a1,a2,iR,ws2,ws,m,h⟩:=h;let⟨d,hd,he⟩:=hb _ (MG h) f bN A l4 s H E ⟨H,G,[a1,a2]⟩ hr;exact⟨_,hd,G,_,y3m m,z4j he h⟩
def B1{st:vv}{ps:L eh}{F:L W->FR}(A:At K mg x st ps)(hF:∀ws,F ws=.no:=by intro _;rfl):og P w K mg g0 0 x ps (BA K F):=by
 let⟨f,fd,F0,m,b⟩:=A.ex
 have no:∀{vs H Q E},BA K F vs H Q E->pV:=λh=>by
  let⟨G,a1,a2,iR,ws2,ws,m,h⟩:=h;exact MG h (hF _)
 exact⟨f,fd,⟨λvs H Q E h=>(no h).ke,λA l4 s H args us vs Q E _ _ _ _ h=>(no h).ke⟩,m,F0.kp,b⟩
end
def m_.JC{G G' H':Hp}{σ:St}(r:m_ K Z G σ H e){j:dt}{b1 b2:fG dt}{iR ws2 o1 o2:L W}{a1 a2:fh}(yR:i≠j)(h1:e[i]?=O (.gD b1 iR))(h2:e[j]?=O (.gD b2 ws2))
  (s1:σ[i]?=O (O (.ei a1)))(s2:σ[j]?=O (O (.ei a2)))(m:sH K G H G' H' a1 a2 o1 o2):m_ K Z G' σ H' ((e.my i (.gD b1 o1)).my j (.gD b2 o2)):=by
 let⟨c1,AG,q1,q2,q3,q4,q5⟩:=r.gD h1;let⟨c2,AH,p1,p2,p3,p4,p5⟩:=r.gD h2;rw[s1]at q1;cases q1;rw[s2]at p1;cases p1
 have ne:a1≠a2:=λz=>by
  subst z;exact yR (r.mR i j _ _ _ _ _ h1 h2 s1 s2)
 let⟨EJ,l1,t1⟩:=m.l1;let⟨EK,l2,t2⟩:=m.l2
 let H1:Hp:=λa=>if a=a1\/a=a2 then H a else H' a
 have g:bc G H G' H1:=by
  refine⟨λa o z=>?_,m.gg,λa o z=>?_,m.rZ⟩
  .show(if a=a1\/a=a2 then H a else H' a)=O o;split
   .exact z
   .rename_i n;exact m.Ww a o z (λk=>n (.h8 k)) (λk=>n (.j' k))
  .show(if a=a1\/a=a2 then H a else H' a)=O o;split
   .rename_i n
    have:H a≠none:=by
     grind
    rw[m.rZ a this]at z;exact r.mI a o z
   .exact m.mI a o z
 have r2:=(r.wq g).mut h1 s1 t1;have r3:=r2.mut (i:=j) (by rw[w0o yR];exact h2) s2 t2
 have he:l5 (l5 H1 a1 (.fy EJ)) a2 (.fy EK)=H':=by
  funext a
  by_cases z2:a=a2
  .grind [cI]
  .rw[bg z2]
   by_cases z1:a=a1
   .grind [cI]
   .rw[bg z1]
    grind
 rw[he]at r3;exact r3
def qj(i j:dt)(e:L S)(b1 b2:fG dt):FR->SR
 |.ok (.fr (.ff [.fy o1,.fy o2]))=>.nx ((e.my i (.gD b1 o1)).my j (.gD b2 o2))
 |_=>.no
def qi(F:L W->FR)(i j:dt)(us:L W)(e:L S):fG S->fG S->SR
 |O (.gD b1 iR),O (.gD b2 ws2)=>qj i j e b1 b2 (F (.fy iR::.fy ws2::us))
 |_,_=>.no
def qh(F:L W->FR)(i j:dt)(dA:gF (L W))(e:L S):fG S->fG S->SR
 |O (.gD _ _),O (.gD _ _)=>(dA e).cM λus e1=>qi F i j us e1 e1[i]? e1[j]?
 |_,_=>.no
def jk(F:L W->FR)(i j:dt)(dA:gF (L W)):L S->SR:=λe=>qh F i j dA e e[i]? e[j]?
section
variable{dA:gF (L W)}{AO pn:qY}{k:dt}{ps:L eh}{F:L W->FR}{y f:eh}
def z4k(i j:dt)(yR:i≠j)(C:og X.g_ X.w X.K X.mg X.g0 k f ps (BA X.K F))(hr:bL k X.A)(hx:dN (eJ X.g_ X.w) X EE)(ha:DA Z X EE es dA)
  (hN:fi (X.N[i]?=O x) jJ)(gC:fi (jy X.el.fj x) jM)(hd:fi ((x==("__debug__":eh))=false) jK)(dR:fi ((x==("__classdict__":eh))=false) jK)
  (H_:fi (X.N[j]?=O y) jJ)(CA:fi (jy X.el.fj y) jM)(Yg:fi ((y==("__debug__":eh))=false) jK)(Ip:fi ((y==("__classdict__":eh))=false) jK)
  (hg:fi (Gl X f) jJ)(fb:fi ((f==("__debug__":eh))=false) jK)(he:fi (lq (.je x p::.je y p2::es) X.el=(false,eval (.je x p) X.el)::lq (.je y p2::es) X.el) jJ)(mX:fi (lq (.je y p2::es) X.el=(false,eval (.je y p2) X.el)::lq es X.el) jJ)
  (df:fi ((r8 fZ (lq (.je y p2::es) X.el)).pX (·.1)=false) jJ)(hs:fi (Yh (.pY (.je f pn) (.je x p::.je y p2::es) [] fZ) none AO.y' X.el=pR false) jJ):
  DS Z X EE (.l_ (.pY (.je f pn) (.je x p::.je y p2::es) [] fZ) AO) (jk F i j dA):=by
 refine PS.ll (DH (Ha C hr hx (v9 (pv i hN gC hd dR) (v9 (pv j H_ CA Yg Ip) ha mX) he) hg fb he df) hs) ?_;rintro D σ H ⟨G,e,iA,h⟩;unfold jk qh at h;split at h
 .rename_i b1 iR b2 ws2 q1 q2;let⟨a1,AG,k1,k2,k3,k4,k5⟩:=iA.gD q1;let⟨a2,AH,m1,m2,m3,m4,m5⟩:=iA.gD q2;refine⟨.ei a1,k1,.ei a2,m1,G,e,iA,(jG h).pQ (λus e1 h G1 vs H1 r1 s1 p1=>?_) λ_ _ h=>h⟩
  unfold qi at h;split at h
  .rename_i c1 XN c2 XO t1 t2;let⟨a1',EJ,n1,n2,n3,n4,zc5⟩:=r1.gD t1;let⟨a2',EK,l1,l2,l3,zfu,zcZ⟩:=r1.gD t2;rw[k1]at n1;cases n1;rw[m1]at l1;cases l1;refine⟨G1,a1,a2,XN,XO,us,⟨EJ,EK,vs,by simp,r1.mI,λz=>?_,n2,l2,n3,l3,zc5,zcZ,p1⟩,?_⟩
   .subst z;exact yR (r1.mR i j _ _ _ _ _ t1 t2 k1 m1)
   .unfold qj at h;split at h
    .rename_i o1 o2 hF;rw[hF];intro G' H' m;exact h G' σ H' (r1.JC yR t1 t2 k1 m1 m) (s1.iD m.gg)
    .exact h.ke
  .exact h.ke
 .exact h.ke
end
section
variable{iR ws2 us o1 o2:L W}{b1 b2:fG dt}{j n:dt}{F:L W->FR}{dA:gF (L W)}
theorem z4l:jk F i j dA e=qh F i j dA e e[i]? e[j]?:=rfl
theorem z4m:qh F i j dA e (O (.gD b1 iR)) (O (.gD b2 ws2))=(dA e).cM λus e1=>qi F i j us e1 e1[i]? e1[j]?:=rfl
theorem z4n:qi F i j us e (O (.gD b1 iR)) (O (.gD b2 ws2))=qj i j e b1 b2 (F (.fy iR::.fy ws2::us)):=rfl
theorem z4o:qj i j e b1 b2 (.ok (.fr (.ff [.fy o1,.fy o2])))=.nx ((e.my i (.gD b1 o1)).my j (.gD b2 o2)):=rfl
theorem z4p:kj n (.fy iR::.fy ws2::us)=.gD (O 0) iR::.gD (O 1) ws2::(us.ej .fr++L.oS (n-2-us.J) .no):=rfl
theorem Q4l:SR.fm (.nx (.gD (O 0) o1::.gD (O 1) o2::e))=.ok (.fr (.ff [.fy o1,.fy o2])):=rfl
end
def y76{dr:It}{xs:L V}{SQ:Hp->Prop}(W0:_Z dr xs SQ){g:TG}{tb:TS}{D:Z1}{σ:St}(Pv:dt->St->Hp->Prop)(h0:Pv 0 σ H)(hl:∀i σ H,i<=xs.J->Pv i σ H->SQ H)
  (hs:∀i x σ H,xs[i]?=O x->Pv i σ H->g x σ H λiT H2=>tb {D with nx:=Pv (i+1),ct:=Pv (i+1),bk:=D.nx} iT H2)(hd:∀σ H,Pv xs.J σ H->D.nx σ H):
  ∃W:dt->dt->St->Hp->Prop,(∃m,W 0 m σ H)/\∀i m σ H,W i m σ H ->
   (dr.stop i H/\D.nx σ H)\/(dr.go i H/\∃N:St->Hp->Prop,(∀aN H',N aN H'->∃m',m'<m/\W (i+1) m' aN H')/\∀x H',dr.lr i H x H'->g x σ H' λiT H2=>tb {D with nx:=N,ct:=N,bk:=D.nx} iT H2):=by
 refine⟨λi m σ H=>m=xs.J-i/\i<=xs.J/\Pv i σ H,⟨xs.J,by simp,w1k _,h0⟩,?_⟩
 rintro i m σ H ⟨rfl,hi,p⟩;have q:=hl i σ H hi p
 by_cases cb:i<xs.J
 .refine .j' ⟨W0.go i H q cb,Pv (i+1),λaN H' p'=>⟨xs.J-(i+1),by omega,rfl,cb,p'⟩,λx H' y=>?_⟩
  let⟨e,z⟩:=W0.lr i H x H' q y cb
  grind
 .have qU:i=xs.J:=by omega
  subst qU;exact .h8 ⟨W0.stop _ H q (w0d _),hd σ H p⟩
def tj(i:dt)(b:L S->SR)(e:L S):W->SR
 |.str z=>bT i b (d8 z) e
 |_=>.no
def mO(i:dt)(d:gF W)(b:L S->SR):L S->SR:=λe=>(d e).cM λw e1=>tj i b e1 w
section
variable{e:l_}{o3:L vv}{s1:L S->SR}
def z4q(i:dt){AO:qY}(hN:X.N.p9)(hp:_V (mG X.g_ X.w) X.A X.el X.xe)(hc:X.wK=true)(hl:DE Z X EE e d)(hb:kO Z X EE o3 s1)
  (hi:fi (X.N[i]?=O x) jJ)(hx:fi (WH X.el.fj x) jN)(hf:fi (X.fn x=true\/X.el.fj.lH.fI x=O .local) jL)(hs:∀x,YS e X.el x=pR x:=by intro _;rfl):
  DS Z X EE (.For (.je x AO) e o3 [] fZ) (mO i d s1):=by
 refine PS.ll (DU hp hc (SV hl) (uj i hN hi hx hf) hb hs) ?_;rintro D σ H ⟨G,e,iA,h⟩;refine⟨G,e,iA,(jG h).pQ (λw e1 h G1 v1 H1 r1 q1 p1=>?_) λ_ _ h=>h⟩
 cases w with
 |str z=>
  cases p1;refine⟨z,rfl,?_⟩;let⟨Pv,h0,h1,h2,h3⟩:=Mx (i:=i) (D:=D) r1 (KI z.rq.n9) (bx.iD q1 h) (λ_=>w7) (λ_ _ _ _=>trivial)
  exact y76 SW Pv h0 h1 h2 h3
 |_=>exact h.ke
theorem z4r{b:L S->SR}{e:L S}:mO i d b e=(d e).cM λw e1=>tj i b e1 w:=rfl
theorem z4s{b:L S->SR}{e:L S}{z:eh}:tj i b e (.str z)=bT i b (d8 z) e:=rfl
end
open PySem L2 PySem.Spec PyProof.Rows
open PySem.Builtin.Str (occurrences partsBetween strKind strSub)
theorem Qp:∀(tk:dt)(xs:L eh),oK (xs.ej V.str) (strsFrom tk xs)
 |_,[]=>.m8
 |tk,x::xs=>.m6 ⟨tk,rfl⟩ (Qp (tk+1) xs)
def iI(x y:eh):fJ:=!(y.J==0)&&decide (x.J<=16777216)&&decide ((wF.split x y).J<=16777216)
def uo:V->L V->Hp->VK->Prop:=λv vs H Q=>∃x y:eh,v=.str x/\vs=[.str y]/\iI x y=true/\∀l,H l=none->Q (.ei l) (l5 H l (.fy ((wF.split x y).ej V.str)))
def y77{X:L2.Cx}:wR X "str.split" uo:=by
 intro eS s σ H x vs v us Q I rx rv h;let⟨x0,y0,rfl,rfl,ok,q⟩:=h;unfold iI at ok;rw[w0q,w0q,w3p]at ok;let⟨⟨hy,hx⟩,hn⟩:=ok;have hx:=Φ hx;have hn:=Φ hn;let⟨t,rfl⟩:=rx;let⟨u,rfl,ru⟩:=rv.WS;let⟨t2,rfl⟩:=ru
 have _I:∀(aC:L e5)(tk:dt),oK ((wF.split x0 y0).ej V.str) aC->EP X eS σ Q (.ei s.d_.e6.eG) {s with nW:=tk,d_:=s.d_.nV {ie:=.hJ "list", lg:=.mx aC.ky}}:=λaC tk hv=>
  ⟨.ei _,_,I.wg (t':=tk) (λb o e=>fH.q_ _ e) (w0d _) (show bh X.g_ X.w _ _ _ (.fy ((wF.split x0 y0).ej V.str))from⟨by grind [vN],aC,0,hv,fH.vM _ rfl⟩),rfl,q _ (I.aR.u3 (w0d _))⟩
 cases h1:(decide (x0.J<y0.J)||decide (YG x0<YG y0))
 .cases hf:(_J x0 y0 0 x0.J (x0.J+1)).yw
  .have e:wF.split x0 y0=zdh x0 (_J x0 y0 0 x0.J (x0.J+1)) y0.J:=(kl (Ŕ h1)).iD (kl (Ŕ hf));refine _b F.Ę (ϒ _ _ _) F.Ł (F.ĳ _ _) (meets_str_split_sep x0 y0 t t2 h1 hy hf (by grind [vN]) (by grind [vN])) ?_
   grind [Qp]
  .have e:wF.split x0 y0=[x0]:=(kl (Ŕ h1)).iD (gE hf);refine _b F.Ę (ϒ _ _ _) F.Ł (F.ĳ _ _) (meets_str_split_not_found x0 y0 t t2 h1 hy hf) ?_;exact _I [.str x0 t] s.nW (by rw[e];exact .m6 ⟨t,rfl⟩ .m8)
 .have e:wF.split x0 y0=[x0]:=gE h1;refine _b F.Ę (ϒ _ _ _) F.Ł (F.ĳ _ _) (meets_str_split_cannot_occur x0 y0 t t2 h1) ?_;exact _I [.str x0 t] s.nW (by rw[e];exact .m6 ⟨t,rfl⟩ .m8)
theorem Lq:∀xs:L eh,aq K G (xs.ej W.str) (xs.ej V.str)
 |[]=>rfl
 |_::xs=>⟨_,_,rfl,rfl,Lq xs⟩
def hW:W->L W->fG W
 |.str x,[.str y]=>if iI x y=true then O (.fy ((wF.split x y).ej .str))else none
 |_,_=>none
def y78:ES K uo hW:=by
 intro G H x xs wx ws w Q s px pr hf h;unfold hW at hf;split at hf
 .rename_i x0 y0;split at hf
  .rename_i ok;cases hf;let⟨y,r,rfl,py,pr⟩:=pr;cases(show r=[]from pr);cases(show x=V.str x0 from px);cases(show y=V.str y0 from py);exact⟨x0,y0,rfl,rfl,ok,λl hl=>h _ (.ei l) _ (bc.wg s hl _) ⟨l,_,rfl,cG.of cI,Lq _⟩⟩
  .cases hf
 .cases hf
def dS(x y:eh):L eh:=match _J x y 0 x.J 1 with
 |i::_=>[_k x 0 i,y,_k x (i+y.J) x.J]
 |[]=>[x,eh.ZG,eh.ZG]
def y3n(x y):(dS x y).J=3:=by grind [dS]
def mf(x y:eh):fJ:=!(y.J==0)&&decide (x.J<=16777216)
def xU:V->L V->Hp->VK->Prop:=λv vs H Q=>∃x y:eh,v=.str x/\vs=[.str y]/\mf x y=true/\∀l,H l=none->Q (.ei l) (l5 H l (.ff ((dS x y).ej V.str)))
def z4t{X:L2.Cx}:wR X "str.partition" xU:=by
 intro eS s σ H x vs v us Q I rx rv h;let⟨x0,y0,rfl,rfl,ok,q⟩:=h;unfold mf at ok;rw[w0q,w3p]at ok;let⟨hy,hx⟩:=ok;have hx:=Φ hx;let⟨t,rfl⟩:=rx;let⟨u,rfl,ru⟩:=rv.WS;let⟨t2,rfl⟩:=ru
 have _I:∀(aC:L e5)(tk:dt),oK ((dS x0 y0).ej V.str) aC->EP X eS σ Q (.ei s.d_.e6.eG) {s with nW:=tk,d_:=s.d_.nV {ie:=.hJ "tuple", lg:=.mx aC.ky}}:=λaC tk hv=>
  ⟨.ei _,_,I.wg (t':=tk) (λb o e=>fH.q_ _ e) (w0d _) (show bh X.g_ X.w _ _ _ (.ff ((dS x0 y0).ej V.str))from⟨by grind [y3n,vN],aC,hv,YY.rZ _ _,_,fH.vM _ rfl,rfl⟩),rfl,q _ (I.aR.u3 (w0d _))⟩
 refine _b F.zdD (ϒ _ _ _) F.entry_str_partition (F.args_str_partition_2 _ _) (meets_str_partition x0 y0 t t2 hy (by grind [vN])) ?_
 have e:dS x0 y0=match _J x0 y0 0 x0.J 1 with
  |i::_=>[_k x0 0 i,y0,_k x0 (i+y0.J) x0.J]
  |[]=>[x0,eh.ZG,eh.ZG]:=rfl
 revert e _I;generalize dS x0 y0=ps;cases _J x0 y0 0 x0.J 1 with
 |m8=>
  rintro _I rfl;exact _I _ _ (.m6 ⟨_,rfl⟩ (.m6 ⟨_,rfl⟩ (.m6 ⟨_,rfl⟩ .m8)))
 |m6 i r=>
  rintro _I rfl;exact _I _ _ (.m6 ⟨_,rfl⟩ (.m6 ⟨_,rfl⟩ (.m6 ⟨_,rfl⟩ .m8)))
def ny:W->L W->fG W
 |.str x,[.str y]=>if mf x y=true then O (.ff ((dS x y).ej .str))else none
 |_,_=>none
def z4u:ES K xU ny:=by
 intro G H x xs wx ws w Q s px pr hf h;unfold ny at hf;split at hf
 .rename_i x0 y0;split at hf
  .rename_i ok;cases hf;let⟨y,r,rfl,py,pr⟩:=pr;cases(show r=[]from pr);cases(show x=V.str x0 from px);cases(show y=V.str y0 from py);exact⟨x0,y0,rfl,rfl,ok,λl hl=>h _ (.ei l) _ (bc.wg s hl _) ⟨l,_,rfl,c6.of cI,Lq _⟩⟩
  .cases hf
 .cases hf
section
variable{o e:l_}{dA:gF (L W)}
theorem y79(ho:DE Z X EE o d)(ha:DA Z X EE [e] dA)
  (cC:fi (Z_ o "split" X.el (eval o X.el)=eval o X.el) jJ)
  (fX:fi (((r8 aW (lq [e] X.el)).oP (λx=>!x.1)&&(_D aW (_G [] X.el)).oP (λx=>x.1.sG)&&decide ([e].J+([]:L Yr).J+(if([]:L Yr).yw then 0 else 1)<30))=true) jJ)
  (cD:fi ((zp._g==aW.y')=true) jJ)(hs:fi (lq [e] X.el=(false,eval e X.el)::lq [] X.el) jJ)(b7:fi ((r8 aW (lq [] X.el)).pX (·.1)=false) jJ):
  DE Z X EE (.pY (.Zn o "split" zp) [e] [] aW) (dQ "str" hW d dA):=
 MB kd.F.ŝ kd.F.Ę kd.F.type_str_split y77 y78 ho ha cC fX cD hs b7
theorem z4v(ho:DE Z X EE o d)(ha:DA Z X EE [e] dA)
  (cC:fi (Z_ o "partition" X.el (eval o X.el)=eval o X.el) jJ)
  (fX:fi (((r8 aW (lq [e] X.el)).oP (λx=>!x.1)&&(_D aW (_G [] X.el)).oP (λx=>x.1.sG)&&decide ([e].J+([]:L Yr).J+(if([]:L Yr).yw then 0 else 1)<30))=true) jJ)
  (cD:fi ((zp._g==aW.y')=true) jJ)(hs:fi (lq [e] X.el=(false,eval e X.el)::lq [] X.el) jJ)(b7:fi ((r8 aW (lq [] X.el)).pX (·.1)=false) jJ):
  DE Z X EE (.pY (.Zn o "partition" zp) [e] [] aW) (dQ "str" ny d dA):=
 MB kd.F.ŝ kd.F.zdD kd.F.type_str_partition z4t z4u ho ha cC fX cD hs b7
end
open PySem.Builtin.Str (occurrences partsBetween tooLong)
def PP(X:Cx)(e:l_)(t:TE):Prop:=
 ∀(eS:L (fh×nU))(s:kx)(σ:L2.St)(H:Hp)(Q:VK),g8 X eS σ H s->0<s.nW->t σ H Q->kX (mG X.g_ X.w) X.A (eval e X.el) (λv s'=>EP X eS σ Q v s'/\0<s'.nW) X.xe s
end D
namespace L2
open PySem PySem.Spec PyProof.Rows
end L2
namespace D
open PySem L2 PySem.Spec PyProof.Rows
open PyProof.Rows (envOfC)
end D
namespace L2
open PySem PySem.Spec PyProof.Rows
end L2
namespace D
open PySem L2 PySem.Spec PyProof.Rows
end D
namespace L2
open PySem PySem.Spec PyProof.Rows
end L2
namespace D
open PySem L2 PySem.Spec PyProof.Rows
open Classical
variable{a b:fh}{fz:fJ}{X:Cx}{dk:gF W}{G H:Hp}{σ:L2.St}{EE:L2.St->XK}{ks:L Kx}{e:L S}{ws:L W}{i:dt}{fZ:qY}{K:Fg}{sh:Sh}{x:eh}{v:V}{Z:Zt}
mutual
noncomputable def CP:W->Option Kx
 |.aH=>some .aH
 |.bl b=>some (.bl b)
 |.int i=>some (.int i)
 |.str _=>none
 |.tup ws=>(lh ws).map .tup
 |_=>none
noncomputable def lh:List W->Option (List Kx)
 |[]=>some []
 |w::ws=>match CP w,lh ws with
  |some k,some ks=>some (k::ks)
  |_,_=>none
end
def stH(o:nU):fJ:=match o.lg with
 |.mx aC _=>(match aC.n9 with
  |.str _ _::_=>true
  |_=>false)
 |_=>false
def eo(K:Fg):Prop:=∀a o,K.fI a=O o->o.ie=.hJ "tuple"->stH o=true
def c6.rd{xs:L V}(hK:eo K)(q:c6 K G a xs):Rd G a (.ff xs)\/∃x r,xs=.str x::r:=by
 rcases q with q|⟨o,aC,n,h1,h2,h3,h4,h5,h6⟩
 .exact .h8 q
 .have z:=hK a o h1 h2;unfold stH at z;rw[h4]at z;dsimp only at z;split at z
  .rename_i q;rw[q]at h6;cases h6 with
   |m6 r _=>
    rename_i v vs _;cases v with
    |str y=>exact .j' ⟨y,vs,rfl⟩
    |_=>first|(cases r;done)|(let⟨_,r⟩:=r;cases r)
  .cases z
mutual
theorem SX{K:Fg}{G H:Hp}(hK:eo K)(s:au G H):∀(w:W){k:Kx}{v:V},CP w=some k->Rep K G w v->cx H k v
 |.bl b,k,v,e,r=>by cases e;exact r
 |.int b,k,v,e,r=>by cases e;exact r
 |.str b,k,v,e,r=>by cases e
 |.tup ws,k,v,e,r=>by
  have e:(lh ws).map Kx.tup=some k:=e;let⟨ks,h1,rfl⟩:=w0p.mp e;let⟨a,xs,rfl,q,rs⟩:=r;refine⟨a,xs,rfl,?_,RQ hK s ws h1 rs⟩;rcases c6.rd hK q with(z|⟨o,z⟩)|⟨x,r,rfl⟩
  .exact .inl (s _ _ z)
  .exact .inr ⟨o,s _ _ z⟩
  .cases ws with
   |nil=>cases rs
   |cons w ws=>
    let⟨y,zgy,q,r1,r2⟩:=rs;cases q;have h1:(match CP w,lh ws with|some k,some ks=>some (k::ks)|_,_=>none)=some ks:=h1;cases w with
    |str x=>cases h1
    |aH=>cases r1
    |bl _=>cases r1
    |int _=>cases r1
    |fn i l ws=>let⟨_,_,_,_,r,_⟩:=r1;cases r
    |dw _ _ _ _=>let⟨_,_,_,r,_⟩:=r1;cases r
    |tup _=>let⟨_,_,r,_⟩:=r1;cases r
    |lst _=>let⟨_,_,r,_⟩:=r1;cases r
    |exc _=>let⟨_,r,_⟩:=r1;cases r
    |ba _=>let⟨_,r,_⟩:=r1;cases r
 |.aH,k,v,e,r=>by cases e;exact r
 |.lst _,k,v,e,r=>by cases e
 |.exc _,k,v,e,r=>by cases e
 |.ba _,k,v,e,r=>by cases e
 |.dw _ _ _ _,k,v,e,r=>by cases e
 |.fn _ _ _,k,v,e,r=>by cases e
theorem RQ{K:Fg}{G H:Hp}(hK:eo K)(s:au G H):∀(ws:List W){ks:List Kx}{vs:List V},lh ws=some ks->aq K G ws vs->fu H ks vs
 |[],ks,vs,e,r=>by cases e;exact r
 |w::ws,ks,vs,e,r=>by
  have e:(match CP w,lh ws with|some k,some ks=>some (k::ks)|_,_=>none)=some ks:=e;split at e
  .rename_i k0 Oq h1 h2;cases e;let⟨x,xs,rfl,r1,r2⟩:=r;exact⟨x,xs,rfl,SX hK s w h1 r1,RQ hK s ws h2 r2⟩
  .cases e
end
def jD:W->fG Kx
 |.ff ws=>(lh ws).ej .ff
 |_=>none
def Gw(hK:eo K)(s:au G H){w:W}{k:Kx}(e:jD w=O k)(r:nQ K G w v):∃b,v=.ei b/\cx H k (.ei b):=by
 cases w with
 |ff ws=>
  have z:=SX hK s (.ff ws) e r;let⟨a,xs,rfl,q,rs⟩:=r;exact⟨a,rfl,z⟩
 |_=>cases e
def Zw(k:Kx)(sh:Sh):Prop:=eX k sh/\k.oY<=7
theorem dj.Ϗ{k:Kx}(hk:cx G k (.ei b)):∀{ks:L Kx}{bs:L fh},dj G ks bs->dj G (ks++[k]) (bs++[b])
 |[],[],_=>⟨hk,trivial⟩
 |_::_,_::_,h=>⟨h.1,dj.Ϗ hk h.2⟩
 |[],_::_,h=>h.ke
 |_::_,[],h=>h.ke
def iO:L Kx->L W->Kx->fG W
 |k::ks,w::ws,x=>if k=x then O w else iO ks ws x
 |_,_,_=>none
theorem M3{K:Fg}{G:Hp}{x:Kx}:∀{kvs:L (Kx×V)}{ws:L W},aq K G ws (kvs.ej (·.2)) ->
  (∀w,iO (kvs.ej (·.1)) ws x=O w->∃v,fq kvs x=O v/\nQ K G w v)/\(iO (kvs.ej (·.1)) ws x=none->fq kvs x=none)
 |[],ws,r=>by
  cases ws with
  |m8=>exact⟨(λw z=>nomatch z),λ_=>rfl⟩
  |m6 w ws=>let⟨_,_,z,_⟩:=r;cases z
 |p::kvs,[],r=>by cases(show _=[]from r)
 |p::kvs,w::ws,r=>by
  let⟨v,rr,z,h1,h2⟩:=r;cases z;have ih:=M3 (x:=x) h2
  by_cases e:p.1=x
  all_goals simp_all [iO,Bj,Bk]
def vk.rd{kvs:L (Kx×V)}{bC:L fh}(s:au G H)(h:vk fz G a sh kvs bC):Rd H a (pJ sh kvs bC):=by
 cases fz with
 |true=>let⟨o,h⟩:=h;exact .j' ⟨o,s _ _ h⟩
 |false=>exact .h8 (s _ _ h)
def Fp{t:Kx}(kr:cx H t (.ei b))(hc:Zw t sh):sh.xo=false:=by
 cases sh with
 |d0=>
  cases t with
  |d0 i=>exact nomatch (show V.ei b=V.d0 i from kr)
  |_=>exact hc.1.ke
 |str=>
  cases t with
  |str i=>exact nomatch (show V.ei b=V.str i from kr)
  |_=>exact hc.1.ke
 |_=>rfl
def Fc(w d:W):fG W:=match jD w,d with
 |O k,.dw _ sh ks ws=>if Zw k sh then O (.bl (iO ks ws k).sG)else none
 |_,_=>none
def rB(w d:W):fG W:=match jD w,d with
 |O k,.dw _ sh ks ws=>if Zw k sh then O (.bl (!(iO ks ws k).sG))else none
 |_,_=>none
def A4(d w:W):fG W:=match jD w,d with
 |O k,.dw _ sh ks ws=>if Zw k sh then iO ks ws k else none
 |_,_=>none
def SY{k:Kx}(s:au G H)(p:nQ K G (.dw fz sh ks ws) v)(kr:cx H k (.ei b))(hc:Zw k sh):
  ∃a o,v=.ei a/\eK H a (.ei b) o/\(∀w,iO ks ws k=O w->∃u,o=O u/\nQ K G w u)/\(iO ks ws k=none->o=none):=by
 let⟨a,kvs,bC,rfl,h1,rfl,h3,h4⟩:=p;refine⟨a,_,rfl,eK.t (by have:=h1.rd s;rwa [ED (Fp kr hc)]at this) ⟨kr,hc⟩,?_⟩;exact M3 h4
def z4w(hK:eo K):iq K (λy x H Q=>∃a o,x=.ei a/\eK H a y o/\Q (.bl (!o.sG)) H) rB:=by
 intro G H x y wx wy w Q s px py hf h;unfold rB at hf;split at hf
 .rename_i k fz sh ks ws hk;split at hf
  .rename_i hc;cases hf;let⟨b,rfl,kr⟩:=Gw hK s hk px;let⟨a,o,rfl,g,g1,g2⟩:=SY s py kr hc;refine⟨a,o,rfl,g,h G _ H (.oQ s) ?_⟩;show V.bl (!o.sG)=V.bl (!(iO ks ws k).sG);cases q:iO ks ws k with
   |none=>rw[g2 q];rfl
   |O w=>let⟨u,hu,_⟩:=g1 w q;rw[hu];rfl
  .cases hf
 .cases hf
def T7(hK:eo K):iq K (λx y H Q=>∃a v,x=.ei a/\eK H a y (O v)/\Q v H) A4:=by
 intro G H x y wx wy w Q s px py hf h;unfold A4 at hf
 grind [Gw,SY,bc.oQ]
section
variable{a b e k o:l_}{es:L l_}{da db d:gF W}{dA:gF (L W)}{p jf:qY}{o3:L vv}{s1:L S->SR}
theorem z4x(hK:eo X.K)(hu:X.A.r7+150<r_)(ha:DE Z X EE a da)(hb:DE Z X EE b db)(hm:fi (Y_ .Z7 b=false) jJ):DT Z X EE (.Vq a [.Z7] [b] fZ) (av (ag rB da db)):=
 PT.ll (Sw (y3f (by omega) ha hb) hm) λσ H Q h=>u9 (z4w hK) σ H _ (Lk h)
theorem Q06(hK:eo X.K)(hu:X.A.r7+150<r_)(ha:DE Z X EE a da)(hb:DE Z X EE b db)(hs:sI b:=by intro _ _;rfl):DE Z X EE (.Hz a b fZ) (ag A4 da db):=
 PE.ll (ME (by omega) ha hb hs) (u9 (T7 hK))
def tM:S->fJ
 |.dw _ _ _=>true
 |.ba _=>true
 |_=>false
def m_.NF{e:L S}(r:m_ K Z G σ H e)(h:e[i]?=O (.dw sh ks ws)):∃a kvs bC,σ[i]?=O (O (.ei a))/\H a=O (pJ sh kvs bC)/\G a=none/\Z.H a=none/\kvs.ej (·.1)=ks/\cJ sh G ks bC/\fP K Z G sh ws (kvs.ej (·.2)):=by
 let⟨a,kvs,bC,h1,h2,h3,h4,h5,h6,h7⟩:=r.r5 i _ h;refine⟨a,kvs,bC,?_,h2,h3,h4,h5,h6,h7⟩;cases q:σ[i]? with
 |none=>rw[q]at h1;cases h1
 |O z=>rw[q]at h1;rw[show z=O (V.ei a)from h1]
def m_.dw{e:L S}(r:m_ K Z G σ H e)(h:e[i]?=O (.dw sh ks ws)):∃a kvs bC,σ[i]?=O (O (.ei a))/\H a=O (pJ sh kvs bC)/\G a=none/\Z.H a=none/\kvs.ej (·.1)=ks/\cJ sh G ks bC/\aq K G ws (kvs.ej (·.2)):=by
 let⟨a,kvs,bC,h1,h2,h3,h4,h5,h6,h7⟩:=r.NF h;exact⟨a,kvs,bC,h1,h2,h3,h4,h5,h6,h7.rG⟩
def m_.Eb{e:L S}(r:m_ K Z G σ H e){s:S}(hs:∀b ws,s≠.gD b ws)(q:fQ K Z G H s (O v)):m_ K Z G (σ.my i (O v)) H (e.my i s):=by
 refine⟨r.mI,λj t z=>?_,by simpa using r.oO,λj k b1 b2 w1 w2 c z1 z2 z3 z4=>?_,r.Ww,r.mD,r.gen⟩
 .by_cases hj:j=i
  .subst hj
   have hi:j<e.J:=by
    have:=(w0c.mp z).1;simpa using this
   rw[w0t hi]at z;cases z;rw[w0t (by rw[<- r.oO];exact hi)];exact q
  .rw[w0o (λz=>hj z.symm)]at z |-
   exact r.r5 j t z
 .have tB:∀(k:dt)(bb:fG dt)(ww:L W),(e.my i s)[k]?=O (.gD bb ww)->k≠i/\e[k]?=O (.gD bb ww):=λk bb ww z=>by
   by_cases hk:k=i
   .subst hk
    have hi:k<e.J:=by
     have:=(w0c.mp z).1;simpa using this
    rw[w0t hi]at z;cases z;exact nS rfl (hs _ _)
   .rw[w0o (λz=>hk z.symm)]at z;exact⟨hk,z⟩
  let⟨n1,q1⟩:=tB _ _ _ z1;let⟨n2,q2⟩:=tB _ _ _ z2;rw[w0o (λz=>n1 z.symm)]at z3
  rw[w0o (λz=>n2 z.symm)]at z4
  exact r.mR _ _ _ _ _ _ _ q1 q2 z3 z4
def m_.xv{e:L S}(r:m_ K Z G σ H e){sh:Sh}{ks':L Kx}{ws':L W}{a:fh}{kvs':L (Kx×V)}{kas':L fh}(h:e[i]?=O (.dw sh ks ws))(ha:σ[i]?=O (O (.ei a)))(ho:∀s∈e.my i .no,tM s=false)
  (h5:kvs'.ej (·.1)=ks')(h6:cJ sh G ks' kas')(h7:fP K Z G sh ws' (kvs'.ej (·.2))):m_ K Z G σ (l5 H a (pJ sh kvs' kas')) (e.my i (.dw sh ks' ws')):=by
 let⟨a',kvs,bC,h1,h2,h3,h4,_⟩:=r.dw h;rw[ha]at h1;cases h1;have hi:i<e.J:=(w0c.mp h).1;refine⟨λc o z=>?_,λj s z=>?_,by simpa using r.oO,λj k b1 b2 w1 w2 c z1 z2 z3 z4=>?_,λc o z n=>?_,λc z=>?_,r.gen⟩
 .rw[bg (gQ z h3)];exact r.mI c o z
 .by_cases hj:j=i
  .subst hj;rw[w0t hi]at z;cases z;exact⟨a,kvs',kas',by rw[ha];rfl,cI,h3,h4,h5,h6,h7⟩
  .rw[w0o (λz=>hj z.symm)]at z
   have y:=r.r5 j s z;cases s with
   |no=>trivial
   |fr w=>exact y
   |gD b2 w2=>
    let⟨c,ys,y1,y2,y3,y4,y5⟩:=y;refine⟨c,ys,y1,?_,y3,y4,y5⟩;rw[bg (qr y2 h2 (λz=>Ai rfl z.symm))];exact y2
   |ba _=>
    have:=ho _ (w1m (i:=j) (by rw[w0o (λz=>hj z.symm)];exact z))
    cases this
   |dw _ _ _=>
    have:=ho _ (w1m (i:=j) (by rw[w0o (λz=>hj z.symm)];exact z))
    cases this
 .have tB:∀(k:dt)(bb:fG dt)(ww:L W),(e.my i (S.dw sh ks' ws'))[k]?=O (.gD bb ww)->e[k]?=O (.gD bb ww):=λk bb ww z=>by
   by_cases hk:k=i
   .subst hk;rw[w0t hi]at z;cases z
   .rw[w0o (λz=>hk z.symm)]at z;exact z
  exact r.mR _ _ _ _ _ _ _ (tB _ _ _ z1) (tB _ _ _ z2) z3 z4
 .rw[bg (gQ z h4)];exact r.Ww c o z n
 .by_cases hc:c=a
  .subst hc;rw[cI];exact λz=>nomatch z
  .rw[bg hc];exact r.mD c z
def qp(i:dt)(w kw:W)(e:L S):fG S->SR
 |O (.dw sh ks ws)=>match jD kw with
  |O x=>if ks.J<16777216/\(e.my i .no).oP (λs=>!tM s)=true/\Zw x sh/\iO ks ws x=none/\sh.Jl=false then .nx (e.my i (.dw sh (ks++[x]) (ws++[w])))else .no
  |none=>.no
 |_=>.no
def qo(i:dt)(dk:gF W)(w:W)(e1:L S):fG S->SR
 |O (.dw _ _ _)=>(dk e1).cM λkw e2=>qp i w kw e2 e2[i]?
 |_=>.no
def mP(i:dt)(d dk:gF W):L S->SR:=λe=>(d e).cM λw e1=>qo i dk w e1 e1[i]?
def z4y(i:dt)(hK:eo X.K)(hu:X.A.r7+150<r_)(he:DE Z X EE e d)(hk:DE Z X EE k dk)(hN:fi (X.N[i]?=O x) jJ)(hv:fi (jy X.el.fj x) jM)(hd:fi ((x==("__debug__":eh))=false) jK)(dR:fi ((x==("__classdict__":eh))=false) jK)
  (hs:fi (Yh e (O (.Hz (.je x p) k jf)) fZ.y' X.el=pR false) jJ):DS Z X EE (.Yz [.Hz (.je x p) k jf] e fZ) (mP i d dk):=by
 refine PS.ll (RO (by omega) (pv i hN hv hd dR) hk he hs) ?_;rintro D σ H ⟨G,e,iA,h⟩;refine⟨G,e,iA,(jG h).pQ (λw e1 h G1 v1 H1 r1 s1 p1=>?_) λ_ _ h=>h⟩
 unfold qo at h;split at h
 .rename_i sh0 Oq G8 tD;let⟨a,Ju,Jp,q1,q2,_⟩:=r1.dw tD;refine⟨.ei a,q1,G1,e1,r1,(jG (σ:=σ) h).pQ (λkw e2 h G2 v2 H2 r2 s2 p2=>?_) λ_ _ h G' H' r s=>h G' H' r (s1.iD s)⟩
  unfold qp at h;split at h
  .rename_i sh ks ws mX;let⟨a',kvs,bC,g1,g2,g3,g4,g5,g6,g7⟩:=r2.dw mX;rw[q1]at g1;cases g1;split at h
   .rename_i t tE;split at h
    .rename_i hc;let⟨b,rfl,kr⟩:=Gw hK (.oQ G2) tE p2;have Js:cx H2 t (.ei b):=cx.AN (λ_ _ _ z=>r2.mI _ _ z) t kr
     subst g5;have hI:=Fp kr hc.2.2.1;rw[ED hI]at g2;have Cu:fq kvs t=none:=(M3 g7).2 hc.2.2.2.1;refine⟨a,_,rfl,mJ.t g2 ⟨Js,hc.2.2.1⟩ (by rw[vN];have:=hc.1;rw[w0b]at this;exact this),?_⟩;rw[y7s v1 Cu,show iJ kvs bC t b=bC++[b] by unfold iJ;rw[Cu];rfl,<- ED hI];refine h G2 σ _ (r2.xv (ks':=kvs.ej (·.1)++[t]) (ws':=ws++[w]) mX q1 (λs hs=>?_) (by rw[w0m];rfl) (.of (dj.Ϗ kr (g6.g hI)) hI) ?_) (s1.iD s2)
     .have:=w1l.mp hc.2.1 s hs;simpa using this
     .rw[w0m];exact .of hc.2.2.2.2 (g7.N' (.WS (nQ.ll s2 w p1)))
    .exact h.ke
   .exact h.ke
  .exact h.ke
 .exact h.ke
def ux(i:dt)(e:L S):FR->SR
 |.ok (.dw sh ks ws)=>.nx (e.my i (.fr (.dw false sh ks ws)))
 |_=>.no
def j8(i:dt)(F:L W->FR)(dA:gF (L W)):L S->SR:=λe=>(dA e).cM λws e1=>ux i e1 (F ws)
def y8a(i:dt){f:eh}{k:dt}{ps:L eh}{F:L W->FR}{np aW:qY}(hN:X.N.p9)(C:og X.g_ X.w X.K X.mg X.g0 k f ps (nG X.K F))(hr:bL k X.A)(hx:dN (eJ X.g_ X.w) X EE)(ha:DA Z X EE (e::es) dA)(hg:fi (Gl X f) jJ)
  (fb:fi ((f==("__debug__":eh))=false) jK)(he:fi (lq (e::es) X.el=(false,eval e X.el)::lq es X.el) jJ)(df:fi ((r8 aW (lq es X.el)).pX (·.1)=false) jJ)
  (hi:fi (X.N[i]?=O x) jJ)(hl:fi (WH X.el.fj x) jN)(hs:fi (Yh (.pY (.je f np) (e::es) [] aW) (O (.je x p)) fZ.y' X.el=pR false) jJ)(hf:fi (X.fn x=true\/X.el.fj.lH.fI x=O .local) jL):
  DS Z X EE (.Yz [.je x p] (.pY (.je f np) (e::es) [] aW) fZ) (j8 i F dA):=by
 refine PS.ll (Bw i hN (Ha C hr hx ha hg fb he df) hi hl hs hf) ?_;rintro D σ H ⟨G,e,iA,h⟩;refine⟨G,e,iA,(jG h).pQ (λws e1 h G1 vs H1 r1 s1 p1=>?_) λ_ _ h=>h⟩
 refine⟨G1,ws,r1.mI,by rw[w0s];exact p1,?_⟩;cases q:F ws with
 |ok s=>
  rw[q]at h;intro G' H' v g sl;cases s with
  |dw sh ks ws'=>
   let⟨a,kvs,bC,h1,h2,h3,h4,h5,h6,h7⟩:=sl;cases h1;have hn:H1 a=none:=h4;have sg:au G' (l5 G' a (pJ sh kvs bC)):=v7 h3 _
   have g2:bc G1 H1 (l5 G' a (pJ sh kvs bC)) H':=
    ⟨g.hh,g.gg.iD sg,λc u z=>by
     by_cases hc:c=a
     .subst hc;rw[cI]at z;cases z;exact h2
     .rw[bg hc]at z;exact g.mI _ _ z,λc z=>by rw[bg (λy=>z (by rw[y];exact hn))];exact g.rZ c z⟩
   exact h _ _ _ ((r1.wq g2).my (w:=.dw false sh ks ws') (v:=.ei a) ⟨a,kvs,bC,rfl,cI,h5,h6.ll sg,aq.ll sg ws' h7.rG⟩) (s1.iD g2.gg)
  |_=>exact h.ke
 |ex c=>rw[q]at h;exact h.ke
 |no=>rw[q]at h;exact h.ke
theorem y8b{F:L W->FR}{e:L S}:j8 i F dA e=(dA e).cM λws e1=>ux i e1 (F ws):=rfl
theorem y8c{e:L S}:ux i e (.ok (.dw sh ks ws))=.nx (e.my i (.fr (.dw false sh ks ws))):=rfl
def wm(e:L S):fG S->SR
 |O (.dw sh ks ws)=>.rt (.dw sh ks ws) e
 |_=>.no
def pH(i:dt):L S->SR:=λe=>wm e e[i]?
def z4z(i:dt)(hN:fi (X.N[i]?=O x) jJ)(hv:fi (jy X.el.fj x) jM)(hd:fi ((x==("__debug__":eh))=false) jK)(dR:fi ((x==("__classdict__":eh))=false) jK):
  DS Z X EE (.ξ (O (.je x p)) fZ) (pH i):=by
 refine PS.ll (DR (pv i hN hv hd dR)) ?_;rintro D σ H ⟨G,e,iA,h⟩;unfold pH wm at h;split at h
 .rename_i sh ks ws hw;let⟨a,kvs,bC,h1,h2,h3,h4,h5,h6,h7⟩:=iA.NF hw;exact⟨.ei a,h1,h G σ (.ei a) H iA (.oQ _) ⟨a,kvs,bC,rfl,h2,h3,h4,h5,h6,h7⟩⟩
 .exact h.ke
end
section
variable{w kw dflt:W}{x:Kx}
theorem z40{d:gF W}:mP i d dk e=(d e).cM λw e1=>qo i dk w e1 e1[i]?:=rfl
theorem z41:qo i dk w e (O (.dw sh ks ws))=(dk e).cM λkw e2=>qp i w kw e2 e2[i]?:=rfl
def z42(hk:jD kw=O x)(h1:ks.J<16777216)(h2:(e.my i .no).oP (λs=>!tM s)=true)(h3:Zw x sh)(h4:iO ks ws x=none)(h5:fi (sh.Jl=false) jJ):qp i w kw e (O (.dw sh ks ws))=.nx (e.my i (.dw sh (ks++[x]) (ws++[w]))):=by
 show(match jD kw with|O x=>_|none=>_)=_;rw[hk];exact gE ⟨h1,h2,h3,h4,h5⟩
theorem z43:pH i e=wm e e[i]?:=rfl
theorem Q07:wm e (O (.dw sh ks ws))=.rt (.dw sh ks ws) e:=rfl
def T8(hk:jD w=O x)(hc:Zw x sh):rB w (.dw fz sh ks ws)=O (.bl (!(iO ks ws x).sG)):=by
 simp_all [rB]
def TC(hk:jD w=O x)(hc:Zw x sh):A4 (.dw fz sh ks ws) w=iO ks ws x:=by
 simp_all [A4]
theorem z44:jq (.dw sh ks ws)=.fr (.dw false sh ks ws):=rfl
end
def iM(K:Fg)(a:fh):fJ:=match K.fI a with
 |O o=>(match o.ie with
  |.hJ n=>n=="tuple"&&!stH o
  |_=>false)
 |none=>false
def dZ(K:Fg):Fg:=K.Tn λp=>!iM K p.1
theorem F6{q:fh->fJ}:∀{K:Fg}{o:nU},(K.Tn λp=>q p.1).fI a=O o->K.fI a=O o/\q a=true
 |[],_,h=>by cases h
 |(b,u)::K,o,h=>by
  by_cases hq:q b=true
  .rw[w4c (p:=λp:fh×nU=>q p.1) (a:=(b,u)) hq]at h
   by_cases e:a=b
   .grind
   .rw[show L.fI a ((b,u)::(K.Tn λp=>q p.1))=L.fI a (K.Tn λp=>q p.1) by grind]at h
    let⟨h1,h2⟩:=F6 h
    grind
  .rw[w4d (p:=λp:fh×nU=>q p.1) (a:=(b,u)) hq]at h
   let⟨h1,h2⟩:=F6 h
   grind
theorem y8d{h:fH}(X:K.In h):(dZ K).In h:=λa o e=>X a o (F6 (q:=λa=>!iM K a) e).1
theorem y8e:eo (dZ K):=λa o e z=>by
 let⟨h1,h2⟩:=F6 (q:=λa=>!iM K a) e
 unfold iM at h2;rw[h1]at h2
 simpa [z]using h2
def q1f{o:nU}(h:K.fI a=O o)(t:iM K a=false):(dZ K).fI a=O o:=by
 have gen:∀(l:Fg)(q:fh->fJ),q a=true->l.fI a=O o->(l.Tn λp=>q p.1).fI a=O o:=by
  intro l q hq
  induction l with
  |m8=>intro h;cases h
  |m6 p l ih=>
   grind
 exact gen K (λa=>!iM K a) (by rw[t];rfl) h
def q3b{r:fG e5}(h:kd.W._j K a x=O r)(t:iM K a=false):kd.W._j (dZ K) a x=O r:=by
 unfold kd.W._j at h |-
 cases q:K.fI a with
 |none=>rw[q]at h;cases h
 |O o=>rw[q1f q t];rw[q]at h;exact h
def AA(K:Fg):e5->fJ
 |.ei a=>iM K a
 |_=>false
def x7m{cd:e5}(h:kd.W._d K cd x=true)(t:AA K cd=false):kd.W._d (dZ K) cd x=true:=by
 cases cd with
 |ei a=>
  unfold kd.W._d at h |-
  dsimp only at h |-
  cases q:K.fI a with
  |none=>rw[q]at h;cases h
  |O o=>rw[q1f q t];rw[q]at h;exact h
 |_=>cases h
def funAt(K:Fg)(a:fh):fJ:=!iM K a&&(match K.fI a with
 |O ⟨_,_,.Yv _,_⟩=>true
 |_=>false)
open PySem L2
section
variable{a b:l_}{da db:gF W}
def i5(d w:W):fG W:=match d,w with
 |.dw _ .str ks ws,.str n=>iO ks ws (.str n)
 |_,_=>none
theorem RS{n:eh}:∀{kvs:L (Kx×V)}{ws:L W}{w:W},(∀k∈kvs.ej (·.1),∃i,k=Kx.str i)->aq K G ws (kvs.ej (·.2))->iO (kvs.ej (·.1)) ws (.str n)=O w->∃v,fq (kvs.ej λp=>(qa p.1,p.2)) (.j' n:wB)=O v/\nQ K G w v
 |[],_,_,_,_,e=>by grind [iO]
 |p::l,[],_,_,h,_=>nomatch (show(p::l).ej (·.2)=[]from h)
 |p::l,w0::ws,w,hk,⟨y,r,e0,h1,h2⟩,e=>by
  injection e0 with e0 B4
  subst e0;subst B4;let⟨i,hi⟩:=hk p.1 (by simp);have e:(if p.1=Kx.str n then O w0 else iO (l.ej (·.1)) ws (.str n))=O w:=e
  by_cases hp:p.1=Kx.str n
  .rw[gE hp]at e;cases e;refine⟨p.2,?_,h1⟩;rw[w0j,hp];exact Bj rfl
  .rw[kl hp]at e;let⟨v,h3,h4⟩:=RS (λk hk'=>hk k (by grind)) h2 e
   refine⟨v,?_,h4⟩;rw[w0j,Bk]
   .exact h3
   .intro z;rw[hi]at z hp;injection z with z
    exact hp (by rw[z])
def T9:iq K (λx y H Q=>∃a v,x=.ei a/\eK H a y (O v)/\Q v H) i5:=by
 intro G H x y wx wy w Q s px py hf h;unfold i5 at hf;split at hf
 .rename_i fz ks ws n;cases(show y=V.str n from py);let⟨a,kvs,bC,rfl,h1,rfl,h3,h4⟩:=px;let⟨v,e1,e2⟩:=RS h3 h4 hf;have rd:Rd H a (.dK (kvs.ej λp=>(qa p.1,p.2))):=h1.rd s
  exact⟨a,v,rfl,.h8 ⟨_,.j' n,rd,rfl,e1.symm⟩,h G v H (.oQ s) e2⟩
 .cases hf
theorem Q1a(hu:X.A.r7+150<r_)(ha:DE Z X EE a da)(hb:DE Z X EE b db)(hs:sI b:=by intro _ _;rfl):DE Z X EE (.Hz a b fZ) (ag i5 da db):=
 PE.ll (ME (by omega) ha hb hs) (u9 T9)
end
end D
namespace L2
open PySem PySem.Spec PyProof.Rows
end L2
namespace D
open PySem PySem.Spec L2 PyProof.Rows
section
variable{g_:qM}{w:pT}{A:tf}{E:e5->kx->Prop}{s:kx}
def qC(h:fH)(z I aT c:fh)(f:fJ):Prop:=h.f6 z=O {ie:=.hJ "zip", lg:=.x6 #[ZA c,.rl f,.rl false,.ei I,.ei aT]}
def alive{a:fh}{o:nU}{Q:fG nU->kx->Prop}(h:s.d_.f6 a=O o)(q:Q (O o) s):kX (mG g_ w) A (Ő a) Q E s:=by
 intro zgz p _;show Zr.wp _ _ (Zr.Ő a Zr.pR) _ _ _ _;rw[Zr.wp_loadIfAlive,h];exact q
def QW{z I aT c:fh}{f:fJ}{Q:fJ->kx->Prop}{oc:nU}(gz:qC s.d_ z I aT c f)(hc:s.d_.f6 c=O oc)(hQ:∀h',qC h' z I aT c true->fH.Zq z s.d_ h'->Q false {s with d_:=h'}):
  kX (mG g_ w) A (oq.V8.Χ (.ei z)) Q E s:=by
 unfold oq.V8.Χ;refine i6 (Yi gz rfl (x:=ZA c) rfl ?_);show kX _ _ (Ő (((c:dt):eW).oR) >>= _) _ _ _;refine i6 (alive (o:=oc) hc ?_);show kX _ _ (ZH (.ei z) 1 >>= _) _ _ _;refine i6 (Yi gz rfl (x:=.rl f) rfl ?_);cases f with
 |true=>exact oo (hQ s.d_ gz (fH.Zq.oQ _ _))
 |false=>
  show kX _ _ (setField (.ei z) 1 (.rl true) >>= _) _ _ _;exact i6 (ϕ gz (by simp) λha za sa=>oo (hQ ha za sa))
def y8f{z I aT i j a b c:fh}{t u f:fJ}{k:dt}{xs ys:tP e5}{x y:e5}{oc:nU}{Q:e5->kx->Prop}(D:Zm z I aT i j a b)
  (gz:qC s.d_ z I aT c f)(hc:s.d_.f6 c=O oc)(gI:zd s.d_ I (.ei i) (.ei j))
  (g1:bW t i a k s.d_)(g2:bW u j b k s.d_)(l1:bX t a xs s.d_)(l2:bX u b ys s.d_)(hx:xs[k]?=O x)(hy:ys[k]?=O y)
  (hQ:∀h',qC h' z I aT c true->bW t i a (k+1) h'->bW u j b (k+1) h'->zd h' s.d_.e6.eG x y->h'.e6.eG=s.d_.e6.eG+1 ->
   (∀c o,c≠z->c≠i->c≠j->s.d_.f6 c=O o->h'.f6 c=O o)->Q (.ei s.d_.e6.eG) {s with d_:=h'}):
  kX (mG g_ w) A (oq.«zip.__next__» ⟨[.ei z],[]⟩) (λvR s'=>∃v,vR=.done (.yr v)/\Q v s') E s:=by
 show kX _ _ (ZH (.ei z) 2 >>= _) _ _ _;refine i6 (Yi gz rfl (x:=.rl false) rfl ?_);show kX _ _ (ZH (.ei z) 3 >>= _) _ _ _;refine i6 (Yi gz rfl (x:=.ei I) rfl (i6 (_o gI rfl ?_)));show kX _ _ (oq.V8.Χ (.ei z) >>= _) _ _ _;refine i6 (QW gz hc λha za sa=>?_)
 simp only[w3i,_i];refine i6 ?_;simp only[<- w3y,w2n,w3g];refine i6 (i6 (Zk ?_));show kX _ _ (oq.V8.Zz (.ei i) >>= _) _ _ _;refine i6 (Br (s:={s with d_:=ha}) (g1.pU λo e=>sa.pZ _ _ D.iz e) (l1.pU λo e=>sa.pZ _ _ D.az e) hx λhb ib sb=>oo (oo (i6 (i6 (Zk ?_)))))
 show kX _ _ (oq.V8.Zz (.ei j) >>= _) _ _ _;refine i6 (Br (s:={s with d_:=hb}) (g2.pU λo e=>sb.pZ _ _ D.ij.symm (sa.pZ _ _ D.jz e)) (l2.pU λo e=>sb.pZ _ _ D.bi (sa.pZ _ _ D.bz e)) hy λhd jd sd=>oo (oo (oo (i6 (zen (oo ⟨_,rfl,?_⟩) (by rw[vN];simp))))))
 have sz:hd.e6.eG=s.d_.e6.eG:=by rw[sd.1,sb.1,sa.1]
 have up:∀c o,c≠z->c≠i->c≠j->s.d_.f6 c=O o->(hd.nV {ie:=.hJ "tuple", lg:=.mx #[x,y]}).f6 c=O o:=λc o c1 c3 c4 e=>fH.q_ _ (sd.pZ _ _ c4 (sb.pZ _ _ c3 (sa.pZ _ _ c1 e)))
 show Q (.ei hd.e6.eG) _;have tk:zd (hd.nV {ie:=.hJ "tuple", lg:=.mx #[x,y]}) hd.e6.eG x y:=fH.vM _ rfl;rw[sz]at tk |-
 exact hQ _ (fH.q_ _ (sd.pZ _ _ D.jz.symm (sb.pZ _ _ D.iz.symm za))) (ib.pU λo e=>fH.q_ _ (sd.pZ _ _ D.ij e)) (jd.pU λo e=>fH.q_ _ e) tk (by rw[fH.YU,sz]) up
def z45{z I aT i j a b c:fh}{t u f:fJ}{k:dt}{xs ys:tP e5}{oc:nU}{Q:Fin->kx->Prop}(hh:A.Nr=none)(D:Zm z I aT i j a b)
  (gz:qC s.d_ z I aT c f)(hc:s.d_.f6 c=O oc)(gI:zd s.d_ I (.ei i) (.ei j))
  (g1:bW t i a k s.d_)(g2:bW u j b k s.d_)(l1:bX t a xs s.d_)(l2:bX u b ys s.d_)(oE:xs[k]?=none\/ys[k]?=none)
  (hE:∀h' e,(∀c o,c≠z->c≠i->c≠j->s.d_.f6 c=O o->h'.f6 c=O o)->(∃o,h'.f6 e=O o/\o.ie=.hJ "StopIteration")->E (.ei e) {s with d_:=h'}):
  kX (mG g_ w) A (oq.«zip.__next__» ⟨[.ei z],[]⟩) Q E s:=by
 show kX _ _ (ZH (.ei z) 2 >>= _) _ _ _;refine i6 (Yi gz rfl (x:=.rl false) rfl ?_);show kX _ _ (ZH (.ei z) 3 >>= _) _ _ _;refine i6 (Yi gz rfl (x:=.ei I) rfl (i6 (_o gI rfl ?_)));show kX _ _ (oq.V8.Χ (.ei z) >>= _) _ _ _;refine i6 (QW gz hc λha za sa=>?_)
 simp only[w3i,_i];refine i6 ?_;simp only[<- w3y,w2n,w3g];refine i6 (i6 (Zk ?_));show kX _ _ (oq.V8.Zz (.ei i) >>= _) _ _ _;cases hx:xs[k]? with
 |none=>exact i6 (Hd (s:={s with d_:=ha}) hh (g1.pU λo e=>sa.pZ _ _ D.iz e) (l1.pU λo e=>sa.pZ _ _ D.az e) hx λhb e sb ge=>hE hb e (λc o c1 c3 _ x=>sb _ _ c3 (sa.pZ _ _ c1 x)) ge)
 |O x=>
  have hy:ys[k]?=none:=by rcases oE with h|h;rw[hx]at h;cases h;exact h
  refine i6 (Br (s:={s with d_:=ha}) (g1.pU λo e=>sa.pZ _ _ D.iz e) (l1.pU λo e=>sa.pZ _ _ D.az e) hx λhb ib sb=>oo (oo (i6 (i6 (Zk ?_)))))
  show kX _ _ (oq.V8.Zz (.ei j) >>= _) _ _ _;exact i6 (Hd (s:={s with d_:=hb}) hh (g2.pU λo e=>sb.pZ _ _ D.ij.symm (sa.pZ _ _ D.jz e)) (l2.pU λo e=>sb.pZ _ _ D.bi (sa.pZ _ _ D.bz e)) hy λhd e sd ge=>hE hd e (λc o c1 c3 c4 x=>sd _ _ c4 (sb.pZ _ _ c3 (sa.pZ _ _ c1 x))) ge)
def EV(h:fH)(z I aT i j a b:fh)(t u:fJ)(k:dt)(cs:L fh):Prop:=
 zd h I (.ei i) (.ei j)/\bW t i a k h/\bW u j b k h/\match cs with
  |[]=>YB h z I aT .none/\∃p q,zd h aT p q
  |c::_=>∃f,qC h z I aT c f
def z46{z I aT i j a b:fh}{t u:fJ}{k:dt}{cs:L fh}{xs ys:tP e5}{x y:e5}{Q:fG e5->kx->Prop}(D:Zm z I aT i j a b)(st:EV s.d_ z I aT i j a b t u k cs)(gB:∀c∈cs,∃o,s.d_.f6 c=O o)
  (l1:bX t a xs s.d_)(l2:bX u b ys s.d_)(hx:xs[k]?=O x)(hy:ys[k]?=O y)
  (hQ:∀h',EV h' z I aT i j a b t u (k+1) (cs++[s.d_.e6.eG])->zd h' s.d_.e6.eG x y->h'.e6.eG=s.d_.e6.eG+1 ->
   (∀c o,c≠z->c≠aT->c≠i->c≠j->s.d_.f6 c=O o->h'.f6 c=O o)->Q (O (.ei s.d_.e6.eG)) {s with d_:=h'}):kX (mG g_ w) A (ZN (.ei z)) Q E s:=by
 let⟨gI,g1,g2,st⟩:=st;cases cs with
 |m8=>
  let⟨gz,p,q,gO⟩:=st;exact z3l D gz gI gO g1 g2 l1 l2 hx hy λh' a1 a2 a3 a4 a5 a6 a7=>hQ h' ⟨a7 _ _ D.Iz D.IO D.Ii D.Ij gI,a3,a4,false,a1⟩ a5 a6 a7
 |m6 c cs=>
  let⟨f,gz⟩:=st;let⟨oc,hc⟩:=gB c w0l;have hT:s.Zf (.ei z) "zip":=⟨_,gz,rfl⟩;unfold ZN;exact i6 (À (δ (name:=eh.Yy "__next__") hT F.Ω (ε F.Ω hT F.Ą (y8f D gz hc gI g1 g2 l1 l2 hx hy λh' a1 a3 a4 a5 a6 a7=>oo (hQ h' ⟨a7 _ _ D.Iz D.Ii D.Ij gI,a3,a4,true,a1⟩ a5 a6 λc o c1 _ c3 c4 e=>a7 c o c1 c3 c4 e)) (F.ú _))))
def z47{z I aT i j a b:fh}{t u:fJ}{k:dt}{cs:L fh}{xs ys:tP e5}{Q:fG e5->kx->Prop}(hh:A.Nr=none)(D:Zm z I aT i j a b)(st:EV s.d_ z I aT i j a b t u k cs)(gB:∀c∈cs,∃o,s.d_.f6 c=O o)
  (l1:bX t a xs s.d_)(l2:bX u b ys s.d_)(oE:xs[k]?=none\/ys[k]?=none)
  (hQ:∀h',(∀c o,c≠z->c≠aT->c≠i->c≠j->s.d_.f6 c=O o->h'.f6 c=O o)->Q none {s with d_:=h'}):kX (mG g_ w) A (ZN (.ei z)) Q E s:=by
 let⟨gI,g1,g2,st⟩:=st;cases cs with
 |m8=>
  let⟨gz,p,q,gO⟩:=st;exact z3m hh D gz gI gO g1 g2 l1 l2 oE hQ
 |m6 c cs=>
  let⟨f,gz⟩:=st;let⟨oc,hc⟩:=gB c w0l;have hT:s.Zf (.ei z) "zip":=⟨_,gz,rfl⟩;unfold ZN;refine i6 (À (δ (name:=eh.Yy "__next__") hT F.Ω (ε F.Ω hT F.Ą (z45 hh D gz hc gI g1 g2 l1 l2 oE λh' e hk he=>?_) (F.ú _))))
  let⟨o,ho,hc⟩:=he;exact i6 (ĥ (T:="StopIteration") (b:=true) ⟨o,ho,hc⟩ zcR (oo (hQ _ λc o c1 _ c3 c4 e=>hk c o c1 c3 c4 e)))
def cj(h:fH)(cs:L fh)(ps:L (e5×e5)):Prop:=cs.J=ps.J/\∀(k:dt)(c:fh)(p:e5×e5),cs[k]?=O c->ps[k]?=O p->zd h c p.1 p.2
theorem cj.pU{h h':fH}{cs:L fh}{ps:L (e5×e5)}(pa:cj h cs ps)(e:∀c∈cs,∀o,h.f6 c=O o->h'.f6 c=O o):cj h' cs ps:=⟨pa.1,λk c p h1 h2=>e c (w1m h1) _ (pa.2 k c p h1 h2)⟩
theorem cj.WE{h:fH}{cs:L fh}{ps:L (e5×e5)}(pa:cj h cs ps):∀c∈cs,∃o,h.f6 c=O o:=λc hc=>by
 let⟨q,hq,e⟩:=w4q hc;exact⟨_,pa.2 q c (ps[q]'(by rw[<- pa.1];exact hq)) (by rw[w0a hq,e]) (w0a _)⟩
def cj.Ϗ{h:fH}{cs:L fh}{ps:L (e5×e5)}{c:fh}{p:e5×e5}(pa:cj h cs ps)(e:zd h c p.1 p.2):cj h (cs++[c]) (ps++[p]):=by
 refine⟨by simp[pa.1],λk c' p' h1 h2=>?_⟩
 by_cases hk:k<cs.J
 .rw[w0x hk]at h1;rw[w0x (by rw[<- pa.1];exact hk)]at h2;exact pa.2 k c' p' h1 h2
 .rw[w0z (by omega)]at h1;rw[w0z (by rw[<- pa.1];omega)]at h2;rw[<- pa.1]at h2;cases hq:k-cs.J with
  |zc=>rw[hq]at h1 h2;cases h1;cases h2;exact e
  |zD q=>rw[hq]at h1;simp at h1
def z48{z I aT i j a b S:fh}{t u:fJ}{xs ys:tP e5}{R:į->kx->Prop}{res:e5}(hh:A.Nr=none)(D:Zm z I aT i j a b)(hS:S∉[z,aT,i,j,a,b,I])(hn:(xs.n9.uu ys.n9).J<=pg):
  ∀(m k:dt)(s:kx)(cs:L fh)(n:dt),(xs.n9.uu ys.n9).J-k=m->k<=(xs.n9.uu ys.n9).J->EV s.d_ z I aT i j a b t u k cs->cj s.d_ cs ((xs.n9.uu ys.n9).n5 k)->(∀c∈cs,c∉[z,aT,i,j,S])->(∀d∈[z,aT,i,j,S],d<s.d_.e6.eG)->bX t a xs s.d_->bX u b ys s.d_ ->
  s.d_.f6 S=O {ie:=.hJ "list", qZ:=none,lg:=.mx (cs.ej e5.ei).ky n,zx:=#[]} ->
  (∀h' rR n',(∃tl,rR=cs++tl/\(∀c∈tl,s.d_.e6.eG<=c)/\tl.p9)->cj h' rR (xs.n9.uu ys.n9)->h'.f6 S=O {ie:=.hJ "list", qZ:=none,lg:=.mx (rR.ej e5.ei).ky n',zx:=#[]} ->
   (∀c o,c∉[z,aT,i,j,S]->s.d_.f6 c=O o->h'.f6 c=O o)->R (.ok (.yr res)) {s with d_:=h'}) ->
  YN (mG g_ w) A (.rn "list.extend.loop" ⟨[.ei S,.ei z,res],[]⟩) R s:=by
 simp only[w0h,w1b,Xz,ZL]at hS;let⟨Sz,SO,Si,Sj,Sa,Sb,SI⟩:=hS;have no:∀c,c∉[z,aT,i,j,S]↔c≠z/\c≠aT/\c≠i/\c≠j/\c≠S:=λc=>by simp only[w0h,w1b,Xz,ZL]
 intro m
 induction m with
 |zc=>
  intro k s cs n hk hle st pa E8 cb l1 l2 Ig hR;have ek:k=(xs.n9.uu ys.n9).J:=by omega
  refine ρ F.zcd ?_;rw[tf.ϻ F.ç _];show kX _ A.Nx (ZN (.ei z) >>= _) _ _ s;refine i6 (z47 hh D st pa.WE l1 l2 ?_ λh' kp=>?_)
  .rw[w3m]at ek;rcases dt.le_total xs.n9.J ys.n9.J with h|h
   .left;rw[w2u h]at ek;simp at ek |-;omega
   .right;rw[dt.min_eq_right h]at ek;simp at ek |-;omega
  .rw[ek,w3f]at pa;refine oo (hR h' cs n ⟨[],by simp,(λc hc=>nomatch hc),.m8⟩ (pa.pU λc hc o e=>?_) (kp S _ Sz SO Si Sj Ig) λc o hc e=>?_)
   .let⟨c1,c2,c3,c4,_⟩:=(no c).mp (E8 c hc);exact kp c o c1 c2 c3 c4 e
   .let⟨c1,c2,c3,c4,_⟩:=(no c).mp hc;exact kp c o c1 c2 c3 c4 e
 |zD m ih=>
  intro k s cs n hk hle st pa E8 cb l1 l2 Ig hR;have IL:k<(xs.n9.uu ys.n9).J:=by omega
  have yV:=IL;rw[w3m]at yV;have zcX:k<xs.eG:=by simp at yV;omega
  have zcY:k<ys.eG:=by simp at yV;omega
  refine ρ F.zcd ?_;rw[tf.ϻ F.ç _];show kX _ A.Nx (ZN (.ei z) >>= _) _ _ s;refine i6 (z46 D st pa.WE l1 l2 (w5d zcX) (w5d zcY) λh' n6 pr sz kp=>?_)
  have Ci:=kp S _ Sz SO Si Sj Ig;have jC:cs.J=k:=by rw[pa.1,w1i];omega
  show kX _ A.Nx (Ŵ S (·.nV (.ei s.d_.e6.eG)) >>= _) _ _ _;refine i6 ?_;have V7:∀d∈[z,aT,i,j,S],d≠s.d_.e6.eG:=λd hd=>w0y (cb d hd)
  obtain⟨n2,en⟩:∃n2,nU.Yx (·.nV (.ei s.d_.e6.eG)) {ie:=.hJ "list", qZ:=none,lg:=.mx (cs.ej e5.ei).ky n,zx:=#[]}={ie:=.hJ "list", qZ:=none,lg:=.mx ((cs++[s.d_.e6.eG]).ej e5.ei).ky n2,zx:=#[]}:=⟨_,by rw[w0m];unfold nU.Yx;simp only[L.push_toArray];rfl⟩;have up:∀c o,c≠S->h'.f6 c=O o->(h'.YJ S (nU.Yx (·.nV (.ei s.d_.e6.eG)))).f6 c=O o:=λc o hc e=>(fH.Þ _ _ (Ne.symm hc)).iD e
  have Ck:∀c∈cs++[s.d_.e6.eG],c∉[z,aT,i,j,S]:=λc hc=>by
   rcases w0w.mp hc with hc|hc
   .exact E8 c hc
   .rw[w0u.mp hc];exact λz=>V7 _ z rfl
  have Pa:(h'.YJ S (nU.Yx (·.nV (.ei s.d_.e6.eG)))).e6.eG=s.d_.e6.eG+1:=by rw[fH.Ť];exact sz
  refine Ĩ Ci rfl (oo ⟨æ F.ç _,ih (k+1) _ (cs++[s.d_.e6.eG]) n2 (by omega) IL ?_ ?_ Ck ?_ ?_ ?_ ((fH.ß _ Ci rfl).iD (by rw[en])) λpL rR n' vE W7 Ic WD=>?_⟩)
   (by simp;omega) (by simp;omega)
  .let⟨q1,q2,q3,q4⟩:=n6;refine⟨up _ _ (Ne.symm SI) q1,q2.pU λo e=>up _ _ (Ne.symm Si) e,q3.pU λo e=>up _ _ (Ne.symm Sj) e,?_⟩
   cases cs with
   |m8=>let⟨f,q4⟩:=q4;exact⟨f,up _ _ (Ne.symm Sz) q4⟩
   |m6 c cs=>let⟨f,q4⟩:=q4;exact⟨f,up _ _ (Ne.symm Sz) q4⟩
  .have:(xs.n9.uu ys.n9).n5 (k+1)=(xs.n9.uu ys.n9).n5 k++[(xs[k],ys[k])]:=by
    rw[w3r,w0a IL];simp
   rw[this];refine((pa.pU λc hc o e=>?_).Ϗ pr).pU λc hc o e=>?_
   .let⟨c1,c2,c3,c4,_⟩:=(no c).mp (E8 c hc);exact kp c o c1 c2 c3 c4 e
   .exact up c o ((no c).mp (Ck c hc)).2.2.2.2 e
  .intro d hd;show d<(h'.YJ S _).e6.eG;rw[Pa];exact w1v (cb d hd)
  .exact l1.pU λo e=>up _ _ (Ne.symm Sa) (kp _ _ D.az D.aO D.ai D.aj e)
  .exact l2.pU λo e=>up _ _ (Ne.symm Sb) (kp _ _ D.bz D.bO D.bi D.bj e)
  .let⟨tl,rfl,A2,rV⟩:=vE
   have A2:∀c∈tl,s.d_.e6.eG+1<=c:=λc hc=>by
    have this:(h'.YJ S (nU.Yx (·.nV (.ei s.d_.e6.eG)))).e6.eG<=c:=A2 c hc;rw[Pa]at this;exact this
   refine hR pL _ n' ⟨s.d_.e6.eG::tl,by simp,λc hc=>?_,w2f.rj ⟨λhm=>?_,rV⟩⟩ W7 Ic λc o hc e=>?_
   .rcases w0h.mp hc with rfl|hc
    .exact w0d _
    .exact dt.le_of_succ_le (A2 c hc)
   .exact nS (A2 _ hm) (dt.not_succ_le_self _)
   .let⟨c1,c2,c3,c4,c5⟩:=(no c).mp hc;exact WD c o hc (up c o c5 (kp c o c1 c2 c3 c4 e))
def y8g:Ϲ (.hJ "zip") "__len__"=pR none:=by rw[Ϻ,Ϧ];kernel_rfl
def y3q:Ϲ (.hJ "zip") "__length_hint__"=pR none:=by rw[Ϻ,Ϧ];kernel_rfl
def zax{z I aT i j a b:fh}{t u:fJ}{xs ys:tP e5}{Q:L e5->kx->Prop}(hh:A.Nr=none)(D:Zm z I aT i j a b)(gz:YB s.d_ z I aT .none)(gO:∃p q,zd s.d_ aT p q)(gI:zd s.d_ I (.ei i) (.ei j))(g1:bW t i a 0 s.d_)(g2:bW u j b 0 s.d_)(l1:bX t a xs s.d_)(l2:bX u b ys s.d_)(hn:(xs.n9.uu ys.n9).J<=pg)(cb:∀d∈[z,aT,i,j,a,b,I],d<s.d_.e6.eG)
  (hQ:∀h' cs,(∀c∈cs,s.d_.e6.eG<=c)->cs.p9->cj h' cs (xs.n9.uu ys.n9)->(∀c o,c∉[z,aT,i,j]->s.d_.f6 c=O o->h'.f6 c=O o)->Q (cs.ej e5.ei) {s with d_:=h'}):kX (mG g_ w) A (Ü (.ei z)) Q E s:=by
 have Cg:s.d_.e6.eG∉[z,aT,i,j,a,b,I]:=λhm=>w2h _ (cb _ hm)
 have Ie:s.d_.e6.eG≠z:=λe=>Cg (by rw[e];simp)
 have hT:∀h',(∀c o,s.d_.f6 c=O o->h'.f6 c=O o)->kx.Zf {s with d_:=h'} (.ei z) "zip":=λh' up=>⟨_,up _ _ gz,rfl⟩
 have Zj:∀c o,s.d_.f6 c=O o->(s.d_.nV {ie:=.hJ "list", lg:=.mx ([]:L e5).ky}).f6 c=O o:=λc o e=>fH.q_ _ e
 unfold Ü;refine i6 (zeo (ρ F.zcf ?_));rw[tf.ϻ F.zdi _];show kX _ A.Nx (newList [] >>= λl=>ZT (.rn "list.__iadd__" ⟨[l,.ei z],[]⟩)) _ _ s
 refine i6 (Z0 ?_);refine oo ⟨æ F.ē _,ρ F.zce ?_⟩;rw[tf.ϻ F.ē _];have E6:(s.d_.nV {ie:=.hJ "list", lg:=.mx ([]:L e5).ky}).f6 s.d_.e6.eG=O {ie:=.hJ "list", lg:=.mx ([]:L e5).ky}:=fH.vM _ rfl;have h1:oq.L.č (.ei s.d_.e6.eG) (.ei z)=false:=by simp[oq.L.č,Ie]
 show kX _ A.Nx (oq.L.Č (.ei s.d_.e6.eG) (.ei z) (.ei s.d_.e6.eG)) _ _ _;unfold oq.L.Č;refine i6 (ϖ (hT _ Zj) ?_);rw[kl (by rw[h1];decide)];refine i6 (wpAny_pyIter_zip (Zj _ _ gz) ?_);refine i6 (Zk ?_);unfold oq.L.zc1;refine i6 (Å (hT _ Zj) y8g ?_);show kX _ A.Nx (specialOf (e5.ei z) (eh.Yy "__length_hint__") >>= _) _ _ _;refine i6 (Å (hT _ Zj) y3q ?_);refine oo ?_
 show kX _ A.Nx (_N "list.extend.makes-room" >>= λ_=>oq.L.listTouch (.ei s.d_.e6.eG) >>= λ_=>
  ZT (.rn "list.extend.loop" ⟨[.ei s.d_.e6.eG,.ei z,.ei s.d_.e6.eG],[]⟩)) _ _ _
 refine i6 (Ä (i6 ?_));show kX _ A.Nx (Ŵ s.d_.e6.eG (·.nV .none) >>= λ_=>Ŵ s.d_.e6.eG (·._L)) _ _ _
 refine i6 (Ĩ E6 rfl ?_);have NP:=fH.ß (nU.Yx (·.nV e5.none)) E6 rfl;refine Ĩ NP rfl ?_;have VO:=fH.ß (nU.Yx (·._L)) NP rfl
 have xy:∀b o,s.d_.f6 b=O o->(((s.d_.nV {ie:=.hJ "list", lg:=.mx ([]:L e5).ky}).YJ s.d_.e6.eG (nU.Yx (·.nV e5.none))).YJ s.d_.e6.eG (nU.Yx (·._L))).f6 b=O o:=
  λb o e=>(fH.Þ _ _ (w3k (fH.sf e))).iD ((fH.Þ _ _ (w3k (fH.sf e))).iD (Zj b o e))
 have O':(((s.d_.nV {ie:=.hJ "list", lg:=.mx ([]:L e5).ky}).YJ s.d_.e6.eG (nU.Yx (·.nV e5.none))).YJ s.d_.e6.eG (nU.Yx (·._L))).e6.eG=s.d_.e6.eG+1:=by rw[fH.Ť,fH.Ť,fH.YU]
 refine oo ⟨æ F.ç _,z48 hh D Cg hn _ 0 _ [] _ rfl (w1k _) ⟨xy _ _ gI,g1.pU λo e=>xy _ _ e,g2.pU λo e=>xy _ _ e,xy _ _ gz,?_⟩ ⟨rfl,λ_ _ _ h=>nomatch h⟩ (λ_ h=>nomatch h) (λd hd=>?_) (l1.pU λo e=>xy _ _ e) (l2.pU λo e=>xy _ _ e) VO λh' cs n' gB pa Ib kp=>?_⟩
 .let⟨p,q,gO⟩:=gO;exact⟨p,q,xy _ _ gO⟩
 .show d<_;rw[O'];simp only[w0h,w1b,Xz]at hd;rcases hd with rfl|rfl|rfl|rfl|rfl
  .exact w1v (cb _ (by simp))
  .exact w1v (cb _ (by simp))
  .exact w1v (cb _ (by simp))
  .exact w1v (cb _ (by simp))
  .exact w5m _
 .let⟨tl,rfl,A2,rV⟩:=gB;show kX _ A (load s.d_.e6.eG >>= _) _ _ _;refine i6 (ŷ Ib (oo ?_));refine hQ h' _ (λc hc=>?_) rV pa λc o hc e=>kp c o (λhm=>?_) (xy c o e)
  .have:=A2 c hc;have this:(((s.d_.nV {ie:=.hJ "list", lg:=.mx ([]:L e5).ky}).YJ s.d_.e6.eG (nU.Yx (·.nV e5.none))).YJ s.d_.e6.eG (nU.Yx (·._L))).e6.eG<=c:=this;rw[O']at this;omega
  .simp only[w0h,w1b,Xz]at hm hc;rcases hm with h|h|h|h|h
   .exact hc (.h8 h)
   .exact hc (.j' (.h8 h))
   .exact hc (.j' (.j' (.h8 h)))
   .exact hc (.j' (.j' (.j' h)))
   .exact nS (fH.sf e) (by rw[h];exact w2h _)
theorem zaP(z I aT i j a b:fh)(t u:fJ)(xs ys:tP e5)(D:Zm z I aT i j a b)(hn:(xs.n9.uu ys.n9).J<=pg):
  _s (oq.«tuple.__new__» ⟨[.hJ "tuple", .ei z],[]⟩)
   (λA R s=>A.Nr=none/\YB s.d_ z I aT .none/\(∃p q,zd s.d_ aT p q)/\zd s.d_ I (.ei i) (.ei j)/\bW t i a 0 s.d_/\bW u j b 0 s.d_/\bX t a xs s.d_/\bX u b ys s.d_/\(∀d∈[z,aT,i,j,a,b,I],d<s.d_.e6.eG) /\
    ∀h' cs,(∀c∈cs,s.d_.e6.eG<=c)->cs.p9->cj h' cs (xs.n9.uu ys.n9)->(∀c o,c∉[z,aT,i,j]->s.d_.f6 c=O o->h'.f6 c=O o) ->
    R (.ok (.yr (.ei h'.e6.eG))) {s with d_:=h'.nV {ie:=.hJ "tuple", lg:=.mx (cs.ej e5.ei).ky}}):=
 ._K λg_ w A R s h=>by
  let⟨hh,gz,gO,gI,g1,g2,l1,l2,cb,h⟩:=h;have zi:=zdH;have Cq:=zcP;have V_:=zc4;have hT:s.Zf (.ei z) "zip":=⟨_,gz,rfl⟩;have IF:A.Nx.Nr=none:=hh
  wp_walk using ϖ hT,zax IF D gz gO gI g1 g2 l1 l2 hn cb
  intro h' cs hc rV pa kp;show kX _ _ (oq.JJ.γ (cs.ej e5.ei).ky >>= λv=>yr v) _ _ _
  unfold oq.JJ.γ;refine i6 (Z0 ?_ (show(cs.ej e5.ei).ky.eG<=pg by rw[w0i,w0b,pa.1];exact hn));exact oo ⟨_,rfl,h h' cs hc rV pa kp⟩
end
end D
namespace L2
open PySem PySem.Spec PyProof.Rows
def g8.adopt{X:Cx}{eS:L (fh×nU)}{σ:St}{H:Hp}{s:kx}{p:fh}{o:HO}(I:g8 X eS σ H s)(f:fO X eS H p)(rZ:bh X.g_ X.w (l5 H p o) s.d_ p o):g8 X eS σ (l5 H p o) s:=by
 let⟨hn,hl,hf,h0,hc,We⟩:=f;refine⟨I.ok,I.os,I.wC,⟨I.g0.pU,I.g0.r5,λb u h1 h2 h3=>?_,I.g0.WE,λb xs h1=>?_,λb u v h1=>?_,λb ps h1=>?_⟩,I.T4,I.mZ,?_,λx c h1=>?_,λq hq=>?_,λb u h1=>?_,I.oO⟩
 .rw[bg (λz=>?_)]
  .exact I.g0.nL b u h1 h2 h3
  .subst z;exact h0.ke h3 λz=>nS (w1a (fH.sf h1) z) (w2h _)
 .have:=I.g0.gj b xs h1;rw[bg (gQ this hn)];exact this
 .have:=I.g0.bt b u v h1;rw[bg (gQ this hn)];exact this
 .let⟨m,this⟩:=I.g0.eU b ps h1;exact⟨m,by rw[bg (gQ this hn)];exact this⟩
 .rw[bg (Ne.symm hl)];exact I.nL
 .rw[bg (hc x c h1)];exact I.dq x c h1
 .let⟨a1,a2,a3,a4,a5⟩:=I.OB q hq;exact⟨a1,by rw[bg (We q hq)];exact a2,a3,a4,a5⟩
 .by_cases hb:b=p
  .subst hb;rw[cI]at h1;cases h1;exact rZ
  .rw[bg hb]at h1;exact(I.aR b u h1).fK (λc v _ q=>q) (λc q=>by rw[bg (gQ q hn)];exact q) λc xs _ q=>by rw[bg (gQ q hn)];exact q
end L2
namespace D
open PySem PySem.Spec L2 PyProof.Rows
def oT(H:Hp):L fh->L (V×V)->Hp
 |c::cs,p::ps=>oT (l5 H c (.ff [p.1,p.2])) cs ps
 |_,_=>H
theorem QX{X:Cx}{eS:L (fh×nU)}{σ:L2.St}{s:kx}:∀{cs:L fh}{ps:L (V×V)}{qs:L (e5×e5)}{H:Hp},g8 X eS σ H s->(∀c∈cs,fO X eS H c)->cs.p9->cj s.d_ cs qs->ps.J=qs.J->(∀(k:dt)(p:V×V)(q:e5×e5),ps[k]?=O p->qs[k]?=O q->ot p.1 q.1/\ot p.2 q.2)->g8 X eS σ (oT H cs ps) s
 |[],_,_,_,I,_,_,_,_,_=>I
 |_::_,[],_,_,I,_,_,_,_,_=>I
 |_::_,_::_,[],_,_,_,_,_,h,_=>by cases h
 |c::cs,p::ps,q::qs,H,I,hf,hn,hp,hl,hr=>by
  have hc:=hp.2 0 c q rfl rfl;let⟨r1,r2⟩:=hr 0 p q rfl rfl;let⟨n1,n2⟩:=w2f.mp hn;have I2:g8 X eS σ (l5 H c (.ff [p.1,p.2])) s:=I.adopt (hf c w0l) ⟨by rw[vN];simp,[q.1,q.2],.m6 r1 (.m6 r2 .m8),⟨_,hc,rfl,_,rfl⟩,⟨_,hc,rfl⟩⟩;show L2.g8 X eS σ (oT (l5 H c (.ff [p.1,p.2])) cs ps) s;refine QX (qs:=qs) I2 (λd hd=>?_) n2 ⟨by have:=hp.1;simpa using this,λk c' p' h1 h2=>hp.2 (k+1) c' p' h1 h2⟩ (by simpa using hl) λk p' q' h1 h2=>hr (k+1) p' q' h1 h2
  let⟨f1,f2⟩:=hf d (w0f _ hd);exact⟨by rw[bg (λz=>n1 (by rw[<- z];exact hd))];exact f1,f2⟩
def zd_(K:Fg)(ta:TA):TE:=λσ H Q=>ta σ H λvs H1=>∃t u a b xs ys,vs=[.ei a,.ei b]/\AL K t H1 a xs/\AL K u H1 b ys/\(xs.uu ys).J<=pg/\∀cs l,cs.J=(xs.uu ys).J->cs.p9->(∀c∈cs,H1 c=none)->oT H1 cs (xs.uu ys) l=none->Q (.ei l) (l5 (oT H1 cs (xs.uu ys)) l (.ff (cs.ej V.ei)))
theorem Qq:∀cs:L fh,oK (cs.ej V.ei) (cs.ej e5.ei)
 |[]=>.m8
 |_::cs=>.m6 rfl (Qq cs)
def oK.iA{xs:L V}{us:L e5}(h:oK xs us){k:dt}{x:V}{u:e5}(h1:xs[k]?=O x)(h2:us[k]?=O u):ot x u:=by
 let⟨v,hv,r⟩:=h.BX h1;rw[h2]at hv;cases hv;exact r
def y3r{X:Cx}{a1 a2:l_}{ta:TA}{p1 p2 mh fo:qY}(hc:X.wK=true)(yW:X.mg "tuple"=none)(yX:X.mg "zip"=none)(ha:PA X [a1,a2] ta)(yQ:fi (Gl X "tuple") jJ)(oF:fi (Gl X "zip") jJ)
  (k9:fi (lq [.pY (.je "zip" p2) [a1,a2] [] fo] X.el=(false,eval (.pY (.je "zip" p2) [a1,a2] [] fo) X.el)::lq [] X.el) jJ)(hs:fi (lq [a1,a2] X.el=[(false,eval a1 X.el),(false,eval a2 X.el)]) jJ)(hZ:fi (lq [a2] X.el=[(false,eval a2 X.el)]) jJ):
  PE X (.pY (.je "tuple" p1) [.pY (.je "zip" p2) [a1,a2] [] fo] [] mh) (zd_ X.K ta):=by
 intro eS s σ H Q I h;refine _P (uh I yQ yW uD.ri._R.«tuple» ?_ (by decide));refine uD.ri._F ?_ k9 rfl;rw[k9];show kX _ _ (ë ((false,eval (.pY (.je "zip" p2) [a1,a2] [] fo) X.el)::r8 mh (lq [] X.el))) _ _ s;refine Yq.ě ?_;refine uD.ri.Ç (uh I oF yX uD.ri.boot_zip (uD.ri._F (bw (ha fo eS s σ H _ I h) λus s1 ⟨vs,H1,I1,r1,q1⟩=>?_) (by rw[hs,hZ]) (by rw[hZ];rfl)))
 let⟨t,u,a,b,xs,ys,e,hx,hy,hz,q⟩:=q1;subst e;let⟨u1,u2,rfl,r1,r2⟩:=r1.two;cases r1;cases r2;let⟨Om,v1,k1⟩:=SH I1 hx;let⟨Oo,v2,k2⟩:=SH I1 hy;let⟨oa,ea,_⟩:=k1.CZ;let⟨ob,eb,_⟩:=k2.CZ;have la:=fH.sf ea;have lb:=fH.sf eb;refine y20 k1 k2 λh1 z1 i1 o1 g1 g2 up=>?_
 refine Yq.Ĝ ?_
 have D:Zm (s1.d_.e6.eG+4) (s1.d_.e6.eG+2) (s1.d_.e6.eG+3) s1.d_.e6.eG (s1.d_.e6.eG+1) a b:=by
  have Jv:(a:dt)<s1.d_.e6.eG:=la;have Jx:(b:dt)<s1.d_.e6.eG:=lb;generalize s1.d_.e6.eG=n at Jv Jx;exact y22 n a b Jv Jx
 have hh:X.A.Nr=none:=I1.ok.hd hc;have hsz:(Om.ky.n9.uu Oo.ky.n9).J=(xs.uu ys).J:=by simp[<- v1.J,<- v2.J]
 have EL:=fH.sf z1
 refine ý F.zbX (by decide) (F.zdT _) (F.zc7 _) (λCZ=>F.Ĳ CZ _) F.zci
  (zaP _ _ _ _ _ a b t u Om.ky Oo.ky D (by rw[hsz];exact hz)) ⟨hh,z1,⟨_,_,o1⟩,i1,g1,g2,k1.pU λo e=>up _ _ e,k2.pU λo e=>up _ _ e,λd hd=>?_,λh' cs gB rV pa kp=>⟨⟨_,fH.vM _ rfl,rfl⟩,?_⟩⟩
 .show d<h1.e6.eG;have z4:(s1.d_.e6.eG+4:dt)<h1.e6.eG:=EL;have Jv:(a:dt)<s1.d_.e6.eG:=la;have Jx:(b:dt)<s1.d_.e6.eG:=lb;simp only[w0h,w1b,Xz]at hd;rcases hd with rfl|rfl|rfl|rfl|rfl|rfl|rfl
  .exact z4
  .show(s1.d_.e6.eG+3:dt)<_;omega
  .show(s1.d_.e6.eG:dt)<_;omega
  .show(s1.d_.e6.eG+1:dt)<_;omega
  .exact w6q la (by show(s1.d_.e6.eG:dt)<h1.e6.eG;omega)
  .exact w6q lb (by show(s1.d_.e6.eG:dt)<h1.e6.eG;omega)
  .show(s1.d_.e6.eG+2:dt)<_;omega
 .have vE:∀c∈cs,s1.d_.e6.eG<=c:=λc hc=>by
   have h2:h1.e6.eG<=c:=gB c hc;have z4:(s1.d_.e6.eG+4:dt)<h1.e6.eG:=EL;show(s1.d_.e6.eG:dt)<=c;exact w1d (by omega) h2
  have fr:∀c∈cs,H1 c=none:=λc hc=>I1.aR.u3 (vE c hc)
  have I2:g8 X eS σ H1 {s1 with d_:=h',nW:=s1.nW}:=Y6 (fp:=[s1.d_.e6.eG+4,s1.d_.e6.eG+3,s1.d_.e6.eG,s1.d_.e6.eG+1]) I1 (λc o hc e=>kp c o hc (up c o e)) λc hc=>by
   simp only[w0h,w1b,Xz]at hc;rcases hc with rfl|rfl|rfl|rfl<;>exact I1.jB (by omega) (I1.aR.u3 (by omega))
  have I3:g8 X eS σ (oT H1 cs (xs.uu ys)) {s1 with d_:=h',nW:=s1.nW}:=QX I2 (λc hc=>I1.jB (vE c hc) (fr c hc)) rV pa hsz.symm λk p q e1 e2=>by
   let⟨f1,f2⟩:=w3u.mp e1;let⟨f3,f4⟩:=w3u.mp e2;exact⟨oK.iA v1 f1 (by simpa using f3),oK.iA v2 f2 (by simpa using f4)⟩
  have kQ:=I3.aR.u3 (w0d h'.e6.eG);have lc:cs.J=(xs.uu ys).J:=by rw[pa.1,hsz]
  have I4:=I3.wg (h':=h'.nV {ie:=.hJ "tuple", lg:=.mx (cs.ej e5.ei).ky}) (t':=s1.nW) (a:=h'.e6.eG) (o:=.ff (cs.ej V.ei)) (λb o e=>fH.q_ _ e) (w0d _) ⟨by rw[w0b,lc];exact hz,cs.ej e5.ei,Qq cs,YY.rZ _ _,_,fH.vM _ rfl,rfl⟩
  exact⟨.ei h'.e6.eG,_,I4,rfl,q cs _ lc rV fr kQ⟩
def cZ(us vs:L W):L W:=(us.uu vs).ej λp=>.ff [p.1,p.2]
def wL:L W->fG W
 |[x,y]=>match gc x,gc y with
  |O us,O vs=>if(us.uu vs).J<=16777216 then O (.ff (cZ us vs))else none
  |_,_=>none
 |_=>none
theorem Qr{K:Fg}:∀{cs:L fh}{us vs:L W}{xs ys:L V}{G H:Hp},au G H->cs.p9->(∀c∈cs,H c=none)->cs.J=(xs.uu ys).J->aq K G us xs->aq K G vs ys->∃G',bc G H G' (oT H cs (xs.uu ys))/\aq K G' (cZ us vs) (cs.ej V.ei)
 |cs,[],vs,xs,ys,G,H,sg,_,_,hl,r1,_=>by
  cases(show xs=[]from r1);cases cs with
  |m8=>exact⟨G,.oQ sg,rfl⟩
  |m6 _ _=>cases hl
 |cs,_::_,[],xs,ys,G,H,sg,_,_,hl,_,r2=>by
  cases(show ys=[]from r2);rw[L.zip_nil_right]at hl |-
  cases cs with
  |m8=>exact⟨G,.oQ sg,rfl⟩
  |m6 _ _=>cases hl
 |[],u::us,v::vs,xs,ys,G,H,sg,_,_,hl,r1,r2=>by
  let⟨x,iS,rfl,_,_⟩:=r1;let⟨y,To,rfl,_,_⟩:=r2;cases hl
 |c::cs,u::us,v::vs,xs,ys,G,H,sg,hn,hf,hl,r1,r2=>by
  let⟨x,iS,rfl,p1,r1⟩:=r1;let⟨y,To,rfl,p2,r2⟩:=r2;let⟨n1,n2⟩:=w2f.mp hn;have g:=bc.wg sg (hf c w0l) (.ff [x,y]);let⟨G',g',r'⟩:=Qr (K:=K) (cs:=cs) (us:=us) (vs:=vs) (xs:=iS) (ys:=To) (G:=l5 G c (.ff [x,y])) (H:=l5 H c (.ff [x,y])) g.mI n2 (λd hd=>by rw[bg (λz=>n1 (by rw[<- z];exact hd))];exact hf d (w0f _ hd)) (by simpa using hl) (aq.ll g.gg _ r1) (aq.ll g.gg _ r2)
  refine⟨G',g.iD g',⟨.ei c,cs.ej V.ei,rfl,?_,r'⟩⟩;exact⟨c,[x,y],rfl,c6.of (g'.gg c _ cI),⟨x,[y],rfl,nQ.ll (g.gg.iD g'.gg) u p1,⟨y,[],rfl,nQ.ll (g.gg.iD g'.gg) v p2,rfl⟩⟩⟩
section
variable{X:Cx}{Z:Zt}{EE:L2.St->XK}{a1 a2:l_}{dA:gF (L W)}
def y3s{p1 p2 mh fo:qY}(hc:X.wK=true)(yW:X.mg "tuple"=none)(yX:X.mg "zip"=none)(ha:DA Z X EE [a1,a2] dA)(yQ:fi (Gl X "tuple") jJ)(oF:fi (Gl X "zip") jJ)
  (k9:fi (lq [.pY (.je "zip" p2) [a1,a2] [] fo] X.el=(false,eval (.pY (.je "zip" p2) [a1,a2] [] fo) X.el)::lq [] X.el) jJ)(hs:fi (lq [a1,a2] X.el=[(false,eval a1 X.el),(false,eval a2 X.el)]) jJ)(hZ:fi (lq [a2] X.el=[(false,eval a2 X.el)]) jJ):
  DE Z X EE (.pY (.je "tuple" p1) [.pY (.je "zip" p2) [a1,a2] [] fo] [] mh) (ck wL dA):=by
 refine PE.ll (y3r hc yW yX ha yQ oF k9 hs hZ) ?_;rintro σ H Q ⟨G,e,iA,h⟩;simp only[ck,R.ak,bq]at h;refine⟨G,e,iA,h.pQ (λws e1 h G1 vs H1 r1 s1 p1=>?_) λ_ _ h=>h⟩
 let⟨oN,hf,h⟩:=h;unfold wL at hf;split at hf
 .rename_i x y;split at hf
  .rename_i us yc hx hy;split at hf
   .rename_i hz;cases hf;let⟨v1,r,rfl,q1,⟨v2,r',e2,q2,q3⟩⟩:=p1;subst e2;cases(show r'=[]from q3);let⟨t,a,xs,rfl,g1,g2⟩:=RN hx q1;let⟨u,b,ys,rfl,g3,g4⟩:=RN hy q2;refine⟨t,u,a,b,xs,ys,rfl,QU r1.mI g1,QU r1.mI g3,by rw[w3m,g2.J,g4.J,<- w3m,vN];exact hz,λcs l lc rV gB hl=>?_⟩
    let⟨G',g',r'⟩:=Qr (K:=X.K) r1.mI rV gB lc g2 g4;have NM:=bc.wg g'.mI hl (.ff (cs.ej V.ei));have g:=g'.iD NM;exact h _ _ _ (r1.wq g) (s1.iD g.gg) ⟨l,_,rfl,c6.of cI,aq.ll NM.gg _ r'⟩
   .cases hf
  .cases hf
 .cases hf
end
end D
namespace L2
open PySem PySem.Spec PyProof.Rows
variable{X:Cx}{es:L l_}{ks:L eh}
def fk:L (fG l_)->fG (L eh)
 |[]=>O []
 |O (.Zo (.str k) _ _)::r=>(fk r).ej (k::·)
 |_=>none
def OU{o:fG l_}{r:L (fG l_)}(h:fk (o::r)=O ks):∃k kk p ks',o=O (.Zo (.str k) kk p)/\fk r=O ks'/\ks=k::ks':=by
 unfold fk at h;split at h
 .rename_i h2;cases h2
 .rename_i k kk p r' e;cases e;let⟨ks',h1,h2⟩:=w0p.mp h;exact⟨k,kk,p,ks',rfl,h1,h2.symm⟩
 .cases h
def kz(ks:L eh)(vs:L V):L (wB×V):=(ks.ej YL.j').uu vs
def PV(X:Cx)(es:L l_)(t:TA):Prop:=
 ∀(wz:L (fG l_))(ks:L eh),fk wz=O ks->wz.J=es.J->∀(fZ:qY)(eS:L (fh×nU))(s:kx)(σ:St)(H:Hp)(Q:L V->Hp->Prop),g8 X eS σ H s->t σ H Q ->
  kX (mG X.g_ X.w) X.A (Ņ (pairTrees wz es X.el fZ)) (λus s'=>∃vs H' kv,g8 X eS σ H' s'/\vs.J=ks.J/\Carries (cU X.g_ X.w) us kv/\KV (kz ks vs) kv/\Q vs H') X.xe s
def Uv:PV X [] Ax:=by
 intro wz ks hk hl fZ eS s σ H Q I h;cases wz with
 |m6 _ _=>cases hl
 |m8=>cases hk;exact zcl ⟨[],H,[],I,rfl,trivial,.m8,h⟩
def z49{e:l_}{te:TE}{t:TA}(he:PE X e te)(hr:PV X es t):PV X (e::es) (qw te t):=by
 intro wz ks hk hl fZ eS s σ H Q I h;cases wz with
 |m8=>cases hl
 |m6 o r=>
  let⟨k,kk,p,ks',rfl,h1,rfl⟩:=OU hk;show kX _ _ (Ņ ((eval (.Zo (.str k) kk p) X.el,do let x <- eval e X.el;ϸ fZ;pR x)::pairTrees r es X.el fZ)) _ _ _;refine zck (bw (Su (X:=X) eS s σ H (λv H1=>v=.str k/\H1=H) I ⟨rfl,rfl⟩) λku s1 ⟨v,H1,I1,rk,e1,e2⟩=>?_)
  subst e1 e2;refine i6 (bw (he eS s1 σ H1 _ I1 h) λvu s2 ⟨v,H2,I2,rv,q⟩=>i6 (ò (oo ?_)))
  refine bw (hr r ks' h1 (by simpa using hl) fZ eS s2 σ H2 _ I2 q) λus s3 ⟨vs,H3,kv,I3,l3,c3,WG,q3⟩=>?_
  exact⟨v::vs,H3,(.j' k,vu)::kv,I3,by simp[l3],⟨EF (k:=.j' k) rk,rfl,c3⟩,.m6 ⟨rfl,rv⟩ WG,q3⟩
theorem PV.ll{t t':TA}(h:PV X es t)(m:∀σ H Q,t' σ H Q->t σ H Q):PV X es t':=λwz ks hk hl fZ eS s σ H Q I q=>h wz ks hk hl fZ eS s σ H Q I (m σ H Q q)
def XA(ks:L eh)(t:TA):TE:=λσ H Q=>t σ H λvs H1=>∀p,H1 p=none->Q (.ei p) (l5 H1 p (.dK (kz ks vs)))
def me(wz:L (fG l_))(ks:L eh):fJ:=decide (fk wz=O ks)&&decide (ks.J<=15)&&decide (ks≠[])&&decide ks.p9
theorem OX:∀{wz:L (fG l_)}{ks:L eh},fk wz=O ks->wz.oP (·.sG)=true/\wz.J=ks.J
 |[],_,h=>by cases h;exact⟨rfl,rfl⟩
 |o::r,ks,h=>by
  let⟨k,kk,p,ks',rfl,h1,rfl⟩:=OU h;let⟨a,b⟩:=OX h1;exact⟨by rw[w3o,a];rfl,by simp[b]⟩
def M4{vs:L V}(h:vs.J=ks.J):(kz ks vs).J=ks.J:=by simp[kz,h]
def z5a{vs:L V}(h:vs.J=ks.J):(kz ks vs).ej (·.1)=ks.ej YL.j':=by
 unfold kz;rw[L.map_fst_zip];simp[h]
def TH{t:TA}{wz:L (fG l_)}{fZ:qY}(ok:me wz ks=true)(hl:wz.J=es.J)(h:PV X es t):PE X (.Ze wz es fZ) (XA ks t):=by
 intro eS s σ H Q I q;simp only[me,w0q,ϫ]at ok;let⟨⟨⟨k1,k2⟩,k3⟩,k4⟩:=ok;let⟨ka,zft⟩:=OX k1;refine zec ka hl (λz=>by subst z;cases k1;exact k3 rfl) (by omega) ?_
 have fr:H s.d_.e6.eG=none:=I.aR.u3 (w0d _);have f:=I.jB (w0d _) fr
 have I0:g8 X ((s.d_.e6.eG,{ie:=.hJ "dict", lg:=.qZ #[]})::eS) σ H {s with d_:=s.d_.nV {ie:=.hJ "dict", lg:=.qZ #[]}}:=(I.NK (t':=s.nW) (λb u z=>fH.q_ _ z)).jW λp hp=>by
  rcases w0h.mp hp with rfl|hp
  .exact⟨fH.vM _ rfl,fr,f.2.1,f.2.2.1,λ_ z=>nomatch z⟩
  .let⟨a1,a2⟩:=I.OB p (w0e _ hp);exact⟨fH.q_ _ a1,a2⟩
 have hd:(s.d_.e6.eG==ZZ)=false:=Ϥ.rj (Ne.symm (w0y I.big));refine bw (h wz ks k1 hl fZ _ _ σ H _ I0 q) λus s1 ⟨vs,H1,kv,I1,l1,c1,Jt,q1⟩=>?_
 have hp:=(I1.OB _ (w0e _ w0l));have I2:g8 X eS σ (l5 H1 s.d_.e6.eG (.dK [])) s1:=(I1.jW λq hq=>I1.OB q (w0e _ (w0f _ hq))).adopt ⟨hp.2.1,f.2⟩ ⟨w1k _,hd,[],.m8,⟨_,#[],0,hp.1,⟨rfl,rfl,rfl⟩,rfl,(λ_ he=>by simp at he),Pairs.m8,L.nodup_nil⟩⟩
 let⟨z,VR,xs,iA,dd⟩:=Hn I2.aR (cI (H:=H1) (a:=s.d_.e6.eG) (o:=.dK []));cases iA;have V4:kv.J=ks.J:=by have:=Yc L.J Jt.wz;simp only[w0b]at this;rw[<- this,M4 l1]
 have hm:ď [] kv=kv:=merged_nil_of_nodup kv (by
  rw[<- Jt.wz,z5a l1];exact(L.zdg.rj (k4.pQ λz h=>z (by injection h))))
 refine wpAny_storeAll (knd:=cU X.g_ X.w) us kv [] s1 _ c1 dd (by rw[vN,V4];simp;omega) λh' pI hs=>?_
 rw[hm]at pI;have he:∃q,h'.f6 s.d_.e6.eG=O q:=let ⟨q,_,_,hq,_⟩:=pI;⟨q,hq⟩;have w:=DL (t':=s1.nW+us.J) I2 (by rw[cI];exact w7.intro) hs he (M0 (kvs:=kz ks vs) (by rw[vN,M4 l1];omega) hd Jt pI);rw[z0u]at w;exact⟨.ei s.d_.e6.eG,_,w,rfl,q1 _ hp.2.1⟩
def ϊ(kvs EY:L (wB×V)):L (wB×V):=EY.t_ (λm7 p=>Yo m7 p.1 p.2) kvs
def KV.oP{kvs EY:L (wB×V)}{vs mv:L (wB×e5)}(h:KV kvs vs)(hm:KV EY mv):KV (ϊ kvs EY) (ď vs mv):=by
 induction hm generalizing kvs vs with
 |m8=>exact h
 | @m6 p q l r h1 h2 ih=>
  have:=ih (h.put p.1 h1.2);rw[show ď vs (q::r)=ď (ũ vs q.1 q.2) r from rfl,<- h1.1];exact this
def LL:V->L V->Hp->VK->Prop:=λx vs H Q=>∃a b kvs EY,x=.ei a/\vs=[.ei b]/\a≠b/\H a=O (.dK kvs)/\H b=O (.dK EY)/\kvs.J+EY.J<=pg/\(ϊ kvs EY).J<=pg/\Q .aH (l5 H a (.dK (ϊ kvs EY)))
def Uw:BN X "dict.update" LL:=by
 intro eS s σ H x vs v us Q I rx rv h;let⟨a,b,kvs,EY,rfl,rfl,vC,ha,hb,hz,Wv,q⟩:=h;cases(show v=e5.ei a from rx);let⟨u,rfl,ru⟩:=rv.WS;cases(show u=e5.ei b from ru);let⟨z1,d1,xs,r1,ND⟩:=Hn I.aR ha;let⟨z2,d2,ys,r2,xa⟩:=Hn I.aR hb;have l1:=Yc L.J r1.wz;have l2:=Yc L.J r2.wz;simp only[w0b]at l1 l2;refine call_meetsIn F.zdw ND.Ya F.entry_dict_update (F.args_dict_update_2 _ _) (meets_dict_update (cU X.g_ X.w) a b vC d2) ⟨xs,ys,ND,xa,by omega,λh' pI _ hs=>?_⟩
 have he:∃q,h'.f6 a=O q:=let ⟨q,_,_,hq,_⟩:=pI;⟨q,hq⟩;exact⟨.aH,_,DL (t':=s.nW) I (by rw[ha];exact w7.intro) hs he (M0 Wv d1 (KV.oP r1 r2) pI),rfl,q⟩
end L2
namespace D
open PySem L2
section
variable{X:Cx}{Z:Zt}{EE:L2.St->XK}{e:l_}{es:L l_}{d:gF W}{dA:gF (L W)}{fZ:qY}{x:eh}{wz:L (fG l_)}
def DV(Z:Zt)(X:Cx)(EE:L2.St->XK)(es:L l_)(dA:gF (L W)):Prop:=PV X es (qe X.K Z EE dA)
theorem Q1d:DV Z X EE [] af:=PV.ll Uv λσ H Q ⟨G,e,r,h⟩=>h G [] H r (.oQ _) rfl
def z5b(ha:DE Z X EE e d)(hr:DV Z X EE es dA):DV Z X EE (e::es) (aa d dA):=by
 refine PV.ll (z49 ha hr) ?_;rintro σ H Q ⟨G,e,iA,h⟩;simp only[aa,R.ak]at h;refine⟨G,e,iA,h.pQ (λx e1 h G1 v1 H1 r1 s1 p1=>?_) λ_ _ h=>h⟩
 refine⟨G1,e1,r1,h.pQ (λxs e2 h G2 vs H2 r2 s2 p2=>?_) λ_ _ h=>XH.iD s1 h⟩
 exact h G2 (v1::vs) H2 r2 (s1.iD s2) ⟨v1,vs,rfl,nQ.ll s2 x p1,p2⟩
def xr(ks:L eh)(vs:L V):L (Kx×V):=(ks.ej Kx.str).uu vs
theorem S0:∀(ks:L eh)(vs:L V),(xr ks vs).ej (λp=>(qa p.1,p.2))=kz ks vs
 |[],_=>rfl
 |_::_,[]=>rfl
 |k::ks,v::vs=>by
  have:=S0 ks vs;simp only[xr,kz,w0j,L.zip_cons_cons]at this |-
  rw[this];rfl
def Vd{ks:L eh}{vs:L V}(h:vs.J=ks.J):(xr ks vs).ej (·.1)=ks.ej Kx.str:=by
 unfold xr;rw[L.map_fst_zip];simp[h]
def Ve{ks:L eh}{vs:L V}(h:vs.J=ks.J):(xr ks vs).ej (·.2)=vs:=by
 unfold xr;rw[L.map_snd_zip];simp[h]
def j9(i:dt)(ks:L eh)(dA:gF (L W)):L S->SR:=λe=>(dA e).cM λws e1=>if ws.J=ks.J then .nx (e1.my i (.dw .str (ks.ej Kx.str) ws))else .no
def y8h(i:dt)(ks:L eh){AO gX:qY}(hN:X.N.p9)(ha:DV Z X EE es dA)(ok:fi (me wz ks=true) jK)(hl:fi (wz.J=es.J) jJ)(hi:fi (X.N[i]?=O x) jJ)(hx:fi (WH X.el.fj x) jN)(hs:fi (Yh (.Ze wz es gX) (O (.je x AO)) fZ.y' X.el=pR false) jJ)(hf:fi (X.fn x=true\/X.el.fj.lH.fI x=O .local) jL):
  DS Z X EE (.Yz [.je x AO] (.Ze wz es gX) fZ) (j9 i ks dA):=by
 refine PS.ll (Bw i hN (TH ok hl ha) hi hx hs hf) ?_;rintro D σ H ⟨G,e,iA,h⟩;refine⟨G,e,iA,(jG h).pQ (λws e1 h G1 vs H1 r1 s1 p1=>?_) λ_ _ h=>h⟩
 split at h
 .rename_i hw;intro q hq;have lv:vs.J=ks.J:=by rw[p1.J];exact hw
  have g:=bc.pM r1.mI hq (.dK (kz ks vs));refine h G1 _ _ ((r1.wq g).Eb (s:=.dw .str (ks.ej Kx.str) ws) (λ_ _ z=>nomatch z) ⟨q,xr ks vs,[],rfl,?_,r1.mI.nL hq,wa r1 hq,Vd lv,(λk hk=>?_),.of rfl ?_⟩) s1
  .rw[cI];show _=O (HO.dK ((xr ks vs).ej λp=>(qa p.1,p.2)));rw[S0]
  .let⟨y,_,hy⟩:=w1e.mp hk;exact⟨y,hy.symm⟩
  .rw[Ve lv];exact p1
 .exact h.ke
def uy:L Kx->L W->Kx->W->L W
 |k::ks,w::ws,x,y=>(if k=x then y else w)::uy ks ws x y
 |_,_,_,_=>[]
def pA(p_:L Kx):L W->L eh->L W->L W
 |ws2,k::ks,w::ws=>pA p_ (uy p_ ws2 (.str k) w) ks ws
 |ws2,_,_=>ws2
theorem RT{k:eh}{v:V}:∀{kvs:L (Kx×V)},(∀p∈kvs,∃y,p.1=Kx.str y)->(kvs.ej λp=>(qa p.1,p.2)).ej (λkv=>if kv.1=(.j' k:wB)then(kv.1,v)else kv)=(kvs.ej λp=>if p.1=Kx.str k then(p.1,v)else p).ej λp=>(qa p.1,p.2)
 |[],_=>rfl
 |p::l,h=>by
  let⟨y,hy⟩:=h p (by simp);rw[w0j,w0j,w0j,w0j,RT λq hq=>h q (w0f _ hq)]
  let⟨p1,p2⟩:=p;cases hy
  by_cases e:y=k
  .subst e;rw[gE rfl,gE (by rfl)]
  .rw[kl (λz=>e (by injection z)),kl (λz=>e (by injection z))]
theorem QY{K:Fg}{G:Hp}{k:Kx}{w:W}{v:V}(r:nQ K G w v):∀{kvs:L (Kx×V)}{ws:L W},aq K G ws (kvs.ej (·.2))->aq K G (uy (kvs.ej (·.1)) ws k w) ((kvs.ej λp=>if p.1=k then(p.1,v)else p).ej (·.2))
 |[],[],_=>rfl
 |[],_::_,h=>by let⟨_,_,z,_⟩:=h;cases z
 |p::l,[],h=>nomatch (show(p::l).ej (·.2)=[]from h)
 |p::l,w0::ws,⟨y,r1,e0,h1,h2⟩=>by
  injection e0 with e0 B4
  subst e0;subst B4;refine⟨_,_,rfl,?_,QY r h2⟩
  by_cases e:p.1=k
  .simp only[e,gE];exact r
  .simp only[kl e];exact h1
theorem RU{K:Fg}{G:Hp}:∀{ks:L eh}{vs:L V}{ws:L W}{kvs:L (Kx×V)}{ws2:L W},aq K G ws vs->ws.J=ks.J->(∀p∈kvs,∃y,p.1=Kx.str y)->(∀k∈ks,Kx.str k∈kvs.ej (·.1))->aq K G ws2 (kvs.ej (·.2)) ->
  ∃kvs':L (Kx×V),ϊ (kvs.ej λp=>(qa p.1,p.2)) (kz ks vs)=kvs'.ej (λp=>(qa p.1,p.2))/\kvs'.ej (·.1)=kvs.ej (·.1)/\aq K G (pA (kvs.ej (·.1)) ws2 ks ws) (kvs'.ej (·.2))
 |[],_,ws,kvs,ws2,_,hl,_,_,h=>by
  cases ws with
  |m6 _ _=>cases hl
  |m8=>exact⟨kvs,rfl,rfl,h⟩
 |k::ks,vs,[],_,_,_,hl,_,_,_=>by cases hl
 |k::ks,vs,w::ws,kvs,ws2,⟨v,yc,e0,h1,h2⟩,hl,hk,hm,h=>by
  subst e0
  have qV:∀p∈kvs.ej (λp=>if p.1=Kx.str k then(p.1,v)else p),∃y,p.1=Kx.str y:=λp hp=>by
   let⟨q,hq,rfl⟩:=w1e.mp hp;let⟨y,hy⟩:=hk q hq;refine⟨y,?_⟩;split<;>exact hy
  have e1:(kvs.ej λp=>if p.1=Kx.str k then(p.1,v)else p).ej (·.1)=kvs.ej (·.1):=by
   rw[w1f];refine w1y λp _=>?_
   show(if p.1=Kx.str k then(p.1,v)else p).1=p.1;split<;>rfl
  have Ik:((kvs.ej λp=>(qa p.1,p.2)).pX λkv=>decide (kv.1=(.j' k:wB)))=true:=by
   let⟨p,hp,e⟩:=w1e.mp (hm k (by simp));refine L.any_eq_true.rj ⟨(qa p.1,p.2),w1e.rj ⟨p,hp,rfl⟩,?_⟩;rw[e];exact _u rfl
  have st:=QY (k:=Kx.str k) h1 h;let⟨kvs',g1,g2,g3⟩:=RU (ks:=ks) (vs:=yc) (ws:=ws) h2 (by simpa using hl) qV (λy hy=>by rw[e1];exact hm y (w0f _ hy)) st
  refine⟨kvs',?_,g2.iD e1,by rw[e1]at g3;exact g3⟩;rw[show kz (k::ks) (v::yc)=(.j' k,v)::kz ks yc from rfl,show ϊ (kvs.ej λp=>(qa p.1,p.2)) ((.j' k,v)::kz ks yc)=ϊ (Yo (kvs.ej λp=>(qa p.1,p.2)) (.j' k) v) (kz ks yc)from rfl]
  rw[<- g1];congr 1;unfold Yo;rw[gE Ik,RT hk]
def rJ(i:dt)(ks:L eh)(ws:L W)(e:L S):fG S->SR
 |O (.dw .str p_ ws2)=>if ws.J=ks.J/\p_.J+ks.J<=16777216/\(∀k∈ks,Kx.str k∈p_)/\(e.my i .no).oP (λs=>!tM s)=true then .nx (e.my i (.dw .str p_ (pA p_ ws2 ks ws)))else .no
 |_=>.no
def wJ(k:SR):fG S->SR
 |O (.dw .str _ _)=>k
 |_=>.no
def qG(i:dt)(ks:L eh)(dA:gF (L W)):L S->SR:=λe=>wJ ((dA e).cM λws e1=>rJ i ks ws e1 e1[i]?) e[i]?
def S1(i:dt)(ks:L eh){zp aW gX p:qY}(ha:DV Z X EE es dA)(ok:fi (me wz ks=true) jK)(hl:fi (wz.J=es.J) jJ)(hN:fi (X.N[i]?=O x) jJ)(hv:fi (jy X.el.fj x) jM)(hd:fi ((x==("__debug__":eh))=false) jK)(dR:fi ((x==("__classdict__":eh))=false) jK)
  (cC:fi (Z_ (.je x p) "update" X.el (eval (.je x p) X.el)=eval (.je x p) X.el) jJ)
  (fX:fi (((r8 aW (lq [.Ze wz es gX] X.el)).oP (λx=>!x.1)&&(_D aW (_G [] X.el)).oP (λx=>x.1.sG)
   && decide ([l_.Ze wz es gX].J+([]:L Yr).J+(if([]:L Yr).yw then 0 else 1)<30))=true) jJ)
  (cD:fi ((zp._g==aW.y')=true) jJ)(hs:fi (lq [.Ze wz es gX] X.el=(false,eval (.Ze wz es gX) X.el)::lq [] X.el) jJ)(b7:fi ((r8 aW (lq [] X.el)).pX (·.1)=false) jJ)(qX:fi (Yh (.pY (.Zn (.je x p) "update" zp) [.Ze wz es gX] [] aW) none fZ.y' X.el=pR false) jJ):
  DS Z X EE (.l_ (.pY (.Zn (.je x p) "update" zp) [.Ze wz es gX] [] aW) fZ) (qG i ks dA):=by
 refine PS.ll (DH (Hl kd.F.plainAttrs_dict kd.F.zdw kd.F.type_dict_update Uw (pv i hN hv hd dR) (v9 (TH ok hl ha) DX hs) cC fX cD hs b7) qX) ?_;rintro D σ H ⟨G,e,iA,h⟩;unfold qG wJ at h;split at h
 .rename_i Oq G8 tD;let⟨a,Ju,Jp,q1,q2,_⟩:=iA.dw tD;refine⟨.ei a,q1,.j' (.j' (.h8 ⟨rfl,.h8 ⟨_,q2⟩⟩)),G,e,iA,(jG (σ:=σ) h).pQ (λws e1 h G1 vs H1 r1 s1 p1=>?_) λ_ _ h=>h⟩
  intro q hq;unfold rJ at h;split at h
  .rename_i p_ ws2 mX;let⟨a',kvs,bC,g1,g2,g3,g4,g5,g6,g7⟩:=r1.dw mX;rw[q1]at g1;cases g1;split at h
   .rename_i hc;subst g5;have g2:H1 a=O (.dK (kvs.ej λp=>(qa p.1,p.2))):=g2
    have fY:a≠q:=λz=>by rw[z,hq]at g2;cases g2
    have g6:∀k∈kvs.ej (·.1),∃y,k=Kx.str y:=g6;let⟨kvs',u1,u2,zdU⟩:=RU (K:=X.K) (G:=G1) (ks:=ks) (vs:=vs) (ws:=ws) (kvs:=kvs) (ws2:=ws2) p1 hc.1 (λp hp=>g6 p.1 (w1e.rj ⟨p,hp,rfl⟩)) hc.2.2.1 g7
    have lv:vs.J=ks.J:=by rw[p1.J];exact hc.1
    have lk:kvs'.J=kvs.J:=by have:=Yc L.J u2;simpa using this
    have l2:=hc.2.1;rw[w0b]at l2;refine⟨a,q,_,_,rfl,rfl,fY,by rw[bg fY];exact g2,cI,by rw[vN,w0b,M4 lv];exact l2,by rw[u1,vN,w0b,lk];omega,?_⟩;rw[u1];have g:=bc.pM r1.mI hq (.dK (kz ks vs));refine h G1 σ _ (((r1.wq g).xv (sh:=.str) (kvs':=kvs') (kas':=bC) (ks':=kvs.ej (λp:Kx×V=>p.1)) (ws':=pA (kvs.ej (λp:Kx×V=>p.1)) ws2 ks ws) mX q1 (λs hs=>?_) u2 (by exact g6) (.of rfl zdU))) s1
    have:=w1l.mp hc.2.2.2 s hs;simpa using this
   .exact h.ke
  .exact h.ke
 .exact h.ke
theorem y8i{i:dt}{ks:L eh}{e:L S}:j9 i ks dA e=(dA e).cM λws e1=>if ws.J=ks.J then .nx (e1.my i (.dw .str (ks.ej Kx.str) ws))else .no:=rfl
theorem Q1e{i:dt}{ks:L eh}{e:L S}:qG i ks dA e=wJ ((dA e).cM λws e1=>rJ i ks ws e1 e1[i]?) e[i]?:=rfl
theorem Q1f{k:SR}{ks:L Kx}{ws:L W}:wJ k (O (.dw .str ks ws))=k:=rfl
theorem S2{i:dt}{ks:L eh}{ws:L W}{e:L S}{p_:L Kx}{ws2:L W}(h:ws.J=ks.J/\p_.J+ks.J<=16777216/\(∀k∈ks,Kx.str k∈p_)/\(e.my i .no).oP (λs=>!tM s)=true):rJ i ks ws e (O (.dw .str p_ ws2))=.nx (e.my i (.dw .str p_ (pA p_ ws2 ks ws))):=gE h
end
def iE(k:eh):e5->fJ
 |.str s _=>s==k
 |_=>false
def lF(K:Fg):L (eh×W)->L ô->fJ
 |[],[]=>true
 |p::tb,e::es=>iE p.1 e.NV&&(cu K p.2 e.tN&&lF K tb es)
 |_,_=>false
def xp(K:Fg)(tb:L (eh×W))(o:nU):fJ:=match o.ie,o.qZ,o.zx.n9,o.lg with
 |.hJ c,none,[],.qZ es _=>c=="dict"&&lF K tb es.n9
 |_,_,_,_=>false
def xi(o:nU):L eW:=match o.lg with
 |.qZ es _=>es.n9.ej (·.ZW)
 |_=>[]
def yk(P:qM)(w:pT)(K:Fg)(d:fh)(tb:L (eh×W)):Prop:=∃o,K.fI d=O o/\xp K tb o=true/\xi o=tb.ej λp=>(YG P w).ZW p.1
def bf{k:eh}{v:e5}(h:iE k v=true):∃t,v=.str k t:=by
 cases v with
 |str y t=>exact⟨t,by rw[show y=k from ZE.mp h]⟩
 |_=>cases h
theorem QZ{P:qM}{w:pT}{K:Fg}{k:eh}{wv:W}:∀{tb:L (eh×W)}{es:L ô},lF K tb es=true->tb.fI k=O wv->∃e,es.Ć (λe=>(YG P w).is k e.NV)=O e/\cu K wv e.tN=true
 |[],_,_,h=>by cases h
 |_::_,[],h,_=>by cases h
 |p::tb,e::es,h,hl=>by
  unfold lF at h;simp only[w0q]at h;let⟨h1,h3,h4⟩:=h;let⟨t,ht⟩:=bf h1;rw[w2w]at hl
  by_cases e0:k=p.1
  .subst e0;rw[û]at hl;cases hl;refine⟨e,?_,h3⟩;rw[w3c,ht,Ğ]
  .rw[Ϥ.rj e0]at hl;let⟨e',q1,q2⟩:=QZ (P:=P) (w:=w) h4 hl;refine⟨e',?_,q2⟩;rw[w3c,ht];cases q:(YG P w).is k (.str p.1 t)with
   |false=>exact q1
   |true=>exact nS ((YG P w).sE _ _ _ q (Ğ _ _ _ _)) e0
theorem Q0{P:qM}{w:pT}{K:Fg}:∀{tb:L (eh×W)}{es:L ô},lF K tb es=true->es.ej (·.ZW)=(tb.ej λp=>(YG P w).ZW p.1)->∀e∈es,∃k,(YG P w).is k e.NV=true/\e.ZW=(YG P w).ZW k
 |[],[],_,_,_,h=>nomatch h
 |_::_,[],h,_,_,_=>by cases h
 |[],_::_,h,_,_,_=>by cases h
 |p::tb,e::es,h,hh,e',he=>by
  unfold lF at h;simp only[w0q]at h;let⟨h1,h3,h4⟩:=h;injection hh with h2 hh
  rcases w0h.mp he with rfl|he
  .let⟨t,ht⟩:=bf h1;exact⟨p.1,by rw[ht];exact Ğ _ _ _ _,h2⟩
  .exact Q0 h4 hh e' he
def qx(tb:L (eh×W)):W->fG W
 |.str k=>tb.fI k
 |_=>none
section
variable{X:Cx}{Z:Zt}{EE:L2.St->XK}{k:l_}{dk:gF W}{fZ p:qY}{x:eh}{d:fh}{tb:L (eh×W)}
def D9(K:Fg)(d:fh)(tb:L (eh×W)):R2:=λx y H Q=>∃k w,x=.ei d/\y=.str k/\tb.fI k=O w/\∀v,(∀G,nQ K G w v)->Q v H
def z5c(T:yk X.g_ X.w X.K d tb):rN X (D9 X.K d tb):=by
 intro YW Ye eS s σ H x y v u Q I rx ry h hs;let⟨k,w,rfl,rfl,hl,q⟩:=h;cases rx;let⟨t,rfl⟩:=ry;let⟨o,h1,h2,h5⟩:=T;unfold xp at h2;split at h2
 .rename_i c es ep hc hd tJ A0;rw[w0q]at h2;let⟨e,e1,e2⟩:=QZ (P:=X.g_) (w:=X.w) h2.2 hl;let⟨v',rv,rp⟩:=MA w e2;have hm:s.d_.MapOf (YG X.g_ X.w) d (ņ (YG X.g_ X.w).is es):=⟨o,es,ep,I.ko d o h1,⟨by rw[hc,ZE.mp h2.1],hd,by apply tP.toList_inj.mp;rw[tJ]⟩,A0,λe he=>Q0 h2.2 (by unfold xi at h5;rw[A0]at h5;exact h5) e (by simpa using he),λ_=>rfl⟩
  refine uD.ri.ģ hm.Ya F.Ŧ.fI (zeg (knd:=YG X.g_ X.w) (Ğ _ _ _ _) hm (v:=e.tN) ?_ ⟨v',H,I.wY _,rv,q v' rp⟩) hs;unfold ņ;rw[<- w6j,e1];rfl
 .cases h2
def z5d(T:∃d,X.mg x=O (.ei d)/\yk X.g_ X.w X.K d tb)(hk:DE Z X EE k dk)(hg:fi (Gl X x) jJ)(hd:fi ((x==("__debug__":eh))=false) jK)(hs:gn k:=by intro _ _;rfl):
  DE Z X EE (.Hz (.je x p) k fZ) (jQ (qx tb) dk):=by
 let⟨d,hm,T⟩:=T;refine PE.ll (Hk (z5c T) (GI (v:=.ei d) hg hm rfl hd) hk hs) ?_;rintro σ H Q ⟨G,e,iA,h⟩;simp only[jQ,R.ak,bq]at h;refine⟨G,e,iA,h.pQ (λw e1 h G1 v1 H1 r1 s1 p1=>?_) λ_ _ h=>h⟩
 let⟨w',hw,h⟩:=h;unfold qx at hw;split at hw
 .cases p1;exact⟨_,w',rfl,rfl,hw,λv rv=>h G1 v H1 r1 s1 (rv G1)⟩
 .cases hw
end
end D
namespace L2
open PySem PySem.Spec PyProof.Rows
end L2
namespace D
open PySem L2
end D
namespace L2
open PySem PySem.Spec PyProof.Rows
def y3w{P:qM}{w:pT}{K:Fg}{mg mb:eh->fG e5}{CX:n_}{k:dt}{fa a:fh}{fd:Zp}{x:eh}{sp:Sp}{aM:kx}{vs:L e5}{ns:L eW}{rX:L (fh×eh)}
  (KX:K.In aM.d_)(uV:aM.d_.Ns EO mg)(hb:aM.d_.Ns ϧ mb)(AZ:∀x:eh,x≠"__name__"->mb x=_a x)(yU:aM.d_.Ϟ)(hg:aM.Yw=#[])
  (ha:aM.d_.f6 a=O {ie:=.hJ "list", lg:=.mx vs.ky})(hi:ϝ vs ns)(hl:ns.J<=pg)(hr:bL k ZF)
  (F:∀g0:fH,K.In g0->g0.Ns EO mg->ZQ g0 mg->fN P w K mg g0 CX k fa fd [x] sp)(mW:∀(s:kx)(u:e5),_r s fd ⟨[u],[]⟩ [(x,u)])
  (oH:∀H:Hp,cG K H a (ns.ej V.d0)->sp [.ei a] H (λv _=>v=.bl true) λ_ _ _=>pV)
  (yJ:∀H e s',CX [] H aM (λ_ _ _=>pV) e s'->pV)
  (VG:ZQ aM.d_ mg)(hM:∀a q P,(a,iF P q)∈K->rX.fI P=O q)(hT:∀P q,rX.fI P=O q->aM.d_.f6 P=O (ϐ #[])/\ċ aM.d_ P)(HZ:∀P q,rX.fI P=O q->K.fI P=none):
  YN (mG P w) ZF (.zN (.ei fa) ⟨[.ei a],[]⟩) (λr s'=>r=.ok (.yr (.rl true))/\ϟ aM.d_ s'.d_/\s'.os=aM.os/\ZP s'.Yw) aM:=by
 have rv:=Lj hi;have CT:=hi.J
 have zbQ:rX.fI a=none:=by
  cases q:rX.fI a with
  |none=>rfl
  |O t=>rw[(hT a t q).1]at ha;cases ha
 have Ϫ:∀H0:Hp,(∀b,H0 b=none\/∃o xs,H0 b=O (.jn o (.fy xs)))->cG K H0 a (ns.ej V.d0)->dD P w H0 aM.d_->(∀b,H0 b≠none->b=a)->(H0 a≠none->K.fI a=none) ->
   YN (mG P w) ZF (.zN (.ei fa) ⟨[.ei a],[]⟩) (λr s'=>r=.ok (.yr (.rl true))/\ϟ aM.d_ s'.d_/\s'.os=aM.os/\ZP s'.Yw) aM:=by
  intro H0 hO VN IV hA hK;obtain⟨H,hH⟩:∃H:Hp,H=λb=>match rX.fI b with|O q=>O (.qy #[.rl true,.str q 0])|none=>H0 b:=⟨_,rfl⟩
  have Fc:∀b q,rX.fI b=O q->H b=O (.qy #[.rl true,.str q 0]):=λb q z=>by rw[hH];simp only[z]
  have ub:∀b,rX.fI b=none->H b=H0 b:=λb z=>by rw[hH];simp only[z]
  have up:∀b u,H0 b=O u->H b=O u:=λb u z=>by
   have:b=a:=hA b (by rw[z];simp);subst this;rw[ub b zbQ];exact z
  have hS:cG K H a (ns.ej V.d0):=by
   rcases VN with(z|⟨o,z⟩)|z
   .exact .h8 (.h8 (up _ _ z))
   .exact .h8 (.j' ⟨o,up _ _ z⟩)
   .exact .j' z
  have aR:dD P w H aM.d_:=λb u z=>by
   cases q:rX.fI b with
   |O t=>
    rw[Fc b t q]at z;cases z;exact .h8 ⟨t,#[],rfl,rfl,(hT b t q).1,trivial,λfZ cv z=>by cases z⟩
   |none=>
    rw[ub b q]at z;exact(IV b u z).fK (λc v _ q=>q) (λc q=>up c _ q) λc v _ q=>up c v q
  have gu:∀{b:fh}{o:nU},aM.d_.f6 b=O o->H b=none->(gZ aM.d_ H).f6 b=O o:=λe n=>Qz e n
  have nL:∀{b:fh}{o:nU},aM.d_.f6 b=O o->o≠{ie:=.hJ "list", lg:=.mx vs.ky}->o≠ϐ #[]->H b=none:=λ{b o} e d1 d2=>by
   cases q:rX.fI b with
   |O t=>rw[(hT b t q).1]at e;cases e;exact nS rfl d2
   |none=>
    rw[ub b q];cases q0:H0 b with
    |none=>rfl
    |O u=>
     have e':b=a:=hA b (by rw[q0];simp);subst e';rw[ha]at e;cases e;exact nS rfl d1
  have vT:∀{b:fh}{m:eh->fG e5},aM.d_.Ns b m->(gZ aM.d_ H).Ns b m:=λ{b m} ⟨o,es,ep,e,d,r⟩=>⟨o,es,ep,gu e (nL e (λz=>by rw[z]at d;cases d) λz=>by rw[z]at d;cases d),d,r⟩
  have Ce:K.In (gZ aM.d_ H):=λb o e=>gu (KX b o e) (by
   cases q:rX.fI b with
   |O t=>rw[HZ b t q]at e;cases e
   |none=>
    rw[ub b q];cases q0:H0 b with
    |none=>rfl
    |O u=>
     have e':b=a:=hA b (by rw[q0];simp);subst e';rw[hK (by rw[q0];simp)]at e;cases e)
  have VH:ZQ (gZ aM.d_ H) mg:=by
   let⟨bm,ob,b1,b2,b3,b4,b5,b6⟩:=VG;exact⟨bm,ob,b1,b2,gu b3 (nL b3 (λz=>by rw[z]at b4;simp at b4) λz=>by rw[z]at b4;cases b4),b4,b5,b6⟩
  have VJ:_T K mg (gZ aM.d_ H):=⟨Ce,vT uV,⟨mb,vT hb,AZ⟩,let ⟨mc,h1,h2⟩:=yU;⟨mc,vT h1,h2⟩⟩;have e0:jx P w K mg (gZ aM.d_ H) ZF [] aM H:=⟨rfl,VJ,λb o e=>Rm e,dt.le_of_eq (PR _ _),trivial,λb hb=>nS (show b∈([]:L fh)from hb) (by simp),aR,.ϵ hg,λa q P m=>⟨_,Fc P q (hM a q P m),rfl,rfl⟩⟩
  refine ς ((F _ Ce (vT uV) VH).g9 ZF [] aM H ⟨[.ei a],[]⟩ [.ei a] [.ei a] _ _ hr e0 (mW aM (.ei a)) (.m6 rfl .m8) (oH H hS)) λr s' h=>?_
  cases r with
  |τ e=>exact(yJ H e s' h).ke
  |ok fl=>
   cases fl with
   |next=>exact pV.ke h
   |Zu=>exact pV.ke h
   |Zv=>exact pV.ke h
   |yr u=>
    let⟨v,H',os,wC,un,vI,r',q⟩:=h;have q':v=.bl true:=q;subst q';obtain rfl:u=e5.rl true:=r'
    have kp:∀b o,rX.fI b=none->aM.d_.f6 b=O o->s'.d_.f6 b=O o:=λb o z e=>by
     cases q:H b with
     |none=>exact un.pU b o e q (by intro z;exact nS (show b∈([]:L fh)from z) (by simp)) (by simp)
     |O u=>
      have q0:=q;rw[ub b z]at q0;rcases hO b with z|⟨ob,xs,z⟩
      .rw[q0]at z;cases z
      .rw[q0]at z;cases z;have z2:=un.bt b ob _ q;let⟨e1,_⟩:=(show aM.d_.f6 b=O ob/\_ from aR b _ q);let⟨e2,_⟩:=(show s'.d_.f6 b=O ob/\_ from vI b _ z2);rw[e]at e1;cases e1;exact e2
    have gr:∀b t,rX.fI b=O t->∃qs,s'.d_.f6 b=O (ϐ qs):=λb t z=>by
     let⟨EY,e⟩:=un.eU b _ (Fc b t z);have o1:bh P w H' s'.d_ b (.qy (#[.rl true,.str t 0]++EY)):=vI b _ e;rcases o1 with⟨_,qs,_,_,g,_⟩|⟨_,_,_,_,_,_,p0,_⟩
     .exact⟨qs,g⟩
     .rw[w2k (by simp)]at p0;cases p0
    refine⟨rfl,⟨λb o e=>?_,λb o e=>?_⟩,os,wC⟩
    .cases z:rX.fI b with
     |none=>exact .h8 (kp b o z e)
     |O t=>
      let⟨qs,g⟩:=gr b t z;let⟨g1,g2⟩:=hT b t z;rw[e]at g1;cases g1;exact .j' (.h8 ⟨g2,rfl,#[],qs,rfl,by rw[tP.empty_append];exact g⟩)
    .cases z:rX.fI b with
     |none=>exact⟨o,kp b o z e⟩
     |O t=>
      let⟨qs,g⟩:=gr b t z;exact⟨_,g⟩
 cases hk:K.fI a with
 |O o=>
  have e:=KX a o hk;rw[ha]at e;cases e;refine Ϫ (λ_=>none) (λ_=>.h8 rfl) (.j' ⟨_,vs.ky,_,hk,rfl,rfl,rfl,by rw[w0i,CT];exact hl,by simpa using rv⟩) (λb u z=>by have z':(none:fG HO)=O u:=z;cases z') (λb z=>nS rfl z) λz=>nS rfl z
 |none=>
  refine Ϫ (λb=>if b=a then O (.jn {ie:=.hJ "list", lg:=.mx vs.ky} (.fy (ns.ej V.d0)))else none) (λb=>?_) (.h8 (.j' ⟨{ie:=.hJ "list", lg:=.mx vs.ky},gE rfl⟩)) (λb u z=>?_) (λb z=>?_) λ_=>hk
  .by_cases hb:b=a
   .exact .j' ⟨_,_,gE hb⟩
   .exact .h8 (kl hb)
  .by_cases hb:b=a
   .have z':=(gE hb).symm.iD z;cases z';subst hb;exact⟨ha,by rw[w0b];exact hl,vs,_,rv,ha⟩
   .have z':=(kl hb).symm.iD z;cases z'
  .by_cases hb:b=a
   .exact hb
   .exact nS (kl hb) z
def y8j{l:kd.W._U}{K:Ï->Fg}{CX:pT->n_}{sp:pT->Sp}{rX:L (fh×eh)}
  (hn:l.ZK=O n)(yZ:n<=pg)(yN:d.p7.Ý=[])(hr:bL k ZF)
  (hY:∀(w:pT)(h:fH),YP w h->(K w.p7).In h)
  (F:∀(w:pT)(mg:eh->fG e5)(fa:fh)(h:fH),(K w.p7).In h->h.Ns EO mg->mg d.name=O (.ei fa) ->
   ∃fd:Zp,(∀(s:kx)(u:e5),_r s fd ⟨[u],[]⟩ [(x,u)]) /\
    ∀g0:fH,(K w.p7).In g0->g0.Ns EO mg->ZQ g0 mg->fN l.g_ w (K w.p7) mg g0 (CX w) k fa fd [x] (sp w))
  (oH:∀(w:pT)(H:Hp)(a:fh)(ns:L eW),ns.J<=n->cG (K w.p7) H a (ns.ej V.d0)->sp w [.ei a] H (λv _=>v=.bl true) λ_ _ _=>pV)
  (yJ:∀(w:pT)(H:Hp)(s:kx)(e:e5)(s':kx),CX w [] H s (λ_ _ _=>pV) e s'->pV)
  (hM:∀(w:pT) a q P,(a,iF P q)∈K w.p7->rX.fI P=O q)(hT:∀(w:pT)(h:fH),YP w h->∀P q,rX.fI P=O q->h.f6 P=O (ϐ #[])/\ċ h P)(HZ:∀(w:pT) P q,rX.fI P=O q->(K w.p7).fI P=none):
  kd.W.ù q Τ XP YP l.pS.ϑ d [] (λf vs=>kd.zN f vs):=by
 refine BC.ji hn yN λw aB aM mg mb fa o pm cd Q1 a vs ns G Y ho hd dR hmg tH ϰ vd hg=>?_
 have KX:=hY w _ Y;let⟨fd,hb,hF⟩:=F w mg fa _ KX G.T.g hmg;exact y3w KX G.T.g G.T.b G.T.Η G.T.ϴ hg tH ϰ (w1d vd yZ) hr hF hb (λH hS=>oH w H a ns vd hS) (λH e s'=>yJ w H aM e s') G.T.bmain (hM w) (hT w _ Y) (HZ w)
end L2
namespace D
open PySem L2
variable{X:Cx}{dA:gF (L W)}{e:l_}{G H:Hp}{EE:L2.St->XK}{es:L l_}{r:dt->L W->FR}{p fZ:qY}{K:Fg}{x:eh}{Z:Zt}
mutual
noncomputable def noFn:W->Bool
 |.tup ws=>b9 ws
 |.lst ws=>b9 ws
 |.dw _ _ _ ws=>b9 ws
 |.fn _ _ _=>false
 |.aH=>true
 |.bl _=>true
 |.int _=>true
 |.str _=>true
 |.exc _=>true
 |.ba _=>true
noncomputable def b9:List W->Bool
 |[]=>true
 |w::ws=>noFn w&&b9 ws
end
section
variable{cs:Cs}
def Rd.rm{a:fh}{u:HO}(c:bF G cs)(h:Rd G a u)(n:∀o,u≠lW o)(n2:∀φ,u≠.ext φ):Rd (ed G cs) a u:=by
 rcases h with h|⟨o,h⟩
 .exact .h8 (c.dg h n)
 .exact .j' ⟨o,c.dg h λo' z=>by cases z;exact n2 _ rfl⟩
theorem dj.rm(c:bF G cs):∀{ks:L Kx}{bs:L fh},dj G ks bs->dj (ed G cs) ks bs
 |[],[],_=>trivial
 |k::ks,b::bs,h=>⟨cx.AN (λ_ _ t z=>c.dg z (O1 t)) k h.1,dj.rm c h.2⟩
 |[],_::_,h=>h.ke
 |_::_,[],h=>h.ke
def cJ.rm{sh:Sh}(c:bF G cs){ks:L Kx}{bs:L fh}(h:cJ sh G ks bs):cJ sh (ed G cs) ks bs:=by
 unfold cJ at h |-
 split at h
 .rename_i hi;rw[gE hi];exact h
 .rename_i hi;rw[kl hi];exact h.rm c
mutual
theorem Rep.rm(c:bF G cs):∀(w:W){v:V},noFn w=true->Rep K G w v->Rep K (ed G cs) w v
 |.aH,v,_,h=>h
 |.bl b,v,_,h=>h
 |.int i,v,_,h=>h
 |.str x,v,_,h=>h
 |.tup ws,v,n,h=>by
  let⟨a,xs,rfl,q,r⟩:=h;refine⟨a,xs,rfl,?_,aq.rm c ws n r⟩;rcases q with q|q
  .exact .inl (Rd.rm c q (λo z=>nomatch z) λφ z=>nomatch z)
  .exact .inr q
 |.lst ws,v,n,h=>by
  let⟨a,xs,rfl,q,r⟩:=h;refine⟨a,xs,rfl,?_,aq.rm c ws n r⟩;rcases q with q|q
  .exact .inl (Rd.rm c q (λo z=>nomatch z) λφ z=>nomatch z)
  .exact .inr q
 |.exc e,v,_,h=>by
  let⟨a,rfl,q⟩:=h;exact⟨a,rfl,c.dg q λo z=>by unfold oC at z;cases z⟩
 |.ba kvs,v,_,h=>by
  let⟨a,rfl,q⟩:=h;exact⟨a,rfl,c.dg q λo z=>by cases kvs;cases z⟩
 |.dw fz sh ks ws,v,n,h=>by
  let⟨a,kvs,bC,rfl,h1,h2,h3,h4⟩:=h;refine⟨a,kvs,bC,rfl,?_,h2,cJ.rm c h3,aq.rm c ws n h4⟩;cases fz with
  |true=>let⟨o,h1⟩:=h1;exact⟨o,c.dg h1 λo z=>by injection z with _ z;exact Ai rfl z⟩
  |false=>exact c.dg h1 λo z=>Ai rfl z
 |.fn _ _ _,v,n,_=>by cases n
theorem aq.rm(c:bF G cs):∀(ws:List W){xs:List V},b9 ws=true->aq K G ws xs->aq K (ed G cs) ws xs
 |[],xs,_,h=>h
 |w::ws,xs,n,h=>by
  let⟨x,r,rfl,h1,h2⟩:=h
  have n':noFn w=true/\b9 ws=true:=by
   simp_all [b9]
  exact⟨x,r,rfl,Rep.rm c w n'.1 h1,aq.rm c ws n'.2 h2⟩
end
end
section
variable{G' H':Hp}{cs:Cs}
theorem QJ(h:∀b o,cs.fI b=O o->H b=none):au H (c7 H cs):=λb u e=>by
 cases q:cs.fI b with
 |O o=>grind
 |none=>rw[ju q];exact e
theorem Qs(h:au G H):au (c7 G cs) (c7 H cs):=λb u e=>by
 cases q:cs.fI b with
 |O o=>rw[ui q]at e |-;exact e
 |none=>rw[ju q]at e |-;exact h b u e
theorem QK(h:au G H):au (ed G cs) (ed H cs):=λb u e=>by
 let⟨e1,e2⟩:=Nb e;rw[nD e2];exact h b u e1
theorem bc.lam(ch:bF H cs)(cg:bF G cs)(e1:au (ed H cs) H')(e2:au (ed G cs) G')(e3:au G' H')(e4:∀a,ed H cs a≠none->G' a=ed G cs a):bc G H (c7 G' cs) (c7 H' cs) where
 hh:=λb u e=>by
  cases q:cs.fI b with
  |O o=>rw[ui q];rw[ch b o q]at e;exact e
  |none=>rw[ju q];exact e1 b u (by rw[nD q];exact e)
 gg:=λb u e=>by
  cases q:cs.fI b with
  |O o=>rw[ui q];rw[cg b o q]at e;exact e
  |none=>rw[ju q];exact e2 b u (by rw[nD q];exact e)
 mI:=Qs e3
 rZ:=λa ha=>by
  cases q:cs.fI a with
  |O o=>rw[ui q,cg a o q]
  |none=>
   rw[ju q,e4 a (by rw[nD q];exact ha),nD q]
theorem bc.jU(g:bc (c7 G cs) (c7 H cs) G' H')(hn:∀b o,cs.fI b=O o->H b=none)(sg:au G H):bc G H (ed G' cs) (ed H' cs) where
 hh:=λb u e=>by
  cases q:cs.fI b with
  |O o=>rw[hn b o q]at e;cases e
  |none=>rw[nD q];exact g.hh b u (by rw[ju q];exact e)
 gg:=λb u e=>by
  cases q:cs.fI b with
  |O o=>have:=sg b u e;rw[hn b o q]at this;cases this
  |none=>rw[nD q];exact g.gg b u (by rw[ju q];exact e)
 mI:=QK g.mI
 rZ:=λa ha=>by
  cases q:cs.fI a with
  |O o=>exact nS (hn a o q) ha
  |none=>rw[nD q,g.rZ a (by rw[ju q];exact ha),ju q]
end
def kf:R W->FR
 |.ok w _=>.ok (.fr w)
 |.ex c _=>.ex c
 |.no=>.no
def G6(K:Fg)(de:dt->fG Lm)(r:dt->L W->FR):V->L V->Hp->VK->XK->Prop:=λx vs H Q _=>∃G i l bH ws w,au G H/\nQ K G (.fn i l bH) x/\aq K G ws vs/\b9 ws=true/\b9 bH=true/\de i=O l /\
 r i (ws++bH)=.ok (.fr w)/\∀G' H' v,bc G H G' H'->nQ K G' w v->Q v H'
structure ze3(P:qM)(w:pT)(K:Fg)(mg:eh->fG e5)(g0:fH)(n:dt)(l:Lm)(ps:L eh)(F:L W->FR):Prop where
 sc:zdq ps l.nf l.fj
 nR:∀(cl:L (eh×fh))(pm:e5)(c':fh)(gT:e5)(us:L e5),us.J=ps.J->Γ (ã "<lambda>" l.n0 l.p7 l.o3 l.fj cl pm (.ei c') gT) ⟨us,[]⟩=pR (ps.uu us)
 oO:∀ws,F ws≠.no->ws.J=ps.J+l.nf.J
 o3:∀ws,F ws≠.no->∀(Z:Zt)(f:fh)(cd:e5)(cl:L (eh×fh))(A:tf)(l4:L tY)(s:kx)(H:Hp),bL n (A.LO (eI l.n0 l.fj f cd cl s)) ->
  ∃d,DE Z (lB P w K mg g0 (ps++l.nf) l.n0 l.fj f cd cl A l4 s H) (λ_=>E0) l.o3 d/\kf (d (ws.ej .fr))=F ws
section
variable{k:dt}{de:dt->fG Lm}
open Classical in
def iX(de:dt->fG Lm)(r:dt->L W->FR)(j:dt)(l:Lm)(bH:L W)(ws:L W)(e1:L S):R W:=
 if de j=O l/\b9 ws=true/\b9 bH=true then(match r j (ws++bH)with
  |.ok (.fr w)=>.ok w e1
  |_=>.no)else .no
def lV(de:dt->fG Lm)(r:dt->L W->FR)(dA:gF (L W))(e:L S):fG S->R W
 |O (.fr (.fn j l bH))=>(dA e).nR λws e1=>iX de r j l bH ws e1
 |_=>.no
def iY(de:dt->fG Lm)(r:dt->L W->FR)(i:dt)(dA:gF (L W)):gF W:=λe=>lV de r dA e e[i]?
def y8k(i:dt)(F:BJ X.g_ X.w X.K X.mg X.g0 (eJ X.g_ X.w) k (G6 X.K de r))(hr:bL k X.A)(hx:dN (eJ X.g_ X.w) X EE)(ha:DA Z X EE (e::es) dA)(hv:PE X (.je x p) (uE i))
  (he:fi (lq (e::es) X.el=(false,eval e X.el)::lq es X.el) jJ)(df:fi ((r8 fZ (lq es X.el)).pX (·.1)=false) jJ):
  DE Z X EE (.pY (.je x p) (e::es) [] fZ) (iY de r i dA):=by
 refine PE.ll (y6b F hr hv hx ha he df) ?_;rintro σ H Q ⟨G,en,iA,h⟩;unfold iY lV at h;split at h
 .rename_i j l bH hs;let⟨v,hv,rv⟩:=iA.fr hs;refine⟨v,hv,?_,G,en,iA,?_⟩
  .let⟨f,cl,zs,cs,rfl,⟨pm,c',gT,ef⟩,_⟩:=rv;exact⟨f,_,_,_,_,_,rfl,iA.mI _ _ ef⟩
  .rw[R.ak]at h;refine h.pQ (λws e1 h G1 vs H1 r1 s1 p1=>?_) λ_ _ h=>h
   unfold iX at h;split at h
   .rename_i hc;split at h
    .rename_i w hw;exact⟨G1,j,l,bH,ws,w,r1.mI,nQ.ll s1 (.fn j l bH) rv,p1,hc.2.1,hc.2.2,hc.1,hw,λG' H' v g rp=>h G' v H' (r1.wq g) (s1.iD g.gg) rp⟩
    .exact h.ke
   .exact h.ke
 .exact h.ke
end
def fR:L dt->L S->fG (L W)
 |[],_=>O []
 |j::js,e=>match e[j]? with
  |O (.fr w)=>(fR js e).ej (w::·)
  |_=>none
theorem Qt{σ:L2.St}{e:L S}(r:m_ K Z G σ H e):∀{js:L dt}{bH:L W},fR js e=O bH->∃zs:L V,aq K G bH zs/\zs.J=js.J/\∀(i j:dt) z,js[i]?=O j->zs[i]?=O z->σ[j]?=O (O z)
 |[],bH,h=>by
  cases h;exact⟨[],rfl,rfl,λi j z h _=>by simp at h⟩
 |j::js,bH,h=>by
  unfold fR at h;split at h
  .rename_i w hw;let⟨cs,h1,rfl⟩:=w0p.mp h;let⟨zs,r1,r2,r3⟩:=Qt r h1;let⟨v,v1,v2⟩:=r.fr hw;refine⟨v::zs,⟨v,zs,rfl,v2,r1⟩,by simp[r2],λi zcS z g1 g2=>?_⟩
   cases i with
   |zc=>
    simp only[w1o,fG.O.injEq]at g1 g2;subst g1;subst g2;exact v1
   |zD i=>exact r3 i zcS z (by simpa using g1) (by simpa using g2)
  .cases h
def i7(e1:L S):FR->R W
 |.ok (.fr w)=>if YE w=true then .ok w e1 else .no
 |.ex c=>.ex c e1
 |_=>.no
def eT(F:L W->FR)(j:dt)(l:Lm)(w:W)(e1:L S):fG (L W)->R W
 |O bH=>i7 e1 (F [w,.fn j l bH])
 |none=>.no
def eO(F:L W->FR)(j:dt)(l:Lm)(js:L dt)(d:gF W):gF W:=λe=>(d e).nR λw e1=>eT F j l w e1 (fR js e1)
def Fn:l_:=.je "" ⟨0,0,0,0⟩
def LS(i:dt)(st:vv):vv:=(bB st).mF i (.Pass ⟨0,0,0,0⟩)
def Ee:vv->l_
 |.Yz _ v _=>v
 |.ξ (O v) _=>v
 |.For _ it _ _ _=>it
 |.l_ v _=>v
 |_=>Fn
def BW(i:dt):l_->l_
 |.pY _ as _ _=>as.mF i Fn
 |_=>Fn
def zdp:l_->_A
 |.YK p _ _ _=>p
 |_=>default
def zdY:l_->l_
 |.YK _ b _ _=>b
 |_=>Fn
def zdM:l_->vP
 |.YK _ _ s _=>s
 |_=>default
def mK(K:Fg)(x:eh)(bN:e5):Prop:=∃c P a,bN=.ei c/\Û K c P=true/\(a,iF P ((x++".<locals>.")++"<lambda>"))∈K
section
variable{P:qM}{w:pT}{mg:eh->fG e5}{g0:fH}
def Vf{CX:n_}{N:L eh}{fj:vP}{f:fh}{bN:e5}{A:tf}{l4:L tY}{s:kx}{E:XK}(h:mK K x bN)(b:ZQ g0 mg):Í (eM CX P w K mg g0 N x fj f bN A l4 s H E):=by
 let⟨c,P,a,rfl,h1,h2⟩:=h;exact⟨⟨c,P,a,rfl,h1,h2⟩,b⟩
def HR{de:dt->fG Lm}(h:∀i ws,r i ws=.no:=by intro _ _;rfl):BJ P w K mg g0 (eJ P w) 0 (G6 K de r):=by
 rintro x vs H Q E ⟨G,i,l,bH,ws,w',sg,rf,rv,nw,nc,hl,hr,q⟩;rw[h]at hr;cases hr
end
def dy(K:Fg)(rX:L (fh×eh)):Fg:=K++rX.ej λp=>(EO,iF p.1 p.2)
section
variable{rX:L (fh×eh)}{a:fh}{o:nU}
def q5n(h:K.fI a=O o):(dy K rX).fI a=O o:=by
 unfold dy;rw[w6m,h];rfl
def MH(hG:(K.fI EO).sG=true):(dy K rX).fI a=K.fI a:=by
 unfold dy;rw[w6m];cases q:K.fI a with
 |O o=>rfl
 |none=>
  have ne:a≠EO:=λz=>by rw[<- z,q]at hG;cases hG
  have:∀l:L (fh×eh),(l.ej λp=>(EO,iF p.1 p.2)).fI a=none:=λl=>by
   induction l with
   |m8=>rfl
   |m6 p l ih=>rw[w0j,w2w,Ϥ.rj ne];exact ih
  rw[this];rfl
theorem Ji{h:fH}(hG:(K.fI EO).sG=true)(X:K.In h):(dy K rX).In h:=λb u e=>X b u (by rw[<- MH (rX:=rX) hG];exact e)
theorem no_m(hG:(K.fI EO).sG=true)(n:eo K):eo (dy K rX):=λb u e=>n b u (by grind [MH])
def ns_m{r:fG e5}(h:kd.W._j K a x=O r):kd.W._j (dy K rX) a x=O r:=by
 unfold kd.W._j at h |-
 cases q:K.fI a with
 |none=>rw[q]at h;cases h
 |O o=>rw[q5n q];rw[q]at h;exact h
def Q1g{cd:e5}(h:kd.W._d K cd x=true):kd.W._d (dy K rX) cd x=true:=by
 cases cd with
 |ei a=>
  unfold kd.W._d at h |-
  dsimp only at h |-
  cases q:K.fI a with
  |none=>rw[q]at h;cases h
  |O o=>rw[q5n q];rw[q]at h;exact h
 |_=>cases h
def Q1h(t:funAt K a=true):ZY (dy (dZ K) rX) (.ei a)=true:=by
 have h:=t;unfold funAt at t
 rw[w0q]at t
 grind [W.ZY,q5n,q1f]
theorem zbg(h:hV K=true)(hd:rX.oP (λp=>rX.fI p.1==O p.2)=true):∀a q P,(a,iF P q)∈dy K rX->rX.fI P=O q:=λa q P m=>by
 rcases w0w.mp m with m|m
 .have:=w1l.mp h _ m;cases this
 grind
theorem Y'(h:hV K=true):hV (dZ K)=true:=w1l.rj λp hp=>w1l.mp h p (L.mem_filter.mp hp).1
theorem lQ(hG:(K.fI EO).sG=true)(h:rX.oP (λp=>(K.fI p.1).isNone)=true):∀P q,rX.fI P=O q->(dy K rX).fI P=none:=λP q e=>by
 rw[MH hG];have:=w1l.mp h _ (kD e)
 simpa using this
where
 kD:∀{l:L (fh×eh)}{P:fh}{q:eh},l.fI P=O q->(P,q)∈l
 |[],_,_,e=>by cases e
 |(b,t)::l,P,q,e=>by
  rw[w2w]at e
  by_cases hb:(P==b)=true
  .rw[hb]at e;cases e;rw[ą hb];exact .head _
  .rw[w4f.rj hb]at e;exact ._O _ (kD e)
theorem z5e{h:fH}(X:K.In h)(hT:∀P∈rX.ej (·.1),h.f6 P=O (ϐ #[]))(hc:∀p∈rX,∃c,Û K c p.1=true):∀P q,rX.fI P=O q->h.f6 P=O (ϐ #[])/\ċ h P:=λP q e=>by
 have m:=lQ.kD e;let⟨c,hc⟩:=hc _ m;have g:=hT P (w1e.rj ⟨_,m,rfl⟩);exact⟨g,((kd.W.codeHd_of_K X hc).YV g).ċ⟩
end
section
variable{e:L S}{ws bH:L W}{de:dt->fG Lm}{d:gF W}{i j:dt}{l:Lm}{w:W}{F:L W->FR}{js:L dt}
theorem y8l:iY de r i dA e=lV de r dA e e[i]?:=rfl
theorem y3x:lV de r dA e (O (.fr (.fn j l bH)))=(dA e).nR λws e1=>iX de r j l bH ws e1:=rfl
def y3y(h1:de j=O l)(h2:b9 ws=true)(h3:b9 bH=true)(h4:r j (ws++bH)=.ok (.fr w)):iX de r j l bH ws e=.ok w e:=by
 unfold iX;rw[gE ⟨h1,h2,h3⟩,h4]
theorem y0k:eO F j l js d e=(d e).nR λw e1=>eT F j l w e1 (fR js e1):=rfl
theorem W':eT F j l w e (O bH)=i7 e (F [w,.fn j l bH]):=rfl
theorem y3z(h:YE w=true):i7 e (.ok (.fr w))=.ok w e:=gE h
theorem y8m:fR [] e=O []:=rfl
end
end D
namespace L2
open PySem PySem.Spec PyProof.Rows
namespace vq
end vq
def z5f(hu:A.r7+20<r_):(d9 P w sh).room A:=by
 show A.r7+8<r_;omega
def LX(sh:Sh)(tk tv:TE):TE:=λσ H Q=>∀p,H p=none->tk σ (l5 H p (.dT sh [] [])) λk H1=>tv σ H1 λv H2=>∃x b,k=.ei b/\(cx H2 x (.ei b)/\eX x sh/\x.oY<=7)/\H2 p=O (.dT sh [] [])/\Q (.ei p) (l5 H2 p (.dT sh [(x,v)] [b]))
def Ux(hu:X.A.r7+20<r_)(hk:PE X ek tk)(hv:PE X ev tv):PE X (.Ze [O ek] [ev] fZ) (LX sh tk tv):=by
 intro eS s σ H Q I h;refine zec rfl rfl (by simp) (by simp) ?_;have fr:H s.d_.e6.eG=none:=I.aR.u3 (w0d _);have I0:=I.wg (a:=s.d_.e6.eG) (o:=.dT sh [] []) (t':=s.nW) (λ_ _ q=>fH.q_ _ q) (w0d _) (y7u s.d_ I.big)
 show kX _ _ (Ņ [(eval ek X.el,do let x <- eval ev X.el;ϸ fZ;pR x)]) _ _ _;refine zck (bw (hk eS _ σ _ _ I0 (h _ fr)) λku s1 ⟨k,H1,I1,rk,q1⟩=>?_)
 refine i6 (bw (hv eS s1 σ H1 _ I1 q1) λvu s2 ⟨v,H2,I2,rv,x,b,e,eb,hp,q⟩=>i6 (ò (oo (zcl ?_))))
 subst e;obtain rfl:ku=e5.ei b:=rk;let⟨z,hd,xs,iA,ka,dd⟩:=TB I2.aR hp;unfold storeAll;rw[w2n];have Ws:xs=[]:=by simp_all
 subst Ws;refine i6 (i6 (wpAny_dictSet_heap (hsz:=w1k _) (z5f hu) (Bt I2.aR eb) dd λh' pI hs=>oo ?_))
 show kX _ _ (Ϯ ([]:L (e5×e5)) _ _) _ _ _;rw[w3g];let⟨q0,es,ep,hq,h2,h3,h4,_,h5⟩:=pI;refine oo ⟨.ei s.d_.e6.eG,_,DL I2 (by rw[hp];exact w7.intro) hs ⟨q0,hq⟩ (ob:=.dT sh [(x,v)] [b]) ⟨by rw[vN];simp,hd,_,(iA.put x eb rv).AN λc u ys ec=>?_,iA.iJ ka x,q0,es,ep,hq,h2,h3,h4,h5⟩,rfl,q⟩
 rw[bg (qr ec hp (λz=>by subst z;exact ys))]
 exact ec
open PySem PySem.Spec PyProof.Rows
end L2
namespace D
open PySem L2
variable{X:Cx}{EE:L2.St->XK}{fZ:qY}{x:eh}{aT:Type}{Z:Zt}
def GZ:fG S->fG eW
 |O (.fr (.d0 n))=>O n
 |_=>none
def G5:dt ⊕ eW->L S->fG eW
 |.h8 j,e=>GZ e[j]?
 |.j' n,_=>O n
def Xy:dt ⊕ eW->TE
 |.h8 j=>uE j
 |.j' n=>tC (.d0 n)
def Xq:W->fG V
 |.aH=>O .aH
 |.bl b=>O (.bl b)
 |.d0 n=>O (.d0 n)
 |_=>none
section
variable{p:qY}
def pd(r:m_ K Z G σ H e)(h:G5 a e=O n)(q:Q (.d0 n) H'):Xy a σ H' Q:=by
 cases a with
 |h8 j=>
  simp only[G5,GZ]at h;split at h
  .rename_i m hm;cases (h);let⟨v,v1,v2⟩:=r.fr hm;cases(show v=V.d0 n from v2);exact⟨_,v1,q⟩
  .cases h
 |j' m=>
  cases h;exact q
end
theorem Q4p:G5 (.j' n) e=O n:=rfl
theorem Q4q:G5 (.h8 j) e=GZ e[j]?:=rfl
theorem Q4r:GZ (O (.fr (.d0 n)))=O n:=rfl
end D
namespace L2
open PySem PySem.Spec PyProof.Rows
end L2
namespace D
open PySem L2
open Classical in
noncomputable instance ze1 (k:Kx) (sh:Sh):ϙ (Zw k sh):=È.zdj _
def kI(i:dt)(sh:Sh)(w:W)(e:L S):fG Kx->SR
 |O t=>if Zw t sh then .nx (e.my i (.dw sh [t] [w]))else .no
 |none=>.no
def ml(i:dt)(sh:Sh)(w:W)(e:L S):fG S->SR
 |O (.fr kw)=>kI i sh w e (jD kw)
 |_=>.no
def i0(i j:dt)(sh:Sh)(w:W):L S->SR:=λe=>ml i sh w e e[j]?
section
variable{X:Cx}{Z:Zt}{EE:L2.St->XK}{x y:eh}{fZ p:qY}
def y8n(i j:dt)(sh:Sh){ve:l_}{w:W}{v:V}{AO gX p2:qY}(hK:eo X.K)(hu:X.A.r7+20<r_)(hN:X.N.p9)(hv:PE X ve (tC v))(hw:Xq w=O v)
  (hj:fi (X.N[j]?=O y) jJ)(gC:fi (jy X.el.fj y) jM)(hd:fi ((y==("__debug__":eh))=false) jK)(dR:fi ((y==("__classdict__":eh))=false) jK)
  (hi:fi (X.N[i]?=O x) jJ)(hx:fi (WH X.el.fj x) jN)
  (hs:fi (Yh (.Ze [O (.je y p2)] [ve] gX) (O (.je x AO)) fZ.y' X.el=pR false) jJ)(hf:fi (X.fn x=true\/X.el.fj.lH.fI x=O .local) jL):
  DS Z X EE (.Yz [.je x AO] (.Ze [O (.je y p2)] [ve] gX) fZ) (i0 i j sh w):=by
 refine PS.ll (Bw i hN (Ux (sh:=sh) hu (pv j hj gC hd dR) hv) hi hx hs hf) ?_;rintro D σ H ⟨G,e,iA,h⟩;unfold i0 ml at h;split at h
 .rename_i kw V5;unfold kI at h;split at h
  .rename_i t ht;split at h
   .rename_i hc;let⟨u,Jd,Wl⟩:=iA.fr V5;let⟨b,rfl,kr⟩:=Gw hK (.oQ G) ht Wl;have Js:cx H t (.ei b):=cx.AN (λ_ _ _ z=>iA.mI _ _ z) t kr
    intro q hq;have g2:=bc.pM iA.mI hq (.dT sh [(t,v)] [b]);have r2:=iA.wq g2;have k9:au H (l5 H q (.dT sh [] [])):=v7 hq _;refine⟨.ei b,Jd,t,b,rfl,⟨cx.AN (λ_ _ _ z=>k9 _ _ z) t Js,hc⟩,cI,?_⟩
    have eH:l5 (l5 H q (.dT sh [] [])) q (.dT sh [(t,v)] [b])=l5 H q (.dT sh [(t,v)] [b]):=by
     funext c
     by_cases h1:c=q
     .subst h1;rw[cI,cI]
     .rw[bg h1,bg h1,bg h1]
    rw[eH];refine h _ _ _ (r2.Eb (s:=.dw sh [t] [w]) (λ_ _ z=>nomatch z) ⟨q,[(t,v)],[b],rfl,by rw[ED (Fp kr hc)];exact cI,iA.mI.nL hq,wa iA hq,rfl,.of ⟨kr,trivial⟩ (Fp kr hc),?_⟩) (.oQ _)
    unfold fP;exact⟨v,[],rfl,(by cases w<;>cases hw<;>rfl),rfl⟩
   .exact h.ke
  .exact h.ke
 .exact h.ke
theorem y8o:i0 i j sh w e=ml i sh w e e[j]?:=rfl
theorem y8p:ml i sh w e (O (.fr kw))=kI i sh w e (jD kw):=rfl
def y8q:kI i (.ff [.d0,.d0]) w e (O (.ff [.d0 m,.d0 n]))=.nx (e.my i (.dw (.ff [.d0,.d0]) [.ff [.d0 m,.d0 n]] [w])):=by
 exact gE ⟨⟨trivial,trivial,trivial⟩,by simp[Kx.oY,Kx.eF]⟩
end
end D
namespace L2
open PySem PySem.Spec PyProof.Rows
structure dW(x:eh)(Nf:L eh)(sc:vP):Prop where
 sP:sc.sP=.Zc
 co:sc.à=false
 gen:sc.á=false
 Zi:sc.lH.fI x=O .mZ
 WS:∀n cl,Ϩ n sc.lH cl=(x,n)::cl
 zL:∀h:fH,pushCells h sc.lH=h.nV {ie:=.hJ "cell", lg:=.mZ none}
 only:∀y∈sc.lH,y.2=.mZ->y.1=x
 fr:∀y∈Nf,sc.lH.fI y=O .nL
def zaQ{s:kx}{_c:e5}(S:dW x Nf fj)
  (hQ:∀h',h'.Ns s.d_.e6.eG (λ_=>none)->h'.ZS (s.d_.e6.eG+1) (O u)->(∀b o,s.d_.f6 b=O o->h'.f6 b=O o) ->
   Q (newEnv fj s.d_.e6.eG υ ((x,s.d_.e6.eG+1)::Ú) n0 Yv _c none Η) {s with d_:=h'}):
  kX M A (Đ fj υ Ú [(x,u)] n0 Yv _c none Η) Q E s:=by
 simp only[Đ,fG.isSome_none,w3i,_i];refine i6 (wpAny_alloc ?_);refine i6 (zej _ (λname sP tO=>by grind) _ _ _ _ ?_)
 rw[show({s with d_:=s.d_.nV {ie:=.hJ "frame", lg:=.qZ #[]}}:kx).d_.e6.eG=s.d_.e6.eG+1 from fH.YU ..,S.WS,S.zL]
 have ic:((s.d_.nV {ie:=.hJ "frame", lg:=.qZ #[]}).nV {ie:=.hJ "cell", lg:=.mZ none}).ZS (s.d_.e6.eG+1) none:=by
  have e:=fH.vM (s.d_.nV {ie:=.hJ "frame", lg:=.qZ #[]}) (o:={ie:=.hJ "cell", lg:=.mZ none}) rfl;rw[fH.YU]at e;exact⟨_,e,rfl⟩
 have kp:∀b o,(s.d_.nV {ie:=.hJ "frame", lg:=.qZ #[]}).f6 b=O o->((s.d_.nV {ie:=.hJ "frame", lg:=.qZ #[]}).nV {ie:=.hJ "cell", lg:=.mZ none}).f6 b=O o:=λb o e=>fH.q_ _ e
 have ns:=(fH.Ns.rZ s.d_ (.hJ "frame")).AN kp;refine i6 ?_;rw[w2n];refine i6 (i6 (zer (c:=s.d_.e6.eG+1) (v₀:=none) S.sP S.Zi (by simp[L.fI]) ic λh' E7 tI=>?_))
 refine oo ?_;dsimp only;rw[w3g];refine oo (oo (hQ h' (ns.ό tI (w0y (w5m _))) E7 λb o e=>?_))
 exact tI.pZ b o (w0y (w1v (fH.sf e))) (kp b o (fH.q_ _ e))
section
variable{K:Fg}
def y8r{dU:fH}(S:dW x Nf fj)(C:jZ cl Nf fj zs s.d_ cs)(hd:A.Nr=none)(e0:jx P w K mg g0 A l4 s H)(hn:∀c o,cs.fI c=O o->H c=none)
  (hz:zs.J=Nf.J)(r:ot v0 u0)
  (ns:dU.Ns s.d_.e6.eG (λ_=>none))(ic:dU.ZS (s.d_.e6.eG+1) (O u0))(hk:∀b o,s.d_.f6 b=O o->dU.f6 b=O o):
  g8 (lB P w K mg g0 ([x]++Nf) n0 fj f cd ((x,s.d_.e6.eG+1)::cl) A l4 s H) [] ([v0].ej O++zs.ej O) H {s with d_:=dU}:=by
 have vS:∀b:fh,b∉([]:L fh):=λb z=>nomatch z
 have kG:∀y c,cl.fI y=O c->H c=none/\∃o,s.d_.f6 c=O o/\∃v,o.lg=.mZ v:=λy c e=>by
  let⟨o,q⟩:=C.oP y c e;exact⟨hn c o q,o,C.rQ c o q⟩
 have lk:∀y c,((x,s.d_.e6.eG+1)::cl).fI y=O c->(y=x/\c=s.d_.e6.eG+1)\/cl.fI y=O c:=λy c e=>by
  rw[w2w]at e;split at e
  .rename_i hb;cases e;exact .h8 ⟨by simpa using hb,rfl⟩
  .exact .j' e
 have small:∀y c,cl.fI y=O c->c<s.d_.e6.eG:=λy c e=>by
  let⟨_,o,q,_⟩:=kG y c e;exact fH.sf q
 have WR:∀y∈Nf,y≠x:=λy hy e=>by
  have:=S.fr y hy;rw[e,S.Zi]at this;cases this
 have Ov:((x,s.d_.e6.eG+1)::cl).fI x=O (s.d_.e6.eG+1):=by rw[w2w,û]
 have Ow:∀y,y≠x->((x,s.d_.e6.eG+1)::cl).fI y=cl.fI y:=λy hy=>by rw[w2w,Ϥ.rj hy]
 refine⟨⟨e0.yl,S.sP,rfl,rfl,w0d _,λy z c h1 h2=>?_,λy hy=>?_,(λx c z=>nomatch z),λ_=>hd,tf.ň e0.Yu,.j' ⟨rfl,rfl⟩,λb z=>nS z (vS b),e0.bs,e0.om,λb _ _=>vS b,λb z=>nS z (vS b),e0.e_,e0.pK,e0.YV⟩,
  rfl,e0.wC,Un.NK hk,⟨_,ns,λi y v h1 h2 h3=>?_⟩,λy c h=>?_,e0.aR.u3 (w0d _),λy c h=>?_,λp hp=>nS (show p∈([]:L (fh×nU))from hp) (by simp),e0.aR.NK hk,?_⟩
 .rcases lk y c h1 with⟨rfl,rfl⟩|g1
  .rcases lk z _ h2 with⟨rfl,_⟩|g2
   .rfl
   .exact nS (dt.zc3 (small z _ g2)) (w2h _)
  .rcases lk z c h2 with⟨rfl,rfl⟩|g2
   .exact nS (dt.zc3 (small y _ g1)) (w2h _)
   .exact C.sE y z c g1 g2
 .by_cases hx:y=x
  .exact⟨_,by rw[hx];exact Ov⟩
  .have hy:fj.lH.fI y=O .mZ\/fj.lH.fI y=O .nL:=hy;rcases hy with hy|hy
   .exact nS (S.only _ (kd.ZJ hy) rfl) hx
   .let⟨c,e⟩:=C.Yk y (kd.ZJ hy);exact⟨c,by show((x,s.d_.e6.eG+1)::cl).fI y=_;rw[Ow y hx];exact e⟩
 .cases i with
  |zc=>
   cases h1;cases h2;exact⟨u0,r,.j' ⟨.h8 S.Zi,_,Ov,ic⟩⟩
  |zD i=>
   have h1:Nf[i]?=O y:=h1;have h2:(zs.ej O)[i]?=O (O v):=h2;rw[w1c]at h2
   have ha:zs[i]?=O v:=by
    cases e:zs[i]? with
    |none=>rw[e]at h2;cases h2
    |O a=>rw[e]at h2;cases (h2);rfl
   let⟨c,o,u,e1,e2,e3,e4⟩:=C.tN _ _ _ h1 ha;have hm:=w1m h1;exact⟨u,e4,.j' ⟨.j' (S.fr y hm),c,by show((x,s.d_.e6.eG+1)::cl).fI y=_;rw[Ow y (WR y hm)];exact e1,o,hk _ _ (C.rQ c o e2).1,e3⟩⟩
 .rcases lk y c h with⟨rfl,rfl⟩|g
  .exact⟨_,ic⟩
  .let⟨_,o,q,v,d⟩:=kG y c g;exact⟨v,o,hk _ _ q,d⟩
 .rcases lk y c h with⟨rfl,rfl⟩|g
  .exact e0.aR.u3 (w5h _)
  .exact(kG y c g).1
 .show _=([x]++Nf).J;simp[hz]
def y8s
  (hr:bL (k+1) A)(e0:jx P w K mg g0 A l4 s H)(hf:H f=O (uS (_H name n0 p7 o3 fj cl pm c' gT) n0 c'))
  (S:dW x Nf fj)(CI:bF H cs)(C:jZ cl Nf fj zs s.d_ cs)(mW:Γ (ã name n0 p7 o3 fj cl pm (.ei c') gT) ⟨[u0],[]⟩=pR [(x,u0)])
  (hz:zs.J=Nf.J)(r:ot v0 u0)
  (hb:PE (lB P w K mg g0 ([x]++Nf) n0 fj f (.ei c') ((x,s.d_.e6.eG+1)::cl) A l4 s (ed H cs)) o3 t)(hq:t ([v0].ej O++zs.ej O) (ed H cs) λv H'=>(∀b o,cs.fI b=O o->H' b=none)->Q v (c7 H' cs)):
  YN (mG P w) A (.zN (.ei f) ⟨[u0],[]⟩) (CR CX l4 P w H s Q E) s:=by
 have lim:s.d_.Ϟ:=e0.yl.ϴ.AN λb o e=>(e0.bs b o e).1
 let⟨VX,dR⟩:=z1f e0.aR hf
 have e1:jx P w K mg g0 A l4 s (ed H cs):=⟨e0.Yu,e0.yl,λb o q=>⟨(e0.bs b o q).1,DB (e0.bs b o q).2⟩,e0.om,e0.e_,λb hb=>DB (e0.pK b hb),e0.aR.rm CI,e0.wC,λa q P m=>by
  let⟨ps,e,p⟩:=e0.YV a q P m;exact⟨ps,CI.dg e (λo z=>nomatch z),p⟩⟩
 refine kd.W.kla_callFunE hr.oY VX rfl S.co S.gen rfl dR ?_;rw[mW];refine oo (zaQ S λdU uV V1 N2=>⟨lim.AN N2,?_⟩)
 show YN _ _ (.expr o3 (eI n0 fj f (.ei c') ((x,s.d_.e6.eG+1)::cl) s)) _ _;have I:=y8r (n0:=n0) (f:=f) (cd:=.ei c') S C hr.hd e1 (λc o q=>DZ q) hz r uV V1 N2
 refine kd.W.kla_codeExpr (YX (hb [] _ _ _ _ I hq) (λu s' tI=>?_) λe s' z=>pV.ke z)
 let⟨v,H',dr,rv,q⟩:=tI;have un:Un (fV l4) [] (ed H cs) H' s.d_ s'.d_:=dr.g0;refine⟨v,c7 H' cs,dr.os,dr.wC,un.tO CI,dr.aR.add λb o z=>?_,rv,q λb o z=>un.nL b o (C.rQ b o z).1 (DZ z) (by simp)⟩
 have nf:b∉fV l4:=λhb=>by
  have:=e0.pK b hb;rw[CI b o z]at this;cases this
 have g:=(C.rQ b o z).1;exact⟨un.nL b o g (DZ z) (by simp),un.pU b o g (DZ z) nf (by simp)⟩
end
end L2
namespace D
open PySem L2
def ma(sc fj:vP)(N Nf:L eh)(js:L dt):fJ:=
 fj.lH.oP (λy=>y.2 != .nL||sc.lH.fI y.1==O .mZ||sc.lH.fI y.1==O .nL)&&js.J==Nf.J &&
 (L.so js.J).oP (λi=>match js[i]?,Nf[i]? with|O j,O y=>N[j]?==O y|_,_=>true) &&
 Nf.oP (λy=>fj.lH.fI y==O .nL&&(sc.lH.fI y==O .mZ||sc.lH.fI y==O .nL))
section
variable{X:Cx}{Z:Zt}{EE:L2.St->XK}{e o3:l_}{p7:_A}{d:gF W}{x:eh}{f9 p fZ:qY}{k:dt}{ps N nf:L eh}{js:L dt}{sc fj:vP}{F:L W->FR}
def Za(j:dt)(l:Lm)(C:og X.g_ X.w X.K X.mg X.g0 k x ps (nG X.K F))(hr:bL k X.A)(hx:dN (eJ X.g_ X.w) X EE)(M:Í X)(yP:∀y,X.fn y=true)(he:DE Z X EE e d)(ok:ma sc fj N nf js=true)
  (hl:fi (l=⟨X.el.n0++"<lambda>", p7,o3,fj,nf⟩) jJ)(tw:fi (ŀ p7 X.el=([],[])) jJ)(hsc:fi (X.el.fj=sc) jJ)(hN:fi (X.N=N) jJ)(hg:fi (Gl X x) jJ)
  (fb:fi ((x==("__debug__":eh))=false) jK)(oI:fi (lq [e,.YK p7 o3 fj f9] X.el=(false,eval e X.el)::lq [.YK p7 o3 fj f9] X.el) jJ)
  (zh:fi (lq [.YK p7 o3 fj f9] X.el=(false,eval (.YK p7 o3 fj f9) X.el)::lq [] X.el) jJ)(df:fi ((r8 fZ (lq [.YK p7 o3 fj f9] X.el)).pX (·.1)=false) jJ):
  DE Z X EE (.pY (.je x p) [e,.YK p7 o3 fj f9] [] fZ) (eO F j l js d):=by
 let⟨fa,fd,FF,m,kp,bd⟩:=C.ex;unfold ma at ok;simp only[w0q,w1l,ZE,ϥ,w3b,w2e]at ok;let⟨⟨⟨k4,k5⟩,k6⟩,k7⟩:=ok;have sP:∀x,X.el.vW x=sc.lH.fI x:=λx=>by rw[<- hsc];rfl
 refine PE.ll (zbP (Nf:=nf) (js:=js) FF hr hg m kp bd hx M yP he tw (λx hx hf=>?_) (λi j y e1 e2=>?_) fb oI zh df) ?_
 .rw[sP];rcases k4 x hx with(z|z)|z
  .exact nS hf z
  .exact .h8 z
  .exact .j' z
 .have cb:i<js.J:=(w0c.mp e2).1;have z:=k6 i cb;rw[e1,e2]at z;let⟨z1,z2⟩:=k7 y (w1m e1);refine⟨by rw[hN];simpa using z,kd.ZJ z1,?_,?_⟩
  .rw[hsc];rcases z2 with z|z
   .exact .j' (.h8 z)
   .exact .j' (.j' z)
  .rw[sP];rcases z2 with z|z<;>(rw[z];decide)
 .rintro σ H Q ⟨G,en,iA,h⟩;simp only[eO,R.ak]at h;refine⟨G,en,iA,h.pQ (λw e1 h G1 v1 H1 r1 s1 p1 f bR H2 la=>?_) λ_ _ h=>h⟩
  let⟨fA,Hm,pm,gT,c',hH,hf,rfl⟩:=la
  have rm:m_ X.K Z G1 σ Hm e1:=by
   rcases hH with rfl|⟨c,oc,hc,rfl⟩
   .exact r1
   .exact r1.wq (bc.pM r1.mI hc _)
  have gl:=bc.wg rm.mI hf (uS (_H "<lambda>" (X.el.n0++"<lambda>") p7 o3 fj bR pm c' gT) (X.el.n0++"<lambda>") c');have r2:=rm.wq gl;refine⟨bR,fA,λcs co=>?_⟩
  cases yL:fR js e1 with
  |none=>rw[yL]at h;exact h.ke
  |O bH=>
   rw[yL]at h;let⟨zs,rz,zl,zv⟩:=Qt r1 yL;have yZ:∀b o,cs.fI b=O o->l5 Hm f (uS (_H "<lambda>" (X.el.n0++"<lambda>") p7 o3 fj bR pm c' gT) (X.el.n0++"<lambda>") c') b=none:=λb o z=>(co.rQ b o z).1
   have NN:∀b o,cs.fI b=O o->l5 G1 f (uS (_H "<lambda>" (X.el.n0++"<lambda>") p7 o3 fj bR pm c' gT) (X.el.n0++"<lambda>") c') b=none:=λb o z=>by
    cases q:l5 G1 f (uS (_H "<lambda>" (X.el.n0++"<lambda>") p7 o3 fj bR pm c' gT) (X.el.n0++"<lambda>") c') b with
    |none=>rfl
    |O u=>have:=r2.mI b u q;rw[yZ b o z]at this;cases this
   have sA:=gl.gg.iD (QJ NN)
   have HS:cs.fI f=none:=by
    cases q:cs.fI f with
    |none=>rfl
    |O o=>have:=NN f o q;rw[cI]at this;cases this
   have fc:ig (c7 (l5 G1 f (uS (_H "<lambda>" (X.el.n0++"<lambda>") p7 o3 fj bR pm c' gT) (X.el.n0++"<lambda>") c')) cs) bR l zs cs:=by
    subst hl;refine⟨co.sE,co.Yk,co.oP,λc o z=>⟨ui z,(co.rQ c o z).2⟩,λi y z g1 g2=>?_,by rw[zl];exact k5⟩
    have hi:i<js.J:=by rw[<- zl];exact(w0c.mp g2).1
    have g3:js[i]?=O js[i]:=w0a hi;exact co.tN i y js[i] z g1 g3 (zv i _ z g3 g2)
   have Xm:nQ X.K (c7 (l5 G1 f (uS (_H "<lambda>" (X.el.n0++"<lambda>") p7 o3 fj bR pm c' gT) (X.el.n0++"<lambda>") c')) cs) (.fn j l bH) (.ei f):=by
    refine⟨f,bR,zs,cs,rfl,⟨pm,c',gT,?_⟩,fc,aq.ll sA bH rz⟩;rw[ju HS,cI,hl]
   refine⟨_,[w,.fn j l bH],Qs r2.mI,⟨v1,[.ei f],rfl,nQ.ll sA w p1,⟨.ei f,[],rfl,Xm,rfl⟩⟩,?_⟩;cases q:F [w,.fn j l bH]with
   |ok s=>
    simp only[eT,q]at h;cases s with
    |fr w'=>
     simp only[i7]at h;split at h
     .rename_i Wc;intro G' H' v g sl;let⟨u,h1,h2⟩:=sl;cases h1;have g':=bc.jU g yZ r2.mI;have ci:bF G' cs:=λb o z=>g.gg b _ (ui z)
      exact h (ed G' cs) v (ed H' cs) (r2.wq g') (s1.iD (gl.gg.iD g'.gg)) (nQ.rm ci w' Wc h2)
     .exact h.ke
    |_=>exact h.ke
   |ex c=>
    simp only[eT,q,i7]at h;intro H' sh;refine Na r2 (s1.iD gl.gg) h (ed H' cs) λb u z=>?_
    cases q2:cs.fI b with
    |O o=>rw[yZ b o q2]at z;cases z
    |none=>rw[nD q2];exact sh b u (by rw[ju q2];exact z)
   |no=>simp only[eT,q,i7]at h;exact h.ke
end
structure oi(P:qM)(w:pT)(K:Fg)(mg:eh->fG e5)(g0:fH)(n:dt)(l:Lm)(x:eh)(F:L W->FR):Prop where
 sc:dW x l.nf l.fj
 nR:∀(cl:L (eh×fh))(pm:e5)(c':fh)(gT u:e5),Γ (ã "<lambda>" l.n0 l.p7 l.o3 l.fj cl pm (.ei c') gT) ⟨[u],[]⟩=pR [(x,u)]
 oO:∀ws,F ws≠.no->ws.J=1+l.nf.J
 o3:∀ws,F ws≠.no->∀(Z:Zt)(f:fh)(cd:e5)(cl:L (eh×fh))(A:tf)(l4:L tY)(s:kx)(H:Hp),bL n (A.LO (eI l.n0 l.fj f cd cl s)) ->
  ∃d,DE Z (lB P w K mg g0 ([x]++l.nf) l.n0 l.fj f cd cl A l4 s H) (λ_=>E0) l.o3 d/\kf (d (ws.ej .fr))=F ws
def z5g(h:∀i l,de i=O l->∃x,oi P w K mg g0 n l x (r i)):
  BJ P w K mg g0 (eJ P w) (n+1) (G6 K de r):=by
 rintro x vs H Q E ⟨G,i,l,bH,ws,w',sg,rf,rv,nw,nc,hl,hr,q⟩;let⟨x0,ar⟩:=h i l hl;let⟨f,cl,zs,cs,rfl,⟨pm,c',gT,ef⟩,FC,rz⟩:=rf;have hn:r i (ws++bH)≠.no:=by grind
 have vd:=ar.oO _ hn;have hz:zs.J=l.nf.J:=FC.oO;have jC:bH.J=l.nf.J:=by grind [aq.J]
 have A3:ws.J=1:=by grind
 have Wq:vs.J=1:=by grind [aq.J]
 have cg:bF G cs:=λb o e=>(FC.rQ b o e).1
 have ch:bF H cs:=λb o e=>sg _ _ (cg b o e)
 refine⟨f,_,_,_,_,_,rfl,sg _ _ ef,λA l4 s us hR e0 ru=>?_⟩
 have Wm:us.J=1:=by grind [oK.J]
 obtain⟨v0,rfl⟩:∃v0,vs=[v0]:=w5n.mp Wq;obtain⟨u0,rfl⟩:∃u0,us=[u0]:=w5n.mp Wm
 have r0:ot v0 u0:=by
  let⟨u,hu,q⟩:=ru.BX (i:=0) rfl;cases hu;exact q
 have TV:jZ cl l.nf l.fj zs s.d_ cs:=⟨FC.sE,FC.Yk,FC.oP,λc o e=>⟨(show s.d_.f6 c=O o/\_ from e0.aR c _ (ch c o e)).1,(FC.rQ c o e).2⟩,FC.tN⟩
 let⟨d,hd,he⟩:=ar.o3 _ hn ⟨ed H cs,ed G cs,[]⟩ f (.ei c') ((x0,s.d_.e6.eG+1)::cl) A l4 s (ed H cs) (hR.LO _);refine y8s hR e0 (sg _ _ ef) ar.sc ch TV (ar.nR cl pm c' gT u0) hz r0 hd ?_;have Xv:au (ed G cs) (ed H cs):=QK sg;have rr:aq K (ed G cs) (ws++bH) ([v0]++zs):=(aq.rm cg ws nw rv).N' (aq.rm cg bH nc rz);have iA:=Lz (N:=[x0]++l.nf) Xv rr
 have e1:L2.XD ([x0]++l.nf) ([v0]++zs)=[v0].ej O++zs.ej O:=by
  simp_all [L2.XD]
 have e2:Zh ([x0]++l.nf).J (ws++bH)=(ws++bH).ej .fr:=by
  unfold Zh;rw[show([x0]++l.nf).J-(ws++bH).J=0 by simp[A3,jC];omega,L.replicate_zero,w0s]
 rw[e1,e2]at iA;refine⟨ed G cs,_,iA,?_⟩;cases Iu:d ((ws++bH).ej .fr)with
 |ok w2 e'=>
  rw[Iu,hr]at he;cases he;intro G' v H' r' zdr rp tG
  have yY:∀b o,cs.fI b=O o->G' b=none:=λb o z=>by
   cases q2:G' b with
   |none=>rfl
   |O u=>have:=r'.mI b u q2;grind
  exact q (c7 G' cs) (c7 H' cs) v (bc.lam ch cg (λb u e=>r'.Ww b u e (λz=>nomatch z)) zdr r'.mI r'.gen) (nQ.ll (QJ yY) _ rp)
 |ex c e'=>rw[Iu,hr]at he;cases he
 |no=>rw[Iu,hr]at he;cases he
end D
namespace L2
open PySem PySem.Spec PyProof.Rows
end L2
namespace D
open PySem L2
end D
namespace L2
open PySem PySem.Spec PyProof.Rows
end L2
namespace BC
open PySem PySem.W PySem.Calls PyProof.Rows
end BC
namespace L2
open PySem PySem.Spec PyProof.Rows
end L2
namespace D
open PySem L2
end D
namespace L2
open PySem PySem.Spec PyProof.Rows
end L2
namespace D
open PySem L2 PySem.Spec PyProof.Rows
open PyProof.Rows (envOfC)
open PySem L2
end D
namespace L2
open PySem PySem.Spec PyProof.Rows
def zeA(P:qM)(w:pT)(K:Fg)(mg:eh->fG e5)(g0:fH)(N:L eh)(n0:eh)(fj:vP)(f:fh)(cd:e5)(cl:L (eh×fh))(A:tf)(l4:L tY)(s:kx)(H:Hp)(E:XK):Cx:=
 {lB P w K mg g0 N n0 fj f cd cl A l4 s H with xe:=λe s'=>kX (mG P w) (A.LO (eI n0 fj f cd cl s)) (leaving (eI n0 fj f cd cl s) e) (λ_ ja=>eJ P w l4 H s E e ja) (λe' ja=>eJ P w l4 H s E e' ja) s'}
end L2
namespace D
open PySem L2
variable{X:Cx}{e:l_}{EE:L2.St->XK}{p fZ:qY}{x:eh}{Z:Zt}
structure zeR(P:qM)(w:pT)(K:Fg)(mg:eh->fG e5)(g0:fH)(n:dt)(l:Lm)(x:eh)(F:L W->FR):Prop where
 sc:dW x l.nf l.fj
 nR:∀(cl:L (eh×fh))(pm:e5)(c':fh)(gT u:e5),Γ (ã "<lambda>" l.n0 l.p7 l.o3 l.fj cl pm (.ei c') gT) ⟨[u],[]⟩=pR [(x,u)]
 oO:∀ws,F ws≠.no->ws.J=1+l.nf.J
 o3:∀ws,F ws≠.no->∀(Z:Zt)(f:fh)(cd:e5)(cl:L (eh×fh))(A:tf)(l4:L tY)(s:kx)(H:Hp)(E:XK),bL n (A.LO (eI l.n0 l.fj f cd cl s)) ->
  ∃d,DE Z (zeA P w K mg g0 ([x]++l.nf) l.n0 l.fj f cd cl A l4 s H E) (λ_=>E) l.o3 d/\kf (d (ws.ej .fr))=F ws
open PySem L2 PySem.Spec PyProof.Rows
def zq:fG fJ->e5->fJ
 |none,.none=>true
 |O b,.rl c=>b==c
 |_,_=>false
def oX(w:pT):fG fJ->eW
 |none=>lG w .aH
 |O b=>lG w (.bl b)
def uG(v:e5)(x:eh):fJ:=match v with
 |.str y _=>y==x
 |_=>false
def zdW(w:pT)(o:nU):fJ:=match o.ie,o.qZ,o.zx.n9,o.lg with
 |.hJ c,none,[],.qZ es _=>c=="dict"&&(match es.n9 with
  |[e1,e2,e3]=>(zq (O true) e1.NV&&e1.ZW==oX w (O true)&&uG e1.tN "1")&&(zq (O false) e2.NV&&e2.ZW==oX w (O false)&&uG e2.tN "0")&&(zq none e3.NV&&e3.ZW==oX w none&&uG e3.tN "-")
  |_=>false)
 |_,_,_,_=>false
structure ze4(w:pT)(K:Fg)(d:fh):Prop where
 CZ:∃o,K.fI d=O o/\zdW w o=true
def B0{P:qM}{w:pT}{K:Fg}{mg:eh->fG e5}{g0:fH}{k:dt}{st:vv}{ps:L eh}{F:L W->FR}(A:At K mg x st ps)(hF:∀ws,F ws=.no:=by intro _;rfl):og P w K mg g0 k x ps (nG K F):=by
 let⟨f,fd,F0,m,b⟩:=A.ex;exact⟨f,fd,⟨λvs H Q E h=>(Hc hF h).ke,λA l4 s H args us vs Q E _ _ _ _ h=>(Hc hF h).ke⟩,m,F0.kp,b⟩
end D
namespace L2
open PySem PySem.Spec PyProof.Rows
end L2
namespace D
open PySem L2
variable{N:L eh}{x:eh}
@[inline] def zc6:vv->eh
 |.õ x _ _ _ _ _ _ _ _ _=>x
 |_=>""
def JR(s:vv):L eh:=(eA s).args.ej λx=>x.arg
def JN(s:vv):L eh:=(ax s).lH.Λ λp=>match p.2 with
 |.local=>O p.1
 |.mZ=>O p.1
 |_=>none
def Fl(N:L eh)(js:L dt):L eh:=js.ej λj=>N.mF j ""
theorem nj(h:dE sc fj N (Fl N js) js=true):dE sc fj N (Fl N js) js=true:=h
theorem C2(h:decide N.p9=true):N.p9:=Φ h
def yH(N P:L eh)(sc:vP):fJ:=sc.sP==.Zc&&!sc.à&&!sc.á&&decide N.p9&&N.n5 P.J==P&&P.oP (λx=>sc.lH.fI x==O .local||sc.lH.fI x==O .mZ)&&sc.lH.oP λy=>y.2 != .nL
def Uy(h:yH N P sc=true):bV N P sc:=by
 simp only[yH,w0q,w3p,w1l,ZE,ϥ,w3b,ϫ]at h;obtain⟨⟨⟨⟨⟨⟨h1,h2⟩,h3⟩,h4⟩,h5⟩,h6⟩,h7⟩:=h;exact⟨h1,h2,h3,h4,h5,h6,h7⟩
def qF(k m:dt)(d:L S->SR)(ws:L W):FR:=if ws.J=k then(d (Zh m ws)).fn else .no
def qL(k:dt)(d:gF W)(ws:L W):FR:=if ws.J=k then kf (d (ws.ej .fr))else .no
def xR{c:Prop} [ϙ c]{x:FR}(h:(if c then x else .no)≠.no):c/\(if c then x else .no)=x:=by
 split at h
 .rename_i q;exact⟨q,gE q⟩
 .exact nS rfl h
section
variable{P:qM}{w:pT}{K:Fg}{mg:eh->fG e5}{g0:fH}
def w8{st:vv}{ps:L eh}{k:dt}{b:fJ}{d:L S->SR}{f:fh}{fd:Zp}(F0:vn K x x st f fd)(m:mg x=O (.ei f))(hm:b=true->∀f oc od fd sl,mg x=O (.ei f)->K.fI f=O ⟨oc,od,.Yv fd,sl⟩->mK K x fd._c)(sc:bV N ps (ax st))
  (hb:∀(f:fh)(bN:e5)(A:tf)(l4:L tY)(s:kx)(H:Hp)(E:XK)(Z:Zt),bL k (A.LO (uD.ri.Ot x (ax st) s.d_.e6.eG f bN))->(Z.H=H/\Z.io=[])->(b=true->mK K x bN) ->
   kO Z (eM (eJ P w) P w K mg g0 N x (ax st) f bN A l4 s H E) (λ_=>E) (bB st) d):fN P w K mg g0 (eJ P w) (k+1) f fd ps (nG K (qF ps.J N.J d)):=by
 let⟨oc,od,kV,Q1,pm,an,bN,ct,uZ,rfl,lk,dR⟩:=F0.ex;refine Tp lk dR sc (λvs H Q E h=>?_) (λA l4 s H vs Q E hr h=>?_)
 .let⟨G,ws,hn,r⟩:=MW h;exact r.J.iD (xR hn).1
 .let⟨G,ws,sg,rp,h⟩:=h;have hn:qF ps.J N.J d ws≠.no:=λz=>by rw[z]at h;exact h
  exact⟨_,hb f bN A l4 s H E ⟨H,G,[]⟩ hr ⟨rfl,rfl⟩ (λz=>hm z f _ _ _ _ m lk),G,Zh N.J ws,Lz sg rp,RJ (xR hn).2.symm h⟩
def HI{st:vv}{ps:L eh}{k:dt}{b:fJ}{d:L S->SR}(A:At K mg x st ps)(hm:b=true->∀f oc od fd sl,mg x=O (.ei f)->K.fI f=O ⟨oc,od,.Yv fd,sl⟩->mK K x fd._c)(sc:bV N ps (ax st))
  (hb:∀(f:fh)(bN:e5)(A:tf)(l4:L tY)(s:kx)(H:Hp)(E:XK)(Z:Zt),bL k (A.LO (uD.ri.Ot x (ax st) s.d_.e6.eG f bN))->(Z.H=H/\Z.io=[])->(b=true->mK K x bN) ->
   kO Z (eM (eJ P w) P w K mg g0 N x (ax st) f bN A l4 s H E) (λ_=>E) (bB st) d):og P w K mg g0 (k+1) x ps (nG K (qF ps.J N.J d)):=by
 let⟨f,fd,F0,m,bd⟩:=A.ex;exact⟨f,fd,w8 F0 m hm sc hb,m,F0.kp,bd⟩
end
theorem WM{sc fj:vP}{js:L dt}(h:ma sc fj N (Fl N js) js=true):ma sc fj N (Fl N js) js=true:=h
section
variable{P:qM}{w:pT}{K:Fg}{mg:eh->fG e5}{g0:fH}
theorem CQ{n:dt}{l:Lm}{d:gF W}(h1:dW x l.nf l.fj)(h2:∀(cl:L (eh×fh))(pm:e5)(c':fh)(gT u:e5),Γ (ã "<lambda>" l.n0 l.p7 l.o3 l.fj cl pm (.ei c') gT) ⟨[u],[]⟩=pR [(x,u)])
  (hb:∀(Z:Zt)(f:fh)(cd:e5)(cl:L (eh×fh))(A:tf)(l4:L tY)(s:kx)(H:Hp),bL n (A.LO (eI l.n0 l.fj f cd cl s))->DE Z (lB P w K mg g0 ([x]++l.nf) l.n0 l.fj f cd cl A l4 s H) (λ_=>E0) l.o3 d):
  oi P w K mg g0 n l x (qL (1+l.nf.J) d):=
 ⟨h1,h2,λws h=>(xR h).1,λws h Z f cd cl A l4 s H hr=>⟨d,hb Z f cd cl A l4 s H hr,(xR h).2.symm⟩⟩
end
def zdk(k m:dt)(d:L S->SR)(ws:L W):FR:=if ws.J=k then(d (kj m ws)).fm else .no
end D
namespace Np
def vU(a:eW)(pS:L fJ):eW:=pS.t_ (λm7 b=>2*m7+(if b=true then 1 else 0)) a
def num(pS:L fJ):eW:=vU 0 pS
def b2(b:fJ):eW:=if b=true then 1 else 0
def y30(a)(pS)(b):vU a (pS++[b])=2*vU a pS+b2 b:=by
 unfold vU;rw[w1p];rfl
theorem RV:num []=0:=rfl
theorem QL(pS)(b):num (pS++[b])=2*num pS+b2 b:=y30 0 pS b
def y8t(b):b2 b=0\/b2 b=1:=by cases b<;>simp[b2]
def y8u{P:L fJ->Prop}(h0:P [])(h1:∀l b,P l->P (l++[b])):∀l,P l:=by
 intro l
 have:∀r:L fJ,P r.wd:=by
  intro r
  induction r with
  |m8=>simpa using h0
  |m6 b r ih=>grind
 have:=this l.wd
 grind
def zbh(pS):0<=num pS/\num pS<2^pS.J:=by
 induction pS using y8u with
 |h0=>simp[RV]
 |h1 l b ih=>
  rw[QL,w0g,w2b,w5s]
  grind [y8t]
def Zg:dt->eW->L fJ
 |0,_=>[]
 |m+1,n=>decide (n%2=1)::Zg m (n / 2)
def oM:dt->eW->eW
 |0,n=>n
 |m+1,n=>oM m (n / 2)
theorem Gx:∀m n,(Zg m n).J=m
 |0,_=>rfl
 |m+1,n=>by rw[Zg,w0r,Gx m]
theorem Qu:∀m n,Zg (m+1) n=Zg m n++[decide (oM m n%2=1)]
 |0,n=>rfl
 |m+1,n=>by rw[Zg,Qu m (n / 2),Zg,oM];rfl
theorem Qv:∀m n,oM (m+1) n=oM m n / 2
 |0,n=>rfl
 |m+1,n=>by rw[oM,Qv m (n / 2)];rfl
def y8v(m):∀n:eW,n=num (Zg m n).wd+2^m*oM m n:=by
 induction m with
 |zc=>grind [Zg,oM,RV]
 |zD m ih=>
  intro n;rw[Zg,oM,w2c,QL,w5s]
  grind [b2]
def y8w(m):(0:eW)<2^m:=by
 induction m with
 |zc=>decide
 |zD m ih=>rw[w5s];omega
def y31{m:dt}{n:eW}(h0:0<=n)(h1:n<2^m):oM m n=0:=by
 have h:=y8v m n;have hb:=zbh (Zg m n).wd;rw[w4r,Gx]at hb;have hp:=y8w m
 by_cases hr:oM m n=0
 .exact hr
 .exfalso;rcases eW.lt_or_gt_of_ne hr with h2|h2
  .have:2^m*oM m n<=2^m*(-1):=w4l (by omega) (by omega);omega
  .have:2^m*1<=2^m*oM m n:=w4l (by omega) (by omega);omega
def ω(pS:L fJ)(i:dt):eW:=num (pS.n5 i)*2^(pS.J-i)
end Np
namespace Q
open PySem L2 D
variable{g0:fH}{mZ j:eW}{T:L (L fJ)}{rs ws:L (L dt)}{cs r z:L dt}{b:L S->SR}{f' kn ns on ts xs:L eh}{c d i m n p q:dt}{K:Fg}{x:eh}{mg:eh->fG e5}{α:Type}{y:W}{w:pT}
seal DE DF DT DW DA DS kO uL DO vm PE PT PW PA PS kP PG BP PI PF uM PC fM BS rN ft BR wR BN uN PO
theorem us1{P:L α->Prop}(h:∀x0,P [x0]):∀us:L α,us.J=1->P us
 |[x0],_=>h x0
theorem us2{P:L α->Prop}(h:∀x0 x1,P [x0,x1]):∀us:L α,us.J=2->P us
 |[x0,x1],_=>h x0 x1
theorem us3{P:L α->Prop}(h:∀x0 x1 x2,P [x0,x1,x2]):∀us:L α,us.J=3->P us
 |[x0,x1,x2],_=>h x0 x1 x2
@[inline] def t9(i:dt):vv:=kd.ó.pw_circuits_k77_told_refused.main.o3.mF i (.Pass ⟨0,0,0,0⟩)
def Lr:L (eh×W):=[("in", (.ff [(.str "")])),("held", (.ff [(.str "in"),(.str "held")])),("out", (.ff [(.str "in"),(.str "held"),(.str "out")]))]
def FU:L (eh×eW):=[("(", 0),("or", 1),("odd", 2),("and", 3),("not", 4)]
def Kl:L (eh×eW):=[("in", 3),("held", 4),("out", 6)]
structure yd(P:qM)(w:pT)(K:Fg)(mg:eh->fG e5):Prop where
 lT:mg "ValueError"=none
 Nt:mg "all"=none
 wW:mg "enumerate"=none
 Nu:mg "int"=none
 aL:mg "isinstance"=none
 Nv:mg "len"=none
 Nw:mg "max"=none
 EW:mg "range"=none
 yq:mg "reversed"=none
 ze5:mg "str"=none
 EX:mg "tuple"=none
 Ny:mg "zip"=none
 x_:∃d,mg "TIGHTNESS"=O (.ei d)/\qE P w K d FU
 wG:∃d,mg "MOST_NAMES"=O (.ei d)/\qE P w K d Kl
 Et:∃d,mg "BEHIND"=O (.ei d)/\yk P w K d Lr
structure a9 where
 aK:fh
 aZ:fh
 bp:fh
 aY:fh
 bM:fh
 cN:fh
 ay:fh
 bY:fh
 aF:fh
 aE:fh
 wV:e5
 pD:e5
 il:e5
 gH:e5
 ip:e5
 lu:e5
 ia:e5
variable{a:a9}
structure nM(K:Fg)(mg:eh->fG e5)(a:a9):Prop where
 z:w7
 kB:mg "CircuitError"=O (.ei a.aK)
 lL:mg "NoPlace"=O (.ei a.aZ)
 nq:mg "NoName"=O (.ei a.bp)
 lK:mg "BadText"=O (.ei a.aY)
 qf:mg "NoRow"=O (.ei a.bM)
 lM:mg "NoTable"=O (.ei a.cN)
 lj:mg "UnlikeSizes"=O (.ei a.ay)
 kC:mg "TooGreat"=O (.ei a.bY)
 jt:mg "NoMachine"=O (.ei a.aF)
 oU:mg "BadSheet"=O (.ei a.aE)
 Fi:mg "WORDS"=O a.wV
 A6:mg "JOINING"=O a.pD
 tW:mg "LONGEST_NAME"=O a.il
 sj:mg "MOST_BRACKETS"=O a.gH
 tX:mg "LOOSEST_WORD"=O a.ip
 xu:mg "ROW_WORDS"=O a.lu
 tV:mg "FIRST_TRUTHS"=O a.ia
 E3:cu K (.ff [(.str "yes"),(.str "no"),(.str "not"),(.str "and"),(.str "odd"),(.str "or")]) a.wV=true
 AX:cu K (.ff [(.str "and"),(.str "odd"),(.str "or")]) a.pD=true
 tq:cu K (.d0 8) a.il=true
 rS:cu K (.d0 12) a.gH=true
 tu:cu K (.d0 1) a.ip=true
 xh:cu K (.ff [(.str "in"),(.str "held"),(.str "out")]) a.lu=true
 tm:cu K (.ff [(.str "yes"),(.str "no")]) a.ia=true
 yx:ZU K a.aE a.aK=true
 AR:ZU K a.aY a.aK=true
 xb:ZU K a.aF a.aK=true
 B6:ZU K a.bp a.aK=true
 AS:ZU K a.aZ a.aK=true
 E2:ZU K a.bM a.aK=true
 uQ:ZU K a.ay a.aK=true
 zdb:bD K a.aE=true
 zb':ZV K (.ei a.aE) (.ei a.aK)=O true
 zcC:pW K (.ei a.aE) (.ei a.aY)=O false
 zcM:pW K (.ei a.aE) (.ei a.bp)=O false
 zcG:pW K (.ei a.aE) (.ei a.aZ)=O false
 zcu:pW K (.ei a.aE) (.ei a.aF)=O false
 zcK:pW K (.ei a.aE) (.ei a.bM)=O false
 zcJ:pW K (.ei a.aE) (.ei a.cN)=O false
 zcE:pW K (.ei a.aE) (.ei a.bY)=O false
 zcq:pW K (.ei a.aE) (.hJ "ValueError")=O true
 zcw:pW K (.ei a.aE) (.ei a.ay)=O false
 zcD:pW K (.ei a.aE) (.ei a.aE)=O true
 zeL:bD K a.aY=true
 zfK:ZV K (.ei a.aY) (.ei a.aK)=O true
 zf2:pW K (.ei a.aY) (.ei a.aY)=O true
 zgb:pW K (.ei a.aY) (.ei a.bp)=O false
 zf3:pW K (.ei a.aY) (.ei a.aZ)=O false
 zfO:pW K (.ei a.aY) (.ei a.aF)=O false
 zgf:pW K (.ei a.aY) (.ei a.bM)=O false
 zf4:pW K (.ei a.aY) (.ei a.cN)=O false
 zfW:pW K (.ei a.aY) (.ei a.bY)=O false
 zfI:pW K (.ei a.aY) (.hJ "ValueError")=O true
 zfE:pW K (.ei a.aY) (.ei a.ay)=O false
 zfV:pW K (.ei a.aY) (.ei a.aE)=O false
 zgv:bD K a.aF=true
 zfz:ZV K (.ei a.aF) (.ei a.aK)=O true
 zfP:pW K (.ei a.aF) (.ei a.aY)=O false
 zfX:pW K (.ei a.aF) (.ei a.bp)=O false
 zfQ:pW K (.ei a.aF) (.ei a.aZ)=O false
 zfF:pW K (.ei a.aF) (.ei a.aF)=O true
 zf5:pW K (.ei a.aF) (.ei a.bM)=O false
 zfR:pW K (.ei a.aF) (.ei a.cN)=O false
 zfB:pW K (.ei a.aF) (.ei a.bY)=O false
 zfw:pW K (.ei a.aF) (.hJ "ValueError")=O true
 zfv:pW K (.ei a.aF) (.ei a.ay)=O false
 zfA:pW K (.ei a.aF) (.ei a.aE)=O false
 zeO:bD K a.bp=true
 zfH:ZV K (.ei a.bp) (.ei a.aK)=O true
 zgc:pW K (.ei a.bp) (.ei a.aY)=O false
 zgg:pW K (.ei a.bp) (.ei a.bp)=O true
 zgd:pW K (.ei a.bp) (.ei a.aZ)=O false
 zfY:pW K (.ei a.bp) (.ei a.aF)=O false
 zgp:pW K (.ei a.bp) (.ei a.bM)=O false
 zgk:pW K (.ei a.bp) (.ei a.cN)=O false
 zf7:pW K (.ei a.bp) (.ei a.bY)=O false
 zfS:pW K (.ei a.bp) (.hJ "ValueError")=O true
 zfC:pW K (.ei a.bp) (.ei a.ay)=O false
 zf6:pW K (.ei a.bp) (.ei a.aE)=O false
 zeM:bD K a.aZ=true
 zfL:ZV K (.ei a.aZ) (.ei a.aK)=O true
 zf8:pW K (.ei a.aZ) (.ei a.aY)=O false
 zgl:pW K (.ei a.aZ) (.ei a.bp)=O false
 zf9:pW K (.ei a.aZ) (.ei a.aZ)=O true
 zfT:pW K (.ei a.aZ) (.ei a.aF)=O false
 zgh:pW K (.ei a.aZ) (.ei a.bM)=O false
 zf_:pW K (.ei a.aZ) (.ei a.cN)=O false
 zf0:pW K (.ei a.aZ) (.ei a.bY)=O false
 zfJ:pW K (.ei a.aZ) (.hJ "ValueError")=O true
 zfG:pW K (.ei a.aZ) (.ei a.ay)=O false
 zfZ:pW K (.ei a.aZ) (.ei a.aE)=O false
 zeU:bD K a.bM=true
 zfN:ZV K (.ei a.bM) (.ei a.aK)=O true
 zgi:pW K (.ei a.bM) (.ei a.aY)=O false
 zgq:pW K (.ei a.bM) (.ei a.bp)=O false
 zge:pW K (.ei a.bM) (.ei a.aZ)=O false
 zf':pW K (.ei a.bM) (.ei a.aF)=O false
 zgr:pW K (.ei a.bM) (.ei a.bM)=O true
 zgj:pW K (.ei a.bM) (.ei a.cN)=O false
 zgn:pW K (.ei a.bM) (.ei a.bY)=O false
 zf1:pW K (.ei a.bM) (.hJ "ValueError")=O true
 zfU:pW K (.ei a.bM) (.ei a.ay)=O false
 zgm:pW K (.ei a.bM) (.ei a.aE)=O false
 zcU:bD K a.ay=true
 zb4:ZV K (.ei a.ay) (.ei a.aK)=O true
 zcr:pW K (.ei a.ay) (.ei a.aY)=O false
 zcp:pW K (.ei a.ay) (.ei a.bp)=O false
 zcs:pW K (.ei a.ay) (.ei a.aZ)=O false
 zb_:pW K (.ei a.ay) (.ei a.aF)=O false
 zcF:pW K (.ei a.ay) (.ei a.bM)=O false
 zct:pW K (.ei a.ay) (.ei a.cN)=O false
 zcz:pW K (.ei a.ay) (.ei a.bY)=O false
 zb9:pW K (.ei a.ay) (.hJ "ValueError")=O true
 zca:pW K (.ei a.ay) (.ei a.ay)=O true
 zcx:pW K (.ei a.ay) (.ei a.aE)=O false
 nt:eo K
abbrev Gy:dt:=0
abbrev Dq:dt:=1
abbrev F1:dt:=2
abbrev Ae:dt:=3
abbrev KU:dt:=4
abbrev Km:dt:=5
abbrev Kt:dt:=6
abbrev MI:dt:=7
abbrev Fv:dt:=8
abbrev KW:dt:=9
abbrev Dk:dt:=10
abbrev Ls:dt:=11
abbrev Dl:dt:=12
abbrev Fw:dt:=13
abbrev Dm:dt:=14
abbrev MT:dt:=15
abbrev MJ:dt:=16
abbrev FE:dt:=17
abbrev Ge:dt:=18
abbrev Fz:dt:=19
abbrev F7:dt:=20
abbrev J2:dt:=21
abbrev FT:dt:=22
abbrev KL:dt:=23
abbrev Ku:dt:=24
abbrev JT:dt:=25
abbrev z_:dt:=26
abbrev Kv:dt:=27
abbrev lO:dt:=28
abbrev Dr:dt:=29
abbrev Df:dt:=30
abbrev F3:dt:=31
abbrev u5:dt:=32
abbrev F8:dt:=33
abbrev zZ:dt:=34
abbrev Ba:dt:=35
abbrev v3:dt:=36
abbrev Bg:dt:=37
abbrev FN:dt:=38
abbrev J3:dt:=39
abbrev J':dt:=40
abbrev JX:dt:=41
abbrev FV:dt:=42
abbrev u7:dt:=43
abbrev zV:dt:=44
abbrev Kw:dt:=45
abbrev xC:dt:=46
abbrev zX:dt:=47
abbrev Nh:dt:=48
@[inline] def t8:L dt:=[12,13,14,16,17,19,20,21,23,24,25,26,28,30,31,40,41,42,43,44,45,46,47,48,49,50,51,52,58,59,60,61,62,63,64,66,68,69,70,71,73,74,75,76,77,78,79,80,81]
@[inline] abbrev s8(i:dt):vv:=t9 (t8.mF i 0)
@[inline] def n8(i:dt):eh:=zc6 (s8 i)
def ps(i:dt):L eh:=JR (s8 i)
def Ns:dt->L eh
 |10=>["circuit", "rows", "found"]
 |41=>["_law_script", "_law_most", "_law_cell", "_law_many", "_law_cells", "_law_outs", "_law_forms", "_law_k", "_law_seed", "_law_count", "_law_some", "_law_first", "_law_held"]
 |48=>["_law_script", "_law_circuit", "_law_names", "_law_cell", "_law_outs", "_law_three_here", "_law_other_here", "_law_lines_here", "_law_some", "_law_due", "_law_k"]
 |i=>JN (s8 i)
def lv:dt->dt
 |_=>0
def sM:dt->fJ
 |26=>true
 |_=>false
theorem GY(h:i<49):bV (Ns i) (ps i) (ax (s8 i)):=Uy ((by decide +kernel:∀i,i<49->yH (Ns i) (ps i) (ax (s8 i))=true) i h)
abbrev J4:l_:=(BW 1 (Ee (LS 1 (s8 10))))
abbrev o6:Lm:=⟨("machine_of"++".<locals>.")++"<lambda>", zdp J4,zdY J4,zdM J4,["circuit", "rows"]⟩
abbrev su:dt:=49
def de:dt->fG Lm
 |49=>O o6
 |_=>none
theorem Xg:de 49=O o6:=rfl
set_option hygiene false
local macro_rules|`(Lean.Parser.Command.declaration|def $i:ident:=$v)=>if v.raw.isOfKind ``Lean.Parser.Term.explicit||v.raw.isOfKind ``Lean.Parser.Term.byTactic then Lean.Macro.throwUnsupported else `(Lean.Parser.Command.declaration|noncomputable def $i:ident(K:Fg)(a:a9)(r:Nat->List W->FR):=$v)
set_option hygiene true
def OE:=
 (aA (r MI) (aa (ae 2) (aa (ae 1) (aa (ae 0) af))))
def Fx:=
 (gv (dP [0,1] (ae 2) cP (OE K a r)))
def KY:=
 (ao (dF 2 (aa (ag rh (ag b8 (ae 3) (dC (.d0 2))) (dC (.d0 1))) af))
  (aG 3 (ag cR (ae 3) (dC (.d0 2)))))
def Mh:=
 (ao (cO 2 (cy af))
  (ao (aG 3 (ae 0))
  (ao (eN 4 gb (aa (ae 1) af)
  (KY K a r))
  (ao (aS (av (ag Ym (ae 3) (dC (.d0 0))))
  (cz a.bM (aa (dC (.str "no row of so many places has that number")) af))
  cX)
  (aV (jQ iN (ae 2)))))))
def Dh:=
 (aG 1 (ag kE (dC (.d0 2)) (ae 1)))
def F9:=
 (ao (aG 1 (dC (.d0 1)))
  (ao (eN 2 gb (aa (ae 0) af)
  (Dh K a r))
  (aV (ae 1))))
def OV:=
 (aA (r Gy) (aa (ae 0) (aa (ae 1) af)))
def KZ:=
 (j7 (c8 gb [0] (aa (aA (r Dq) (aa (ae 0) af)) af) cP (OV K a r)))
def xH:=
 (ao (aG 2 (ag aU (ae 0) (dC (.d0 0))))
  (ao (aS (av (ag rh (ae 2) (dC (.str "is"))))
  (aV (ag aU (ae 0) (dC (.d0 1))))
  cX)
  (ao (aS (av (ag rh (ae 2) (dC (.str "at"))))
  (aV (aA (r KU) (aa (ae 1) (aa (ag aU (ae 0) (dC (.d0 1))) af))))
  cX)
  (ao (aS (av (ag rh (ae 2) (dC (.str "not"))))
  (aV (lC (aA (r Ae) (aa (ag aU (ae 0) (dC (.d0 1))) (aa (ae 1) af)))))
  cX)
  (ao (aG 3 (aA (r Ae) (aa (ag aU (ae 0) (dC (.d0 1))) (aa (ae 1) af))))
  (ao (aG 4 (aA (r Ae) (aa (ag aU (ae 0) (dC (.d0 2))) (aa (ae 1) af))))
  (ao (aS (av (ag rh (ae 2) (dC (.str "and"))))
  (aV (ix (ae 3) (ae 4)))
  cX)
  (ao (aS (av (ag rh (ae 2) (dC (.str "or"))))
  (aV (k8 (ae 3) (ae 4)))
  cX)
  (aV (ag Ym (ae 3) (ae 4)))))))))))
def K0:=
 (ao (aS (kZ (av (ag nX (ae 1) (dC (.d0 0)))) (av (ag AY (ae 1) (ck bo (aa (ae 0) af)))))
  (cz a.aZ (aa (dC (.str "there is nothing for a place of the form")) af))
  cX)
  (aV (ag aU (ae 0) (ae 1))))
def OG:=
 (ae 0)
def Kn:=
 (aV (ck gG (aa (gv (fS [] (jH (ag aU (ae 0) (dC (.d0 1)))) cP (OG K a r))) af)))
def OI:=
 (ae 1)
def Ky:=
 (j7 (fS [] (jH (ag aU (ae 0) (dC (.d0 1)))) cP (OI K a r)))
def Qw:=
 (aA (r Ae) (aa (ae 0) (aa (ae 1) af)))
def Ad:=
 (aA (r Ae) (aa (ae 0) (aa (ae 1) af)))
def ML:=
 (ao (aG 3 (ag a_ (ae 2) (ae 1)))
  (ao (aG 4 (ck gG (aa (gv (dP [3] (ag aU (ae 0) (dC (.d0 2))) cP (Ad K a r))) af)))
  (aV (bI (aa (ae 4) (aa (ck gG (aa (gv (dP [3] (aA (r Kt) (aa (ae 0) af)) cP (Qw K a r))) af)) af))))))
def JY:=
 (ao (aS (av (ag Ym (ck bo (aa (ae 4) af)) (ag aU (ae 0) (dC (.d0 1)))))
  (cz a.aF (aa (dC (.str "a state answers too many truths, or too few")) af))
  cX)
  (aS (j6 (e9 (aA (r KW) (aa (ae 0) (aa (ae 5) af)))))
  (cz a.aF (aa (dC (.str "a state leads to none of the states")) af))
  cX))
def JZ:=
 (ao (aS (av (ag Ym (ck bo (aa (ae 3) af)) (ae 2)))
  (cz a.aF (aa (dC (.str "a state hasn't a pair for each row")) af))
  cX)
  (gL 4 5 (jH (ae 3))
  (JY K a r)))
def Ka:=
 (ao (aG 1 (ag aU (ae 0) (dC (.d0 2))))
  (ao (aG 2 (aA (r Dq) (aa (ag aU (ae 0) (dC (.d0 0))) af)))
  (ao (aS (av (ag rh (ck bo (aa (ae 1) af)) (dC (.d0 0))))
  (cz a.aF (aa (dC (.str "a machine has a state at least")) af))
  cX)
  (jA 3 (ae 1)
  (JZ K a r)))))
def K1:=
 (aV (ix (ag CS (dC (.d0 0)) (ae 1)) (ag nX (ae 1) (ck bo (aa (ag aU (ae 0) (dC (.d0 2))) af)))))
def Kz:=
 (ao (aG 1 (aA (r F1) (aa (ag aU (ae 0) (dC (.d0 0))) af)))
  (ao (aG 2 (eO (r Ls) 49 o6 [0,1] (aA (r Km) (aa (ae 0) af))))
  (aV (bI (aa (bI (aa (ag aU (ae 0) (dC (.d0 0))) (aa (ck bo (aa (ag aU (ae 0) (dC (.d0 2))) af)) (aa (ag aU (ae 2) (dC (.d0 0))) af)))) (aa (ag aU (ae 2) (dC (.d0 1))) af))))))
def Bc:=
 (ao (aS (dn (av (ag rB (ae 8) (ae 3))))
  (ao (mP 3 (gW 2 bo) (ae 8))
  (dF 2 (aa (ae 8) af)))
  cX)
  (dF 6 (aa (bI (aa (ae 7) (aa (eZ (ag A4 (ae 3) (ae 8))) af))) af)))
def Ds:=
 (av (ag nX (gW 4 bo) (gW 2 bo)))
def Dt:=
 (ao (aG 5 (fU 2 (gW 4 bo)))
  (ao (cO 6 (cy af))
  (ao (gL 7 8 (jH (iY de r 1 (aa (ae 5) af)))
  (Bc K a r))
  (dF 4 (aa (ae 6) af)))))
def Lu:=
 (ao (cO 2 (cy (aa (ae 0) af)))
  (ao (i0 3 0 (.Υ .bl) (.d0 0))
  (ao (cO 4 (cy af))
  (ao (bK (Ds K a r)
  (Dt K a r) 1000000)
  (aV (bI (aa (ae 4) (aa (ae 2) af))))))))
def FW:=
 (ao (gK (aA (r Fv) (aa (ae 0) af)))
  (ao (gK (aA (r Fv) (aa (ae 1) af)))
  (aS (av (ag Ym (ag aU (ae 0) (dC (.d0 0))) (ag aU (ae 1) (dC (.d0 0)))))
  (cz a.ay (aa (dC (.str "one machine takes more truths than the other")) af))
  cX)))
def Kb:=
 (ao (gK (aA (r Dm) (aa (ae 0) (aa (ae 1) af))))
  AQ)
def FX:=
 (ao (gK (aA (r Dl) (aa (ae 0) (aa (ae 1) af))))
  (aS (av (ag Ym (ag aU (ae 0) (dC (.d0 1))) (ag aU (ae 1) (dC (.d0 1)))))
  (cz a.ay (aa (dC (.str "one machine answers more truths than the other")) af))
  cX))
def MU:=
 (ao (aG 2 (aA (r FE) (aa (ae 1) af)))
  (ao (aG 3 (aA (r F7) (aa (ae 0) af)))
  (ao (aG 4 (aA (r FT) (aa (ae 3) (aa (ae 2) (aa (ck bo (aa (ae 0) af)) af)))))
  (ao (aS (av (ag iG (ae 4) (dC .aH)))
  (cz a.aY (aa (jj (mV "the text can't be read from " (qJ (ae 4) (mV " on" sY)))) af))
  cX)
  (aV (aA (r JT) (aa (ae 3) (aa (ae 2) af))))))))
def MM:=
 (ao (aG 2 (aA (r FE) (aa (ae 1) af)))
  (aV (aA (r FT) (aa (aA (r F7) (aa (ae 0) af)) (aa (ae 2) (aa (ck bo (aa (ae 0) af)) af))))))
def Fy:=
 (ao (aS (j6 (e9 (aA (r Ge) (aa (ae 3) af))))
  (cz a.bp (aa (jj (mU (ae 3) (mV " is no name" sY))) af))
  cX)
  (ao (aS (dn (av (ag inD (ae 3) (ae 1))))
  (cz a.bp (aa (jj (mV "the name " (qJ (ae 3) (mV " stands twice" sY)))) af))
  cX)
  (lD 1 (ae 2) (ae 3))))
def JU:=
 (ao (mQ 1)
  (ao (gL 2 3 (kK (aa (ae 0) af))
  (Fy K a r))
  (lE 1)))
def OY:=
 (aA (r Fz) (aa (ae 0) af))
def Lv:=
 (ao (aS (kZ (av (ag nX (ck bo (aa (ae 0) af)) (dC (.d0 1)))) (kZ (av (ag mB (ck bo (aa (ae 0) af)) (dC (.d0 8)))) (av (ag ki (ae 0) (dC (.ff [(.str "yes"),(.str "no"),(.str "not"),(.str "and"),(.str "odd"),(.str "or")]))))))
  (aV (dC (.bl false)))
  cX)
  (aV (ck ϣ (aa (gv (fT [] (ae 0) cP (OY K a r))) af))))
def J0:=
 (aV (ix (ag A5 (dC (.str "a")) (ae 0)) (ag A5 (ae 0) (dC (.str "z")))))
def Di:=
 (av (ag nX (ae 2) (ck bo (aa (ae 0) af))))
def Dj:=
 (ao (aG 3 (aA (r J2) (aa (ae 0) (aa (ae 2) af))))
  (ao (aS (av (ag Ym (ag aU (ae 0) (ae 2)) (dC (.str " "))))
  (dF 1 (aa (bI (aa (ae 2) (aa (e8 (ae 0) (cB (ae 2)) (cB (ae 3))) af))) af))
  cX)
  (aG 2 (ae 3))))
def KN:=
 (ao (cO 1 (cy af))
  (ao (aG 2 (dC (.d0 0)))
  (ao (bK (Di K a r)
  (Dj K a r) 1000000)
  (iy 1))))
def FG:=
 (eY (av (ag nX (ae 2) (ck bo (aa (ae 0) af)))) (e9 (aA (r Fz) (aa (ag aU (ae 0) (ae 2)) af))))
def FH:=
 (aG 2 (ag a_ (ae 2) (dC (.d0 1))))
def J7:=
 (ao (aG 2 (ae 1))
  (ao (bK (FG K a r)
  (FH K a r) 1000000)
  (aV (ck ϳ (aa (ae 2) (aa (ag a_ (ae 1) (dC (.d0 1))) af))))))
def zW:=
 (ao (aS (e9 (ae 3))
  (aG 7 (aA (r KL) (aa (ae 6) (aa (ae 4) (aa (ae 1) af)))))
  (aG 7 (aA (r Ku) (aa (ae 6) (aa (ae 4) af)))))
  (ao (aS (j6 (e9 (ae 7)))
  (aV (ae 5))
  cX)
  (aS (av (ag rh (ae 6) (dC (.str "("))))
  (aG 4 (ag a_ (ae 4) (dC (.d0 1))))
  (aS (av (ag rh (ae 6) (dC (.str ")"))))
  (aG 4 (ag rH (ae 4) (dC (.d0 1))))
  (aG 3 (k8 (ag rh (ae 6) (dC (.str "not"))) (ag ki (ae 6) (dC (.ff [(.str "and"),(.str "odd"),(.str "or")])))))))))
def Ke:=
 (ao (aG 3 (dC (.bl true)))
  (ao (aG 4 (dC (.d0 0)))
  (ao (gL 5 6 (jH (ae 0))
  (zW K a r))
  (ao (aS (kZ (e9 (ae 3)) (av (ag mB (ae 4) (dC (.d0 0)))))
  (aV (ae 2))
  cX)
  (aV (dC .aH))))))
def KO:=
 (ao (aS (av (ag rh (ae 0) (dC (.str "("))))
  (aV (ag nX (ae 1) (dC (.d0 12))))
  cX)
  (aV (k8 (ag ki (ae 0) (bI (aa (dC (.str "yes")) (aa (dC (.str "no")) (aa (dC (.str "not")) af))))) (ag inD (ae 0) (ae 2)))))
def KA:=
 (ao (aS (av (ag rh (ae 0) (dC (.str ")"))))
  (aV (ag mB (ae 1) (dC (.d0 0))))
  cX)
  (aV (ag ki (ae 0) (dC (.ff [(.str "and"),(.str "odd"),(.str "or")])))))
def vY:=
 (aS (kZ (av (ag rh (ae 5) (dC (.str "(")))) (av (ag rh (ae 5) (dC (.str "not")))))
  (dF 3 (aa (ae 5) af))
  (aS (av (ag rh (ae 5) (dC (.str ")"))))
  (ao (jk (r z_) 2 3 (aa (dC (.d0 1)) af))
  (gK (iZ 3)))
  (aS (av (ag ki (ae 5) (dC (.ff [(.str "and"),(.str "odd"),(.str "or")]))))
  (ao (jk (r z_) 2 3 (aa (jQ (nJ FU) (ae 5)) af))
  (dF 3 (aa (ae 5) af)))
  (dF 2 (aa (aA (r Kv) (aa (ae 5) (aa (ae 1) af))) af)))))
def JV:=
 (ao (cO 2 (cy af))
  (ao (cO 3 (cy af))
  (ao (gL 4 5 (jH (ae 0))
  (vY K a r))
  (ao (jk (r z_) 2 3 (aa (dC (.d0 1)) af))
  (aV (fU 2 (dC (.d0 0))))))))
def Bi:=
 (eY (av (ag mB (gW 1 bo) (dC (.d0 0)))) (av (ag AY (jQ (nJ FU) (fU 1 (jQ lp (dC (.d0 1))))) (ae 2))))
def Du:=
 (ao (aG 3 (iZ 1))
  (ao (aG 4 (iZ 0))
  (aS (av (ag rh (ae 3) (dC (.str "not"))))
  (dF 0 (aa (bI (aa (dC (.str "not")) (aa (ae 4) af))) af))
  (dF 0 (aa (bI (aa (ae 3) (aa (iZ 0) (aa (ae 4) af)))) af)))))
def DG:=
 (bK (Bi K a r)
  (Du K a r) 1000000)
def KC:=
 (ao (aS (av (ag rh (ae 0) (dC (.str "yes"))))
  (aV (bI (aa (dC (.str "is")) (aa (dC (.bl true)) af))))
  cX)
  (ao (aS (av (ag rh (ae 0) (dC (.str "no"))))
  (aV (bI (aa (dC (.str "is")) (aa (dC (.bl false)) af))))
  cX)
  (aV (bI (aa (dC (.str "at")) (aa (ag CM (ae 1) (ae 0)) af))))))
def J8:=
 (ag rh (ag i5 (ae 0) (dC (.str "first"))) (dC (.str "yes")))
def J9:=
 (av (ag rh (ag i5 (ae 0) (dC (.str "word"))) (dC (.str "held"))))
def J_:=
 (aA (r MT) (aa (ag i5 (ae 0) (dC (.str "form"))) (aa (ag a_ (ag aU (ae 1) (dC (.d0 0))) (ag aU (ae 1) (dC (.d0 1)))) af)))
def Kg:=
 (av (ag Ym (ag i5 (ae 0) (dC (.str "word"))) (dC (.str "in"))))
def OJ:=
 (aA (r zZ) (aa (ae 1) (aa (ae 0) af)))
def FY:=
 (ao (aS (av (ag iG (aA (r Dr) (aa (ae 0) af)) (dC .aH)))
  (cz a.aE (aa (dC (.str "the text is no sheet")) af))
  cX)
  (ao (aG 1 (ag aU (aA (r Df) (aa (dQ "str" hW (ae 0) (aa (dC (.str "\n")) af)) af)) (dC (.d0 0))))
  (ao (aG 2 (ck gG (aa (gv (dP [1] (dC (.ff [(.str "in"),(.str "held"),(.str "out")])) cP (OJ K a r))) af)))
  (ao (aG 3 (gv (dP [2] (ae 1) (Kg K a r) (J_ K a r))))
  (ao (aG 4 (gv (dP [] (ae 1) (J9 K a r) (J8 K a r))))
  (ao (aG 5 (ck bo (aa (ae 4) af)))
  (aV (bI (aa (ae 2) (aa (bI (aa (ck bo (aa (ag aU (ae 2) (dC (.d0 0))) af)) (aa (ck wL (aa (ae 4) (aa (e8 (ae 3) bG (cB (ae 5))) af))) (aa (ck gG (aa (e8 (ae 3) (cB (ae 5)) bG) af)) af)))) af))))))))))
def Bb:=
 (aS (eY (av (ag Ym (ag i5 (ae 3) (dC (.str "word"))) (dC (.str "in")))) (av (ag iG (aA (r MJ) (aa (ag i5 (ae 3) (dC (.str "form"))) (aa (ae 2) af))) (dC .aH))))
  (aV (ag i5 (ae 3) (dC (.str "row"))))
  cX)
def F_:=
 (ao (aG 1 (aA (r Df) (aa (dQ "str" hW (ae 0) (aa (dC (.str "\n")) af)) af)))
  (ao (aS (av (ag iG (ag aU (ae 1) (dC (.d0 1))) (dC .aH)))
  (aV (ag aU (ae 1) (dC (.d0 1))))
  cX)
  (ao (aG 2 (ag a_ (aA (r zZ) (aa (ag aU (ae 1) (dC (.d0 0))) (aa (dC (.str "in")) af))) (aA (r zZ) (aa (ag aU (ae 1) (dC (.d0 0))) (aa (dC (.str "held")) af)))))
  (ao (jA 3 (ag aU (ae 1) (dC (.d0 0)))
  (Bb K a r))
  (aV (dC .aH))))))
def vZ:=
 (aS (av (ag mB (ck bo (aa (aA (r F3) (aa (ae 3) af)) af)) (dC (.d0 0))))
  (ao (j8 4 (r u5) (aa (ae 3) (aa (ae 2) af)))
  (ao (aS (j6 (e9 (eZ (aA (r F8) (aa (ae 4) (aa (ae 1) af))))))
  (aV (bI (aa (ae 1) (aa (ae 2) af))))
  cX)
  (dF 1 (aa (ae 4) af))))
  cX)
def FI:=
 (ao (cO 1 (cy af))
  (ao (gL 2 3 (pf (aa (ae 0) af))
  (vZ K a r))
  (aV (bI (aa (ae 1) (aa (uO (av (ag rh (gW 1 bo) (dC (.d0 0)))) (ck bo (aa (ae 0) af)) (dC .aH)) af))))))
def OR:=
 (ae 0)
def OS:=
 (av (ag Ym (ae 0) (dC (.str ""))))
def K2:=
 (j7 (dP [] (dQ "str" hW (ae 0) (aa (dC (.str " ")) af)) (OS K a r) (OR K a r)))
def A_:=
 (ao (aS (eY (av (ag rh (e8 (ae 3) bG (cB (dC (.d0 1)))) (gv (cy (aa (dC (.str "in")) af))))) (av (ag rh (ag aU (ae 2) (dC (.d0 1))) (dC (.str "")))))
  (qG 4 ["word", "names"] (aa (dC (.str "in")) (aa (ck gG (aa (e8 (ae 3) (cB (dC (.d0 1))) bG) af)) af)))
  (aS (eY (av (ag rh (e8 (ae 3) bG (cB (dC (.d0 1)))) (gv (cy (aa (dC (.str "held")) af))))) (eY (av (ag rh (ag aU (ae 2) (dC (.d0 1))) (dC (.str "=")))) (eY (av (ag rh (ck bo (aa (ae 3) af)) (dC (.d0 3)))) (av (ag ki (ag aU (ae 3) (dC (.d0 2))) (dC (.ff [(.str "yes"),(.str "no")])))))))
  (qG 4 ["word", "names", "first"] (aa (dC (.str "held")) (aa (bI (aa (ag aU (ae 3) (dC (.d0 1))) af)) (aa (ag aU (ae 3) (dC (.d0 2))) af))))
  (aS (eY (av (ag rh (e8 (ae 3) bG (cB (dC (.d0 1)))) (gv (cy (aa (dC (.str "out")) af))))) (eY (av (ag rh (ag aU (ae 2) (dC (.d0 1))) (dC (.str "=")))) (av (ag rh (ck bo (aa (ae 3) af)) (dC (.d0 2))))))
  (qG 4 ["word", "names"] (aa (dC (.str "out")) (aa (bI (aa (ag aU (ae 3) (dC (.d0 1))) af)) af)))
  cX)))
  (pH 4))
def Kf:=
 (ao (aG 2 (dQ "str" ny (ae 0) (aa (dC (.str "=")) af)))
  (ao (aG 3 (aA (r F3) (aa (ag aU (ae 2) (dC (.d0 0))) af)))
  (ao (j9 4 ["row", "word", "names", "first", "form"] (aa (ae 1) (aa (dC (.str "")) (aa (bI af) (aa (dC .aH) (aa (ag aU (ae 2) (dC (.d0 2))) af))))))
  (A_ K a r))))
def Bf:=
 (ao (aS (kZ (dn (av (ag ki (ae 6) (ae 4)))) (kZ (av (ag ki (ae 6) (dC (.ff [(.str "in"),(.str "held"),(.str "out")])))) (j6 (e9 (aA (r Ge) (aa (ae 6) af))))))
  (aV (dC (.bl false)))
  cX)
  (dF 4 (aa (ae 6) af)))
def u6:=
 (ox 4 (aa (aA (r zZ) (aa (ae 1) (aa (ae 5) af))) af))
def Ga:=
 (ao (aG 2 (ag i5 (ae 0) (dC (.str "word"))))
  (ao (aG 3 (uO (av (ag mB (ck bo (aa (ae 1) af)) (dC (.d0 0)))) (ag i5 (ag aU (ae 1) (jQ lp (dC (.d0 1)))) (dC (.str "word"))) (dC (.str ""))))
  (ao (aS (kZ (av (ag kF (ae 2) (dC (.ff [(.str "in"),(.str "held"),(.str "out")])))) (av (ag kF (ae 3) (jQ (qx Lr) (ae 2)))))
  (aV (dC (.bl false)))
  cX)
  (ao (aS (av (ag mB (ck bo (aa (ag a_ (aA (r zZ) (aa (ae 1) (aa (ae 2) af))) (ag i5 (ae 0) (dC (.str "names")))) af)) (jQ (nJ Kl) (ae 2))))
  (aV (dC (.bl false)))
  cX)
  (ao (cO 4 (cy af))
  (ao (jA 5 (dC (.ff [(.str "in"),(.str "held"),(.str "out")]))
  (u6 K a r))
  (ao (jA 6 (ag i5 (ae 0) (dC (.str "names")))
  (Bf K a r))
  (aV (dC (.bl true))))))))))
def Dn:=
 (aS (av (ag rh (ag i5 (ae 3) (dC (.str "word"))) (ae 1)))
  (aG 2 (ag a_ (ae 2) (ag i5 (ae 3) (dC (.str "names")))))
  cX)
def K3:=
 (ao (aG 2 (bI af))
  (ao (jA 3 (ae 0)
  (Dn K a r))
  (aV (ae 2))))
def Dg:=
 (ao (aG 2 (ag aU (aA (r lO) (aa (ae 0) af)) (dC (.d0 1))))
  (ao (aG 3 (ag aU (aA (r lO) (aa (ae 1) af)) (dC (.d0 1))))
  (ao (aG 4 (aA (r Fw) (aa (ag aU (aA (r Dk) (aa (ae 2) af)) (dC (.d0 0))) (aa (ag aU (aA (r Dk) (aa (ae 3) af)) (dC (.d0 0))) af))))
  AQ)))
def Kh:=
 (ao (aS (av (ag nX (ae 1) (ck bo (aa (ae 0) af))))
  (aV (ag aU (ae 0) (ae 1)))
  cX)
  (aV (dC (.d0 0))))
def KD:=
 (aV (ag b8 (ag ud (ag b8 (ag a_ (ag kE (ae 0) (dC (.d0 48271))) (ag kE (ag a_ (ae 1) (dC (.d0 1))) (dC (.d0 1299721)))) (dC (.d0 2147483647))) (dC (.d0 5))) (dC (.d0 2147483647))))
def Ki:=
 (ao (aS (kZ (av (ag rh (ae 1) (dC (.d0 0)))) (av (ag rh (ag b8 (ae 0) (dC (.d0 8))) (dC (.d0 7)))))
  (aV (bI (aa (dC (.str "is")) (aa (ag rh (ag b8 (ag cR (ae 0) (dC (.d0 8))) (dC (.d0 2))) (dC (.d0 1))) af))))
  cX)
  (aV (bI (aa (dC (.str "at")) (aa (ag b8 (ag cR (ae 0) (dC (.d0 8))) (ae 1)) af)))))
def JW:=
 (aG 7 (bI (aa (ag aU (gv (cy (aa (dC (.str "or")) (aa (dC (.str "odd")) (aa (dC (.str "and")) af))))) (ag b8 (ag a_ (ae 8) (ck bo (aa (ae 0) af))) (dC (.d0 3)))) (aa (ae 7) (aa (fU 2 (ae 8)) af)))))
def FJ:=
 (ao (aG 4 (ag b8 (ae 3) (dC (.d0 9))))
  (ao (aG 5 (ag cR (ae 3) (dC (.d0 9))))
  (aS (av (ag rh (ae 4) (dC (.d0 0))))
  (dF 2 (aa (bI (aa (dC (.str "not")) (aa (iZ 2) af))) af))
  (aS (eY (av (ag nX (ae 4) (dC (.d0 5)))) (av (ag mB (gW 2 bo) (dC (.d0 1)))))
  (ao (aG 6 (iZ 2))
  (dF 2 (aa (bI (aa (ag aU (gv (cy (aa (dC (.str "and")) (aa (dC (.str "or")) (aa (dC (.str "odd")) af))))) (ag b8 (ae 5) (dC (.d0 3)))) (aa (iZ 2) (aa (ae 6) af)))) af)))
  (dF 2 (aa (aA (r FN) (aa (ae 5) (aa (ae 1) af))) af))))))
def Kj:=
 (ao (cO 2 (cy (aa (aA (r FN) (aa (ck bo (aa (ae 0) af)) (aa (ae 1) af))) af)))
  (ao (jA 3 (ae 0)
  (FJ K a r))
  (ao (aG 7 (fU 2 (dC (.d0 0))))
  (ao (eN 8 An (aa (dC (.d0 1)) (aa (gW 2 bo) af))
  (JW K a r))
  (aV (ae 7))))))
def FA:=
 (ag aU (ae 2) (ag b8 (aA (r Bg) (aa (ae 1) (aa (ag a_ (ag kE (dC (.d0 9)) (ae 3)) (ae 0)) af))) (dC (.d0 26))))
def JG:=
 (ao (aS (av (ag ki (ae 8) (bI (aa (dC (.str "yes")) (aa (dC (.str "no")) (aa (dC (.str "not")) (aa (dC (.str "and")) (aa (dC (.str "odd")) (aa (dC (.str "or")) (aa (dC (.str "in")) (aa (dC (.str "held")) (aa (dC (.str "out")) af))))))))))))
  (aG 8 (ag a_ (ae 8) (dC (.str "x"))))
  cX)
  (dF 3 (aa (ae 8) af)))
def JH:=
 (ao (aG 7 (ag b8 (ag cR (ae 0) (dC (.d0 624))) (ag a_ (ae 6) (dC (.d0 1)))))
  (ao (aG 8 (ag a_ (ag a_ (ag oV (dC (.str "q")) (ae 7)) (ae 5)) (ag oV (dC (.str "q")) (ag rH (ae 6) (ae 7)))))
  (ao (aS (av (ag rh (ag b8 (ae 0) (dC (.d0 3))) (dC (.d0 2))))
  (ao (aG 9 (gv (c8 gb [0,2,4] (aa (ae 6) af) cP (FA K a r))))
  (aG 8 (ag a_ (ae 5) (dQ "str" d7 (dC (.str "")) (aa (ae 9) af)))))
  cX)
  (JG K a r))))
def FD:=
 (ao (aG 5 (ag aU (ae 2) (ag b8 (ag a_ (ag cR (ae 0) (dC (.d0 3))) (ag kE (dC (.d0 7)) (ae 4))) (dC (.d0 26)))))
  (ao (aG 6 (ag aU (gv (cy (aa (dC (.d0 0)) (aa (dC (.d0 1)) (aa (dC (.d0 2)) (aa (dC (.d0 0)) (aa (dC (.d0 5)) (aa (dC (.d0 7)) (aa (dC (.d0 3)) (aa (dC (.d0 0)) af)))))))))) (ag b8 (ag cR (ae 0) (dC (.d0 78))) (dC (.d0 8)))))
  (ao (aS (av (ag rh (ag b8 (ae 0) (dC (.d0 3))) (dC (.d0 0))))
  (aG 6 (ag b8 (aA (r Bg) (aa (ae 0) (aa (ae 4) af))) (dC (.d0 8))))
  cX)
  (JH K a r))))
def Kc:=
 (ao (aG 2 (dC (.str "abcdefghijklmnopqrstuvwxyz")))
  (ao (cO 3 (cy af))
  (ao (eN 4 gb (aa (ae 1) af)
  (FD K a r))
  (iy 3))))
def JS:=
 (bI (aa (ag rh (ag b8 (ag cR (ae 2) (ag a_ (ae 0) (dC (.d0 1)))) (dC (.d0 2))) (dC (.d0 1))) (aa (ag aU (ae 1) (ae 0)) af)))
def Ft:=
 (aA (r Bg) (aa (ae 2) (aa (ag a_ (ag kE (dC (.d0 11)) (ae 1)) (ae 0)) af)))
def Fu:=
 (ao (aG 8 (aA (r v3) (aa (ae 0) (aa (ag a_ (dC (.d0 2)) (ae 7)) af))))
  (ao (aG 9 (ag a_ (dC (.d0 1)) (ag b8 (aA (r Bg) (aa (ae 8) (aa (ae 7) af))) (ae 1))))
  (ao (aG 10 (gv (c8 gb [7,8] (aa (ae 9) af) cP (Ft K a r))))
  (dF 6 (aa (aA (r J3) (aa (ae 10) (aa (ag a_ (ae 3) (ae 4)) af))) af)))))
def EZ:=
 (ao (cO 6 (cy af))
  (ao (eN 7 gb (aa (ag a_ (ae 4) (ae 5)) af)
  (Fu K a r))
  (ao (aG 11 (aA (r v3) (aa (ae 0) (aa (dC (.d0 1)) af))))
  (ao (aG 12 (gv (c8 gb [6,11] (aa (ae 4) af) cP (JS K a r))))
  (aV (bI (aa (ae 3) (aa (ck gG (aa (ae 12) af)) (aa (ck gG (aa (e8 (ae 6) (cB (ae 4)) bG) af)) af)))))))))
def HH:=
 (ao (aG 5 (ag aU (gv (cy (aa (dC (.d0 1)) (aa (dC (.d0 2)) (aa (dC (.d0 3)) (aa (dC (.d0 0)) af)))))) (ag b8 (ag cR (ae 2) (dC (.d0 12))) (dC (.d0 4)))))
  (ao (aS (av (ag rh (ag b8 (ag cR (ae 2) (dC (.d0 48))) (dC (.d0 8))) (dC (.d0 3))))
  (aG 5 (dC (.d0 6)))
  cX)
  (EZ K a r)))
def J1:=
 (ao (aG 2 (aA (r v3) (aa (ae 0) (aa (dC (.d0 0)) af))))
  (ao (aG 3 (ag b8 (ae 2) (dC (.d0 3))))
  (ao (aG 4 (ag b8 (ag cR (ae 2) (dC (.d0 3))) (dC (.d0 4))))
  (ao (aS (eY (av (ag rh (ag b8 (ag cR (ae 2) (dC (.d0 48))) (dC (.d0 8))) (dC (.d0 1)))) (av (ag nX (ae 3) (dC (.d0 2)))))
  (aG 4 (dC (.d0 4)))
  cX)
  (ao (aS (av (ag rh (ag b8 (ag cR (ae 2) (dC (.d0 48))) (dC (.d0 8))) (dC (.d0 2))))
  (ao (aG 3 (dC (.d0 3)))
  (aG 4 (ag b8 (ae 4) (dC (.d0 3)))))
  cX)
  (HH K a r))))))
def KG:=
 (ao (aG 2 (ag a_ (ag aU (ae 1) (dC (.d0 0))) (ck bo (aa (ag aU (ae 1) (dC (.d0 1))) af))))
  (ao (aG 3 (aA (r J') (aa (aA (r v3) (aa (ae 0) (aa (dC (.d0 9)) af))) (aa (ag a_ (ae 2) (ck bo (aa (ag aU (ae 1) (dC (.d0 2))) af))) af))))
  (aV (bI (aa (ck gG (aa (e8 (ae 3) bG (cB (ag aU (ae 1) (dC (.d0 0))))) af)) (aa (ck gG (aa (e8 (ae 3) (cB (ag aU (ae 1) (dC (.d0 0)))) (cB (ae 2))) af)) (aa (ck gG (aa (e8 (ae 3) (cB (ae 2)) bG) af)) af)))))))
def Be:=
 (ao (aS (av (ag rh (ag aU (ae 0) (dC (.d0 0))) (dC (.str "is"))))
  (aV (ag aU (gv (cy (aa (dC (.str "no")) (aa (dC (.str "yes")) af)))) (ck k_ (aa (ag aU (ae 0) (dC (.d0 1))) af))))
  cX)
  (ao (aS (av (ag rh (ag aU (ae 0) (dC (.d0 0))) (dC (.str "at"))))
  (aV (ag aU (ae 1) (ag aU (ae 0) (dC (.d0 1)))))
  cX)
  (ao (aS (av (ag rh (ag aU (ae 0) (dC (.d0 0))) (dC (.str "not"))))
  (aV (ag a_ (dC (.str "not ")) (aA (r u7) (aa (ag aU (ae 0) (dC (.d0 1))) (aa (ae 1) af)))))
  cX)
  (ao (aG 2 (aA (r u7) (aa (ag aU (ae 0) (dC (.d0 1))) (aa (ae 1) af))))
  (aV (ag a_ (ag a_ (ag a_ (ag a_ (ag a_ (ag a_ (dC (.str "(")) (ae 2)) (dC (.str " "))) (ag aU (ae 0) (dC (.d0 0)))) (dC (.str " "))) (aA (r u7) (aa (ag aU (ae 0) (dC (.d0 2))) (aa (ae 1) af)))) (dC (.str ")"))))))))
def FO:=
 (ao (aG 6 (aA (r u7) (aa (ag aU (ag aU (ae 1) (dC (.d0 2))) (ae 4)) (aa (ae 2) af))))
  (dF 3 (aa (ag a_ (ag a_ (ag a_ (dC (.str "out ")) (ag aU (ag aU (ae 0) (dC (.d0 2))) (ae 4))) (dC (.str " = "))) (ae 6)) af)))
def FP:=
 (ao (aG 5 (ag aU (gv (cy (aa (dC (.str "no")) (aa (dC (.str "yes")) af)))) (ck k_ (aa (ag aU (ag aU (ag aU (ae 1) (dC (.d0 1))) (ae 4)) (dC (.d0 0))) af))))
  (ao (aG 6 (aA (r u7) (aa (ag aU (ag aU (ag aU (ae 1) (dC (.d0 1))) (ae 4)) (dC (.d0 1))) (aa (ae 2) af))))
  (dF 3 (aa (ag a_ (ag a_ (ag a_ (ag a_ (ag a_ (dC (.str "held ")) (ag aU (ag aU (ae 0) (dC (.d0 1))) (ae 4))) (dC (.str " "))) (ae 5)) (dC (.str " = "))) (ae 6)) af))))
def FQ:=
 (ag a_ (dC (.str " ")) (ae 0))
def KH:=
 (ao (aG 2 (ag a_ (ag aU (ae 0) (dC (.d0 0))) (ag aU (ae 0) (dC (.d0 1)))))
  (ao (cO 3 (cy (aa (ag a_ (dC (.str "in")) (dQ "str" d7 (dC (.str "")) (aa (gv (dP [] (ag aU (ae 0) (dC (.d0 0))) cP (FQ K a r))) af))) af)))
  (ao (eN 4 gb (aa (ck bo (aa (ag aU (ae 1) (dC (.d0 1))) af)) af)
  (FP K a r))
  (ao (eN 4 gb (aa (ck bo (aa (ag aU (ae 1) (dC (.d0 2))) af)) af)
  (FO K a r))
  (iy 3)))))
def Bh:=
 (ao (aS (kZ (e9 (gA K (.ei a.aY) (ae 0))) (kZ (e9 (gA K (.ei a.bp) (ae 0))) (kZ (e9 (gA K (.ei a.aZ) (ae 0))) (e9 (gA K (.ei a.aF) (ae 0))))))
  (aV (dC (.bl true)))
  cX)
  (aV (k8 (gA K (.ei a.bM) (ae 0)) (k8 (gA K (.ei a.cN) (ae 0)) (gA K (.ei a.bY) (ae 0))))))
def Ko:=
 (ao (oz K a.aK 2 3
  (gK (aA (r Ba) (aa (ae 0) (aa (ae 1) af))))
  (ao (aS (kZ (j6 (e9 (gA K (.hJ "ValueError") (ae 2)))) (e9 (gU (r Kw) (aa (ae 2) af))))
  (aV (jQ lp (dC (.d0 1))))
  cX)
  (aV (ag a_ (ck k_ (aa (gA K (.ei a.ay) (ae 2)) af)) (ag kE (dC (.d0 2)) (ck k_ (aa (gA K (.ei a.aE) (ae 2)) af)))))))
  (aV (dC (.d0 0))))
def FK:=
 (aS (av (ag kF (ae 1) (ag a_ (ag a_ (ag aU (ae 0) (dC (.d0 0))) (ag aU (ae 0) (dC (.d0 1)))) (ag aU (ae 0) (dC (.d0 2))))))
  (aV (ae 1))
  cX)
def KP:=
 (ao (mO 1 (dC (.str "abcdefghijklmnopqrstuvwxyz"))
  (FK K a r))
  (aV (dC (.str "z"))))
def GL:=
 (oy 8 (ag a_ (fU 8 (ae 10)) (dC (.str "\nno more"))) (ae 10))
def GN:=
 (ag a_ (ag a_ (dC (.str "out o")) (ag aU (dC (.str "abcdefg")) (ae 0))) (dC (.str " = no")))
def JP:=
 (ao (aG 4 (ag a_ (e8 (ae 4) bG (cB (dC (.d0 5)))) (ag rF (bI (aa (bI (aa (dC (.str "is")) (aa (ag rh (ag b8 (ag cR (ae 3) (dC (.d0 3))) (dC (.d0 2))) (dC (.d0 1))) af))) af)) (ck k_ (aa (ag nX (ck bo (aa (ae 4) af)) (dC (.d0 6))) af)))))
  (aG 5 (bI (aa (ag aU (ae 2) (dC (.d0 0))) (aa (ag aU (ae 2) (dC (.d0 1))) (aa (e8 (ag a_ (ag aU (ae 2) (dC (.d0 2))) (bI (aa (aA (r zX) (aa (ae 2) af)) af))) bG (cB (ck bo (aa (ae 4) af)))) af))))))
def Fj:=
 (ao (oy 7 (ag a_ (ag a_ (fU 7 (dC (.d0 0))) (dC (.str " "))) (aA (r zX) (aa (ae 2) af))) (dC (.d0 0)))
  (aS (kZ (av (ag rh (ck bo (aa (ag aU (ae 2) (dC (.d0 0))) af)) (dC (.d0 3)))) (eY (av (ag rh (ck bo (aa (ag aU (ae 2) (dC (.d0 0))) af)) (dC (.d0 2)))) (av (ag rh (ag b8 (ae 3) (dC (.d0 3))) (dC (.d0 2))))))
  (aG 7 (ag a_ (gv (cy (aa (dC (.str "in")) af))) (gv (c8 gb [] (aa (ck bo (aa (ae 4) af)) af) cP (GN K a r)))))
  cX))
def AU:=
 (ao (cO 8 (cy (aa (dQ "str" d7 (dC (.str "\n")) (aa (aA (r zV) (aa (ae 2) (aa (ae 1) af))) af)) (aa (dQ "str" d7 (dC (.str "\n")) (aa (ae 7) af)) af))))
  (ao (aG 9 (dC (.d0 1)))
  (ao (aS (av (ag rh (ag b8 (aA (r v3) (aa (ae 0) (aa (dC (.d0 11)) af))) (dC (.d0 3))) (dC (.d0 1))))
  (ao (aG 9 (dC (.d0 2)))
  (jA 10 (ag aU (gv (cy (aa (gv (cy (aa (dC (.d0 0)) af))) (aa (gv (cy (aa (dC (.d0 1)) af))) (aa (gv (cy (aa (dC (.d0 0)) (aa (dC (.d0 1)) af)))) af))))) (ag b8 (ag cR (aA (r v3) (aa (ae 0) (aa (dC (.d0 11)) af))) (dC (.d0 3))) (dC (.d0 3))))
  (GL K a r)))
  cX)
  (aV (ix (ag rh (aA (r xC) (aa (fU 8 (dC (.d0 0))) (aa (fU 8 (dC (.d0 1))) af))) (ae 9)) (ag rh (aA (r xC) (aa (fU 8 (dC (.d0 1))) (aa (fU 8 (dC (.d0 0))) af))) (ae 9)))))))
def zJ:=
 (ao (aS (eY (av (ag mB (ag b8 (ae 3) (dC (.d0 3))) (dC (.d0 0)))) (av (ag mB (ag aU (ae 1) (dC (.d0 0))) (dC (.d0 0)))))
  (Fj K a r)
  cX)
  (AU K a r))
def C9:=
 (ao (aG 6 (bI (aa (ag aU (ae 1) (dC (.d0 0))) (aa (ag aU (ae 1) (dC (.d0 1))) (aa (ae 4) af)))))
  (ao (cO 7 (j5 (r zV) (aa (ae 5) (aa (ae 6) af))))
  (zJ K a r)))
def Ni:=
 (ao (aG 1 (aA (r JX) (aa (ae 0) (aa (dC (.d0 4)) af))))
  (ao (aG 2 (aA (r FV) (aa (ae 0) (aa (ae 1) af))))
  (ao (aG 3 (aA (r v3) (aa (ae 0) (aa (dC (.d0 10)) af))))
  (ao (aG 4 (ag aU (ae 1) (dC (.d0 2))))
  (ao (aG 5 (ae 2))
  (ao (aS (kZ (av (ag rh (ag b8 (ae 3) (dC (.d0 3))) (dC (.d0 0)))) (av (ag rh (ag aU (ae 1) (dC (.d0 0))) (dC (.d0 0)))))
  (JP K a r)
  cX)
  (C9 K a r)))))))
def dd:dt->Fg->a9->(dt->L W->FR)->L S->SR
 |0=>Mh
 |1=>F9
 |2=>KZ
 |3=>xH
 |4=>K0
 |5=>Kn
 |6=>Ky
 |7=>ML
 |8=>Ka
 |9=>K1
 |10=>Kz
 |11=>Lu
 |12=>FW
 |13=>Kb
 |14=>FX
 |15=>MU
 |16=>MM
 |17=>JU
 |18=>Lv
 |19=>J0
 |20=>KN
 |21=>J7
 |22=>Ke
 |23=>KO
 |24=>KA
 |25=>JV
 |26=>DG
 |27=>KC
 |28=>FY
 |29=>F_
 |30=>FI
 |31=>K2
 |32=>Kf
 |33=>Ga
 |34=>K3
 |35=>Dg
 |36=>Kh
 |37=>KD
 |38=>Ki
 |39=>Kj
 |40=>Kc
 |41=>J1
 |42=>KG
 |43=>Be
 |44=>KH
 |45=>Bh
 |46=>Ko
 |47=>KP
 |48=>Ni
 |_=>λ_ _ _ _=>.no
def Jw(K:Fg)(a:a9)(r:dt->L W->FR):dt->L W->FR
 |49=>qL 3 (Fx K a r)
 |_=>λ_=>.no
def o3(K:Fg)(a:a9)(r:dt->L W->FR)(i:dt):L W->FR:=if i<49 then(if sM i=true then zdk (ps i).J (Ns i).J (dd i K a r)else qF (ps i).J (Ns i).J (dd i K a r))else Jw K a r i
def g9(K:Fg)(a:a9):dt->dt->L W->FR
 |0,_=>λ_=>.no
 |n+1,i=>o3 K a (g9 K a n) i
abbrev RR(i k m:dt)(d:Fg->a9->(dt->L W->FR)->L S->SR):Prop:=∀{K:Fg}{a:a9}{n:dt}{ws:L W},g9 K a (n+1) i ws=if ws.J=k then(d K a (g9 K a n) (Zh m ws)).fn else .no
abbrev RM(i k m:dt)(d:Fg->a9->(dt->L W->FR)->L S->SR):Prop:=∀{K:Fg}{a:a9}{n:dt}{ws:L W},g9 K a (n+1) i ws=if ws.J=k then(d K a (g9 K a n) (kj m ws)).fm else .no
theorem zbi:RR Gy 2 5 Mh:=rfl
theorem ON:RR Dq 1 3 F9:=rfl
theorem zab:RR F1 1 1 KZ:=rfl
theorem Bl:RR Ae 2 5 xH:=rfl
theorem zac:RR KU 2 2 K0:=rfl
theorem X1:RR Km 1 1 Kn:=rfl
theorem X9:RR Kt 1 1 Ky:=rfl
theorem y33:RR MI 3 5 ML:=rfl
theorem Xh:RR Fv 1 6 Ka:=rfl
theorem zad:RR KW 2 2 K1:=rfl
theorem X_:RR Dk 1 3 Kz:=rfl
theorem zbt:RR Ls 2 9 Lu:=rfl
theorem OK:RR Dl 2 2 FW:=rfl
theorem Xi:RR Fw 2 10 Kb:=rfl
theorem OL:RR Dm 2 2 FX:=rfl
theorem y8x:RR MT 2 5 MU:=rfl
theorem y34:RR MJ 2 3 MM:=rfl
theorem Xd:RR FE 1 4 JU:=rfl
theorem zbu:RR Ge 1 1 Lv:=rfl
theorem Xb:RR Fz 1 1 J0:=rfl
theorem zaR:RR F7 1 4 KN:=rfl
theorem XS:RR J2 2 3 J7:=rfl
theorem X2:RR FT 3 8 Ke:=rfl
theorem zaS:RR KL 3 3 KO:=rfl
theorem X':RR Ku 2 2 KA:=rfl
theorem Xe:RR JT 2 6 JV:=rfl
def Py:RM z_ 3 5 DG:=by
 intro K a n ws;show o3 K a (g9 K a n) z_ ws=_;unfold o3;rw[gE (by decide),gE (show sM z_=true from rfl)];rfl
theorem zay:RR Kv 2 2 KC:=rfl
theorem OM:RR lO 1 6 FY:=rfl
theorem OP:RR Dr 1 4 F_:=rfl
theorem OF:RR Df 1 5 FI:=rfl
theorem zae:RR F3 1 1 K2:=rfl
theorem X3:RR u5 2 5 Kf:=rfl
theorem OQ:RR F8 2 7 Ga:=rfl
theorem zaf:RR zZ 2 4 K3:=rfl
theorem Kd:RR Ba 2 6 Dg:=rfl
theorem XT:RR v3 2 2 Kh:=rfl
theorem zaz:RR Bg 2 2 KD:=rfl
theorem XU:RR FN 2 2 Ki:=rfl
theorem XW:RR J3 2 9 Kj:=rfl
theorem Xj:RR J' 2 10 Kc:=rfl
theorem Xf:RR JX 2 13 J1:=rfl
theorem zaA:RR FV 2 4 KG:=rfl
theorem FL:RR u7 2 3 Be:=rfl
theorem zaB:RR zV 2 7 KH:=rfl
theorem zaC:RR Kw 1 1 Bh:=rfl
theorem zaD:RR xC 2 3 Ko:=rfl
theorem zaT:RR zX 1 2 KP:=rfl
theorem z5h:RR Nh 1 11 Ni:=rfl
theorem Xc{ws:L W}:g9 K a (n+1) su ws=if ws.J=3 then kf (Fx K a (g9 K a n) (ws.ej .fr))else .no:=rfl
abbrev MP(K:Fg)(mg:eh->fG e5)(i:dt):Prop:=∀f oc od fd sl,mg (n8 i)=O (.ei f)->K.fI f=O ⟨oc,od,.Yv fd,sl⟩->mK K (n8 i) fd._c
def JB:L dt:=[10]
structure qB(P:qM)(w:pT)(K:Fg)(mg:eh->fG e5)(g0:fH)(a:a9)(n:dt):Prop where
 c:∀i,i<49->sM i=false->og P w K mg g0 (n+lv i) (n8 i) (ps i) (nG K (g9 K a n i))
 WJ:og P w K mg g0 n (n8 26) (ps 26) (BA K (g9 K a n 26))
 lam:BJ P w K mg g0 (eJ P w) n (G6 K de (g9 K a n))
structure sx(P:qM)(w:pT)(K:Fg)(mg:eh->fG e5)(g0:fH)(a:a9)(n:dt):Prop where
 oj:oh P w K mg g0 n "_law_other" ["_law_e"] (nG K (g9 K a n 45))
def OO(i:dt):Prop:=∀{P:qM}{w:pT}{K:Fg}{mg:eh->fG e5}{g0:fH}{a:a9}{n:dt},yd P w K mg->nM K mg a->qB P w K mg g0 a n->sx P w K mg g0 a n->ZQ g0 mg->(Ns i).p9->∀(f:fh)(bN:e5)(A:tf)(l4:L tY)(s:kx)(H:Hp)(E:XK)(Z:Zt),bL (n+lv i) (A.LO (uD.ri.Ot (n8 i) (ax (s8 i)) s.d_.e6.eG f bN))->(Z.H=H/\Z.io=[])->((JB.Ă i)=true->mK K (n8 i) bN)->kO Z (eM (eJ P w) P w K mg g0 (Ns i) (n8 i) (ax (s8 i)) f bN A l4 s H E) (λ_=>E) (bB (s8 i)) (dd i K a (g9 K a n))
def cc{P:qM}{q:L eh}(C:qB P w K mg g0 a n)(h:i<49)(hx:n8 i=x)(hp:ps i=q)(hM:fi (sM i=false) jJ):og P w K mg g0 (n+lv i) x q (nG K (g9 K a n i)):=by
 subst hx;subst hp;exact C.c i h hM
def HG{P:qM}{q:L eh}(C:qB P w K mg g0 a n)(hx:n8 26=x)(hp:ps 26=q):og P w K mg g0 n x q (BA K (g9 K a n 26)):=by
 subst hx;subst hp;exact C.WJ
theorem lz{b:dt}(h:b<=c):n+b<=n+c:=w4s h n
set_option hygiene false
local macro_rules | `(tactic| try?) => do
 let l:=(("dv _|z1j ? ?|z7s|z7k|YH ? ?|Pu ?|z7m|Q2q ? ?|z7v _ nd ?|z7y @ ? ? ?|z0c ? ? ?|QN ?|z3x ? ?|Zl|Q2z # ? ?|z7t ?|z8k B.Nv ?|z8f ? ?|z7u ?|Q2n ?|z78 _ ?|z7w _ nd ?|z1x ? ?|MS ? ?|z1z ?|GH ?|z1s|y3j ? ? ?|z7o ? ?|Q1a # ? ?|z5b ? ?|Z2 ?|y6n B.EX ?|z76 _ ?|z1y|z1i ?|Q20 # ? ?|Q2x ? ?|z0b|Q2u # ? ?|Q2w ? ?|z15 _ B.Nv|z7l|z8e ? ?|z7x _ nd PassesOwn.leaving rfl ? ?|z79 _|=z1u rfl ? ! ? ? ?|z1n _ nd PassesOwn.leaving rfl B.EW ? ?|y7d ?|z7p ?|z3f _ _ nd PassesOwn.leaving rfl ? ?|z1k ?|Q4b # ? ?|Sm ? ?|z28 B.Nu ?|z7q ? ?|q22 O6 M.xb M.jt rfl ?|y6h _ PassesOwn.leaving ? ?|z8i ? ?|q5m M.xu M.xh|Q1d|z3c ? ?|z1l ?|Q2r ? ?|y24 ?|z1m _|q5m M.A6 M.AX|Q4a # ? ?|%0|z8h ?|y79 ? ?|z1t ?|z98 # ? ?|=x7g _ nd rfl B.EW ? ! ? ? ?|=y6l rfl B.EW ? ! ? ? ?|Q2y ? ?|=y7c rfl ? ! ? ? ?|y23 ?|q22 O6 M.uQ M.lj rfl ?|y2d|%1|q22 O6 M.B6 M.nq rfl ?|Q0j ? ?|z8d ? ?|q5m M.tX M.tu|x3p B.x_ ?|=x91 _ nd rfl ? ! ? ? ?|Q2m ? ? ?|%2|z4c ? ?|Q0g _ ? ?|q22 O6 M.E2 M.qf rfl ?|y2p rfl B.EX B.yq ?|z7r ?|Q2v # ? ?|q22 O6 M.AS M.lL rfl ?|Q2s ? ?|%3|Z9|%4|pv _|%5|z4x M.nt # ? ?|z4y _ M.nt # ? ?|Q06 M.nt # ? ?|q22 O6 M.AR M.lK rfl ?|z30 _ nd|y71 B.wW ?|%6|Q00 # ? ?|z33 _ # ? ?|z31 _|q5m M.tW M.tq|q5m M.Fi M.E3|=y7z rfl ? ! ? ? ?|z99 rfl B.Nt ?|z27 rfl B.Nw ?|q5m M.sj M.rS|Q0z # ? ?|Q2t ? ?|Q01 # ? ?|q22 O6 M.yx M.oU rfl ?|y3s rfl B.EX B.Ny ?|z3h B.wW ?|y8a _ nd @ ? ? ?|z4v ? ?|%7|q5m M.tV M.tm|%8|z4z _|z5d B.Et ?|x3p B.wG ?|Q0f _ ?|z8g ? ?|z1o _ nd PassesOwn.leaving rfl B.EW ? ?|%9|%10|%11|%12|%13|%14|%15|%16|%17|%18|%19|%20|z4q _ nd PassesOwn.leaving rfl ? ?|z3r ? ?|z7z @ ? ? ?|HM ?|Z3 ?".splitOn "|").map fun s=>s.splitOn " ").reverse
 let q:=#[←`(tactic| refine z4k _ _ (by decide) (by exact HG C (by rfl) (by rfl)) ?_ ?_ ?_),←`(tactic| refine RL (MY (z8m ?_ (MY SM))) (by decide)),←`(tactic| refine S1 _ ["word", "names"] ?_),←`(tactic| refine Za (hsc := rfl) (hN := rfl) 49 o6 (by exact cc C (by decide) (by rfl) (by rfl)) ?_ ?_ (by exact Vf (IM rfl) BM) (λ_ => rfl) ?_ (WM (by kernel_rfl))),←`(tactic| refine y8n _ _ (.many .bl) (w := (.int 0)) M.nt (Jd (OD hr)) nd ?_ rfl),←`(tactic| refine y8k _ (by exact C.lam) ?_ ?_ ?_ ?_),←`(tactic| refine RL (z4d ?_ (MY SM)) (by decide)),←`(tactic| refine y8h _ ["row", "word", "names", "first", "form"] nd ?_),←`(tactic| refine S1 _ ["word", "names", "first"] ?_),←`(tactic| refine nF (c0 := .ref _) rfl (nZ M.lK) B.aL ?_),←`(tactic| refine nF (c0 := .ref _) rfl (nZ M.nq) B.aL ?_),←`(tactic| refine nF (c0 := .ref _) rfl (nZ M.lL) B.aL ?_),←`(tactic| refine nF (c0 := .ref _) rfl (nZ M.jt) B.aL ?_),←`(tactic| refine nF (c0 := .ref _) rfl (nZ M.qf) B.aL ?_),←`(tactic| refine nF (c0 := .ref _) rfl (nZ M.lM) B.aL ?_),←`(tactic| refine nF (c0 := .ref _) rfl (nZ M.kC) B.aL ?_),←`(tactic| refine nF (c0 := .ty _) rfl (z14 PyProof.Rows.Boot.«ValueError» B.lT) B.aL ?_),←`(tactic| refine z1p (by exact CH.oj) (hr.hm _) ?_),←`(tactic| refine nF (c0 := .ref _) rfl (nZ M.lj) B.aL ?_),←`(tactic| refine nF (c0 := .ref _) rfl (nZ M.oU) B.aL ?_),←`(tactic| refine z70 M.kB nd (i := 2) rfl rfl ?_ ?_)]
 let mut x←`(tactic| first | exact uj 0 (C2 (by kernel_rfl)) | exact Ud (C2 (by kernel_rfl)) rfl | exact C_ | exact C' | exact hr | exact hr.mono (lz (by decide)) | exact hr.mono (Nat.le_add_right _ _) | assumption | decide)
 for r in l do
  let s:=r.head!
  let a←r.tail!.toArray.mapM λa=>match a with|"?"=>`(?_)|"_"=>`(_)|"!"=>`((nj (by kernel_rfl)))|"@"=>`((by exact cc C (by decide) (by rfl) (by rfl)))|"#"=>`((OD hr))|a=>pure ⟨Lean.mkIdent a.toName⟩
  let f:=Lean.mkIdent (s.dropWhile (·=='=')).toName
  let y:Lean.TSyntax `tactic←if s.startsWith "%" then pure q[(s.drop 1).toNat!]! else if s.startsWith "=" then `(tactic| refine $f:ident (hsc := rfl) (hN := rfl) $a*) else let z:=Lean.Syntax.mkApp f a; `(tactic| refine $z)
  x←`(tactic| first | $y:tactic | $x:tactic)
 `(tactic| (intros; $x:tactic) <;> try?)
local macro_rules | `(tactic| walk_at "o") => `(tactic| (intro P w K mg base a n B M C CH BM nd f bN A outer s H E Z hr hz IM; try?))
set_option hygiene true
seal eY ix dF eZ dn dC aA gU iY dP fS c8 fT aa gK ox ck gW jA gL eN mO jj gv uO aS gA fU eO cy dQ jk af AQ bG j6 lC cX ag kZ k8 cB iZ oy lD mP cz aV lE j7 iy ao aG mQ j8 j9 i0 cO e8 av e9 oz bI jQ ae cP pf kK jH bK
def y8y:OO 0:=by walk_at "o"
def zbv:OO 1:=by walk_at "o"
def zbj:OO 2:=by walk_at "o"
def z5i:OO 3:=by walk_at "o"
def zbk:OO 4:=by walk_at "o"
def zaU:OO 5:=by walk_at "o"
def zai:OO 6:=by walk_at "o"
def z5j:OO 7:=by walk_at "o"
def X4:OO 8:=by walk_at "o"
def zbl:OO 9:=by walk_at "o"
def zaj:OO 10:=by walk_at "o"
def y35:OO 11:=by walk_at "o"
def zak:OO 12:=by walk_at "o"
def X5:OO 13:=by walk_at "o"
def zal:OO 14:=by walk_at "o"
def Uz:OO 15:=by walk_at "o"
def z5k:OO 16:=by walk_at "o"
def XX:OO 17:=by walk_at "o"
def y36:OO 18:=by walk_at "o"
def Xk:OO 19:=by walk_at "o"
def zbw:OO 20:=by walk_at "o"
def zaE:OO 21:=by walk_at "o"
def zaV:OO 22:=by walk_at "o"
def zbx:OO 23:=by walk_at "o"
def zam:OO 24:=by walk_at "o"
def XY:OO 25:=by walk_at "o"
def y8z{P:qM}(B:yd P w K mg)(M:nM K mg a)(C:qB P w K mg g0 a n)(CH:sx P w K mg g0 a n)(BM:ZQ g0 mg):∀(f:fh)(bN:e5)(A:tf)(l4:L tY)(s:kx)(H:Hp)(E:XK)(Z:Zt),bL n (A.LO (uD.ri.Ot "settle" (ax (s8 26)) s.d_.e6.eG f bN))->kO Z (eM (eJ P w) P w K mg g0 ["forms", "waiting", "least", "word", "last"] "settle" (ax (s8 26)) f bN A l4 s H E) (λ_=>E) (bB (s8 26)) (DG K a (g9 K a n)):=by
 have nd:(["forms", "waiting", "least", "word", "last"]:L eh).p9:=by decide
 intro f bN A l4 s H E Z hr;try?
def zan:OO 27:=by walk_at "o"
def zao:OO 28:=by walk_at "o"
def zby:OO 29:=by walk_at "o"
def XZ:OO 30:=by walk_at "o"
def zbm:OO 31:=by walk_at "o"
def zaW:OO 32:=by walk_at "o"
def zbz:OO 33:=by walk_at "o"
def zbn:OO 34:=by walk_at "o"
def zaX:OO 35:=by walk_at "o"
def zaF:OO 36:=by walk_at "o"
def zap:OO 37:=by walk_at "o"
def zaG:OO 38:=by walk_at "o"
def zaH:OO 39:=by walk_at "o"
def X6:OO 40:=by walk_at "o"
def Xl:OO 41:=by walk_at "o"
def zaq:OO 42:=by walk_at "o"
def zbA:OO 43:=by walk_at "o"
def zar:OO 44:=by walk_at "o"
def zas:OO 45:=by walk_at "o"
def zat:OO 46:=by walk_at "o"
def zbB:OO 47:=by walk_at "o"
def Vg:OO 48:=by walk_at "o"
theorem X7{P:qM}(B:yd P w K mg)(M:nM K mg a)(C:qB P w K mg g0 a n):oi P w K mg g0 n o6 "state" (qL 3 (Fx K a (g9 K a n))):=
 CQ ⟨rfl,rfl,rfl,rfl,λ_ _=>rfl,λ_=>rfl,by decide +kernel,by decide +kernel⟩ (λcl pm c' gT u=>rfl) λZ f cd cl A l4 s H hr=>by try?
unseal eY ix dF eZ dn dC aA gU iY dP fS c8 fT aa gK ox ck gW jA gL eN mO jj gv uO aS gA fU eO cy dQ jk af AQ bG j6 lC cX ag kZ k8 cB iZ oy lD mP cz aV lE j7 iy ao aG mQ j8 j9 i0 cO e8 av e9 oz bI jQ ae cP pf kK jH bK
theorem zz:∀i,i<49->sM i=false->OO i
 |0,_,_=>y8y
 |1,_,_=>zbv
 |2,_,_=>zbj
 |3,_,_=>z5i
 |4,_,_=>zbk
 |5,_,_=>zaU
 |6,_,_=>zai
 |7,_,_=>z5j
 |8,_,_=>X4
 |9,_,_=>zbl
 |10,_,_=>zaj
 |11,_,_=>y35
 |12,_,_=>zak
 |13,_,_=>X5
 |14,_,_=>zal
 |15,_,_=>Uz
 |16,_,_=>z5k
 |17,_,_=>XX
 |18,_,_=>y36
 |19,_,_=>Xk
 |20,_,_=>zbw
 |21,_,_=>zaE
 |22,_,_=>zaV
 |23,_,_=>zbx
 |24,_,_=>zam
 |25,_,_=>XY
 |26,_,h=>nomatch h
 |27,_,_=>zan
 |28,_,_=>zao
 |29,_,_=>zby
 |30,_,_=>XZ
 |31,_,_=>zbm
 |32,_,_=>zaW
 |33,_,_=>zbz
 |34,_,_=>zbn
 |35,_,_=>zaX
 |36,_,_=>zaF
 |37,_,_=>zap
 |38,_,_=>zaG
 |39,_,_=>zaH
 |40,_,_=>X6
 |41,_,_=>Xl
 |42,_,_=>zaq
 |43,_,_=>zbA
 |44,_,_=>zar
 |45,_,_=>zas
 |46,_,_=>zat
 |47,_,_=>zbB
 |48,_,_=>Vg
 |_+49,h,_=>nS h (by omega)
def C0{ws:L W}(hw:g9 K a (n+1) 26 ws≠.no):ws.J=3/\(DG K a (g9 K a n) (kj 5 ws)).fm=g9 K a (n+1) 26 ws:=by
 rw[show g9 K a (n+1) 26 ws=_ from Py]at hw |-
 exact⟨(xR hw).1,(xR hw).2.symm⟩
theorem LP:bV ["forms", "waiting", "least", "word", "last"] ["forms", "waiting", "least"] (ax (s8 26)):=⟨rfl,rfl,rfl,by decide +kernel,rfl,by decide +kernel,by decide +kernel⟩
theorem zaI{P:qM}(A:At K mg "_law_other" (s8 45) ["_law_e"])(B:yd P w K mg)(M:nM K mg a):oh P w K mg g0 (n+1) "_law_other" ["_law_e"] (nG K (g9 K a (n+1) 45)):=
 HJ A (⟨rfl,rfl,rfl,by decide +kernel,rfl,by decide +kernel,by decide +kernel⟩:bV ["_law_e"] ["_law_e"] (ax (s8 45))) (λws hw=>(xR (show(if ws.J=1 then(Bh K a (g9 K a n) (Zh 1 ws)).fn else .no)≠.no from hw)).1) λws hw f bN A l4 s H Z hr=>⟨Bh K a (g9 K a n),(YH (z0c (HM (MS (GH (nF (c0:=.ei _) rfl (nZ M.lK) B.aL (dv 0))) (MS (GH (nF (c0:=.ei _) rfl (nZ M.nq) B.aL (dv 0))) (MS (GH (nF (c0:=.ei _) rfl (nZ M.lL) B.aL (dv 0))) (Z2 (GH (nF (c0:=.ei _) rfl (nZ M.jt) B.aL (dv 0))))))))
  (Pu (QN z0b))
  Zl)
  (Pu (QN (Sm (nF (c0:=.ei _) rfl (nZ M.qf) B.aL (dv 0)) (Sm (nF (c0:=.ei _) rfl (nZ M.lM) B.aL (dv 0)) (Z3 (nF (c0:=.ei _) rfl (nZ M.kC) B.aL (dv 0)))))))),(xR (show(if ws.J=1 then(Bh K a (g9 K a n) (Zh 1 ws)).fn else .no)≠.no from hw)).2.symm⟩
theorem yp{P:qM}(A:∀i,i<49->At K mg (n8 i) (s8 i) (ps i))(B:yd P w K mg)(M:nM K mg a):∀n,sx P w K mg g0 a n
 |0=>⟨BZ (A 45 (by decide))⟩
 |n+1=>⟨zaI (A 45 (by decide)) B M⟩
section
variable{P:qM}
theorem oP(A:∀i,i<49->At K mg (n8 i) (s8 i) (ps i))(B:yd P w K mg)(M:nM K mg a)(BM:ZQ g0 mg)(MK:∀i∈JB,MP K mg i):∀n,qB P w K mg g0 a n
 |0=>⟨λi h _=>B0 (A i h),B1 (A 26 (by decide)),HR⟩
 |n+1=>⟨λi h hM=>by
  rw[show n+1+lv i=n+lv i+1 from dt.add_right_comm n 1 (lv i),show g9 K a (n+1) i=_ from(gE h).iD (kl (by rw[hM];decide))];exact HI (A i h) (λz=>MK i (w5t.mp z)) (GY h) (zz i h hM B M (oP A B M BM MK n) (yp A B M n) BM (GY h).nd),B2 (A 26 (by decide)) LP (λws hw=>(C0 hw).1) λws hw f bN A' l4 s H E Z hr=>⟨_,y8z B M (oP A B M BM MK n) (yp A B M n) BM f bN A' l4 s H E Z hr,(C0 hw).2⟩,z5g λi l h=>by
  unfold de at h;split at h
  .cases h;exact⟨_,X7 B M (oP A B M BM MK n)⟩
  .cases h⟩
end
theorem at_k{h:fH}{st:vv}{ps:L eh}{f:fh}{od an:fG fh}{sl:tP (fG e5)}{oc kV dc pm cd ct:e5}(X:K.In h)(G:h.Ns EO mg)(a:kd.W._j K EO x=O (O (.ei f)))(l:K.fI f=O ⟨oc,od,.Yv (kd.W._v x x (eA st) (bB st) (ax st) .none kV dc pm an cd ct),sl⟩)(c:kd.W._d K cd x=true)(k:ZY K (.ei f)=true)(hb:∀(kV Q1 pm:e5)(an:fG fh)(bN ct:e5)(us:L e5),us.J=ps.J->Γ (kd.W._v x x (eA st) (bB st) (ax st) .none kV Q1 pm an bN ct) ⟨us,[]⟩=pR (ps.uu us)):At K mg x st ps:=
 ⟨⟨_,_,SF l c k,kd.W.mg_of X G a,(SF l c k).Ζ hb⟩⟩
theorem mk_k{h:fH}{st:vv}{f:fh}{od an:fG fh}{sl:tP (fG e5)}{oc kV dc pm cd ct:e5}{cc PP:fh}(X:K.In h)(G:h.Ns EO mg)(a:kd.W._j K EO x=O (O (.ei f)))(l:K.fI f=O ⟨oc,od,.Yv (kd.W._v x x (eA st) (bB st) (ax st) .none kV dc pm an cd ct),sl⟩)(v:cd=.ei cc)(hh:Û K cc PP=true)(m:(EO,iF PP ((x++".<locals>.")++"<lambda>"))∈K):∀f oc od fd sl,mg x=O (.ei f)->K.fI f=O ⟨oc,od,.Yv fd,sl⟩->mK K x fd._c:=λf oc od fd sl e1 e2=>by
 have z:=(kd.W.mg_of X G a).symm.iD e1;cases z;rw[l]at e2;cases e2;exact⟨cc,PP,_,v,hh,m⟩
def mk{l:kd.W._U}{fa:fh}{p0 p1 p2 p3 p4 p5 p6 zde p8 zdf:fh}{WY WZ W2 W3 W4 W5 W6:e5}(VW:mg "law"=O (.ei fa))(A:∀i,i<49->At K mg (n8 i) (s8 i) (ps i))(B:yd l.g_ w K mg)(M:nM K mg ⟨p0,p1,p2,p3,p4,p5,p6,zde,p8,zdf,WY,WZ,W2,W3,W4,W5,W6⟩)(MK:∀i∈JB,MP K mg i)(n:dt)(hL:∀a:a9,nM K mg a->∀ns:L eW,ns.J<=63->g9 K a (n+1) Nh [.fy (ns.ej .d0)]=.ok (.fr (.bl true))):
  ∃fd:Zp,(∀(s:kx)(v:e5),_r s fd ⟨[v],[]⟩ [("_law_script", v)])/\∀g0:fH,K.In g0->g0.Ns EO mg->ZQ g0 mg->fN l.g_ w K mg g0 (eJ l.g_ w) (n+1) fa fd ["_law_script"] (qv K):=by
 let⟨f,fd,F,m,_⟩:=(A 48 (by decide)).ex;cases VW.symm.iD m;have F':=F;let⟨_,_,_,_,_,_,_,_,_,rfl,_⟩:=F.ex;exact⟨_,λs v=>.ϵ rfl,λg0 _ _ BM=>(w8 F' m (λz=>MK 48 (w5t.mp z)) (GY (by decide)) (zz 48 (by decide) rfl B M (oP A B M BM MK n) (yp A B M n) BM (GY (by decide)).nd)).pQ λvs H Q E q=>y6o (hL _ M) q⟩
local macro_rules | `(tactic| rw?) => do
 let l:=(("y8o y8p y8q y8l y3x y0k W' y8m z40 z41 Q4p Q4q Q4r y8i Q1e Q1f y8b y8c z43 Q07 z44 z4r z4s z4l z4m z4n z4o z4p Q4l Q03 Q4g Q4i y72 y73 z4e y74 z4f Q4j Q4k y75 z4g z4h y6q z34 z35 z36 z37 y7w y7x Q4f z3s z3t z3u z3v y7o y29 y3a y25 y0b y26 y27 y0c y0d y0e x7i y7m y28 y7n z3n z3o Q0l y66 y67 y2t z3d y2u y2v y68 Q0m y69 y7a y2w z3e Q0n Q0o Q0p le_str z3i o7 y7e y7f y7g y7h y7i y2z Q0r z3j Q0s x99 y7j y7k z8q z8r z8s z8t z8u z8v z8w z2b z17 z18 z19 y6p z8n z8o z8p z2a Q22 Q23 Q24 Q25 z8x x92 x93 y2f z8y z8z z2c Vr Q26 Q27 z2d z2e z80 z81 Q28 z82 z2f z83 z84 Q29 z2g z85 Q3a z86 z2h z87 z88 Q3b Q3c Q3d Q3e z2i z89 z2j z2k z2l z9a z9b z9c z2m z2n z2o y6r z2p z2q y6s y6t y2g y6u y2h y6v y6w y2i z9d z2r y2j xG z2s z2t z2u z2v z2w y6x z9e y2k Q3f z9f z9g z9h z2x z9i Q3g Q3h z9j z2y y6y y2l z2z y6z z9k z9l z9m z9n z9o z20 z21 z22 z23 y60 x94 x95 y2m y61 y2n z24 y62 z9q z9r z9s z9t z9u z25 z9v z9w Q3i Q3j Q3k Q3l Q3m Q3n Q3o Q3p Q3q z0j Q3r Q3s Q3t Q3u Q3v Q3w Q3x Q3y z9x z9y z9z z90 z91 z92 z93 WB WA Q3z Q30 Q31 Q32 Q33 Q34 Q35 Q36 Q37 Q38 Q39 Xs Xr Xu Xt Xx at0 at1 at2 xJ gb An init Option.map_some Option.bind_some List.map_cons List.map_nil List.length_cons List.length_nil List.replicate_succ List.replicate_zero List.cons_append List.nil_append List.getElem?_cons_zero List.getElem?_cons_succ List.set_cons_zero List.set_cons_succ if_true if_false decide_eq_true_eq reduceIte Bool.false_eq_true ite_true ite_false Nat.reduceSub Nat.reduceAdd Nat.reduceLeDiff Nat.zero_add Nat.le_refl Int.reduceLT Int.reduceLE Int.reduceNeg true_and and_true true_or or_true false_and and_false false_or or_false not_true_eq_false not_false_eq_true decide_true decide_false Bool.not_true Bool.not_false String.reduceEq Nat.reduceEqDiff y63 Q0a Q4d Q4e Q0b Q0c Q0d y2q z29 Int.reduceToNat Int.reducePow Nat.reduceLT Nz NA Int.reduceEq Int.reduceMod Int.reduceDiv Int.reduceAdd Int.reduceSub Int.reduceMul".splitOn " ").map fun s=>Lean.mkIdent s.toName).toArray
 `(tactic| try simp only [$[$l:ident],*])
def Aa(n:dt)(ns:L eW){k:eW}(hk:0<=k):g9 K a (n+1) v3 [.fy (ns.ej .d0),.d0 k]=.ok (.fr (.d0 (ns.mF k.oR 0))):=by
 rw[XT];unfold Kh;rw?
 by_cases h:k<ns.J
 .rw[gE (by simpa using h),MZ hk]
  have e:(ns.ej W.d0)[k.oR]?=O (.d0 (ns.mF k.oR 0)):=by
   have:k.oR<ns.J:=by omega
   simp[L.mF,this]
  rw[e];rw?
 .rw[kl (by simpa using h)]
  have:ns.mF k.oR 0=0:=by
   have:¬k.oR<ns.J:=by omega
   simp[L.mF,this]
  rw[this]
set_option genInjectivity true in
inductive Fm where
 |is (b:fJ)|at (p:dt)|not (f:Fm)|and (f g:Fm)|or (f g:Fm)|E1 (f g:Fm)
variable{f:Fm}{gs:L Fm}
def mE:Fm->W
 |.is b=>.ff [.str "is", .bl b]
 |.at p=>.ff [.str "at", .d0 p]
 |.not f=>.ff [.str "not", mE f]
 |.and f g=>.ff [.str "and", mE f,mE g]
 |.or f g=>.ff [.str "or", mE f,mE g]
 |.E1 f g=>.ff [.str "odd", mE f,mE g]
def Fm.oY:Fm->dt
 |.is _=>1
 |.at _=>1
 |.not f=>f.oY+1
 |.and f g=>max f.oY g.oY+1
 |.or f g=>max f.oY g.oY+1
 |.E1 f g=>max f.oY g.oY+1
def Fm.jr(m:dt):Fm->Prop
 |.is _=>w7
 |.at p=>p<m
 |.not f=>f.jr m
 |.and f g=>f.jr m/\g.jr m
 |.or f g=>f.jr m/\g.jr m
 |.E1 f g=>f.jr m/\g.jr m
def Fm.tN(pS:L fJ):Fm->fJ
 |.is b=>b
 |.at p=>pS.mF p false
 |.not f=>!f.tN pS
 |.and f g=>f.tN pS&&g.tN pS
 |.or f g=>f.tN pS||g.tN pS
 |.E1 f g=>f.tN pS != g.tN pS
theorem Fm.c9:∀f:Fm,1<=f.oY
 |.is _=>w0d _
 |.at _=>w0d _
 |.not f=>by simp only[Fm.oY];omega
 |.and f g=>by simp only[Fm.oY];omega
 |.or f g=>by simp only[Fm.oY];omega
 |.E1 f g=>by simp only[Fm.oY];omega
def UA{pS:L fJ}(h:p<pS.J):et (pS.ej W.bl) (p:eW)=O (.bl (pS.mF p false)):=by
 refine v_ ?_;simp[L.mF,h]
def Fm.eG:Fm->dt
 |.is _=>1
 |.at _=>1
 |.not f=>f.eG+1
 |.and f g=>f.eG+g.eG+1
 |.or f g=>f.eG+g.eG+1
 |.E1 f g=>f.eG+g.eG+1
def fB(c:eW)(m:dt):Fm:=if m=0\/c%8=7 then .is (decide (c / 8%2=1))else .at (c / 8%m).oR
def Qx(c:eW)(m:dt):(fB c m).jr m:=by
 unfold fB;split
 .trivial
 .rename_i h;show(c / 8%m).oR<m;have h1:=w1x (c / 8) (show(m:eW)≠0 by omega);have h2:=w1q (c / 8) (show(0:eW)<m by omega);omega
def OZ(c:eW)(m:dt):(fB c m).oY=1:=by
 unfold fB;split<;>rfl
def Pz(c:eW)(m:dt):(fB c m).eG=1:=by
 unfold fB;split<;>rfl
def K'(n:dt)(c:eW)(m:dt):g9 K a (n+1) FN [.d0 c,.d0 m]=.ok (.fr (mE (fB c m))):=by
 rw[XU];unfold Ki;rw?;unfold fB
 by_cases h:m=0
 .subst h;simp[mE]
 .rw[kl (by omega)]
  by_cases h9:c%8=7
  .rw[gE h9,gE (.j' h9)];rfl
  .rw[kl h9,gE (show(0:eW)<m by omega),kl (show ¬(m=0\/c%8=7) by omega)];rw?;have h1:=w1x (c / 8) (show(m:eW)≠0 by omega);simp only[mE];congr 4;simp;omega
def Ok(m:dt)(st:L Fm)(k z:dt):Prop:=(∀f∈st,f.jr m)/\(st.ej Fm.oY)._l<=k/\(st.ej Fm.eG)._l<=z
theorem Ok.oO:∀{st:L Fm}{k z:dt},Ok m st k z->st.J<=k
 |[],k,_,_=>by simp
 |f::st,k,z,h=>by
  have h2:Ok m st (k-f.oY) (z-f.eG):=⟨λg hg=>h.1 g (by simp[hg]),by have:=h.2.1;simp at this;omega,by have:=h.2.2;simp at this;omega⟩
  have:=h2.oO;have:=f.c9;have:=h.2.1;simp at this |-
  omega
theorem Ok.nV{st : L Fm}{k z : dt}{f : Fm}(h : Ok m st k z)(hf : f.jr m){k' z' : dt}(hk : k + f.oY <= k')(hz : z + f.eG <= z') : Ok m (st ++ [f]) k' z' :=
  ⟨fun g hg => by rcases w0w.mp hg with z | z
                  . exact h.1 g z
                  . rw [w0u.mp z]; exact hf, by have := h.2.1; simp; omega, by have := h.2.2; simp; omega⟩
theorem Ok._L{st:L Fm}{k z:dt}(h:Ok m (st++[f]) k z):f.jr m/\(f.oY<=k/\f.eG<=z)/\Ok m st (k-f.oY) (z-f.eG):=
 ⟨h.1 f (by simp),⟨by have:=h.2.1;simp at this;omega,by have:=h.2.2;simp at this;omega⟩,λg hg=>h.1 g (by simp[hg]),by have:=h.2.1;simp at this;omega,by have:=h.2.2;simp at this;omega⟩
theorem DM(st:L Fm):(st.ej mE).J=st.J:=w0b ..
def AF(h:j=0\/j=1\/j=2):et [W.str "and", W.str "or", W.str "odd"] j=O (.str (if j=0 then "and" else if j=1 then "or" else "odd")):=by
 rcases h with rfl|rfl|rfl<;>rfl
def lU(j:eW)(f g:Fm):Fm:=if j=0 then .and f g else if j=1 then .or f g else .E1 f g
def y80(f g:Fm):(W.ff [.str (if j=0 then "and" else if j=1 then "or" else "odd"),mE f,mE g])=mE (lU j f g):=by
 unfold lU;split
 .rfl
 .split<;>rfl
def y81{g:Fm}(h1:f.jr m)(h2:g.jr m):(lU j f g).jr m:=by
 unfold lU;split
 .exact⟨h1,h2⟩
 .split<;>exact⟨h1,h2⟩
def zbo(f g:Fm):(lU j f g).oY=max f.oY g.oY+1:=by
 unfold lU;split
 .rfl
 .split<;>rfl
def y37(f g:Fm):(lU j f g).eG=f.eG+g.eG+1:=by
 unfold lU;split
 .rfl
 .split<;>rfl
def MN{l:L α}(h:0<l.J):∃s x,l=s++[x]:=by
 rcases L.eq_nil_or_concat l with rfl|⟨s,x,rfl⟩
 .simp at h
 .exact⟨s,x,by simp⟩
theorem Q7{i:dt}(B:dt)(I:dt->L S->Prop):∀(ws:L W)(k:dt)(e:L S),I k e->k+ws.J<=B->(∀(j:dt)(w:W)(e:L S),j<B->w∈ws->I j e->∃e',b (e.my i (.fr w))=.nx e'/\I (j+1) e')->∃e',bT i b ws e=.nx e'/\I (k+ws.J) e'
 |[],k,e,h0,_,_=>⟨e,rfl,h0⟩
 |w::ws,k,e,h0,hB,h=>by
  rw[w0r]at hB;let⟨e1,h1,h2⟩:=h k w e (by omega) (by simp) h0;let⟨e2,h3,h4⟩:=Q7 B I ws (k+1) e1 h2 (by omega) λj u e hj hu=>h j u e hj (by simp[hu])
  refine⟨e2,?_,?_⟩
  .rw[xF,h1,xG,h3]
  .rw[w0r];have:k+1+ws.J=k+(ws.J+1):=by omega
   rw[<- this];exact h4
def zbC(n:dt)(cs:W)(m:dt)(j:dt)(c:eW)(e:L S)(hj:j<1000)(h:∃(st:L Fm)(z3 z4 z5 z6:S),e=[.fr cs,.fr (.d0 m),.gD none (st.ej mE),z3,z4,z5,z6,.no,.no]/\0<st.J/\Ok m st (j+1) (j+1)):
  ∃e',FJ K a (g9 K a (n+1)) (e.my 3 (.fr (.d0 c)))=.nx e'/\∃(st:L Fm)(z3 z4 z5 z6:S),e'=[.fr cs,.fr (.d0 m),.gD none (st.ej mE),z3,z4,z5,z6,.no,.no]/\0<st.J/\Ok m st (j+1+1) (j+1+1):=by
 let⟨st,z3,z4,z5,z6,rfl,hp,ok⟩:=h;have hl:=ok.oO;unfold FJ;rw?
 have uf:∃e',(if(st.ej mE).J<16777216 then SR.nx [.fr cs,.fr (.d0 m),.gD none (st.ej mE++[mE (fB (c / 9) m)]),.fr (.d0 c),.fr (.d0 (c%9)),.fr (.d0 (c / 9)),z6,.no,.no]else SR.no)=.nx e'/\∃(st:L Fm)(z3 z4 z5 z6:S),e'=[.fr cs,.fr (.d0 m),.gD none (st.ej mE),z3,z4,z5,z6,.no,.no]/\0<st.J/\Ok m st (j+1+1) (j+1+1):=by
  rw[gE (by rw[DM];omega)];exact⟨_,rfl,st++[fB (c / 9) m],_,_,_,_,by rw[w0m];rfl,by simp,ok.nV (Qx _ m) (by rw[OZ];omega) (by rw[Pz];omega)⟩
 by_cases c4:c%9=0
 .rw[gE c4];let⟨s,f,rfl⟩:=MN hp;rw[w0m];rw?;let⟨p1,p2,p3⟩:=ok._L;rw[gE (by rw[w0g,w2b]at hl;rw[DM];omega)];exact⟨_,rfl,s++[.not f],_,_,_,_,by rw[w0m];rfl,by simp,p3.nV (f:=.not f) p1 (by simp only[Fm.oY];omega) (by simp only[Fm.eG];omega)⟩
 .rw[kl c4]
  by_cases c5:c%9<5
  .rw[gE c5]
   by_cases IZ:1<st.J
   .let⟨s,g,rfl⟩:=MN (show 0<st.J by omega);let⟨s,f,rfl⟩:=MN (l:=s) (by simp at IZ;omega);rw[gE (by rw[DM];omega),w0m];rw?;rw[AF (by omega),w0m];rw?;let⟨p1,p2,p3⟩:=ok._L;let⟨p4,p5,p6⟩:=p3._L;rw[gE (by rw[w0g,w0g,w2b]at hl;rw[DM];omega),y80];exact⟨_,rfl,s++[lU (c / 9%3) f g],_,_,_,_,by rw[w0m];rfl,by simp,p6.nV (y81 p4 p1) (by rw[zbo];have:=f.c9;have:=g.c9;omega) (by rw[y37];omega)⟩
   .rw[kl (by rw[DM];omega),K' n _ m];rw?;exact uf
  .rw[kl c5,K' n _ m];rw?;exact uf
def zd'(h:j=0\/j=1\/j=2):et [W.str "or", W.str "odd", W.str "and"] j=O (.str (if j=2 then "and" else if j=0 then "or" else "odd")):=by
 rcases h with rfl|rfl|rfl<;>rfl
def iu(j:eW)(f g:Fm):Fm:=if j=2 then .and f g else if j=0 then .or f g else .E1 f g
def y38(f g:Fm):(W.ff [.str (if j=2 then "and" else if j=0 then "or" else "odd"),mE f,mE g])=mE (iu j f g):=by
 unfold iu;split
 .rfl
 .split<;>rfl
def y39{g:Fm}(h1:f.jr m)(h2:g.jr m):(iu j f g).jr m:=by
 unfold iu;split
 .exact⟨h1,h2⟩
 .split<;>exact⟨h1,h2⟩
def zau(f g:Fm):(iu j f g).oY=max f.oY g.oY+1:=by
 unfold iu;split
 .rfl
 .split<;>rfl
def zbp(f g:Fm):(iu j f g).eG=f.eG+g.eG+1:=by
 unfold iu;split
 .rfl
 .split<;>rfl
theorem KQ:∀(l:L dt)(k:dt),(l.n5 k)._l<=l._l
 |[],k=>by simp
 |x::l,0=>by simp
 |x::l,k+1=>by have:=KQ l k;simp;omega
def y4a(n:dt)(ns:L eW)(m:dt)(hl:ns.J<=900):∃f:Fm,g9 K a (n+2) J3 [.fy (ns.ej .d0),.d0 m]=.ok (.fr (mE f))/\f.jr m/\f.oY<=ns.J+1/\f.eG<=2*ns.J+2:=by
 rw[XW];unfold Kj;rw?;rw[K' n _ m];rw?
 let⟨e',h1,st,z1,z2,z3,z4,rfl,hp,ok⟩:=Q7 (i:=3) (b:=FJ K a (g9 K a (n+1))) 1000 (λk e=>∃(st:L Fm)(z3 z4 z5 z6:S),e=[.fr (.fy (ns.ej .d0)),.fr (.d0 m),.gD none (st.ej mE),z3,z4,z5,z6,.no,.no]/\0<st.J/\Ok m st (k+1) (k+1)) (ns.ej W.d0) 0 [.fr (.fy (ns.ej .d0)),.fr (.d0 m),.gD none [mE (fB ((ns.ej W.d0).J) m)],.no,.no,.no,.no,.no,.no] ⟨[fB ((ns.ej W.d0).J) m],_,_,_,_,rfl,by simp,(λf hf=>by rw[w0u.mp hf];exact Qx _ _),by simp[OZ],by simp[Pz]⟩ (by simp;omega) (λj w e hj hw h=>by
  let⟨c,_,rfl⟩:=w1e.mp hw;exact zbC n _ m j c e hj h)
 rw[h1];rw[w0b,w2t]at ok;have vd:=ok.oO;rw?
 obtain⟨f0,oM,rfl⟩:∃f0 r,st=f0::r:=by
  cases st with
  |m8=>simp at hp
  |m6 x r=>exact⟨x,r,rfl⟩
 rw[w0j];rw?;rw[gE ⟨o4 (by omega) (by omega),o4 (by omega) (by simp;simp at vd;omega)⟩];rw?
 let⟨e',h2,f,z,rfl,h3,h4,h5⟩:=xD (b:=JW K a (g9 K a (n+1))) (i:=8) (lo:=1) (hi:=(((oM.ej mE).J+1:dt):eW)) oM.J (by rw[w0b];omega)
  (λj e=>∃(f:Fm)(z:S),e=[.fr (.fy (ns.ej .d0)),.fr (.d0 m),.gD none (mE f0::oM.ej mE),z1,z2,z3,z4,.fr (mE f),z]/\f.jr m/\f.oY<=f0.oY+((oM.ej Fm.oY).n5 j)._l/\f.eG<=f0.eG+((oM.ej Fm.eG).n5 j)._l+j)
  [.fr (.fy (ns.ej .d0)),.fr (.d0 m),.gD none (mE f0::oM.ej mE),z1,z2,z3,z4,.fr (mE f0),.no] ⟨f0,_,rfl,ok.1 f0 (by simp),by simp,by simp⟩ (by
  rintro j e hj ⟨f,z,rfl,q1,q2,q3⟩;unfold JW;rw?;rw[zd' (by omega)];rw?
  have hx:et (mE f0::oM.ej mE) (1+(j:eW))=O (mE oM[j]):=by
   rw[show(1:eW)+j=((j+1:dt):eW) by omega];refine v_ ?_;simp[hj]
  rw[hx];rw?;rw[y38];refine⟨_,rfl,iu _ f oM[j],_,rfl,y39 q1 (ok.1 _ (by simp)),?_,?_⟩
  .rw[zau,w3r,w1c,w0a hj];simp only[w5u,w6n,L.sum_append,w5i,L.sum_nil];have:=f.c9;have:=(oM[j]).c9;have:=f0.c9;omega
  .rw[zbp,w3r,w1c,w0a hj];simp only[w5u,w6n,L.sum_append,w5i,L.sum_nil];omega)
 rw[w0r]at *;rw[h2];rw?;have o2:=ok.2.1;have zc8:=ok.2.2;have:=KQ (oM.ej Fm.oY) oM.J;have:=KQ (oM.ej Fm.eG) oM.J;simp at o2 zc8;refine⟨f,rfl,h3,by omega,?_⟩;simp at vd;omega
def Gz(n:dt)(c k:eW):∃v:eW,g9 K a (n+1) Bg [.d0 c,.d0 k]=.ok (.fr (.d0 v)):=by
 rw[zaz];unfold KD;rw?;generalize hx:(c*48271+(k+1)*1299721)%2147483647=x;have h1:0<=x:=by rw[<- hx];exact w1x _ (by decide)
 have h2:x<2147483647:=by rw[<- hx];exact w1q _ (by decide)
 rw[gE ⟨by omega,by omega⟩];rw?;exact⟨_,rfl⟩
def d6(c:dt):fJ:=decide (97<=c)&&decide (c<=122)
def six(x:eh):fJ:=decide (x∈(["yes", "no", "not", "and", "odd", "or"]:L eh))
def ro(x:eh):fJ:=!six x&&(decide (1<=x.J)&&(decide (x.J<=8)&&x.rq.n9.oP d6))
def Jy(x:eh):Prop:=x.J<=1000/\∀c∈x.rq.n9,c<1000
def Vh{y:eh}:sX (.str y) (.str x)=decide (x=y):=by
 show(O (decide (y=x))).mF false=_;simp only[fG.getD_some,eq_comm]
theorem GA:∀ys:L eh,(ys.ej W.str).pX (λy=>sX y (.str x))=decide (x∈ys)
 |[]=>by simp
 |y::ys=>by
  rw[w0j,w4a,GA ys,Vh,<- fJ.decide_or];simp
theorem Gf:∀ys:L eh,(ys.ej W.str).oP bu=true
 |[]=>rfl
 |y::ys=>by rw[w0j,w3o,Gf ys];rfl
def EI(ys:L eh):ki (.str x) (.ff (ys.ej .str))=O (.bl (decide (x∈ys))):=by
 show(if bu (.str x)=true/\(ys.ej W.str).oP bu=true then O (W.bl ((ys.ej W.str).pX λy=>sX y (.str x)))else none)=_
 rw[gE ⟨rfl,Gf ys⟩,GA]
def Vi(ys:L eh):ki (.str x) (.fy (ys.ej .str))=O (.bl (decide (x∈ys))):=by
 show(if bu (.str x)=true/\(ys.ej W.str).oP bu=true then O (W.bl ((ys.ej W.str).pX λy=>sX y (.str x)))else none)=_
 rw[gE ⟨rfl,Gf ys⟩,GA]
theorem UB:ki (.str x) (.ff [.str "yes", .str "no", .str "not", .str "and", .str "odd", .str "or"])=O (.bl (six x)):=EI ["yes", "no", "not", "and", "odd", "or"]
def S6(h:x.J<=1000):bo [.str x]=O (.d0 x.J):=by rw[Tw,gE (by omega)]
section
def Qy(n:dt)(c:dt):g9 K a (n+1) Fz [.str ⟨#[c]⟩]=.ok (.fr (.bl (d6 c))):=by
 rw[Xb];unfold J0;rw?;have e1:("a":eh).rq.n9=[97]:=by decide +kernel
 have e2:("z":eh).rq.n9=[122]:=by decide +kernel
 have e3:∀x y:dt,decide ([x]<[y])=decide (x<y):=λx y=>by
  rw[ă,L.cons_lt_cons_iff];simp
 have e4:(!decide ((eh.mk #[c]).rq.n9<("a":eh).rq.n9))=decide (97<=c):=by
  rw[e1];show(!decide ([c]<[97]))=_;rw[e3];simp only[<- decide_not,w3q]
 have zb7:(!decide (("z":eh).rq.n9<(eh.mk #[c]).rq.n9))=decide (c<=122):=by
  rw[e2];show(!decide ([122]<[c]))=_;rw[e3];simp only[<- decide_not,w3q]
 rw[e4];cases q:decide (97<=c)with
 |false=>
  rw?;simp[d6,q]
 |true=>
  rw?;rw[zb7];simp[d6,q]
def y4c{d:gF W}(h:∀c:dt,∃e',d [.fr (.str ⟨#[c]⟩)]=.ok (.bl (d6 c)) e')(x:eh):cq cP d [] (d8 x)=O ((x.rq.n9.ej d6).ej .bl):=by
 have:=Gm (d:=d) (pe:=[]) (g:=λw=>match w with|.str z=>.bl (z.rq.n9.oP d6)|w=>w) (d8 x) λw hw=>by
  let⟨c,_,rfl⟩:=w1e.mp hw;let⟨e',h⟩:=h c;exact⟨e',by rw[h];simp⟩
 rw[this];simp[d8]
def y4d(h:x.J<=1000):(d8 x).J<=16777216:=by
 unfold d8;rw[w0b,w2a];have:x.rq.eG<=1000:=h;omega
def PB(n:dt)(x:eh)(hx:x.J<=1000):g9 K a (n+2) Ge [.str x]=.ok (.fr (.bl (ro x))):=by
 rw[zbu];unfold Lv;rw?;rw[S6 hx];rw?
 by_cases h1:(x.J:eW)<1
 .simp only[h1];rw?;have:¬1<=x.J:=by omega
  simp[ro,this]
 .simp only[h1];rw?;rw[S6 hx];rw?
  by_cases h2:(x.J:eW)>8
  .simp only[h2];rw?;have:¬x.J<=8:=by omega
   simp[ro,this]
  .simp only[h2];rw?;rw[UB];rw?;cases h3:six x with
   |true=>
    rw?;simp[ro,h3]
   |false=>
    rw?;rw[gE (y4d hx),y4c (λc=>⟨[.fr (.str ⟨#[c]⟩)],by unfold OY;rw?;rw[Qy n c];rw?⟩) x]
    rw?;rw[Vb];rw?;have g1:1<=x.J:=by omega
    have g2:x.J<=8:=by omega
    simp[ro,h3,g1,g2]
def zdZ(t:eh):Prop:=∀c∈t.rq.n9,d6 c=true
def tx(cs:L dt):eh:=⟨cs.ky⟩
def mH(cs:L dt):(tx cs).rq.n9=cs:=by simp[tx]
def h_(cs:L dt):(tx cs).J=cs.J:=by show cs.ky.eG=_;simp
def rE(x:eh):tx x.rq.n9=x:=by cases x;simp[tx]
def nC(as bs:L dt):tx as++tx bs=tx (as++bs):=by
 show eh.mk (as.ky++bs.ky)=_;simp[tx]
def He{x y:L dt}(h:tx x=tx y):x=y:=by rw[<- mH x,h,mH]
def pN:dt->L eh->L (wB×Sv)
 |_,[]=>[]
 |k,x::xs=>(.j' x,.h8 (k:eW))::pN (k+1) xs
theorem RW:∀(k:dt)(xs:L eh)(x:eh),pN k (xs++[x])=pN k xs++[(.j' x,.h8 ((k+xs.J:dt):eW))]
 |k,[],x=>by simp[pN]
 |k,y::xs,x=>by
  show(_,_)::pN (k+1) (xs++[x])=_;rw[RW (k+1) xs x];have:k+1+xs.J=k+(y::xs).J:=by simp;omega
  rw[this];rfl
theorem S7:∀(k:dt)(xs:L eh),(pN k xs).J=xs.J
 |_,[]=>rfl
 |k,x::xs=>by simp[pN,S7 (k+1) xs]
theorem S8:∀(k:dt)(xs:L eh),((pN k xs).pX λp=>decide (p.1=.j' x))=decide (x∈xs)
 |_,[]=>by simp[pN]
 |k,y::xs=>by
  show(decide ((YL.j' y:wB)=.j' x)||_)=_;rw[S8 (k+1) xs,<- fJ.decide_or,ă];simp[eq_comm]
theorem Ho{x:eh}:∀(k:dt)(xs:L eh),lk (pN k xs) (.j' x)=(kh x xs).ej λj=>.h8 ((k+j:dt):eW)
 |_,[]=>rfl
 |k,y::xs=>by
  have ih:=Ho (x:=x) (k+1) xs;unfold lk at ih |-
  show fG.ej _ (L.Ć _ ((.j' y,.h8 (k:eW))::pN (k+1) xs))=_
  by_cases h:y=x
  .subst h;simp[kh]
  .have h1:decide ((YL.j' y:wB)=.j' x)=false:=by simp[h]
   rw[w3c,h1,ih];show _=fG.ej _ (if y=x then _ else _);rw[kl h,fG.map_map];congr 1;funext j
   simp only[É.comp];congr 2;omega
theorem GO:∀xs:L eh,(kh x xs).sG=decide (x∈xs)
 |[]=>by simp[kh]
 |y::xs=>by
  unfold kh
  by_cases h:y=x
  .simp[h]
  .rw[kl h,w2m,GO xs,ă,w0h];exact⟨.j',λz=>z.ke (λe=>nS e.symm h) id⟩
def UC(h:d6 c=true):c<1000:=by
 unfold d6 at h;rw[<- fJ.decide_and]at h;have:=Φ h;omega
def qq(h:ro x=true):six x=false/\1<=x.J/\x.J<=8/\zdZ x:=by
 unfold ro at h;simp only[w0q,w3p,ϫ,w1l]at h;exact⟨h.1,h.2.1,h.2.2.1,h.2.2.2⟩
def RX(h:ro x=true):Jy x:=by
 let⟨_,_,h2,h3⟩:=qq h;exact⟨by omega,λc hc=>UC (h3 c hc)⟩
def GB{l:L W}{k:dt}(h:k<=l.J):fE l (O (k:eW)) none=l.m9 k:=by
 unfold fE;rw[HT.kH,HT.gw,w2u h,w1u (by simp)]
def RY{k:dt}(h:k<xs.J):et (xs.ej W.str) (k:eW)=O (.str xs[k]):=by
 rw[MZ (by omega),w2j,w1c,w0a h];rfl
def M9{l:L W}{k:dt}(h:k<=l.J):fE l none (O (k:eW))=l.n5 k:=by
 unfold fE;rw[HT.kH,HT.gw,w2u h];simp
def Zi(b:fJ)(x:eh):eh:=if b=true then "("++(x++")")else x
def head:Fm->eh
 |.is _=>"is"
 |.at _=>"at"
 |.not _=>"not"
 |.and _ _=>"and"
 |.or _ _=>"or"
 |.E1 _ _=>"odd"
def o8(x y:eh):(x++y).J=x.J+y.J:=by
 cases x;cases y;exact tP.size_append
def jI(cs:L dt):dt:=(cs.takeWhile d6).J
def kM(cs:L dt):dt:=max 1 (jI cs)
theorem RZ(cs:L dt):jI cs<=cs.J:=(L.takeWhile_sublist _).length_le
def vQ(h:cs.J<=100000):bo [.str (tx cs)]=O (.d0 cs.J):=by rw[Tw,h_,gE (by omega)]
def Jo{cs:L dt}(h:cs.J<=100000){k:dt}(hc:cs[k]?=O c):aU (.str (tx cs)) (.d0 k)=O (.str ⟨#[c]⟩):=by
 show(if(tx cs).J<=16777216 then(et (tx cs).rq.n9 k).ej λc=>W.str ⟨#[c]⟩else none)=_
 rw[gE (by rw[h_];omega),MZ (by omega),w2j,mH,hc];rfl
def y4g{k:dt}(hc:cs[k]?=O c):jI (cs.m9 k)=if d6 c=true then jI (cs.m9 (k+1))+1 else 0:=by
 let⟨hk,rfl⟩:=w0c.mp hc;rw[w2g hk];unfold jI;rw[w4t];split<;>rfl
def y82{k:dt}(h:cs.J<=k):jI (cs.m9 k)=0:=by
 rw[w5o h];rfl
theorem Q8(n:dt)(cs:L dt)(gB:cs.J<=100000)(p:eW):∀(m k WL:dt),jI (cs.m9 k)=m->m<WL ->
  bK (FG K a (g9 K a (n+1))) (FH K a (g9 K a (n+1))) WL [.fr (.str (tx cs)),.fr (.d0 p),.fr (.d0 k)]=.nx [.fr (.str (tx cs)),.fr (.d0 p),.fr (.d0 ((k+m:dt):eW))]
 |m,k,0,_,hf=>by omega
 |m,k,WL+1,hm,hf=>by
  rw[DK];unfold FG;rw?;rw[vQ gB];rw?
  by_cases hk:k<cs.J
  .have hg:cs[k]?=O cs[k]:=w0a hk;have h1:(k:eW)<(cs.J:eW):=by omega
   simp only[h1];rw?;rw[Jo gB hg];rw?;rw[Qy n];rw?;rw[y4g hg]at hm;cases q:d6 cs[k]with
   |false=>
    rw[q,kl (by simp)]at hm;subst hm;rw?;simp only[dt.add_zero]
   |true=>
    rw[q,gE rfl]at hm;obtain⟨m',rfl⟩:∃m',m=m'+1:=⟨jI (cs.m9 (k+1)),hm.symm⟩;have ih:=Q8 n cs gB p m' (k+1) WL (by omega) (by omega);unfold FH;rw?;unfold FG FH at ih;rw[show((k:eW)+1)=((k+1:dt):eW) by omega];rw[show k+(m'+1)=k+1+m' by omega];exact ih
  .rw[y82 (by omega)]at hm;subst hm;have h1:¬(k:eW)<(cs.J:eW):=by omega
   simp only[h1];rw?;simp only[dt.add_zero]
def z5l{k:dt}:(if(k:eW)+1>((k+m:dt):eW)then(k:eW)+1 else((k+m:dt):eW))=((k+max 1 m:dt):eW):=by
 split<;>omega
def y83{k:dt}:(if((k+m:dt):eW)<(k:eW)+1 then(k:eW)+1 else((k+m:dt):eW))=((k+max 1 m:dt):eW):=by
 split<;>omega
def z5m(n:dt)(cs:L dt)(gB:cs.J<=100000)(k:dt):g9 K a (n+2) J2 [.str (tx cs),.d0 k]=.ok (.fr (.d0 ((k+kM (cs.m9 k):dt):eW))):=by
 rw[XS];unfold J7;rw?;have hu:=RZ (cs.m9 k);rw[w1j]at hu;rw[Q8 n cs gB k (jI (cs.m9 k)) k 1000000 rfl (by omega)];rw?
 first|rw[z5l]|rw[y83]|skip
 rfl
def nY:dt->L dt->dt->L (dt×L dt)
 |0,_,_=>[]
 |f+1,cs,k=>if k<cs.J then(if cs[k]?=O 32 then[]else[(k,(cs.m9 k).n5 (kM (cs.m9 k)))])++nY f cs (k+kM (cs.m9 k))else[]
theorem R0:∀(f:dt)(cs:L dt)(k:dt),(nY f cs k).J<=f
 |0,_,_=>w0d _
 |f+1,cs,k=>by
  unfold nY;split
  .rw[w0g];have:=R0 f cs (k+kM (cs.m9 k));split
   .simp only[w3n];omega
   .simp only[w0r,w3n];omega
  .simp
def j_(p:dt×L dt):W:=.ff [.d0 p.1,.str (tx p.2)]
def P0(c:dt):(eh.mk #[c]=(" ":eh))=(c=32):=by
 have e:(" ":eh)=tx [32]:=by decide +kernel
 rw[e,eq_iff_iff];constructor
 .intro z;have:=He (show tx [c]=tx [32]from z)
  simpa using this
 .rintro rfl;rfl
def y4h(cs:L dt)(k m:dt)(hm:1<=m)(h:k+m<=cs.J):wF.Ye (tx cs) (O (k:eW)) (O ((k+m:dt):eW))=tx ((cs.m9 k).n5 m):=by
 unfold wF.Ye;rw[N3.sliced_plain (tx cs) (show k<=k+m by omega) (by rw[h_];exact h),mH];split
 .rename_i q;rw[N3.strSliceIndices_plain (show k<=k+m by omega) (by rw[h_];exact h),h_]at q;simp at q;have:k=0:=by omega
  subst this;rw[w5e,w1u (by omega)]
 .rw[show k+m-k=m by omega];simp[tx]
def UD{k:dt}(h:k<cs.J):1<=kM (cs.m9 k)/\k+kM (cs.m9 k)<=cs.J:=by
 have:=RZ (cs.m9 k);rw[w1j]at this;unfold kM;omega
def z5n{k:dt}(h:cs.J<=k):nY m cs k=[]:=by
 cases m with
 |zc=>rfl
 |zD m=>unfold nY;rw[kl (by omega)]
def y4i{k:dt}(h:k<cs.J)(hc:cs[k]?=O 32):nY (m+1) cs k=nY m cs (k+kM (cs.m9 k)):=by
 rw[nY,gE h,gE hc,w1t]
def y84{k:dt}(h:k<cs.J)(hc:cs[k]?≠O 32):nY (m+1) cs k=(k,(cs.m9 k).n5 (kM (cs.m9 k)))::nY m cs (k+kM (cs.m9 k)):=by
 rw[nY,gE h,kl hc,w4k]
theorem K4(n:dt)(cs:L dt)(gB:cs.J<=100000):∀(m k WL:dt)(m7:L W)(s3:S),cs.J-k<=m->m<WL->m7.J+m<=200000 ->
  ∃q Xp,bK (Di K a (g9 K a (n+2))) (Dj K a (g9 K a (n+2))) WL [.fr (.str (tx cs)),.gD none m7,.fr (.d0 k),s3]=.nx [.fr (.str (tx cs)),.gD none (m7++(nY m cs k).ej j_),.fr (.d0 q),Xp]
 |m,k,0,m7,s3,_,hf,_=>by omega
 |m,k,WL+1,m7,s3,hm,hf,ha=>by
  rw[DK];unfold Di;rw?;rw[vQ gB];rw?
  by_cases hk:k<cs.J
  .obtain⟨m',rfl⟩:∃m',m=m'+1:=⟨m-1,by omega⟩;have hg:cs[k]?=O cs[k]:=w0a hk;have hs:=UD hk;have h1:(k:eW)<(cs.J:eW):=by omega
   simp only[h1];unfold Dj;rw?;rw[z5m n cs gB k];rw?;rw[Jo gB hg];rw?
   by_cases hb:cs[k]=32
   .have ih:=K4 n cs gB m' (k+kM (cs.m9 k)) WL m7 (.fr (.d0 ((k+kM (cs.m9 k):dt):eW))) (by omega) (by omega) (by omega);rw[y4i hk (by rw[hg,hb])];simp only[show(eh.mk #[cs[k]]=(" ":eh))=w7 by rw[P0];simpa using hb];rw?;unfold Di Dj at ih;exact ih
   .have ih:=K4 n cs gB m' (k+kM (cs.m9 k)) WL (m7++[j_ (k,(cs.m9 k).n5 (kM (cs.m9 k)))]) (.fr (.d0 ((k+kM (cs.m9 k):dt):eW))) (by omega) (by omega) (by simp;omega);rw[y84 hk (by rw[hg];simpa using hb)];simp only[show(eh.mk #[cs[k]]=(" ":eh))=pV by rw[P0];simpa using hb];rw?;rw[Vc (by rw[h_];omega),y4h cs k _ hs.1 hs.2];rw?;rw[gE (by omega)];rw?;unfold Di Dj at ih;rw[w0k]at ih;exact ih
  .rw[z5n (by omega)];have h1:¬(k:eW)<(cs.J:eW):=by omega
   simp only[h1];rw?;exact⟨k,s3,by simp⟩
def ZM(cs:L dt):L (dt×L dt):=nY cs.J cs 0
def PD(n:dt)(cs:L dt)(gB:cs.J<=100000):g9 K a (n+3) F7 [.str (tx cs)]=.ok (.gD none ((ZM cs).ej j_)):=by
 rw[zaR];unfold KN;rw?;let⟨q,s3,h⟩:=K4 (K:=K) (a:=a) n cs gB cs.J 0 1000000 [] .no (by omega) (by omega) (by simp;omega);rw[show(.fr (.d0 ((0:dt):eW)):S)=.fr (.d0 0)from rfl]at h;rw[h];rw?;rfl
def jw:L eh:=["and", "odd", "or"]
def cY(xs:L eh):L (dt×L dt)->fJ->dt->dt ⊕ (fJ×dt)
 |[],aw,br=>.j' (aw,br)
 |(k,p)::ps,true,br=>
  if tx p="(" /\ br<12 then cY xs ps true (br+1)
  else if tx p∈xs\/tx p="yes"\/tx p="no" then cY xs ps false br
  else if tx p="not" then cY xs ps true br else .h8 k
 |(k,p)::ps,false,br=>
  if tx p=")" /\ 0<br then cY xs ps false (br-1)
  else if tx p∈jw then cY xs ps true br else .h8 k
def qN(xs:L eh)(ar:dt)(ps:L (dt×L dt)):fG dt:=match cY xs ps true 0 with
 |.h8 k=>O k
 |.j' (aw,br)=>if aw=true\/0<br then O ar else none
def yz:fG dt->W
 |none=>.aH
 |O k=>.d0 (k:eW)
theorem Al{t:eh}:ki (.str t) (.ff [.str "and", .str "odd", .str "or"])=O (.bl (decide (t∈jw))):=EI jw
def y4j(n:dt)(t:eh)(br:dt)(xs:L eh):g9 K a (n+1) KL [.str t,.d0 br,.ba (.k (pN 0 xs))]=.ok (.fr (.bl (if t="(" then decide (br<12)else decide (t∈(["yes", "no", "not"]:L eh))||decide (t∈xs)))):=by
 rw[zaS];unfold KO;rw?
 by_cases h1:t="("
 .simp only[Mk h1];rw?;simp only[show((br:eW)<12)=(br<12)from Ş (by omega)]
 .simp only[rY h1];rw?;have e:ki (.str t) (.ff [.str "yes", .str "no", .str "not"])=O (.bl (decide (t∈(["yes", "no", "not"]:L eh)))):=EI ["yes", "no", "not"];rw[e];cases q:decide (t∈(["yes", "no", "not"]:L eh))with
  |true=>rw?;rfl
  |false=>
   rw?;rw[Ho,w2m,GO];rfl
def zbq(n:dt)(t:eh)(br:dt):g9 K a (n+1) Ku [.str t,.d0 br]=.ok (.fr (.bl (if t=")" then decide (0<br)else decide (t∈jw)))):=by
 rw[X'];unfold KA;rw?
 by_cases h1:t=")"
 .simp only[Mk h1];rw?;simp only[show((br:eW)>0)=(0<br)from Ş (by omega)]
 .simp only[rY h1];rw?;rw[Al];rw?
def z5o(n:dt)(w:W)(xs:L eh)(hx:∀x∈xs,ro x=true)(ar:eW)(k:dt)(p:L dt)(br:dt)(s7:S):∃t7,
  zW K a (g9 K a (n+1)) [.fr w,.fr (.ba (.k (pN 0 xs))),.fr (.d0 ar),.fr (.bl true),.fr (.d0 br),.fr (.d0 k),.fr (.str (tx p)),s7] =
   (if tx p="(" /\ br<12 then .nx [.fr w,.fr (.ba (.k (pN 0 xs))),.fr (.d0 ar),.fr (.bl true),.fr (.d0 ((br+1:dt):eW)),.fr (.d0 k),.fr (.str (tx p)),t7]
   else if tx p∈xs\/tx p="yes"\/tx p="no" then .nx [.fr w,.fr (.ba (.k (pN 0 xs))),.fr (.d0 ar),.fr (.bl false),.fr (.d0 br),.fr (.d0 k),.fr (.str (tx p)),t7]
   else if tx p="not" then .nx [.fr w,.fr (.ba (.k (pN 0 xs))),.fr (.d0 ar),.fr (.bl true),.fr (.d0 br),.fr (.d0 k),.fr (.str (tx p)),t7]else .rt (.fr (.d0 k)) [.fr w,.fr (.ba (.k (pN 0 xs))),.fr (.d0 ar),.fr (.bl true),.fr (.d0 br),.fr (.d0 k),.fr (.str (tx p)),t7]):=by
 refine⟨.fr (.bl (if tx p="(" then decide (br<12)else decide (tx p∈(["yes", "no", "not"]:L eh))||decide (tx p∈xs))),?_⟩;unfold zW;rw?;rw[y4j n];rw?
 by_cases h1:tx p="("
 .have nx:tx p∉xs:=λz=>by
   have:=(qq (hx _ z)).2.2.2;rw[h1]at this;exact nS (this 40 (by decide +kernel)) (by decide)
  have h2:¬tx p="yes":=by rw[h1];decide +kernel
  have h3:¬tx p="no":=by rw[h1];decide +kernel
  have h4:¬tx p="not":=by rw[h1];decide +kernel
  simp only[Mk h1,rY nx,rY h2,rY h3,rY h4];rw?
  by_cases hb:br<12
  .simp only[Mk hb];rw?;rw[show(br:eW)+1=((br+1:dt):eW) by omega]
  .simp only[rY hb];rw?
 .simp only[rY h1];rw?
  by_cases h5:tx p∈xs
  .have ok:=qq (hx _ h5);have h6:tx p∉(["yes", "no", "not", "and", "odd", "or"]:L eh):=Ē ok.1;simp only[w0h,w1b,Xz,ZL]at h6;let⟨q1,q2,q3,q4,q5,q6⟩:=h6
   have nc:¬tx p=")":=λz=>by
    have:=ok.2.2.2;rw[z]at this;exact nS (this 41 (by decide +kernel)) (by decide)
   have m3:¬(tx p∈(["yes", "no", "not"]:L eh)):=by simp[q1,q2,q3]
   have mj:¬(tx p∈jw):=by unfold jw;simp[q4,q5,q6]
   simp only[Mk h5,rY m3,rY nc,rY q3,fJ.or_true];rw?;rw[Al];simp only[rY mj];rw?;try rfl
  .by_cases q1:tx p="yes"
   .have m3:tx p∈(["yes", "no", "not"]:L eh):=by rw[q1];simp
    have nc:¬tx p=")":=by rw[q1];decide +kernel
    have q3:¬tx p="not":=by rw[q1];decide +kernel
    have mj:¬(tx p∈jw):=by rw[q1];decide +kernel
    simp only[rY h5,Mk m3,Mk q1,rY nc,rY q3,w6r];rw?;rw[Al];simp only[rY mj];rw?;try rfl
   .by_cases q2:tx p="no"
    .have m3:tx p∈(["yes", "no", "not"]:L eh):=by rw[q2];simp
     have nc:¬tx p=")":=by rw[q2];decide +kernel
     have q3:¬tx p="not":=by rw[q2];decide +kernel
     have mj:¬(tx p∈jw):=by rw[q2];decide +kernel
     simp only[rY h5,Mk m3,rY q1,Mk q2,rY nc,rY q3,w6r];rw?;rw[Al];simp only[rY mj];rw?;try rfl
    .by_cases q3:tx p="not"
     .have m3:tx p∈(["yes", "no", "not"]:L eh):=by rw[q3];simp
      have nc:¬tx p=")":=by rw[q3];decide +kernel
      simp only[rY h5,Mk m3,rY q1,rY q2,rY nc,Mk q3,w6r];rw?;try rfl
     .have m3:¬(tx p∈(["yes", "no", "not"]:L eh)):=by simp[q1,q2,q3]
      simp only[rY h5,rY m3,rY q1,rY q2,rY q3,fJ.Xz];rw?;try rfl
def y85(n:dt)(w:W)(xs:L eh)(ar:eW)(k:dt)(p:L dt)(br:dt)(s7:S):∃t7,
  zW K a (g9 K a (n+1)) [.fr w,.fr (.ba (.k (pN 0 xs))),.fr (.d0 ar),.fr (.bl false),.fr (.d0 br),.fr (.d0 k),.fr (.str (tx p)),s7] =
   (if tx p=")" /\ 0<br then .nx [.fr w,.fr (.ba (.k (pN 0 xs))),.fr (.d0 ar),.fr (.bl false),.fr (.d0 ((br-1:dt):eW)),.fr (.d0 k),.fr (.str (tx p)),t7]
   else if tx p∈jw then .nx [.fr w,.fr (.ba (.k (pN 0 xs))),.fr (.d0 ar),.fr (.bl true),.fr (.d0 br),.fr (.d0 k),.fr (.str (tx p)),t7]else .rt (.fr (.d0 k)) [.fr w,.fr (.ba (.k (pN 0 xs))),.fr (.d0 ar),.fr (.bl false),.fr (.d0 br),.fr (.d0 k),.fr (.str (tx p)),t7]):=by
 refine⟨.fr (.bl (if tx p=")" then decide (0<br)else decide (tx p∈jw))),?_⟩;unfold zW;rw?;rw[zbq n];rw?
 by_cases h1:tx p=")"
 .have mj:¬(tx p∈jw):=by rw[h1];decide +kernel
  have ho:¬tx p="(":=by rw[h1];decide +kernel
  simp only[Mk h1,rY mj,rY ho];rw?
  by_cases hb:0<br
  .simp only[Mk hb];rw?;rw[show(br:eW)-1=((br-1:dt):eW) by omega]
  .simp only[rY hb];rw?
 .simp only[rY h1];rw?
  by_cases hj:tx p∈jw
  .have ho:¬tx p="(":=λz=>by rw[z]at hj;exact nS hj (by decide +kernel)
   simp only[Mk hj,rY ho];rw?;rw[Al];simp only[Mk hj]
   by_cases hn:tx p="not"
   .simp only[Mk hn];rw?
   .simp only[rY hn];rw?
  .simp only[rY hj];rw?
def ue(p:dt×L dt):W×W:=(.d0 p.1,.str (tx p.2))
theorem La:∀ps:L (dt×L dt),cH (ps.ej j_)=O (ps.ej ue)
 |[]=>rfl
 |p::ps=>by
  rw[w0j,w0j];show((cH (ps.ej j_)).ej ((W.d0 p.1,W.str (tx p.2))::·))=_;rw[La ps];rfl
theorem Bs(n:dt)(w:W)(xs:L eh)(hx:∀x∈xs,ro x=true)(ar:eW):∀(ps:L (dt×L dt))(aw:fJ)(br:dt)(s5 s6 s7:S),
  match cY xs ps aw br with
  |.h8 k=>∃e,eg 5 6 (zW K a (g9 K a (n+1))) (ps.ej ue) [.fr w,.fr (.ba (.k (pN 0 xs))),.fr (.d0 ar),.fr (.bl aw),.fr (.d0 br),s5,s6,s7]=.rt (.fr (.d0 k)) e
  |.j' (rO,rP)=>∃t5 t6 t7,eg 5 6 (zW K a (g9 K a (n+1))) (ps.ej ue) [.fr w,.fr (.ba (.k (pN 0 xs))),.fr (.d0 ar),.fr (.bl aw),.fr (.d0 br),s5,s6,s7]=.nx [.fr w,.fr (.ba (.k (pN 0 xs))),.fr (.d0 ar),.fr (.bl rO),.fr (.d0 rP),t5,t6,t7]
 |[],aw,br,s5,s6,s7=>⟨s5,s6,s7,rfl⟩
 |(k,p)::ps,true,br,s5,s6,s7=>by
  rw[cY,w0j,u4];simp only[ue,w1r,w1s];let⟨t7,e7⟩:=z5o (K:=K) (a:=a) n w xs hx ar k p br s7;rw[e7]
  by_cases h1:tx p="(" /\ br<12
  .rw[gE h1,gE h1];simp only[o7];exact Bs n w xs hx ar ps true (br+1) _ _ _
  .rw[kl h1,kl h1]
   by_cases h2:tx p∈xs\/tx p="yes"\/tx p="no"
   .rw[gE h2,gE h2];simp only[o7];exact Bs n w xs hx ar ps false br _ _ _
   .rw[kl h2,kl h2]
    by_cases h3:tx p="not"
    .rw[gE h3,gE h3];simp only[o7];exact Bs n w xs hx ar ps true br _ _ _
    .rw[kl h3,kl h3];exact⟨_,rfl⟩
 |(k,p)::ps,false,br,s5,s6,s7=>by
  rw[cY,w0j,u4];simp only[ue,w1r,w1s];let⟨t7,e7⟩:=y85 (K:=K) (a:=a) n w xs ar k p br s7;rw[e7]
  by_cases h1:tx p=")" /\ 0<br
  .rw[gE h1,gE h1];simp only[o7];exact Bs n w xs hx ar ps false (br-1) _ _ _
  .rw[kl h1,kl h1]
   by_cases h2:tx p∈jw
   .rw[gE h2,gE h2];simp only[o7];exact Bs n w xs hx ar ps true br _ _ _
   .rw[kl h2,kl h2];exact⟨_,rfl⟩
def S9(n:dt)(ps:L (dt×L dt))(ar:dt)(xs:L eh)(hx:∀x∈xs,ro x=true):g9 K a (n+2) FT [.fy (ps.ej j_),.ba (.k (pN 0 xs)),.d0 ar]=.ok (.fr (yz (qN xs ar ps))):=by
 rw[X2];unfold Ke;rw?;rw[La];rw?;have h:=Bs (K:=K) (a:=a) n (.fy (ps.ej j_)) xs hx ar ps true 0 .no .no .no;unfold qN;cases q:cY xs ps true 0 with
 |h8 k=>
  rw[q]at h;let⟨e,h⟩:=h;rw[show(W.d0 ((0:dt):eW))=.d0 0 from rfl]at h;rw[h];rw?;rfl
 |j' z=>
  let⟨aw,br⟩:=z;rw[q]at h;let⟨t5,t6,t7,h⟩:=h;rw[show(W.d0 ((0:dt):eW))=.d0 0 from rfl]at h;rw[h];rw?;cases aw with
  |true=>
   rw?;rfl
  |false=>
   rw?
   by_cases hb:0<br
   .have uT:(br:eW)>0:=by omega
    simp only[Mk uT,Mk hb];rw?;rfl
   .have uT:¬(br:eW)>0:=by omega
    simp only[rY uT,rY hb];rw?;rfl
def jv(t:eh):dt:=if t="(" then 0 else if t="or" then 1 else if t="odd" then 2 else if t="and" then 3 else 4
def mw:L eh:=["(", "or", "odd", "and", "not"]
def Eu{t:eh}(h:t∈mw):nJ FU (.str t)=O (.d0 (jv t)):=by
 unfold mw at h;simp only[w0h,w1b,Xz]at h;rcases h with rfl|rfl|rfl|rfl|rfl<;>rfl
def Ou:L eh->dt
 |[]=>0
 |t::ts=>(if t="("\/t="not" then 0 else 1)+Ou ts
def jV:L eh->dt
 |[]=>0
 |t::ts=>(if t="(" then 1 else 0)+jV ts
def aD(l:dt):L eh->L W->L eh×L W
 |[],fs=>([],fs)
 |t::ts,fs=>if l<=jv t then
   (if t="not" then(match fs with
    |f::fs=>aD l ts (.ff [.str "not", f]::fs)
    |[]=>(t::ts,[]))
   else(match fs with
    |g::f::fs=>aD l ts (.ff [.str t,f,g]::fs)
    |_=>(t::ts,fs)))
  else(t::ts,fs)
def R1{ws:L W}{w:W}:et (ws++[w]) (-1)=O w:=by
 unfold et
 have:oJ (ws++[w]).J (-1)=O ws.J:=by
  unfold oJ;simp;omega
 rw[this];simp
theorem KR(n:dt)(l:dt):∀(wt:L eh)(fs:L W)(WL:dt)(s3 s4:S),(∀t∈wt,t∈mw)->Ou wt<fs.J->(l=0->jV wt=0)->wt.J<WL->wt.J<=200000->fs.J<=200000 ->
  ∃t3 t4,bK (Bi K a (g9 K a n)) (Du K a (g9 K a n)) WL [.gD (O 0) fs.wd,.gD (O 1) (wt.wd.ej .str),.fr (.d0 l),s3,s4]=.nx [.gD (O 0) (aD l wt fs).2.wd,.gD (O 1) ((aD l wt fs).1.wd.ej .str),.fr (.d0 l),t3,t4]
 |wt,fs,0,s3,s4,_,_,_,hf,_,_=>by omega
 |[],fs,WL+1,s3,s4,_,_,_,_,_,hl=>by
  rw[DK];unfold Bi;rw?;exact⟨s3,s4,rfl⟩
 |t::ts,fs,WL+1,s3,s4,hw,hn,ho,hf,hl,vG=>by
  rw[DK];unfold Bi;have e1:((t::ts).wd.ej W.str)=ts.wd.ej W.str++[.str t]:=by simp
  rw[e1];rw?;have h0:((ts.wd.ej W.str++[W.str t]).J:eW)>0:=by simp
  simp only[Mk h0];rw?;rw[R1];rw?;rw[Eu (hw t (by simp))];rw?;unfold aD
  by_cases hg:l<=jv t
  .have IB:(jv t:eW)>=(l:eW):=by omega
   simp only[Mk IB,Mk hg]
   have hp:t≠"(":=λz=>by
    subst z
    have IK:l=0:=by
     have:jv "("=0:=by decide +kernel
     omega
    have:=ho IK;unfold jV at this;rw[gE rfl]at this;omega
   unfold Du;rw?;unfold Ou at hn
   by_cases qW:t="not"
   .subst qW;rw[gE (.j' rfl)]at hn;cases fs with
    |m8=>simp at hn
    |m6 f fs=>
     have ih:=KR n l ts (.ff [.str "not", f]::fs) WL (.fr (.str "not")) (.fr f) (λt ht=>hw t (by simp[ht])) (by simpa using hn) (λz=>by
      have:=ho z;unfold jV at this;omega) (by simp at hf;omega) (by simp at hl;omega) (by simpa using vG)
     rw[w2c]at ih |-
     rw?;rw[gE (by simp at vG |-;omega)];rw?;unfold Bi Du at ih;exact ih
   .rw[kl (ZL.rj ⟨hp,qW⟩)]at hn
    match fs,hn,vG with
    |[],hn,_=>simp at hn
    |[g],hn,_=>simp at hn
    |g::f::fs,hn,vG=>
     have ih:=KR n l ts (.ff [.str t,f,g]::fs) WL (.fr (.str t)) (.fr g) (λt ht=>hw t (by simp[ht])) (by simp at hn |-;omega) (λz=>by
      have:=ho z;unfold jV at this;omega) (by simp at hf;omega) (by simp at hl;omega) (by simp at vG |-;omega)
     rw[w2c,w2c];rw[w2c]at ih;rw?;simp only[rY qW];rw?;rw[gE (by simp at vG |-;omega)];rw?;unfold Bi Du at ih;exact ih
  .have IB:¬(jv t:eW)>=(l:eW):=by omega
   simp only[rY IB,rY hg];rw?;exact⟨s3,s4,by simp⟩
def K5(n:dt)(l:dt)(wt:L eh)(fs:L W)(hw:∀t∈wt,t∈mw)(hn:Ou wt<fs.J)(IK:l=0->jV wt=0)(hl:wt.J<=200000)(vG:fs.J<=200000):
  g9 K a (n+1) z_ [.fy fs.wd,.fy (wt.wd.ej .str),.d0 l]=.ok (.fr (.ff [.fy (aD l wt fs).2.wd,.fy ((aD l wt fs).1.wd.ej .str)])):=by
 rw[Py];unfold DG;rw?;let⟨t3,t4,h⟩:=KR (K:=K) (a:=a) n l wt fs 1000000 .no .no hw hn IK (by omega) hl vG;rw[h];rw?
def Rq{t:eh}(h:t≠"("):1<=jv t:=by
 unfold jv;rw[kl h];split<;>(try split)<;>(try split)<;>omega
theorem F4(l:dt)(h1:1<=l):∀(wt:L eh)(fs:L W),(∀t∈wt,t∈mw)->fs.J=Ou wt+1 ->
  (∀t∈(aD l wt fs).1,t∈mw)/\jV (aD l wt fs).1=jV wt/\(aD l wt fs).2.J=Ou (aD l wt fs).1+1/\(aD l wt fs).1.J<=wt.J/\(aD l wt fs).2.J<=fs.J/\(∀t ts,(aD l wt fs).1=t::ts->jv t<l)
 |[],fs,hw,hn=>⟨hw,rfl,hn,w0d _,w0d _,λt ts z=>by cases z⟩
 |t::ts,fs,hw,hn=>by
  unfold aD;unfold Ou at hn
  by_cases hg:l<=jv t
  .rw[gE hg]
   have hp:t≠"(":=λz=>by
    subst z;have:jv "("=0:=by decide +kernel
    omega
   by_cases qW:t="not"
   .rw[gE qW];rw[gE (.j' qW)]at hn;cases fs with
    |m8=>simp at hn
    |m6 f fs=>
     have ih:=F4 l h1 ts (.ff [.str "not", f]::fs) (λt ht=>hw t (by simp[ht])) (by simp at hn |-;omega)
     refine⟨ih.1,?_,ih.2.2.1,by simp;omega,ih.2.2.2.2.1,ih.2.2.2.2.2⟩;rw[ih.2.1];unfold jV;rw[kl hp];cases ts<;>simp[jV]
   .rw[kl qW];rw[kl (ZL.rj ⟨hp,qW⟩)]at hn
    match fs,hn with
    |[],hn=>simp at hn
    |[g],hn=>simp at hn
    |g::f::fs,hn=>
     have ih:=F4 l h1 ts (.ff [.str t,f,g]::fs) (λt ht=>hw t (by simp[ht])) (by simp at hn |-;omega)
     refine⟨ih.1,?_,ih.2.2.1,by simp;omega,by have:=ih.2.2.2.2.1;simp at this |-;omega,ih.2.2.2.2.2⟩;rw[ih.2.1];unfold jV;rw[kl hp];cases ts<;>simp[jV]
  .rw[kl hg];refine⟨hw,rfl,by unfold Ou;exact hn,w0d _,w0d _,λt' ts' z=>?_⟩
   cases z;omega
theorem K6:∀(wt:L eh)(fs:L W),(∀t∈wt,t∈mw)->jV wt=0->fs.J=Ou wt+1->∃w,aD 1 wt fs=([],[w])
 |[],fs,hw,ho,hn=>by
  unfold Ou at hn
  match fs,hn with
  |[w],_=>exact⟨w,rfl⟩
  |[],hn=>simp at hn
  |_::_::_,hn=>simp at hn
 |t::ts,fs,hw,ho,hn=>by
  unfold aD;unfold Ou at hn;unfold jV at ho;have hp:t≠"(":=λz=>by rw[gE z]at ho;omega
  rw[kl hp]at ho;rw[gE (Rq hp)]
  by_cases qW:t="not"
  .rw[gE qW];rw[gE (.j' qW)]at hn;cases fs with
   |m8=>simp at hn
   |m6 f fs=>exact K6 ts _ (λt ht=>hw t (by simp[ht])) (by omega) (by simp at hn |-;omega)
  .rw[kl qW];rw[kl (ZL.rj ⟨hp,qW⟩)]at hn
   match fs,hn with
   |[],hn=>simp at hn
   |[g],hn=>simp at hn
   |g::f::fs,hn=>exact K6 ts _ (λt ht=>hw t (by simp[ht])) (by omega) (by simp at hn |-;omega)
def xB(xs:L eh)(t:eh):W:=if t="yes" then .ff [.str "is", .bl true]else if t="no" then .ff [.str "is", .bl false]else .ff [.str "at", match kh t xs with|O j=>.d0 (j:eW)|none=>.aH]
def y4l(n:dt)(t:eh)(xs:L eh)(h:t="yes"\/t="no"\/t∈xs):g9 K a (n+1) Kv [.str t,.ba (.k (pN 0 xs))]=.ok (.fr (xB xs t)):=by
 rw[zay];unfold KC xB;rw?
 by_cases h1:t="yes"
 .simp only[Mk h1];rw?
 .simp only[rY h1];rw?
  by_cases h2:t="no"
  .simp only[Mk h2];rw?
  .simp only[rY h2];rw?;have h3:t∈xs:=(h.Ψ h1).Ψ h2;have h4:(kh t xs).sG=true:=by rw[GO];exact _u h3
   let⟨j,hj⟩:=w3x.mp h4;rw[Ho,hj];simp only[w5u,EC,w2t];rw?
def aQ(xs:L eh)(st:L eh×L W)(t:eh):L eh×L W:=
 if t="("\/t="not" then(t::st.1,st.2)
 else if t=")" then((aD 1 st.1 st.2).1._O,(aD 1 st.1 st.2).2)
 else if t∈jw then(t::(aD (jv t) st.1 st.2).1,(aD (jv t) st.1 st.2).2)
 else(st.1,xB xs t::st.2)
def g8(wt:L eh)(fs:L W)(aw:fJ)(br:dt):Prop:=(∀t∈wt,t∈mw)/\jV wt=br/\fs.J=Ou wt+(if aw=true then 0 else 1)
def YC(K:Fg)(w:W)(xs:L eh)(st:L eh×L W)(s4 s5:S):L S:=[.fr w,.fr (.ba (.k (pN 0 xs))),.gD none st.2.wd,.gD none (st.1.wd.ej .str),s4,s5]
def UE{t:eh}(h:t∈jw):t∈mw/\1<=jv t/\t≠"(" /\ t≠"not" /\ t≠")" /\ t≠"yes" /\ t≠"no":=by
 unfold jw at h;simp only[w0h,w1b,Xz]at h;rcases h with rfl|rfl|rfl<;>decide +kernel
def Lb(n:dt)(w:W)(xs:L eh)(hx:∀x∈xs,ro x=true)(k:dt)(p:L dt)(wt:L eh)(fs:L W)(hb:wt.J+fs.J<=200000)(h:tx p="("\/tx p="not"\/(tx p∈xs\/tx p="yes"\/tx p="no")):
  vY K a (g9 K a (n+1)) (YC K w xs (wt,fs) (.fr (.d0 k)) (.fr (.str (tx p))))=.nx (YC K w xs (aQ xs (wt,fs) (tx p)) (.fr (.d0 k)) (.fr (.str (tx p)))):=by
 unfold vY YC aQ;rw?
 by_cases h1:tx p="("
 .simp only[Mk h1];rw?;rw[gE (by simp;omega)];simp
 .by_cases h2:tx p="not"
  .simp only[rY h1,Mk h2];rw?;rw[gE (by simp;omega)];simp
  .have h3:=(h.Ψ h1).Ψ h2
   have h4:¬tx p=")" /\ ¬(tx p∈jw):=by
    rcases h3 with h3|h3|h3
    .have ok:=qq (hx _ h3);have h6:tx p∉(["yes", "no", "not", "and", "odd", "or"]:L eh):=Ē ok.1;refine⟨λz=>?_,λz=>h6 ?_⟩
     .have:=ok.2.2.2;rw[z]at this;exact nS (this 41 (by decide +kernel)) (by decide)
     .unfold jw at z;simp only[w0h,w1b,Xz]at z |-
      rcases z with z|z|z<;>simp[z]
    .rw[h3];decide +kernel
    .rw[h3];decide +kernel
   simp only[rY h1,rY h2,rY h4.1,rY h4.2];rw?;rw[Al];simp only[rY h4.2];rw?;rw[y4l n (tx p) xs (by rcases h3 with h3|h3|h3<;>simp[h3])];rw?;rw[gE (by simp;omega)];simp
theorem Ea:(W.d0 ((1:dt):eW))=.d0 1:=rfl
def zbr(n:dt)(w:W)(xs:L eh)(k:dt)(p:L dt)(wt:L eh)(fs:L W)(hb:wt.J+fs.J<=200000)(br:dt)(hI:g8 wt fs false br)(hbr:0<br)(h:tx p=")"):
  vY K a (g9 K a (n+1)) (YC K w xs (wt,fs) (.fr (.d0 k)) (.fr (.str (tx p))))=.nx (YC K w xs (aQ xs (wt,fs) (tx p)) (.fr (.d0 k)) (.fr (.str (tx p))))/\g8 (aQ xs (wt,fs) (tx p)).1 (aQ xs (wt,fs) (tx p)).2 false (br-1)/\(aQ xs (wt,fs) (tx p)).1.J+(aQ xs (wt,fs) (tx p)).2.J<=wt.J+fs.J:=by
 let⟨i1,i2,i3⟩:=hI;have i3:fs.J=Ou wt+1:=i3;have si:=F4 1 (w0d _) wt fs i1 i3;have sr:=K5 (K:=K) (a:=a) n 1 wt fs i1 (by omega) (λz=>by omega) (by omega) (by omega)
 rw[Ea]at sr;have n1:¬tx p="(":=by rw[h];decide +kernel
 have n2:¬tx p="not":=by rw[h];decide +kernel
 have es:aQ xs (wt,fs) (tx p)=((aD 1 wt fs).1._O,(aD 1 wt fs).2):=by
  unfold aQ;rw[kl (ZL.rj ⟨n1,n2⟩),gE h]
 rw[es];generalize aD 1 wt fs=z at si sr;let⟨G9,yG⟩:=z;dsimp only at si sr |-
 cases G9 with
 |m8=>exfalso;have h0:0=jV wt:=si.2.1;omega
 |m6 t ts=>
  have ht:t="(":=by
   by_cases z:t="("
   .exact z
   .have:=Rq z;have:=si.2.2.2.2.2 t ts rfl;omega
  subst ht;have zdF:(if("(":eh)="(" then 1 else 0)+jV ts=jV wt:=si.2.1;have sn:yG.J=((if("(":eh)="("\/("(":eh)="not" then 0 else 1)+Ou ts)+1:=si.2.2.1;have sl:=si.2.2.2.1;have zgo:=si.2.2.2.2.1;rw[gE rfl]at zdF;rw[gE (.h8 rfl)]at sn;refine⟨?_,⟨λt ht=>si.1 t (by simp at ht;simp[ht]),?_,?_⟩,?_⟩
  .unfold vY YC;rw?;simp only[rY n1,rY n2,Mk h];rw?;rw[sr];rw?;rw[w2c,w0m,w0j,w3d];rw?;rfl
  .show jV ts=br-1;omega
  .show yG.J=Ou ts+1;omega
  .show ts.J+yG.J<=_;simp at sl;omega
def y4m(n:dt)(w:W)(xs:L eh)(k:dt)(p:L dt)(wt:L eh)(fs:L W)(hb:wt.J+fs.J<=200000)(br:dt)(hI:g8 wt fs false br)(h:tx p∈jw):
  vY K a (g9 K a (n+1)) (YC K w xs (wt,fs) (.fr (.d0 k)) (.fr (.str (tx p))))=.nx (YC K w xs (aQ xs (wt,fs) (tx p)) (.fr (.d0 k)) (.fr (.str (tx p))))/\g8 (aQ xs (wt,fs) (tx p)).1 (aQ xs (wt,fs) (tx p)).2 true br/\(aQ xs (wt,fs) (tx p)).1.J+(aQ xs (wt,fs) (tx p)).2.J<=wt.J+fs.J+1:=by
 let⟨i1,i2,i3⟩:=hI;have i3:fs.J=Ou wt+1:=i3;let⟨j1,j2,n1,n2,n3,_,_⟩:=UE h;have si:=F4 (jv (tx p)) j2 wt fs i1 i3;have sr:=K5 (K:=K) (a:=a) n (jv (tx p)) wt fs i1 (by omega) (λz=>by omega) (by omega) (by omega)
 have es:aQ xs (wt,fs) (tx p)=(tx p::(aD (jv (tx p)) wt fs).1,(aD (jv (tx p)) wt fs).2):=by
  unfold aQ;rw[kl (ZL.rj ⟨n1,n2⟩),kl n3,gE h]
 rw[es];generalize aD (jv (tx p)) wt fs=z at si sr;let⟨G9,yG⟩:=z;dsimp only at si sr |-
 refine⟨?_,⟨λt ht=>?_,?_,?_⟩,?_⟩
 .unfold vY YC;rw?;simp only[rY n1,rY n2,rY n3];rw?;rw[Al];simp only[Mk h];rw?;rw[Eu j1];rw?;rw[sr];rw?;rw[gE (by simp;omega)];simp
 .rcases w0h.mp ht with rfl|ht
  .exact j1
  .exact si.1 t ht
 .unfold jV;rw[kl n1,si.2.1];omega
 .show yG.J=Ou (tx p::G9)+0;unfold Ou;rw[kl (ZL.rj ⟨n1,n2⟩),si.2.2.1];omega
 .show(tx p::G9).J+yG.J<=_;simp;omega
theorem Bm(n:dt)(w:W)(xs:L eh)(hx:∀x∈xs,ro x=true):∀(ps:L (dt×L dt))(aw:fJ)(br:dt)(st:L eh×L W)(s4 s5:S)(rO:fJ)(rP:dt),cY xs ps aw br=.j' (rO,rP)->g8 st.1 st.2 aw br->st.1.J+st.2.J+ps.J<=200000 ->
  ∃t4 t5,eg 4 5 (vY K a (g9 K a (n+1))) (ps.ej ue) (YC K w xs st s4 s5)=.nx (YC K w xs (ps.t_ (λst p=>aQ xs st (tx p.2)) st) t4 t5)/\g8 (ps.t_ (λst p=>aQ xs st (tx p.2)) st).1 (ps.t_ (λst p=>aQ xs st (tx p.2)) st).2 rO rP/\(ps.t_ (λst p=>aQ xs st (tx p.2)) st).1.J+(ps.t_ (λst p=>aQ xs st (tx p.2)) st).2.J<=200000
 |[],aw,br,st,s4,s5,rO,rP,hf,hI,hb=>by
  cases hf;exact⟨s4,s5,rfl,hI,hb⟩
 |(k,p)::ps,true,br,(wt,fs),s4,s5,rO,rP,hf,hI,hb=>by
  rw[w0j,u4,w1g];have y_:((YC K w xs (wt,fs) s4 s5).my 4 (.fr (ue (k,p)).1)).my 5 (.fr (ue (k,p)).2)=YC K w xs (wt,fs) (.fr (.d0 k)) (.fr (.str (tx p))):=rfl;rw[y_];rw[cY]at hf;let⟨i1,i2,i3⟩:=hI;have i3:fs.J=Ou wt:=i3;simp only[w0r]at hb
  by_cases h1:tx p="(" /\ br<12
  .rw[gE h1]at hf;rw[Lb n w xs hx k p wt fs (by omega) (.h8 h1.1),o7];have es:aQ xs (wt,fs) (tx p)=(tx p::wt,fs):=by unfold aQ;rw[gE (.h8 h1.1)]
   rw[es];refine Bm n w xs hx ps true (br+1) (tx p::wt,fs) _ _ rO rP hf ⟨λt ht=>?_,?_,?_⟩ (by simp;omega)
   .rcases w0h.mp ht with rfl|ht
    .rw[h1.1];decide +kernel
    .exact i1 t ht
   .show jV (tx p::wt)=_;unfold jV;rw[gE h1.1,i2];omega
   .show fs.J=Ou (tx p::wt)+0;unfold Ou;rw[gE (.h8 h1.1)];omega
  .rw[kl h1]at hf
   by_cases h2:tx p∈xs\/tx p="yes"\/tx p="no"
   .rw[gE h2]at hf;rw[Lb n w xs hx k p wt fs (by omega) (.j' (.j' h2)),o7]
    have h4:¬tx p="(" /\ ¬tx p="not" /\ ¬tx p=")" /\ ¬(tx p∈jw):=by
     rcases h2 with h3|h3|h3
     .have ok:=qq (hx _ h3);have h6:tx p∉(["yes", "no", "not", "and", "odd", "or"]:L eh):=Ē ok.1;refine⟨λz=>?_,λz=>h6 (by simp[z]),λz=>?_,λz=>h6 ?_⟩
      .have:=ok.2.2.2;rw[z]at this;exact nS (this 40 (by decide +kernel)) (by decide)
      .have:=ok.2.2.2;rw[z]at this;exact nS (this 41 (by decide +kernel)) (by decide)
      .unfold jw at z;simp only[w0h,w1b,Xz]at z |-
       rcases z with z|z|z<;>simp[z]
     .rw[h3];decide +kernel
     .rw[h3];decide +kernel
    have es:aQ xs (wt,fs) (tx p)=(wt,xB xs (tx p)::fs):=by unfold aQ;rw[kl (ZL.rj ⟨h4.1,h4.2.1⟩),kl h4.2.2.1,kl h4.2.2.2]
    rw[es];exact Bm n w xs hx ps false br (wt,xB xs (tx p)::fs) _ _ rO rP hf ⟨i1,i2,show(xB xs (tx p)::fs).J=Ou wt+1 by simp;omega⟩ (by simp;omega)
   .rw[kl h2]at hf
    by_cases h3:tx p="not"
    .rw[gE h3]at hf;rw[Lb n w xs hx k p wt fs (by omega) (.j' (.h8 h3)),o7];have es:aQ xs (wt,fs) (tx p)=(tx p::wt,fs):=by unfold aQ;rw[gE (.j' h3)]
     rw[es];refine Bm n w xs hx ps true br (tx p::wt,fs) _ _ rO rP hf ⟨λt ht=>?_,?_,?_⟩ (by simp;omega)
     .rcases w0h.mp ht with rfl|ht
      .rw[h3];decide +kernel
      .exact i1 t ht
     .show jV (tx p::wt)=_;unfold jV;rw[kl (by rw[h3];decide +kernel),i2];omega
     .show fs.J=Ou (tx p::wt)+0;unfold Ou;rw[gE (.j' h3)];omega
    .rw[kl h3]at hf;cases hf
 |(k,p)::ps,false,br,(wt,fs),s4,s5,rO,rP,hf,hI,hb=>by
  rw[w0j,u4,w1g];have y_:((YC K w xs (wt,fs) s4 s5).my 4 (.fr (ue (k,p)).1)).my 5 (.fr (ue (k,p)).2)=YC K w xs (wt,fs) (.fr (.d0 k)) (.fr (.str (tx p))):=rfl;rw[y_];rw[cY]at hf;simp only[w0r]at hb
  by_cases h1:tx p=")" /\ 0<br
  .rw[gE h1]at hf;let⟨c1,c2,c3⟩:=zbr (K:=K) (a:=a) n w xs k p wt fs (by omega) br hI h1.2 h1.1;rw[c1,o7];exact Bm n w xs hx ps false (br-1) _ _ _ rO rP hf c2 (by omega)
  .rw[kl h1]at hf
   by_cases h2:tx p∈jw
   .rw[gE h2]at hf;let⟨c1,c2,c3⟩:=y4m (K:=K) (a:=a) n w xs k p wt fs (by omega) br hI h2;rw[c1,o7];exact Bm n w xs hx ps true br _ _ _ rO rP hf c2 (by omega)
   .rw[kl h2]at hf;cases hf
def eB(xs:L eh)(ps:L (dt×L dt)):L eh×L W:=ps.t_ (λst p=>aQ xs st (tx p.2)) ([],[])
def z5p(n:dt)(ps:L (dt×L dt))(xs:L eh)(hx:∀x∈xs,ro x=true)(hp:ps.J<=200000)(h:cY xs ps true 0=.j' (false,0)):∃w,aD 1 (eB xs ps).1 (eB xs ps).2=([],[w])/\g9 K a (n+2) JT [.fy (ps.ej j_),.ba (.k (pN 0 xs))]=.ok (.fr w):=by
 let⟨t4,t5,h1,h2,h3⟩:=Bm (K:=K) (a:=a) n (.fy (ps.ej j_)) xs hx ps true 0 ([],[]) .no .no false 0 h ⟨by simp,rfl,rfl⟩ (by simpa using hp);let⟨i1,i2,i3⟩:=h2;have i3:(eB xs ps).2.J=Ou (eB xs ps).1+1:=i3;let⟨w,hw⟩:=K6 (eB xs ps).1 (eB xs ps).2 i1 i2 i3;refine⟨w,hw,?_⟩;have h3:(eB xs ps).1.J+(eB xs ps).2.J<=200000:=h3;have sr:=K5 (K:=K) (a:=a) n 1 (eB xs ps).1 (eB xs ps).2 i1 (by omega) (λz=>by omega) (by omega) (by omega)
 rw[Ea,hw]at sr;rw[Xe];unfold JV;rw?;rw[La];rw?;have h1:eg 4 5 (vY K a (g9 K a (n+1))) (ps.ej ue) [.fr (.fy (ps.ej j_)),.fr (.ba (.k (pN 0 xs))),.gD none [],.gD none [],.no,.no]=.nx [.fr (.fy (ps.ej j_)),.fr (.ba (.k (pN 0 xs))),.gD none (eB xs ps).2.wd,.gD none ((eB xs ps).1.wd.ej .str),t4,t5]:=h1;rw[h1];rw?;rw[sr];rw?;rfl
def y86(x y:eh):(x++y).rq.n9=x.rq.n9++y.rq.n9:=by
 conv=>lhs;rw[<- rE x,<- rE y,nC,mH]
def rG(c:dt)(x:eh)(hx:x=⟨#[c]⟩)(m:dt)(h:m<=1000):oV (.str x) (.d0 (m:eW))=O (.str (tx (L.oS m c))):=by
 rw[hx,T6 ⟨by omega,by omega⟩,w2j];rfl
inductive Tk(ns:L eh):dt->Fm->L eh->dt->Prop
 |yn {l:dt} (b:fJ):Tk ns l (.is b) [if b=true then("yes":eh)else("no":eh)] 0
 |JQ {l p:dt} (h:p<ns.J):Tk ns l (.at p) [ns.mF p ""] 0
 |not {l d:dt} {f:Fm} {ts:L eh} (h:l<=3) (t:Tk ns 3 f ts d):Tk ns l (.not f) (("not":eh)::ts) d
 |and {l d e:dt} {f g:Fm} {ts us:L eh} (h:l<=2) (t:Tk ns 2 f ts d) (u:Tk ns 3 g us e):Tk ns l (.and f g) (ts++("and":eh)::us) (max d e)
 |E1 {l d e:dt} {f g:Fm} {ts us:L eh} (h:l<=1) (t:Tk ns 1 f ts d) (u:Tk ns 2 g us e):Tk ns l (.E1 f g) (ts++("odd":eh)::us) (max d e)
 |or {l d e:dt} {f g:Fm} {ts us:L eh} (h:l<=0) (t:Tk ns 0 f ts d) (u:Tk ns 1 g us e):Tk ns l (.or f g) (ts++("or":eh)::us) (max d e)
 |Zi {l d:dt} {f:Fm} {ts:L eh} (t:Tk ns 0 f ts d):Tk ns l f (("(":eh)::(ts++[(")":eh)])) (d+1)
def qz(wt:L eh)(l:dt):Prop:=∀t ts,wt=t::ts->jv t<=l
def Gb{wt:L eh}{l t:dt}(h:qz wt l)(hl:l<t)(fs:L W):aD t wt fs=(wt,fs):=by
 cases wt with
 |m8=>rfl
 |m6 w ws=>
  have:=h w ws rfl;unfold aD;rw[kl (by omega)]
theorem P1:∀{ns:L eh}{p:dt},ns.p9->(h:p<ns.J)->kh ns[p] ns=O p
 |x::ns,0,_,h=>by
  simp[kh]
 |x::ns,p+1,hd,h=>by
  have hp:p<ns.J:=by simpa using h
  have ih:=P1 (w2f.mp hd).2 hp;have fY:x≠ns[p]:=λz=>(w2f.mp hd).1 (by rw[z];exact w1z hp)
  rw[L.getElem_cons_succ];unfold kh;rw[kl (by first|exact fY|exact λz=>fY z.symm),ih]
  rfl
def Mi(hx:∀x∈ns,ro x=true)(h:p<ns.J):ns.mF p ""∈ns/\¬ns.mF p ""="(" /\ ¬ns.mF p ""="not" /\ ¬ns.mF p ""=")" /\ ¬ns.mF p ""∈jw/\¬ns.mF p ""="yes" /\ ¬ns.mF p ""="no":=by
 have e:ns.mF p ""=ns[p]:=by rw[w0n,w0a h];rfl
 rw[e];have hm:=w1z h;have ok:=qq (hx _ hm);have h6:ns[p]∉(["yes", "no", "not", "and", "odd", "or"]:L eh):=Ē ok.1;refine⟨hm,λz=>?_,λz=>h6 (by simp[z]),λz=>?_,λz=>h6 ?_,λz=>h6 (by simp[z]),λz=>h6 (by simp[z])⟩
 .have:=ok.2.2.2;rw[z]at this;exact nS (this 40 (by decide +kernel)) (by decide)
 .have:=ok.2.2.2;rw[z]at this;exact nS (this 41 (by decide +kernel)) (by decide)
 .unfold jw at z;simp only[w0h,w1b,Xz]at z |-
  rcases z with z|z|z<;>simp[z]
def UG(hx:∀x∈ns,ro x=true)(hd:ns.p9)(h:p<ns.J):xB ns (ns.mF p "")=mE (.at p):=by
 let⟨_,_,_,_,_,h1,h2⟩:=Mi hx h;unfold xB;rw[kl h1,kl h2];have e:ns.mF p ""=ns[p]:=by rw[w0n,w0a h];rfl
 rw[e,P1 hd h];rfl
def y4n(xs:L eh)(st:L eh×L W):aQ xs st "("=(("(":eh)::st.1,st.2):=by
 unfold aQ;rw[gE (.h8 rfl)]
def y87(xs:L eh)(st:L eh×L W):aQ xs st "not"=(("not":eh)::st.1,st.2):=by
 unfold aQ;rw[gE (.j' rfl)]
def zaY(xs:L eh)(st:L eh×L W):aQ xs st ")"=((aD 1 st.1 st.2).1._O,(aD 1 st.1 st.2).2):=by
 unfold aQ;rw[kl (by decide +kernel),gE rfl]
def y88(xs:L eh)(st:L eh×L W):aQ xs st "and"=(("and":eh)::(aD 3 st.1 st.2).1,(aD 3 st.1 st.2).2):=by
 unfold aQ;rw[kl (by decide +kernel),kl (by decide +kernel),gE (by decide +kernel),show jv "and"=3 by decide +kernel]
def y89(xs:L eh)(st:L eh×L W):aQ xs st "odd"=(("odd":eh)::(aD 2 st.1 st.2).1,(aD 2 st.1 st.2).2):=by
 unfold aQ;rw[kl (by decide +kernel),kl (by decide +kernel),gE (by decide +kernel),show jv "odd"=2 by decide +kernel]
def z5q(xs:L eh)(st:L eh×L W):aQ xs st "or"=(("or":eh)::(aD 1 st.1 st.2).1,(aD 1 st.1 st.2).2):=by
 unfold aQ;rw[kl (by decide +kernel),kl (by decide +kernel),gE (by decide +kernel),show jv "or"=1 by decide +kernel]
def zaZ{t:dt}(h:t<=4)(wt:L eh)(f:W)(fs:L W):aD t (("not":eh)::wt) (f::fs)=aD t wt (.ff [.str "not", f]::fs):=by
 rw[aD,gE (by rw[show jv "not"=4 by decide +kernel];exact h),gE rfl]
def K7{t k:dt}{w:eh}(hk:jv w=k)(hn:w≠"not")(h:t<=k)(wt:L eh)(f g:W)(fs:L W):aD t (w::wt) (g::f::fs)=aD t wt (.ff [.str w,f,g]::fs):=by
 rw[aD,gE (by omega),kl hn]
theorem K8{w:eh}{wt:L eh}{l k:dt}(hk:jv w=k)(h:k<=l):qz (w::wt) l:=λt ts z=>by
 cases z;omega
def Tk.parse(hx:∀x∈ns,ro x=true)(hd:ns.p9){l:dt}(h:Tk ns l f ts d):l<=3->∀(wt:L eh)(fs:L W),(l<=2->qz wt l)->∀t,t<=l+1 ->
  aD t (ts.t_ (aQ ns) (wt,fs)).1 (ts.t_ (aQ ns) (wt,fs)).2=aD t wt (mE f::fs):=by
 induction h with
 |yn b=>
  intro hl wt fs _ t _
  have:aQ ns (wt,fs) (if b=true then("yes":eh)else("no":eh))=(wt,mE (.is b)::fs):=by
   cases b
   .unfold aQ;rw[kl (by decide +kernel),kl (by decide +kernel),kl (by decide +kernel)];rfl
   .unfold aQ;rw[kl (by decide +kernel),kl (by decide +kernel),kl (by decide +kernel)];rfl
  rw[w1g,w6e,this]
 | @JQ l p h=>
  intro hl wt fs _ t _;let⟨_,h1,h2,h3,h4,_,_⟩:=Mi hx h
  have:aQ ns (wt,fs) (ns.mF p "")=(wt,mE (.at p)::fs):=by
   unfold aQ;rw[kl (ZL.rj ⟨h1,h2⟩),kl h3,kl h4,UG hx hd h]
  rw[w1g,w6e,this]
 |not h t ih=>
  intro hl wt fs _ s hs;rw[w1g,y87,ih (w0d _) _ _ (λz=>by omega) s (by omega),zaZ (by omega)]
  rfl
 |and h t u tK tL=>
  intro hl wt fs hw s hs;rw[w1p,w1g,y88];rw[tK (by omega) wt fs (λ_=>λa b z=>w1d (hw (by omega) a b z) h) 3 (by omega),Gb (hw (by omega)) (by omega)]
  rw[tL (by omega) _ _ (λz=>by omega) s (by omega),K7 (by decide +kernel) (by decide +kernel) (show s<=3 by omega)]
  rfl
 |E1 h t u tK tL=>
  intro hl wt fs hw s hs;rw[w1p,w1g,y89];rw[tK (by omega) wt fs (λ_=>λa b z=>w1d (hw (by omega) a b z) h) 2 (by omega),Gb (hw (by omega)) (by omega)]
  rw[tL (by omega) _ _ (λz=>K8 (k:=2) (by decide +kernel) (by omega)) s (by omega),K7 (by decide +kernel) (by decide +kernel) (show s<=2 by omega)]
  rfl
 |or h t u tK tL=>
  intro hl wt fs hw s hs;rw[w1p,w1g,z5q];rw[tK (by omega) wt fs (λ_=>λa b z=>w1d (hw (by omega) a b z) h) 1 (by omega),Gb (hw (by omega)) (by omega)]
  rw[tL (by omega) _ _ (λz=>K8 (k:=1) (by decide +kernel) (by omega)) s (by omega),K7 (by decide +kernel) (by decide +kernel) (show s<=1 by omega)]
  rfl
 |Zi t ih=>
  intro hl wt fs hw s hs;rw[w1g,y4n,w1p,w1g,w6e,zaY];have tp:qz (("(":eh)::wt) 0:=K8 (k:=0) (by decide +kernel) (w0d _);rw[ih (by omega) _ _ (λ_=>tp) 1 (by omega),Gb tp (by omega)]
  rfl
theorem Tk._m(hx:∀x∈ns,ro x=true)(hd:ns.p9)(h:Tk ns 0 f ts d):aD 1 (ts.t_ (aQ ns) ([],[])).1 (ts.t_ (aQ ns) ([],[])).2=([],[mE f]):=
 h.parse hx hd (by omega) [] [] (λ_ a b z=>by cases z) 1 (by omega)
def Tk.fF(hx:∀x∈ns,ro x=true){l:dt}(h:Tk ns l f ts d):∀(ps oM:L (dt×L dt))(br:dt),ps.ej (λp=>tx p.2)=ts->br+d<=12->cY ns (ps++oM) true br=cY ns oM false br:=by
 induction h with
 |yn b=>
  intro ps oM br e hb;let⟨⟨k,p⟩,rfl,e'⟩:=w3v.mp e
  .have e:tx p=if b=true then("yes":eh)else("no":eh):=e';show cY ns ((k,p)::oM) true br=_;rw[cY,kl (λz=>by rw[e]at z;cases b<;>exact nS z.1 (by decide +kernel)),gE (.j' (by cases b;exact .j' e;exact .h8 e))]
 | @JQ l p h=>
  intro ps oM br e hb;let⟨⟨k,q⟩,rfl,e'⟩:=w3v.mp e
  .have e:tx q=ns.mF p "":=e';let⟨h0,h1,_⟩:=Mi hx h;show cY ns ((k,q)::oM) true br=_;rw[cY,kl (λz=>h1 (by rw[<- e];exact z.1)),gE (.h8 (by rw[e];exact h0))]
 |not h t ih=>
  intro ps oM br e hb;let⟨⟨k,q⟩,ps,rfl,e1,e2⟩:=w2x.mp e
  .have e1:tx q="not":=e1;rw[w1n,cY,kl (λz=>by rw[e1]at z;exact nS z.1 (by decide +kernel))]
   by_cases hm:tx q∈ns\/tx q="yes"\/tx q="no"
   .exfalso;rw[e1]at hm;rcases hm with hm|hm|hm
    .exact nS (qq (hx _ hm)).1 (by decide +kernel)
    .exact nS hm (by decide +kernel)
    .exact nS hm (by decide +kernel)
   .rw[kl hm,gE e1];exact ih ps oM br e2 hb
 | @and l d e f g ts us h t u tK tL=>
  intro ps oM br eq hb;let⟨p1,p2,rfl,e1,e2⟩:=w3h.mp eq;let⟨⟨k,q⟩,p2,rfl,YR,e2⟩:=w2x.mp e2
  .have YR:tx q="and":=YR;rw[w0k,tK p1 _ br e1 (by omega),w1n,cY,kl (λz=>by rw[YR]at z;exact nS z.1 (by decide +kernel)),gE (by rw[YR];decide +kernel)]
   exact tL p2 oM br e2 (by omega)
 | @E1 l d e f g ts us h t u tK tL=>
  intro ps oM br eq hb;let⟨p1,p2,rfl,e1,e2⟩:=w3h.mp eq;let⟨⟨k,q⟩,p2,rfl,YR,e2⟩:=w2x.mp e2
  .have YR:tx q="odd":=YR;rw[w0k,tK p1 _ br e1 (by omega),w1n,cY,kl (λz=>by rw[YR]at z;exact nS z.1 (by decide +kernel)),gE (by rw[YR];decide +kernel)]
   exact tL p2 oM br e2 (by omega)
 | @or l d e f g ts us h t u tK tL=>
  intro ps oM br eq hb;let⟨p1,p2,rfl,e1,e2⟩:=w3h.mp eq;let⟨⟨k,q⟩,p2,rfl,YR,e2⟩:=w2x.mp e2
  .have YR:tx q="or":=YR;rw[w0k,tK p1 _ br e1 (by omega),w1n,cY,kl (λz=>by rw[YR]at z;exact nS z.1 (by decide +kernel)),gE (by rw[YR];decide +kernel)]
   exact tL p2 oM br e2 (by omega)
 |Zi t ih=>
  intro ps oM br eq hb;let⟨⟨k,q⟩,ps,rfl,YR,rh⟩:=w2x.mp eq
  .let⟨p1,p2,rfl,e1,e2⟩:=w3h.mp rh;let⟨⟨j,r⟩,rfl,B5⟩:=w3v.mp e2
   .have e2:tx r=")":=B5;rw[w1n,cY,gE ⟨YR,by omega⟩,w0k,ih p1 _ (br+1) e1 (by omega)];show cY ns ((j,r)::oM) false (br+1)=_;rw[cY,gE ⟨e2,by omega⟩];rfl
def jE:dt->dt->L dt->L (dt×L dt)
 |0,_,_=>[]
 |_+1,_,[]=>[]
 |f+1,k,c::cs=>(if c=32 then[]else[(k,(c::cs).n5 (kM (c::cs)))])++jE f (k+kM (c::cs)) ((c::cs).m9 (kM (c::cs)))
theorem Rr:∀(f:dt)(cs:L dt)(k:dt),nY f cs k=jE f k (cs.m9 k)
 |0,_,_=>rfl
 |f+1,cs,k=>by
  unfold nY
  by_cases h:k<cs.J
  .rw[gE h,w2g h,jE,Rr f,<- w2g h,w6f];have e:(cs[k]?=O 32)=(cs[k]=32):=by rw[w0a h];simp
   simp only[e]
  .rw[kl h,w5o (by omega)];cases f<;>rfl
theorem z5r(cs:L dt):1<=kM cs:=dt.le_max_left _ _
theorem P2:∀(f g k:dt)(cs:L dt),cs.J<=f->cs.J<=g->jE f k cs=jE g k cs
 |0,g,k,cs,hf,_=>by
  obtain rfl:cs=[]:=w4m (by omega);cases g<;>rfl
 |f+1,0,k,cs,_,hg=>by
  obtain rfl:cs=[]:=w4m (by omega);rfl
 |f+1,g+1,k,[],_,_=>rfl
 |f+1,g+1,k,c::cs,hf,hg=>by
  have:=z5r (c::cs);rw[jE,jE,P2 f g _ _ (by rw[w1j];omega) (by rw[w1j];omega)]
def Zx(k:dt)(cs:L dt):L (dt×L dt):=jE cs.J k cs
def za5(cs:L dt):ZM cs=Zx 0 cs:=by
 unfold ZM Zx;rw[Rr,w5e]
theorem Rt(k:dt):Zx k []=[]:=rfl
def Ru(h:d6 c=false):kM (c::cs)=1:=by
 unfold kM jI;rw[w4t,h];rfl
def y4o(k:dt)(r:L dt):Zx k (32::r)=Zx (k+1) r:=by
 unfold Zx;rw[w0r,jE,gE rfl,w1t,Ru (by decide)];rfl
def y9a(k:dt)(r:L dt)(h:d6 c=false)(hb:c≠32):Zx k (c::r)=(k,[c])::Zx (k+1) r:=by
 unfold Zx;rw[w0r,jE,kl hb,Ru h];rfl
def Bd(r:L dt):Prop:=∀c cs,r=c::cs->d6 c=false
def y4p{w:L dt}(hl:∀c∈w,d6 c=true)(hr:Bd r):jI (w++r)=w.J:=by
 unfold jI;rw[L.takeWhile_append_of_pos hl,w0g];cases r with
 |m8=>rfl
 |m6 c cs=>rw[w4t,hr c cs rfl];rfl
def y9b(k:dt){w:L dt}(hw:w≠[])(hl:∀c∈w,d6 c=true)(hr:Bd r):Zx k (w++r)=(k,w)::Zx (k+w.J) r:=by
 cases w with
 |m8=>exact nS rfl hw
 |m6 c w=>
  have hs:kM (c::w++r)=(c::w).J:=by
   unfold kM;rw[y4p hl hr];simp
  have hc:c≠32:=λz=>by
   have:=hl c (by simp);rw[z]at this;exact nS this (by decide)
  show jE (c::w++r).J k (c::(w++r))=_;rw[w1n,w0r,jE,kl hc];rw[<- w1n,hs,w5v rfl,L.drop_left' rfl];rw[w4k];unfold Zx;rw[P2 _ _ _ _ (by rw[w0g];omega) (w0d _)]
theorem z5s(h:d6 c=false):Bd (c::r):=λd ds z=>by cases z;exact h
def aX(x:eh):L dt:=x.rq.n9
theorem DN(x y:eh):aX (x++y)=aX x++aX y:=y86 x y
theorem UH:Bd []:=λc cs z=>by cases z
def y9c(xs:L eh)(ps:L (dt×L dt)):eB xs ps=(ps.ej λp=>tx p.2).t_ (aQ xs) ([],[]):=by
 unfold eB;rw[L.foldl_map]
def fl(Yd:L dt):L (L dt):=if Yd=[]then[]else[Yd]
def aP(s:L (L dt)×L dt)(c:dt):L (L dt)×L dt:=if d6 c=true then(s.1,s.2++[c])else(s.1++fl s.2++(if c=32 then[]else[[c]]),[])
def gh(s:L (L dt)×L dt):L (L dt):=s.1++fl s.2
theorem K9:∀(w:L dt)(oN:L (L dt))(Yd:L dt),(∀c∈w,d6 c=true)->w.t_ aP (oN,Yd)=(oN,Yd++w)
 |[],oN,Yd,_=>by simp
 |c::w,oN,Yd,h=>by
  rw[w1g];unfold aP;rw[gE (h c (by simp))];show w.t_ aP (oN,Yd++[c])=_;rw[K9 w oN (Yd++[c]) λd hd=>h d (by simp[hd])]
  simp
theorem PH:∀r:L dt,∃w q,r=w++q/\(∀d∈w,d6 d=true)/\Bd q
 |[]=>⟨[],[],rfl,by simp,UH⟩
 |c::r=>by
  cases hc:d6 c with
  |true=>
   let⟨w,q,rfl,h1,h2⟩:=PH r;refine⟨c::w,q,rfl,λd hd=>?_,h2⟩
   rcases w0h.mp hd with rfl|hd
   .exact hc
   .exact h1 d hd
  |false=>exact⟨[],c::r,rfl,by simp,z5s hc⟩
def F5(hl:d6 c=false)(s:L (L dt)×L dt):aP s c=(s.1++fl s.2++(if c=32 then[]else[[c]]),[]):=by
 unfold aP;rw[kl (by rw[hl];simp)]
theorem GC:∀(n:dt)(cs:L dt)(k:dt)(oN:L (L dt)),cs.J<=n->gh (cs.t_ aP (oN,[]))=oN++(Zx k cs).ej (·.2)
 |n,[],k,oN,_=>by simp[gh,fl,Rt]
 |0,_::_,_,_,h=>by simp at h
 |n+1,c::r,k,oN,h=>by
  simp only[w0r]at h;cases hl:d6 c with
  |false=>
   by_cases hb:c=32
   .subst hb;rw[y4o,w1g];have:aP (oN,[]) 32=(oN,[]):=by simp[aP,fl,d6]
    rw[this];exact GC n r (k+1) oN (by omega)
   .rw[y9a k r hl hb,w1g]
    have:aP (oN,[]) c=(oN++[[c]],[]):=by
     unfold aP;rw[kl (by rw[hl];simp),kl hb];simp[fl]
    rw[this,GC n r (k+1) (oN++[[c]]) (by omega)];simp
  |true=>
   let⟨w,q,e,h1,h2⟩:=PH r;subst e
   have hw:∀d∈c::w,d6 d=true:=λd hd=>by
    rcases w0h.mp hd with rfl|hd
    .exact hl
    .exact h1 d hd
   rw[<- w1n,y9b k (by simp) hw h2,w1p,K9 (c::w) oN [] hw,w1t];have hq:q.J<=n:=by rw[w0g]at h;omega
   have ih:=GC n q (k+(c::w).J) (oN++[c::w]) hq;rw[w0j];cases q with
   |m8=>
    rw[Rt];simp[gh,fl]
   |m6 d q=>
    have hd:=h2 d q rfl;rw[w1g]at ih |-
    have:aP (oN,c::w) d=aP (oN++[c::w],[]) d:=by
     rw[F5 hd,F5 hd];simp[fl]
    rw[this,ih];simp
def y4q(cs:L dt):(ZM cs).ej (·.2)=gh (cs.t_ aP ([],[])):=by
 rw[za5,GC cs.J cs 0 [] (w0d _)];rfl
def nN(s mI:eh)(i:dt):fJ:=decide (i+mI.J<=s.J)&&oq.eh.subAt s mI i
def er{s mI:eh}:nN s mI i=true↔N3.At s mI s.J i:=by simp[nN,N3.At]
theorem MO{s mI:eh}{limit:dt}:∀(l:L dt)(st:tP dt×dt),l.ø (·<·)->(∀i∈l,nN s mI i=true->st.2<=i)->(∀i∈l,∀j∈l,i<j->nN s mI i=true->nN s mI j=true->i+mI.J<=j)->st.1.eG+l.J<=limit ->
  (Ϯ l st (N3.occBody s mI s.J limit)).g9.YC.n9=st.1.n9++l.Tn (nN s mI)
 |[],st,_,_,_,_=>by simp
 |i::l,st,hp,hf,ho,hs=>by
  let⟨p1,p2⟩:=L.pairwise_cons.mp hp;rw[w2n];unfold N3.occBody;have vH:∀x∈l,∀y∈l,x<y->nN s mI x=true->nN s mI y=true->x+mI.J<=y:=λx hx y hy=>ho x (w0f _ hx) y (w0f _ hy)
  split
  .rename_i hc;have hi:nN s mI i=true:=er.rj ⟨hc.1.2,hc.2⟩;refine(MO l (st.1.nV i,i+mI.J) p2 (λj hj hb=>ho i w0l j (w0f _ hj) (p1 j hj) hi hb) vH (by simp at hs |-;omega)).iD ?_
   rw[w2q,gE hi];simp
  .rename_i hc
   have hi:¬nN s mI i=true:=λh=>by
    have h1:=hf i w0l h;let⟨h2,h3⟩:=er.mp h;exact hc ⟨⟨⟨by simp at hs;omega,h1⟩,h2⟩,h3⟩
   refine(MO l st p2 (λj hj hb=>hf j (w0f _ hj) hb) vH (by simp at hs |-;omega)).iD ?_
   rw[w2q,kl hi]
def za6{x y:eh}(ho:∀i j,i<j->nN x y i=true->nN x y j=true->i+y.J<=j):oq.eh._J x y 0 x.J (x.J+1)=(L.range' 0 (x.J+1)).Tn (nN x y):=by
 rw[N3.occ_eq,MO _ _ (L.pairwise_lt_range' ..) (λ_ _ _=>w1k _) (λi _ j _=>ho i j) (by simp)]
 simp
def UI(cs:L dt)(c i:dt):nN (tx cs) ⟨#[c]⟩ i=decide (cs[i]?=O c):=by
 rw[w3l,er,ľ];have:=N3.subAt_one (tx cs) c i;rw[mH]at this;exact this
def cA(c:dt):L dt->L (L dt)
 |[]=>[[]]
 |d::r=>if d=c then[]::cA c r else match cA c r with
  |p::ps=>(d::p)::ps
  |[]=>[[d]]
theorem Bn(c d:dt)(r:L dt):cA c (d::r)=if d=c then[]::cA c r else match cA c r with|p::ps=>(d::p)::ps|[]=>[[d]]:=rfl
theorem GP(c:dt):∀cs,∃p ps,cA c cs=p::ps
 |[]=>⟨[],[],rfl⟩
 |d::r=>by
  let⟨p,ps,e⟩:=GP c r;unfold cA;rw[e];split
  .exact⟨_,_,rfl⟩
  .exact⟨_,_,rfl⟩
def Bu(cs:L dt)(i j:dt):oq.eh._k (tx cs) i j=tx ((cs.m9 i).n5 (j-i)):=by
 have:=N3.strSub_toList (tx cs) i j;rw[<- rE (oq.eh._k (tx cs) i j),this,mH]
theorem Lc(c:dt)(cs:L dt):∀(m i b:dt),cs.J-i=m->b<=i->i<=cs.J->∃p ps,cA c (cs.m9 i)=p::ps /\
  N3.ś (tx cs) 1 b ((L.range' i (m+1)).Tn λi=>decide (cs[i]?=O c))=tx ((cs.m9 b).n5 (i-b)++p)::ps.ej tx
 |0,i,b,hm,hb,hi=>by
  have zcb:i=cs.J:=by omega
  subst zcb;refine⟨[],[],by rw[w3w];rfl,?_⟩;simp[N3.ś,Bu,h_]
 |m+1,i,b,hm,hb,hi=>by
  have cb:i<cs.J:=by omega
  rw[w2g cb,L.range'_succ,w2q,w0a cb];unfold cA
  by_cases hc:cs[i]=c
  .let⟨p,ps,e1,e2⟩:=Lc c cs m (i+1) (i+1) (by omega) (w0d _) cb;rw[gE hc,gE (by simp[hc]),e1];refine⟨[],p::ps,rfl,?_⟩;show oq.eh._k (tx cs) b i::N3.ś (tx cs) 1 (i+1) _=_;rw[e2,Bu];simp
  .let⟨p,ps,e1,e2⟩:=Lc c cs m (i+1) b (by omega) (by omega) cb;rw[kl hc,kl (by simp[hc]),e1];refine⟨cs[i]::p,ps,rfl,?_⟩;rw[e2]
   have:(cs.m9 b).n5 (i+1-b)=(cs.m9 b).n5 (i-b)++[cs[i]]:=by
    rw[show i+1-b=(i-b)+1 by omega,w3r,L.getElem?_drop,show b+(i-b)=i by omega,w0a cb];rfl
   rw[this];simp
def KS(c:dt)(cs:L dt):oq.eh.zdh (tx cs) (oq.eh._J (tx cs) ⟨#[c]⟩ 0 (tx cs).J ((tx cs).J+1)) 1=(cA c cs).ej tx:=by
 rw[za6 (x:=tx cs) (y:=⟨#[c]⟩) (λi j h _ _=>h),N3.Ś,h_]
 let⟨p,ps,e1,e2⟩:=Lc c cs cs.J 0 0 rfl (w0d _) (w1k _);rw[w5e]at e1;rw[show(nN (tx cs) ⟨#[c]⟩)=λi=>decide (cs[i]?=O c)from funext (UI cs c),e2,e1]
 simp
def Rv(h:(oq.eh._J (tx cs) ⟨#[c]⟩ 0 (tx cs).J ((tx cs).J+1)).yw=true):[tx cs]=(cA c cs).ej tx:=by
 rw[<- KS,L.isEmpty_iff.mp h,N3.Ś];exact Yc (·::[]) (N3.sub_whole _).symm
def y9d(hc:c<256)(x:eh):oq.eh.YG ⟨#[c]⟩<=oq.eh.YG x:=by
 have h1:oq.eh.YG ⟨#[c]⟩=1:=by simp[oq.eh.YG,hc]
 rw[h1];unfold oq.eh.YG;split
 .omega
 .split<;>omega
def P4(hc:c<256)(cs:L dt):wF.split (tx cs) ⟨#[c]⟩=(cA c cs).ej tx:=by
 unfold wF.split;split
 .rename_i h;rw[w3b]at h;rcases h with h|h
  .have h0:cs=[]:=by
    have:(tx cs).J<1:=Φ h;rw[h_]at this;exact w4b.mp (by omega)
   subst h0;rfl
  .exact nS (Φ h) (w3q.rj (y9d hc _))
 .split
  .rename_i h;exact Rv h
  .exact KS c cs
def cF(z:L dt):L (L dt)->L dt
 |[]=>[]
 |[p]=>p
 |p::q::r=>p++(z++cF z (q::r))
theorem Mj(z:L dt):∀l:L (L dt),eh.Ο (tx z) (l.ej tx)=tx (cF z l)
 |[]=>rfl
 |[p]=>rfl
 |p::q::r=>by
  show tx p++tx z++eh.Ο (tx z) ((q::r).ej tx)=_;rw[Mj z (q::r),nC,nC,w0k];rfl
def y4r(z:L dt)(c:dt)(cs:L dt):oq.eh.glued (tx z) ((cA c cs).ej tx)=tx (cs.Nn λd=>if d=c then z else[d]):=by
 rw[N3.Ŋ,Mj];congr 1
 induction cs with
 |m8=>rfl
 |m6 d r ih=>
  let⟨p,ps,e⟩:=GP c r;rw[w3s,<- ih,e,Bn,e];split
  .rfl
  .cases ps<;>rfl
def Ml(hz:z≠[])(cs:L dt):wF.replace (tx cs) ⟨#[c]⟩ (tx z)=tx (cs.Nn λd=>if d=c then z else[d]):=by
 unfold wF.replace;rw[<- y4r];split
 .rename_i h;rw[w3b]at h;rcases h with h|h
  .rw[<- Rv h];rfl
  .simp only[w0q,ZE]at h;exact nS h.1 (λz=>by cases z)
 .rw[show(⟨#[c]⟩:eh).J=1 from rfl,KS]
theorem Gg:∀{l:L dt},c∉l->cA c l=[l]
 |[],_=>rfl
 |d::r,h=>by
  unfold cA;rw[kl (λz=>h (by rw[z];exact w0l)),Gg (λz=>h (w0f _ z))]
theorem Ab:∀{l:L dt}(r:L dt),c∉l->cA c (l++c::r)=l::cA c r
 |[],r,_=>by rw[w1t,Bn,gE rfl]
 |d::l,r,h=>by
  rw[w1n,Bn,kl (λz=>h (by rw[z];exact w0l)),Ab r (λz=>h (w0f _ z))]
theorem Mm{c:dt}:∀{ls:L (L dt)}(t:L dt),ls≠[]->(∀l∈ls,c∉l)->∃p,ls.ć=O p/\cA c (cF [c] ls++t)=ls.YQ++cA c (p++t)
 |[],_,h,_=>nS rfl h
 |[p],t,_,_=>⟨p,rfl,rfl⟩
 |p::q::r,t,_,h=>by
  let⟨x,h1,h2⟩:=Mm (ls:=q::r) t (by simp) (λl hl=>h l (w0f _ hl))
  refine⟨x,by rw[L.getLast?_cons_cons];exact h1,?_⟩;rw[show cF [c] (p::q::r)=p++(c::cF [c] (q::r))from rfl,w0k,w1n,Ab _ (h p w0l),h2];rfl
def pF{y:L dt}:nN (tx cs) (tx y) i=true↔∃l r,cs=l++(y++r)/\l.J=i:=by
 rw[er];unfold N3.At;rw[N3.subAt_eq,h_,h_,mH,mH,ZE];constructor
 .rintro⟨h1,h2⟩;refine⟨cs.n5 i,cs.m9 (i+y.J),?_,by simp;omega⟩;have:cs=cs.n5 i++((cs.m9 i).n5 y.J++(cs.m9 i).m9 y.J):=by rw[w2p,w2p]
  rw[h2,w6f]at this;exact this
 .rintro⟨l,r,rfl,rfl⟩;exact⟨by simp,by simp⟩
def Q9{l y:L dt}(hy:y≠[])(hu:∀l' r',l++(y++r)=l'++(y++r')->l'.J=l.J)(n:dt):oq.eh._J (tx (l++(y++r))) (tx y) 0 (tx (l++(y++r))).J (n+1)=[l.J]:=by
 have NR:∀i,N3.At (tx (l++(y++r))) (tx y) (tx (l++(y++r))).J i->i=l.J:=λi h=>by
  let⟨l',r',e,hi⟩:=pF.mp (er.rj h);rw[<- hi];exact hu l' r' e
 rcases N3.Ř (tx (l++(y++r))) (tx y) (n+1) (by omega)with⟨_,h2⟩|⟨i,q,h1,h2,_⟩
 .exact nS (er.mp (pF.rj ⟨l,r,rfl,rfl⟩)) (h2 _)
 .have:=NR i h2;subst this;let⟨f,hc⟩:=N3.occ_chain (tx (l++(y++r))) (tx y) (n+1);rw[h1]at hc |-
  cases q with
  |m8=>rfl
  |m6 j q=>
   let⟨_,_,h3,h4,_⟩:=hc;have:=NR j h4;rw[this,h_]at h3;cases y with
   |m8=>exact nS rfl hy
   |m6 _ _=>simp at h3;omega
def y4s{l y:L dt}(hy:y≠[])(hz:z≠[])(hu:∀l' r',l++(y++r)=l'++(y++r')->l'.J=l.J):wF.replace (tx (l++(y++r))) (tx y) (tx z)=tx (l++(z++r)):=by
 unfold wF.replace;rw[Q9 hy hu,kl,N3.Ś,N3.Ŋ]
 .show oq.eh._k (tx (l++(y++r))) 0 l.J++tx z++oq.eh._k (tx (l++(y++r))) (l.J+(tx y).J) (tx (l++(y++r))).J=_;rw[Bu,Bu,h_,h_,nC,nC];congr 1;simp;exact w1u (by omega)
 .simp only[L.isEmpty_cons,fJ.false_or,w0q,ZE,h_];rintro⟨h,_⟩;exact hy (w4b.mp h)
def Q_{l:L dt}(hl:c∉l)(hr:c∉r)(l' r':L dt)(e:l++c::r=l'++c::r'):l'.J=l.J:=by
 have h:(l++c::r)[l'.J]?=O c:=by rw[e];simp
 rcases dt.lt_trichotomy l'.J l.J with cb|Ν|hgt
 .rw[w0x cb]at h;exact nS (w1m h) hl
 .exact Ν
 .rw[w0z (by omega),show l'.J-l.J=(l'.J-l.J-1)+1 by omega,w0v]at h;exact nS (w1m h) hr
def Ra{l:L dt}(hl:c∉l)(hr:c∉r):dS (tx (l++c::r)) (tx [c])=[tx l,tx [c],tx r]:=by
 have:=Q9 (l:=l) (y:=[c]) (r:=r) (by simp) (λl' r' e=>Q_ hl hr l' r' e) 0
 rw[w4k]at this;unfold dS;rw[this];show[oq.eh._k _ 0 l.J,_,oq.eh._k _ (l.J+(tx [c]).J) _]=_;rw[Bu,Bu,h_,h_];simp;congr 1;exact w1u (by omega)
def P5{l:L dt}(hl:c∉l):dS (tx l) (tx [c])=[tx l, "", ""]:=by
 unfold dS;rcases N3.Ř (tx l) (tx [c]) 1 (w0d _)with⟨h,_⟩|⟨i,q,_,h2,_⟩
 .rw[h];rfl
 .let⟨l',r',e,_⟩:=pF.mp (er.rj h2);exact nS (by rw[e];simp) hl
theorem S_:∀l:L (L dt),kN (l.ej λw=>.str (tx w))=O (l.ej tx)
 |[]=>rfl
 |w::l=>by
  have:=S_ l;rw[w0j,w0j];show(kN (l.ej λw=>W.str (tx w))).ej (tx w::·)=_
  rw[this];rfl
def Hf{z:L dt}{l:L (L dt)}(h:(l.ej L.J)._l+l.J*(z.J+1)<=1000000):d7 (.str (tx z)) [.fy (l.ej λw=>.str (tx w))]=O (.str (tx (cF z l))):=by
 show(match kN (l.ej λw=>W.str (tx w))with
   |O ys=>if km (tx z) ys=true then O (W.str (wF.Ο (tx z) ys))else none
   |none=>none)=_
 rw[S_];show(if km (tx z) (l.ej tx)=true then O (W.str (wF.Ο (tx z) (l.ej tx)))else none)=_;rw[show wF.Ο (tx z) (l.ej tx)=tx (cF z l)from(N3.Ŋ _ _).iD (Mj z l),gE];unfold km;rw[w1f,show(λx:eh=>x.J) ∘ tx=L.J from funext h_,w0b,h_]
 refine w5r (w1d (w4s (dt.mul_le_mul_left _ (w5h _)) _) (w1d h (by decide)))
def cW(s:L (L dt)×L dt)(c:dt):L (L dt)×L dt:=if c=32 then(s.1++fl s.2,[])else(s.1,s.2++[c])
def sq(w:L dt):fJ:=decide (w≠[])
def gk(cs:L dt):L (L dt):=(cA 32 cs).Tn sq
def P6(w:L dt)(r:L (L dt)):(w::r).Tn sq=fl w++r.Tn sq:=by
 unfold fl sq;rw[w2q]
 by_cases h:w=[]
 .simp[h]
 .simp[h]
theorem Mn:∀(cs:L dt)(oN:L (L dt))(Yd:L dt),∃p ps,cA 32 cs=p::ps/\gh (cs.t_ cW (oN,Yd))=oN++(((Yd++p)::ps).Tn sq)
 |[],oN,Yd=>⟨[],[],rfl,by rw[P6];simp[gh]⟩
 |c::cs,oN,Yd=>by
  rw[Bn,w1g]
  by_cases h:c=32
  .let⟨p,ps,e1,e2⟩:=Mn cs (oN++fl Yd) [];rw[gE h,show cW (oN,Yd) c=(oN++fl Yd,[])from gE h,e2,e1];exact⟨[],p::ps,rfl,by rw[P6 (Yd++[]),w0k,w0s,w1t]⟩
  .let⟨p,ps,e1,e2⟩:=Mn cs oN (Yd++[c]);rw[kl h,show cW (oN,Yd) c=(oN,Yd++[c])from kl h,e2,e1];exact⟨c::p,ps,rfl,by rw[w0k];rfl⟩
def Bv(cs:L dt):gk cs=gh (cs.t_ cW ([],[])):=by
 let⟨p,ps,e1,e2⟩:=Mn cs [] [];rw[e2];unfold gk;rw[e1];rfl
def nW(cs:L dt):L (L dt):=gh (cs.t_ aP ([],[]))
def Dw{st:α->dt->α}{g:dt->L dt}(h:∀c s,(g c).t_ st s=st s c)(cs:L dt)(s:α):(cs.Nn g).t_ st s=cs.t_ st s:=by
 induction cs generalizing s with
 |m8=>rfl
 |m6 c cs ih=>rw[w3s,w1p,h,ih];rfl
def Rw(s:L (L dt)×L dt):cW (cW s 32) 32=cW s 32:=by simp[cW,fl]
def Rx(s:L (L dt)×L dt):aP (aP s 32) 32=aP s 32:=by simp[aP,d6,fl]
def TJ(s:L (L dt)×L dt):gh (cW s 32)=gh s:=by simp[cW,gh,fl]
def Vj(s:L (L dt)×L dt):gh (aP s 32)=gh s:=by simp[aP,d6,gh,fl]
def rp(c:dt)(z:L dt)(d:dt):L dt:=if d=c then z else[d]
def TK(c:dt)(s:L (L dt)×L dt):(rp 32 [32,32,32] c).t_ cW s=cW s c:=by
 unfold rp;split
 .rename_i h;subst h;show cW (cW (cW s 32) 32) 32=_;rw[Rw,Rw]
 .rfl
def Vk(c:dt)(s:L (L dt)×L dt):(rp 32 [32,32,32] c).t_ aP s=aP s c:=by
 unfold rp;split
 .rename_i h;subst h;show aP (aP (aP s 32) 32) 32=_;rw[Rx,Rx]
 .rfl
def Vl(c:dt)(s:L (L dt)×L dt):(rp 40 [32,40,32] c).t_ aP s=aP s c:=by
 unfold rp;split
 .rename_i h;subst h;show aP (aP (aP s 32) 40) 32=_;simp[aP,d6,fl]
 .rfl
def Vm(c:dt)(s:L (L dt)×L dt):(rp 41 [32,32,41] c).t_ aP s=aP s c:=by
 unfold rp;split
 .rename_i h;subst h;show aP (aP (aP s 32) 32) 41=_;simp[aP,d6,fl]
 .rfl
theorem DP:∀{cs:L dt},c∉cs->cs.Nn (rp c z)=cs
 |[],_=>rfl
 |d::cs,h=>by
  rw[w3s,DP (λx=>h (w0f _ x))]
  unfold rp;rw[kl (λx=>h (by rw[x];exact w0l))];rfl
theorem va{c e:dt}(hz:e∉z)(h:e∉cs):e∉cs.Nn (rp c z):=λhm=>by
 let⟨d,hd,he⟩:=L.mem_flatMap.mp hm;unfold rp at he;split at he
 .exact hz he
 .rw[w0u.mp he]at h;exact h hd
def Hw(cs:L dt)(ws:L (L dt)):Prop:=61∉cs/\10∉cs/\gk cs=ws
def TU(cs:L dt)(ws ts:L (L dt)):Prop:=∃l r,cs=l++61::r/\61∉l/\61∉r/\10∉cs/\gk l=ws/\nW r=ts
def jh(w:eW)(x:eh):eh:=if w=3\/w=2 then("  ":eh)++wF.replace x " " "   "++" " else if w=4 then wF.replace x " = " "=" else if w=5 then wF.replace (wF.replace x "(" " ( ") ")" "  )" else x
def nK(w:eW)(cs:L dt):L dt:=if w=3\/w=2 then 32::32::(cs.Nn (rp 32 [32,32,32])++[32])else if w=5 then(cs.Nn (rp 40 [32,40,32])).Nn (rp 41 [32,32,41])else cs
def TL{w:eW}(cs:L dt)(h:w≠4):jh w (tx cs)=tx (nK w cs):=by
 unfold jh nK
 by_cases h3:w=3\/w=2
 .rw[gE h3,gE h3,show(" ":eh)=⟨#[32]⟩from rfl,show("   ":eh)=tx [32,32,32]from rfl,Ml (by simp),show("  ":eh)=tx [32,32]from rfl,nC,show(⟨#[32]⟩:eh)=tx [32]from rfl,nC];simp only[w1n,w1t,w0k];rfl
 .rw[kl h3,kl h3,kl h]
  by_cases h5:w=5
  .rw[gE h5,gE h5,show("(":eh)=⟨#[40]⟩from rfl,show(" ( ":eh)=tx [32,40,32]from rfl,Ml (by simp),show(")":eh)=⟨#[41]⟩from rfl,show("  )":eh)=tx [32,32,41]from rfl,Ml (by simp)];rfl
  .rw[kl h5,kl h5]
theorem GD{g:dt->L dt}(h:∀c,(g c).J<=3):∀cs:L dt,(cs.Nn g).J<=3*cs.J
 |[]=>by simp
 |c::cs=>by
  have h1:=h c;have h2:=GD h cs;rw[w3s,w0g,w0r];omega
def M_(h:z.J<=3):(rp c z d).J<=3:=by unfold rp;split<;>simp[h]
def Ry(w:eW)(cs:L dt):(nK w cs).J<=9*cs.J+3:=by
 have h1:=GD (g:=rp 32 [32,32,32]) (λc=>M_ (by simp)) cs
 have h2:=GD (g:=rp 40 [32,40,32]) (λc=>M_ (by simp)) cs
 have h3:=GD (g:=rp 41 [32,32,41]) (λc=>M_ (by simp)) (cs.Nn (rp 40 [32,40,32]))
 unfold nK;split
 .simp only[w0r,w0g,w3n];omega
 .split<;>omega
def UJ{w:eW}(h:Hw cs ws)(HX:40∉cs)(HY:41∉cs):∃rR,jh w (tx cs)=tx rR/\Hw rR ws/\rR.J<=9*cs.J+3:=by
 let⟨h1,h2,h3⟩:=h
 by_cases e4:w=4
 .refine⟨cs,?_,⟨h1,h2,h3⟩,by omega⟩;unfold jh;rw[kl (by omega),gE e4];unfold wF.replace;rw[gE];rw[w3b]
  left
  rcases N3.Ř (tx cs) " = " ((tx cs).J+1) (by omega)with⟨h,_⟩|⟨i,q,_,h2,_⟩
  .rw[h];rfl
  .let⟨l',r',e,_⟩:=(pF (y:=[32,61,32])).mp (er.rj h2);exact nS (by rw[e];simp) h1
 .refine⟨nK w cs,TL cs e4,?_,Ry w cs⟩;unfold nK;split
  .refine⟨?_,?_,?_⟩
   .simp[va (c:=32) (z:=[32,32,32]) (by simp) h1]
   .simp[va (c:=32) (z:=[32,32,32]) (by simp) h2]
   .rw[Bv,<- h3,Bv,w1g,w1g,w1p,show cW (cW ([],[]) 32) 32=([],[])from rfl,Dw TK];exact TJ _
  .rw[DP HX,DP HY];split<;>exact⟨h1,h2,h3⟩
def UK{w:eW}{l:L dt}{ts:L (L dt)}(hl:61∉l)(hr:61∉r)(yI:10∉l++r)(HX:40∉l)(HY:41∉l)(hw:gk l=ws)(ht:nW r=ts):∃rR,jh w (tx (l++32::61::32::r))=tx rR/\TU rR ws ts/\rR.J<=9*(l.J+r.J+3)+3:=by
 have x8:10∉l:=λx=>yI (w1h _ x)
 have GV:10∉r:=λx=>yI (w0e _ x)
 have w1:gk (l++[32])=ws:=by rw[<- hw,Bv,Bv,w1p];exact TJ _
 have t1:nW (32::r)=ts:=by rw[<- ht];rfl
 by_cases e4:w=4
 .refine⟨l++61::r,?_,⟨l,r,rfl,hl,hr,by simp[x8,GV],hw,ht⟩,by simp;omega⟩;unfold jh;rw[kl (by omega),gE e4];refine(y4s (l:=l) (y:=[32,61,32]) (z:=[61]) (r:=r) (by simp) (by simp) λl' r' e=>?_)
  have:=Q_ (l:=l++[32]) (r:=32::r) (c:=61) (by simp[hl]) (by simp[hr]) (l'++[32]) (32::r') (by simpa using e)
  simpa using this
 .refine⟨nK w (l++32::61::32::r),TL _ e4,?_,w1d (Ry _ _) (by simp;omega)⟩;unfold nK;split
  .refine⟨32::32::(l++[32]).Nn (rp 32 [32,32,32]),(32::r).Nn (rp 32 [32,32,32])++[32],?_,?_,?_,?_,?_,?_⟩
   .simp[rp]
   .simp[va (c:=32) (z:=[32,32,32]) (by simp) hl,rp]
   .simp[va (c:=32) (z:=[32,32,32]) (by simp) hr,rp]
   .simp[va (c:=32) (z:=[32,32,32]) (by simp) x8,va (c:=32) (z:=[32,32,32]) (by simp) GV,rp]
   .rw[<- w1,Bv,Bv,w1g,w1g,show cW (cW ([],[]) 32) 32=([],[])from rfl,Dw TK]
   .rw[<- t1];unfold nW;rw[w1p,Dw Vk];exact Vj _
  .split
   .refine⟨l++[32],((32::r).Nn (rp 40 [32,40,32])).Nn (rp 41 [32,32,41]),?_,by simp[hl],?_,?_,w1,?_⟩
    .rw[w4u,w4u,DP HX,DP HY];simp[rp]
    .exact va (by simp) (va (by simp) (by simp[hr]))
    .refine va (by simp) (va (by simp) (by simp[x8,GV]))
    .rw[<- t1];unfold nW;rw[Dw Vm,Dw Vl]
   .exact⟨l++[32],32::r,by simp,by simp[hl],by simp[hr],by simp[x8,GV],w1,t1⟩
def y9e(n k:dt)(w:W)(x:eh)(done:L eh)(hx:ro x=true)(hi:x∉done)(hd:done.J<1000)(hk:k=done.J):
  Fy K a (g9 K a (n+2)) [.fr w,.ba (.k (pN 0 done)),.fr (.d0 k),.fr (.str x)]=.nx [.fr w,.ba (.k (pN 0 (done++[x]))),.fr (.d0 k),.fr (.str x)]:=by
 unfold Fy;rw?;rw[PB n x (RX hx).1,hx];rw?;rw[Ho,w2m,GO];simp only[hi,Ŀ];rw?;rw[gE ⟨by rw[S7];omega,rfl⟩]
 have e1:_M (pN 0 done) (.j' x) (.h8 (k:eW))=pN 0 (done++[x]):=by
  unfold _M;rw[S8,kl (by simp[hi]),RW,hk];simp
 rw[e1]
theorem P7(n:dt)(w:W):∀(xs done:L eh)(z2 z3:S),(∀x∈xs,ro x=true)->(done++xs).p9->done.J+xs.J<1000 ->
  ∃y2 y3,eg 2 3 (Fy K a (g9 K a (n+2))) (bZ done.J (xs.ej .str)) [.fr w,.ba (.k (pN 0 done)),z2,z3]=.nx [.fr w,.ba (.k (pN 0 (done++xs))),y2,y3]
 |[],done,z2,z3,_,_,_=>⟨z2,z3,by rw[w0s];rfl⟩
 |x::xs,done,z2,z3,hl,hn,hd=>by
  have hi:x∉done:=λh=>(w2d.mp hn).2.2 x h x w0l rfl
  rw[w0j];show ∃y2 y3,eg 2 3 _ ((.d0 (done.J:dt),.str x)::bZ (done.J+1) (xs.ej .str)) _=_;rw[u4];simp only[w1s,w1r];rw[y9e n done.J w x done (hl x w0l) hi (by simp at hd;omega) rfl,o7];have ih:=P7 n w xs (done++[x]) (.fr (.d0 done.J)) (.fr (.str x)) (λy hy=>hl y (w0f _ hy)) (by simpa using hn) (by simp at hd |-;omega)
  rw[show(done++[x]).J=done.J+1 by simp,show done++[x]++xs=done++x::xs by simp]at ih;exact ih
def S'(n:dt)(xs:L eh)(hx:∀x∈xs,ro x=true)(hn:xs.p9)(hd:xs.J<1000):g9 K a (n+3) FE [.ff (xs.ej .str)]=.ok (.ba (.k (pN 0 xs))):=by
 rw[Xd];unfold JU;rw?;let⟨y2,y3,q⟩:=P7 (K:=K) (a:=a) n (.ff (xs.ej .str)) xs [] .no .no hx (by simpa using hn) (by simpa using hd);rw[show(pN 0 []:L (wB×Sv))=[]from rfl,show([]:L eh).J=0 from rfl,w1t]at q;rw[q];rw?
def Rz(n:dt)(cs:L dt)(gB:cs.J<=100000)(xs:L eh)(hx:∀x∈xs,ro x=true)(hd:xs.p9)(hl:xs.J<1000)(h:Tk xs 0 f ts d)(ht:(ZM cs).ej (λp=>tx p.2)=ts)(Yg:d<=12):
  g9 K a (n+4) MJ [.str (tx cs),.ff (xs.ej .str)]=.ok (.fr .aH)/\g9 K a (n+4) MT [.str (tx cs),.ff (xs.ej .str)]=.ok (.fr (mE f)):=by
 have hp:=R0 cs.J cs 0;have hf:=h.fF hx (ZM cs) [] 0 ht (by omega);rw[w0s]at hf;have NW:cY xs (ZM cs) true 0=.j' (false,0):=hf;have hn:qN xs cs.J (ZM cs)=none:=by unfold qN;rw[NW];rfl
 let⟨w,h1,h2⟩:=z5p (K:=K) (a:=a) (n+1) (ZM cs) xs hx (by show(nY cs.J cs 0).J<=_;omega) NW;rw[y9c,ht,h._m hx hd]at h1;cases h1;refine⟨?_,?_⟩
 .rw[y34];unfold MM;rw?;rw[S' n xs hx hd hl];rw?;rw[PD n cs gB];rw?;rw[vQ gB];rw?;rw[S9 (n+1) (ZM cs) cs.J xs hx,hn];unfold yz;rw?
 .rw[y8x];unfold MU;rw?;rw[S' n xs hx hd hl];rw?;rw[PD n cs gB];rw?;rw[vQ gB];rw?;rw[S9 (n+1) (ZM cs) cs.J xs hx,hn];unfold yz;rw?;rw[h2];rw?
theorem xI{cc:gF fJ}{d:gF W}{pe:L S}(en g:α->W)(t:α->fJ):∀l:L α,(∀x∈l,∃e',cc (.fr (en x)::pe)=.ok (t x) e'/\(t x=true->∃e2,d e'=.ok (g x) e2))->cq cc d pe (l.ej en)=O ((l.Tn t).ej g)
 |[],_=>rfl
 |x::l,h=>by
  let⟨e',h1,h2⟩:=h x w0l;rw[w0j,Gd,h1,w2q,xI en g t l λy hy=>h y (w0f _ hy)]
  cases q:t x with
  |false=>rfl
  |true=>
   let⟨e2,h3⟩:=h2 q;simp only[h3];rfl
theorem GF(c:dt):∀cs:L dt,(cA c cs).J<=cs.J+1
 |[]=>by simp[cA]
 |d::r=>by
  have:=GF c r;let⟨p,ps,e⟩:=GP c r;rw[Bn];split
  .simp;omega
  .rw[e]at this |-;simp at this |-;omega
def wT(w:L dt):W:=.str (tx w)
def wA(hc:c<256)(h:cs.J<=100000):hW (.str (tx cs)) [.str ⟨#[c]⟩]=O (.fy ((cA c cs).ej wT)):=by
 have:=GF c cs;show(if iI (tx cs) ⟨#[c]⟩=true then O (W.fy ((wF.split (tx cs) ⟨#[c]⟩).ej .str))else none)=_;rw[P4 hc,gE,w1f]
 .rfl
 .unfold iI;rw[P4 hc,h_,w0b];simp only[w0q,ϫ];exact⟨⟨rfl,by omega⟩,by omega⟩
def UL(w:L dt):Ym (wT w) (.str "")=O (.bl (sq w)):=by
 show Ym (.str (tx w)) (.str "")=_;rw[z0j];have:(tx w=("":eh))↔w=[]:=⟨λh=>He (y:=[]) h,λh=>by rw[h];rfl⟩
 simp[sq,this]
def Gp(n:dt)(cs:L dt)(h:cs.J<=100000):g9 K a (n+1) F3 [.str (tx cs)]=.ok (.gD none ((gk cs).ej wT)):=by
 rw[zae];unfold K2;rw?;rw[show(" ":eh)=⟨#[32]⟩from rfl,wA (by omega) h];have hl:=GF 32 cs;rw?;rw[gE (by rw[w0b];omega),xI wT wT sq]
 .rw?;rfl
 .intro w _;unfold OS OR;rw?;rw[UL];rw?;exact⟨_,rfl,λ_=>⟨_,rfl⟩⟩
structure Pt where
 pS:dt
 vj:eh
 lH:L eh
 first:W
 yF:eh
 fm:Fm
def pk:L Kx:=[.str "row", .str "word", .str "names", .str "first", .str "form"]
def pw(p:Pt):L W:=[.d0 p.pS,.str p.vj,.ff (p.lH.ej .str),p.first,.str p.yF]
def aJ(p:Pt):W:=.dw false .str pk (pw p)
def Ag(p:Pt):i5 (aJ p) (.str "word")=O (.str p.vj):=by simp[i5,aJ,pk,pw,iO,xJ]
def Mo(p:Pt):i5 (aJ p) (.str "names")=O (.ff (p.lH.ej .str)):=by simp[i5,aJ,pk,pw,iO,xJ]
def y9f(p:Pt):i5 (aJ p) (.str "first")=O p.first:=by simp[i5,aJ,pk,pw,iO,xJ]
def RA(p:Pt):i5 (aJ p) (.str "form")=O (.str p.yF):=by simp[i5,aJ,pk,pw,iO,xJ]
def UM{l:L dt}(h:l.J<=100000):ny (.str (tx l)) [.str "="]=O (.ff ((dS (tx l) (tx [61])).ej .str)):=by
 refine gE ?_;unfold mf;rw[h_];simp only[w0q,ϫ];exact⟨rfl,by omega⟩
def zS(k:dt)(f:eh):L W:=[.d0 k,.str "", .ff [],.aH,.str f]
def GG(n k:dt){l:L dt}{s1 s2:eh}(hc:cs.J<=100000)(hl:l.J<=100000)(h:dS (tx cs) (tx [61])=[tx l,s1,s2]):g9 K a (n+2) u5 [.str (tx cs),.d0 k]=(A_ K a (g9 K a (n+1)) [.fr (.str (tx cs)),.fr (.d0 k),.fr (.ff [.str (tx l),.str s1,.str s2]),.fr (.fy ((gk l).ej wT)),.dw .str pk (zS k s2)]).fn:=by
 rw[X3];unfold Kf;rw?;rw[UM hc,h];rw?;rw[Gp n l hl];rw?;rfl
def wj(x y:eh):rh (.fy [.str x]) (.fy [.str y])=O (.bl (decide (x=y))):=by
 have h:(TX (.fy [.str x]) (.fy [.str y]))=O (x==y):=by
  show O ((x==y)&&true)=O (x==y);rw[w6k]
 have d:dY (.fy [.str x])<=150:=(by decide:max 0 0+1<=150);unfold rh;rw[gE d,h];show O (W.bl (x==y))=_;congr 2
theorem wk(w:W)(l:L W):fE (w::l) none (O 1)=[w]:=M9 (k:=1) (l:=w::l) (by simp)
theorem Vn(w:W)(l:L W):fE (w::l) (O 1) none=l:=GB (k:=1) (l:=w::l) (by simp)
def Ta{g:Fm}{k:dt}{f:eh}{w0 w1 w2 w3:W}:rJ 4 ["word", "names"] [.str x,.ff (xs.ej .str)] [.fr w0,.fr w1,.fr w2,.fr w3,.dw .str pk (zS k f)] (O (.dw .str pk (zS k f)))=.nx [.fr w0,.fr w1,.fr w2,.fr w3,.dw .str pk (pw ⟨k,x,xs,.aH,f,g⟩)]:=by
 rw[S2 ⟨rfl,by simp[pk],by simp[pk,xJ],rfl⟩];simp[pA,uy,pk,zS,pw,xJ]
def y9g{g:Fm}{k:dt}{f y:eh}{w0 w1 w2 w3:W}:rJ 4 ["word", "names", "first"] [.str x,.ff (xs.ej .str),.str y] [.fr w0,.fr w1,.fr w2,.fr w3,.dw .str pk (zS k f)] (O (.dw .str pk (zS k f)))=.nx [.fr w0,.fr w1,.fr w2,.fr w3,.dw .str pk (pw ⟨k,x,xs,.str y,f,g⟩)]:=by
 rw[S2 ⟨rfl,by simp[pk],by simp[pk,xJ],rfl⟩];simp[pA,uy,pk,zS,pw,xJ]
def UN(l:L (L dt)):l.ej wT=(l.ej tx).ej .str:=by rw[w1f];rfl
def UO{g:Fm}(n k:dt){ns:L (L dt)}(hc:cs.J<=100000)(h:Hw cs ([105,110]::ns)):g9 K a (n+2) u5 [.str (tx cs),.d0 k]=.ok (.dw .str pk (pw ⟨k, "in", ns.ej tx,.aH, "", g⟩)):=by
 let⟨h1,h2,h3⟩:=h;rw[GG n k hc hc (P5 h1),h3];unfold A_;rw?;rw[wk,show wT [105,110]=.str "in" from rfl,wj];rw?;rw[Vn,UN,Ta (g:=g)];rw?
def kg:L dt:=[104,101,108,100]
def oZ:L dt:=[111,117,116]
def kS(b:fJ):L dt:=if b=true then[121,101,115]else[110,111]
def y9h{g:Fm}(n k:dt){l nm:L dt}{b:fJ}(hc:(l++61::r).J<=100000)(h1:61∉l)(h2:61∉r)(h:gk l=[kg,nm,kS b]):g9 K a (n+2) u5 [.str (tx (l++61::r)),.d0 k]=.ok (.dw .str pk (pw ⟨k, "held", [tx nm],wT (kS b),tx r,g⟩)):=by
 rw[GG n k hc (by simp at hc;omega) (show dS (tx (l++61::r)) (tx [61])=[tx l, "=", tx r]from Ra h1 h2),h];unfold A_;rw?;rw[wk,show wT kg=.str "held" from rfl,wj];rw?;rw[wk,wj];rw?;rw[show ki (wT (kS b)) (.ff [.str "yes", .str "no"])=O (.bl true) by cases b<;>rfl];rw?;rw[show([wT nm]:L W)=[tx nm].ej .str from rfl,show wT (kS b)=.str (tx (kS b))from rfl,y9g (g:=g)];rw?;exact(gE rfl).iD rfl
def z5t{g:Fm}(n k:dt){l nm:L dt}(hc:(l++61::r).J<=100000)(h1:61∉l)(h2:61∉r)(h:gk l=[oZ,nm]):g9 K a (n+2) u5 [.str (tx (l++61::r)),.d0 k]=.ok (.dw .str pk (pw ⟨k, "out", [tx nm],.aH,tx r,g⟩)):=by
 rw[GG n k hc (by simp at hc;omega) (show dS (tx (l++61::r)) (tx [61])=[tx l, "=", tx r]from Ra h1 h2),h];unfold A_;rw?;rw[wk,show wT oZ=.str "out" from rfl,wj];rw?;rw[wk,wj];rw?;rw[wk,wj];rw?;rw[show([wT nm]:L W)=[tx nm].ej .str from rfl,Ta (g:=g)];rw?;exact gE rfl
def vt(ps:L Pt)(x:eh):L eh:=(ps.Tn λp=>decide (p.vj=x)).Nn Pt.lH
def Dp(p:Pt)(ps:L Pt)(x:eh):vt (p::ps) x=(if p.vj=x then p.lH else[])++vt ps x:=by
 unfold vt;rw[w2q]
 by_cases h:p.vj=x<;>simp[h]
theorem PJ(r:dt->L W->FR)(w0:W)(x:eh):∀(ps:L Pt)(m7:L eh)(z:S),(m7++vt ps x).J<=1000->∃z',bT 3 (Dn K a r) (ps.ej aJ) [.fr w0,.fr (.str x),.fr (.ff (m7.ej .str)),z]=.nx [.fr w0,.fr (.str x),.fr (.ff ((m7++vt ps x).ej .str)),z']
 |[],m7,z,_=>⟨z,by simp[vt];rfl⟩
 |p::ps,m7,z,h=>by
  rw[Dp,<- w0k]at h |-
  let⟨z',ih⟩:=PJ r w0 x ps (m7++if p.vj=x then p.lH else[]) (.fr (aJ p)) h;refine⟨z',?_⟩;rw[<- ih,w0j];show(Dn K a r [.fr w0,.fr (.str x),.fr (.ff (m7.ej .str)),.fr (aJ p)]).cV (bT 3 (Dn K a r) (ps.ej aJ))=_;unfold Dn;rw?;rw[Ag];rw?
  by_cases e:p.vj=x
  .simp only[e,ZI]at h |-
   rw[Mo];rw?;rw[gE (by simp at h |-;omega),<- w0m];rw?
  .simp only[e,_i,w0s];rw?
def Dx(n:dt)(ps:L Pt)(x:eh)(h:(vt ps x).J<=1000):g9 K a (n+1) zZ [.fy (ps.ej aJ),.str x]=.ok (.fr (.ff ((vt ps x).ej .str))):=by
 rw[zaf];unfold K3;rw?;let⟨z',e⟩:=PJ (K:=K) (a:=a) (g9 K a n) (.fy (ps.ej aJ)) x ps [] .no (by simpa using h);rw[w3d,w1t]at e;rw[e];rw?
def b_:L eh:=["in", "held", "out"]
def Β(x:eh):L eh:=if x="in" then[""]else if x="held" then["in", "held"]else["in", "held", "out"]
def qg(x:eh):dt:=if x="in" then 3 else if x="held" then 4 else 6
def Hg(ys:L eh):kF (.str x) (.ff (ys.ej .str))=O (.bl (!decide (x∈ys))):=by
 refine(gE ⟨rfl,Gf ys⟩).iD ?_;rw[GA]
def U6(h:x∈b_):qx Lr (.str x)=O (.ff ((Β x).ej .str))/\nJ Kl (.str x)=O (.d0 (qg x)):=by
 simp only[b_,w0h,w1b,Xz]at h;rcases h with rfl|rfl|rfl
 .exact⟨rfl,rfl⟩
 .exact⟨rfl,rfl⟩
 .exact⟨rfl,rfl⟩
def eD(ps:L Pt):eh:=match ps.ć with
 |O p=>p.vj
 |none=>""
def YI(ps:L Pt):L eh:=vt ps "in"++(vt ps "held"++vt ps "out")
structure ir(ps:L Pt)(p:Pt):Prop where
 vj:p.vj∈b_
 last:eD ps∈Β p.vj
 ZK:(vt ps p.vj++p.lH).J<=qg p.vj
 ok:∀x∈p.lH,ro x=true/\x∉b_
 nd:(YI ps++p.lH).p9
 oO:(YI ps).J<=900
def za7(n:dt)(w0 w1 w2 w3:W)(x:eh)(tk:L eh)(z5:S)(h1:ro x=true)(h2:x∉b_)(hi:x∉tk)(hl:tk.J<=1000):Bf K a (g9 K a (n+2)) [.fr w0,.fr w1,.fr w2,.fr w3,.gD none (tk.ej .str),z5,.fr (.str x)]=.nx [.fr w0,.fr w1,.fr w2,.fr w3,.gD none ((tk++[x]).ej .str),z5,.fr (.str x)]:=by
 unfold Bf;rw?;rw[Vi];simp only[hi,Ŀ];rw?;rw[show ki (.str x) (.ff [.str "in", .str "held", .str "out"])=O (.bl false)from(EI b_).iD (by simp[h2])];rw?;rw[PB n x (RX h1).1,h1];rw?;rw[gE (by simp;omega)];simp
theorem PK(n:dt)(w0 w1 w2 w3:W):∀(xs tk:L eh)(z5 z6:S),(∀x∈xs,ro x=true/\x∉b_)->(tk++xs).p9->(tk++xs).J<=1000->∃e,bT 6 (Bf K a (g9 K a (n+2))) (xs.ej .str) [.fr w0,.fr w1,.fr w2,.fr w3,.gD none (tk.ej .str),z5,z6]=.nx e
 |[],tk,z5,z6,_,_,_=>⟨_,rfl⟩
 |x::xs,tk,z5,z6,hx,hn,hl=>by
  let⟨h1,h2⟩:=hx x w0l;have hi:x∉tk:=λh=>(w2d.mp hn).2.2 x h x w0l rfl
  let⟨e,ih⟩:=PK n w0 w1 w2 w3 xs (tk++[x]) z5 (.fr (.str x)) (λy hy=>hx y (w0f _ hy)) (by simpa using hn) (by simpa using hl)
  refine⟨e,?_⟩;rw[<- ih,w0j];show(Bf K a (g9 K a (n+2)) [.fr w0,.fr w1,.fr w2,.fr w3,.gD none (tk.ej .str),z5,.fr (.str x)]).cV (bT 6 (Bf K a (g9 K a (n+2))) (xs.ej .str))=_;rw[za7 n w0 w1 w2 w3 x tk z5 h1 h2 hi (by simp at hl;omega)];rfl
def Mp(n:dt)(w0 w2 w3:W)(ps:L Pt)(x:eh)(tk:L eh)(z6:S)(h:tk.J+(vt ps x).J<=1000):u6 K a (g9 K a (n+1)) [.fr w0,.fr (.fy (ps.ej aJ)),.fr w2,.fr w3,.gD none (tk.ej .str),.fr (.str x),z6]=.nx [.fr w0,.fr (.fy (ps.ej aJ)),.fr w2,.fr w3,.gD none ((tk++vt ps x).ej .str),.fr (.str x),z6]:=by
 unfold u6;rw?;rw[Dx n ps x (by omega)];rw?;rw[gE (by simp;omega)];simp
def z5u{ps:L Pt}(h:ps≠[]):∃p,ps.ć=O p/\et (ps.ej aJ) (-1)=O (aJ p):=by
 obtain⟨q,e⟩:∃q,ps=ps.YQ++[q]:=⟨ps.getLast h,(L.dropLast_concat_getLast h).symm⟩;refine⟨q,by rw[e];simp,?_⟩;rw[e,w0m];exact R1
def z5v(n:dt)(w0 w2 w3:W)(ps:L Pt)(z5 z6:S)(h:(YI ps).J<=900):bT 5 (u6 K a (g9 K a (n+1))) [.str "in", .str "held", .str "out"] [.fr w0,.fr (.fy (ps.ej aJ)),.fr w2,.fr w3,.gD none [],z5,z6]=.nx [.fr w0,.fr (.fy (ps.ej aJ)),.fr w2,.fr w3,.gD none ((YI ps).ej .str),.fr (.str "out"),z6]:=by
 simp only[YI,w0g]at h;show(u6 K a (g9 K a (n+1)) [.fr w0,.fr (.fy (ps.ej aJ)),.fr w2,.fr w3,.gD none (([]:L eh).ej .str),.fr (.str "in"),z6]).cV (bT 5 (u6 K a (g9 K a (n+1))) [.str "held", .str "out"])=_;rw[Mp n w0 w2 w3 ps "in" [] z6 (by simp;omega)];show(u6 K a (g9 K a (n+1)) [.fr w0,.fr (.fy (ps.ej aJ)),.fr w2,.fr w3,.gD none (([]++vt ps "in").ej .str),.fr (.str "held"),z6]).cV (bT 5 (u6 K a (g9 K a (n+1))) [.str "out"])=_;rw[Mp n w0 w2 w3 ps "held" _ z6 (by simp;omega)];show(u6 K a (g9 K a (n+1)) [.fr w0,.fr (.fy (ps.ej aJ)),.fr w2,.fr w3,.gD none (([]++vt ps "in"++vt ps "held").ej .str),.fr (.str "out"),z6]).cV (bT 5 (u6 K a (g9 K a (n+1))) [])=_;rw[Mp n w0 w2 w3 ps "out" _ z6 (by simp;omega),w1t,w0k];rfl
def qb:gF W:=uO (av (ag mB (ck bo (aa (ae 1) af)) (dC (.d0 0)))) (ag i5 (ag aU (ae 1) (jQ lp (dC (.d0 1)))) (dC (.str "word"))) (dC (.str ""))
def Rb(w0 w2:W)(z3 z4 z5 z6:S)(ps:L Pt)(hl:ps.J<=1000):qb [.fr w0,.fr (.fy (ps.ej aJ)),.fr w2,z3,z4,z5,z6]=.ok (.str (eD ps)) [.fr w0,.fr (.fy (ps.ej aJ)),.fr w2,z3,z4,z5,z6]:=by
 unfold qb;rw?
 by_cases h:ps=[]
 .subst h;rfl
 .let⟨p,h1,h2⟩:=z5u h;have hp:0<ps.J:=w4v.rj h;unfold eD;rw[w0b,gE (by omega),h1,h2];rw?;rw[Ag];rw?
def z5w(n:dt)(ps:L Pt)(p:Pt)(hl:ps.J<=1000)(h:ir ps p):g9 K a (n+3) F8 [aJ p,.fy (ps.ej aJ)]=.ok (.fr (.bl true)):=by
 have hm:=h.ZK;have vd:=h.oO;have hm6:qg p.vj<=6:=by unfold qg;split<;>(try split)<;>omega
 have cb:(YI ps).J=(vt ps "in").J+((vt ps "held").J+(vt ps "out").J):=by simp[YI]
 rw[w0g]at hm;let⟨b1,b2⟩:=U6 h.vj;rw[OQ];unfold Ga;rw[show uO (av (ag mB (ck bo (aa (ae 1) af)) (dC (.d0 0)))) (ag i5 (ag aU (ae 1) (jQ lp (dC (.d0 1)))) (dC (.str "word"))) (dC (.str ""))=qb from rfl];rw?;rw[Ag];rw?;rw[Rb _ _ _ _ _ _ ps hl];rw?;rw[show kF (.str p.vj) (.ff [.str "in", .str "held", .str "out"])=O (.bl false)from(Hg b_).iD (by simp[h.vj])];rw?;rw[b1];rw?;rw[Hg];simp only[h.last,decide_true];rw?;rw[Dx (n+1) ps p.vj (by omega)];rw?;rw[Mo];rw?;rw[gE (by simp;omega)];rw?;rw[b2];rw?;rw[kl (by simp;omega)];rw[z5v (n+1) _ _ _ ps _ _ vd];rw?;rw[Mo];rw?;let⟨e,he⟩:=PK (K:=K) (a:=a) n (aJ p) (.fy (ps.ej aJ)) (.str p.vj) (.str (eD ps)) p.lH (YI ps) (.fr (.str "out")) .no h.ok h.nd (by simp;omega);rw[he];rw?
inductive ri(K:Fg)(a:a9):dt->L Pt->L (L dt)->L Pt->Prop
 |m8 {k:dt} {ah:L Pt}:ri K a k ah [] []
 |_t {k:dt} {ah ps:L Pt} {cs:L dt} {rs:L (L dt)} (hw:gk cs=[]) (hc:cs.J<=100000) (h:ri K a (k+1) ah rs ps):ri K a k ah (cs::rs) ps
 |ω {k:dt} {ah ps:L Pt} {p:Pt} {cs:L dt} {rs:L (L dt)} (hw:gk cs≠[]) (hc:cs.J<=100000) (hp:∀n,g9 K a (n+2) u5 [.str (tx cs),.d0 k]=.ok (.dw .str pk (pw p))) (hs:ir ah p) (h:ri K a (k+1) (ah++[p]) rs ps):ri K a k ah (cs::rs) (p::ps)
def PL(n k:dt)(w0:W)(ah:L Pt)(z4:S)(hw:gk cs=[])(hc:cs.J<=100000):vZ K a (g9 K a (n+3)) [.fr w0,.gD none (ah.ej aJ),.fr (.d0 k),.fr (wT cs),z4]=.nx [.fr w0,.gD none (ah.ej aJ),.fr (.d0 k),.fr (wT cs),z4]:=by
 unfold vZ;rw?;rw[show wT cs=.str (tx cs)from rfl,Gp (n+2) cs hc,hw];rw?
def PM(n k:dt)(w0:W)(ah:L Pt){p:Pt}(z4:S)(hw:gk cs≠[])(hc:cs.J<=100000)(hl:ah.J<=900)(hp:∀n,g9 K a (n+2) u5 [.str (tx cs),.d0 k]=.ok (.dw .str pk (pw p)))(hs:ir ah p):vZ K a (g9 K a (n+3)) [.fr w0,.gD none (ah.ej aJ),.fr (.d0 k),.fr (wT cs),z4]=.nx [.fr w0,.gD none ((ah++[p]).ej aJ),.fr (.d0 k),.fr (wT cs),.fr (aJ p)]:=by
 have A3:0<(gk cs).J:=w4v.rj hw;have N9:(gk cs).J<=100001:=w1d (w5w _ _) (w1d (GF 32 cs) (by omega));unfold vZ;rw?;rw[show wT cs=.str (tx cs)from rfl,Gp (n+2) cs hc];rw?;rw[gE (by rw[w0b];omega),hp (n+1)];rw?;rw[show W.dw false .str pk (pw p)=aJ p from rfl,z5w n ah p (by omega) hs];rw?;rw[gE (by simp;omega)];simp
def y4w(n:dt)(w0:W){k:dt}{ah ps:L Pt}(h:ri K a k ah rs ps):ah.J+ps.J<=900->∀z2 z3 z4:S,∃y2 y3 y4,eg 2 3 (vZ K a (g9 K a (n+3))) (bZ k (rs.ej wT)) [.fr w0,.gD none (ah.ej aJ),z2,z3,z4]=.nx [.fr w0,.gD none ((ah++ps).ej aJ),y2,y3,y4]:=by
 induction h with
 |m8=>exact λ_ z2 z3 z4=>⟨z2,z3,z4,by rw[w0s];rfl⟩
 | @_t k ah ps cs rs hw hc h ih=>
  intro hl z2 z3 z4;let⟨y2,y3,y4,e⟩:=ih hl (.fr (.d0 k)) (.fr (wT cs)) z4;refine⟨y2,y3,y4,?_⟩;rw[w0j,bZ,u4];simp only[w1s,w1r];rw[PL n k w0 ah z4 hw hc,o7];exact e
 | @ω k ah ps p cs rs hw hc hp hs h ih=>
  intro hl z2 z3 z4;let⟨y2,y3,y4,e⟩:=ih (by simp at hl |-;omega) (.fr (.d0 k)) (.fr (wT cs)) (.fr (aJ p));refine⟨y2,y3,y4,?_⟩;rw[w0j,bZ,u4];simp only[w1s,w1r];rw[PM n k w0 ah z4 hw hc (by omega) hp hs,o7,e,w0k];rfl
def Pn(n:dt){ps:L Pt}(h:ri K a 0 [] rs ps)(hp:ps≠[])(hl:ps.J<=900):g9 K a (n+4) Df [.fy (rs.ej wT)]=.ok (.fr (.ff [.fy (ps.ej aJ),.aH])):=by
 have h0:0<ps.J:=w4v.rj hp;rw[OF];unfold FI;rw?;let⟨y2,y3,y4,e⟩:=y4w n (.fy (rs.ej wT)) h (by simpa using hl) .no .no .no;rw[show([]:L Pt).ej aJ=[]from rfl,w1t]at e;rw[e];rw?;rw[kl (by simp;omega)];rw?
def iV(ns:L eh)(p:Pt):Prop:=∃cs ts d,p.yF=tx cs/\cs.J<=100000/\Tk ns 0 p.fm ts d/\(ZM cs).ej (λp=>tx p.2)=ts/\d<=12
structure pE(ns:L eh)(ps:L Pt):Prop where
 ne:ps≠[]
 oO:ps.J<=900
 ok:∀x∈ns,ro x=true
 nd:ns.p9
 nl:ns.J<1000
 qK:∀x,(vt ps x).J<=1000
 lH:vt ps "in"++vt ps "held"=ns
 fm:∀p∈ps,p.vj≠"in"->iV ns p
def za8(n:dt)(w0 w1:W)(ns:L eh)(p:Pt)(ok:∀x∈ns,ro x=true)(nd:ns.p9)(nl:ns.J<1000)(h:p.vj≠"in"->iV ns p):Bb K a (g9 K a (n+4)) [.fr w0,.fr w1,.fr (.ff (ns.ej .str)),.fr (aJ p)]=.nx [.fr w0,.fr w1,.fr (.ff (ns.ej .str)),.fr (aJ p)]:=by
 unfold Bb;rw?;rw[Ag];rw?
 by_cases e:p.vj="in"
 .rw[e];rw?
 .let⟨cs,ts,d,h1,h2,h3,h4,h5⟩:=h e;simp only[e,Ŀ];rw?;rw[RA,h1];rw?;rw[(Rz n cs h2 ns ok nd nl h3 h4 h5).1];rw?
theorem Po(n:dt)(w0 w1:W)(ns:L eh)(ok:∀x∈ns,ro x=true)(nd:ns.p9)(nl:ns.J<1000):∀(ps:L Pt)(z:S),(∀p∈ps,p.vj≠"in"->iV ns p)->∃e,bT 3 (Bb K a (g9 K a (n+4))) (ps.ej aJ) [.fr w0,.fr w1,.fr (.ff (ns.ej .str)),z]=.nx e
 |[],z,_=>⟨_,rfl⟩
 |p::ps,z,h=>by
  let⟨e,ih⟩:=Po n w0 w1 ns ok nd nl ps (.fr (aJ p)) λq hq=>h q (w0f _ hq)
  refine⟨e,?_⟩;rw[<- ih,w0j];show(Bb K a (g9 K a (n+4)) [.fr w0,.fr w1,.fr (.ff (ns.ej .str)),.fr (aJ p)]).cV (bT 3 (Bb K a (g9 K a (n+4))) (ps.ej aJ))=_;rw[za8 n w0 w1 ns p ok nd nl (h p w0l)];rfl
def Rc(n:dt){ps:L Pt}(hc:cs.J<=100000)(h:ri K a 0 [] (cA 10 cs) ps)(s:pE ns ps):g9 K a (n+5) Dr [.str (tx cs)]=.ok (.fr .aH):=by
 rw[OP];unfold F_;rw?;rw[show("\n":eh)=⟨#[10]⟩from rfl,wA (by omega) hc];rw?;rw[Pn n h s.ne s.oO];rw?;rw[Dx (n+3) ps "in" (s.qK _)];rw?;rw[Dx (n+3) ps "held" (s.qK _)];rw?;rw[gE (by have:=s.qK "in";have:=s.qK "held";simp;omega),<- w0m,s.lH];rw?;let⟨e,he⟩:=Po (K:=K) (a:=a) n (.str (tx cs)) (.ff [.fy (ps.ej aJ),.aH]) ns s.ok s.nd s.nl ps .no s.fm;rw[he];rw?
def xn(p:Pt):fJ:=!decide (p.vj="in")
def jo(p:Pt):fJ:=decide (p.vj="held")
def rK:W->fJ
 |.str x=>decide (x="yes")
 |_=>false
def dG(ps:L Pt):L W:=(ps.Tn xn).ej λp=>mE p.fm
def bE(ps:L Pt):L W:=(ps.Tn jo).ej λp=>.bl (rK p.first)
def hU(ps:L Pt):W:=.ff (b_.ej λx=>.ff ((vt ps x).ej .str))
def jb(ps:L Pt):W:=.ff [hU ps,.ff [.d0 (vt ps "in").J,.ff (cZ (bE ps) ((dG ps).n5 (bE ps).J)),.ff ((dG ps).m9 (bE ps).J)]]
def z5x(n:dt)(ps:L Pt)(ns:L eh)(s:pE ns ps)(p:Pt)(hp:p∈ps):∃e',Kg K a (g9 K a (n+4)) [.fr (aJ p),.fr (hU ps)]=.ok (xn p) e'/\(xn p=true->∃e2,J_ K a (g9 K a (n+4)) e'=.ok (mE p.fm) e2):=by
 unfold Kg J_;rw?;rw[Ag];rw?;refine⟨_,rfl,λe=>?_⟩
 let⟨cs,ts,d,h1,h2,h3,h4,h5⟩:=s.fm p hp (by simpa [xn]using e);rw?;rw[RA,h1];unfold hU b_;rw?;rw[gE (by have:=s.qK "in";have:=s.qK "held";simp;omega),<- w0m,s.lH];rw?;rw[(Rz n cs h2 ns s.ok s.nd s.nl h3 h4 h5).2];rw?;exact⟨_,rfl⟩
def y9i(r:dt->L W->FR)(p:Pt)(hf:p.vj="held"->∃b,p.first=wT (kS b)):∃e',J9 K a r [.fr (aJ p)]=.ok (jo p) e'/\(jo p=true->∃e2,J8 K a r e'=.ok (.bl (rK p.first)) e2):=by
 unfold J9 J8;rw?;rw[Ag];rw?;refine⟨_,rfl,λe=>?_⟩
 let⟨b,hb⟩:=hf (by simpa [jo]using e);rw?;rw[y9f,hb];rw?;cases b
 .exact⟨_,rfl⟩
 .exact⟨_,rfl⟩
def y9j(n:dt){ps:L Pt}(hc:cs.J<=100000)(h:ri K a 0 [] (cA 10 cs) ps)(s:pE ns ps)(hf:∀p∈ps,p.vj="held"->∃b,p.first=wT (kS b)):g9 K a (n+6) lO [.str (tx cs)]=.ok (.fr (jb ps)):=by
 have hl:=s.oO
 have hk:(bE ps).J<=(dG ps).J:=by
  unfold bE dG;rw[w0b,w0b,<- w4o,<- w4o];refine L.countP_mono_left λp _ h=>?_
  simp only[jo,xn,ϫ]at h |-
  rw[h];decide
 have qV:(bE ps).J<=900:=by
  unfold bE;rw[w0b];exact w1d (w5w _ _) hl
 rw[OM];unfold FY;rw?;rw[Rc n hc h s];rw?;rw[show("\n":eh)=⟨#[10]⟩from rfl,wA (by omega) hc];rw?;rw[Pn (n+1) h s.ne s.oO];rw?;simp only[i4,rD,w0v,w1o];rw[show([.str "in", .str "held", .str "out"]:L W)=b_.ej .str from rfl,xI W.str (λx=>.ff ((vt ps x).ej .str)) (λ_=>true)]
 .rw[show(b_.Tn λ_=>true)=b_ from rfl]
  rw?;rw[show W.ff (b_.ej λx=>.ff ((vt ps x).ej .str))=hU ps from rfl,gE (by simp;omega)]
  simp only[i4,rD,w0v,w1o];rw[xI aJ (λp=>mE p.fm) xn ps (z5x (n+1) ps ns s)]
  rw?;rw[gE (by simp;omega),xI aJ (λp=>.bl (rK p.first)) jo ps λp hp=>y9i _ p (hf p hp)]
  rw?;rw[show aU (hU ps) (.d0 0)=O (.ff ((vt ps "in").ej .str))from rfl];rw?;rw[show(ps.Tn jo).ej (λp=>W.bl (rK p.first))=bE ps from rfl,show(ps.Tn xn).ej (λp=>mE p.fm)=dG ps from rfl,M9 hk]
  rw?;rw[show wL [.fy (bE ps),.fy ((dG ps).n5 (bE ps).J)]=O (.ff (cZ (bE ps) ((dG ps).n5 (bE ps).J)))from gE (by rw[w3m];omega)];rw?;rw[GB hk,w0b];rfl
 .intro x _;unfold OJ;refine⟨_,rfl,λ_=>?_⟩
  rw?;rw[Dx (n+4) ps x (s.qK x)];rw?;exact⟨_,rfl⟩
def uI(b:fJ):eh:=if b=true then "yes" else "no"
def ee(w x y:eh):eh:=("(":eh)++x++" "++w++" "++y++")"
def dM(ns:L eh):Fm->eh
 |.is b=>uI b
 |.at p=>ns.mF p ""
 |.not f=>("not ":eh)++dM ns f
 |.and f g=>ee "and" (dM ns f) (dM ns g)
 |.or f g=>ee "or" (dM ns f) (dM ns g)
 |.E1 f g=>ee "odd" (dM ns f) (dM ns g)
def Mq(w x y:eh)(hw:w.J<=3):(ee w x y).J<=x.J+y.J+7:=by
 unfold ee;simp only[o8];have h1:("(":eh).J=1:=rfl;have h2:(" ":eh).J=1:=rfl;have h3:(")":eh).J=1:=rfl;omega
def Mr(hn:∀x∈ns,x.J<=8)(p:dt):(ns.mF p "").J<=8:=by
 rcases w5a p ns.J with h|h
 .rw[w0n,w0a h];exact hn _ (w1z h)
 .rw[w0n,w2o h];exact w1k _
theorem nE(hn:∀x∈ns,x.J<=8):∀f:Fm,(dM ns f).J<=16*f.eG
 |.is b=>by show(uI b).J<=16;cases b<;>decide
 |.at p=>w1d (Mr hn p) (show 8<=16 by decide)
 |.not f=>by
  have:=nE hn f;show(("not ":eh)++dM ns f).J<=16*(f.eG+1);rw[o8];have h1:("not ":eh).J=4:=rfl;omega
 |.and f g=>by
  have h1:=nE hn f;have h2:=nE hn g;have:=Mq "and" (dM ns f) (dM ns g) (by decide);show(ee "and" _ _).J<=16*(f.eG+g.eG+1);omega
 |.or f g=>by
  have h1:=nE hn f;have h2:=nE hn g;have:=Mq "or" (dM ns f) (dM ns g) (by decide);show(ee "or" _ _).J<=16*(f.eG+g.eG+1);omega
 |.E1 f g=>by
  have h1:=nE hn f;have h2:=nE hn g;have:=Mq "odd" (dM ns f) (dM ns g) (by decide);show(ee "odd" _ _).J<=16*(f.eG+g.eG+1);omega
def Ms(n:dt)(ns:L eh){w:ET}{g h:Fm}(hh:mE h=.ff [.str w,mE f,mE g])(h1:w≠"is")(h2:w≠"at")(h3:w≠"not")(hw:(eh.Yy w).J<=3)(lf:(dM ns f).J<=100000)(zfx:(dM ns g).J<=100000)
  (rf:g9 K a n u7 [mE f,.ff (ns.ej .str)]=.ok (.fr (.str (dM ns f))))(rg:g9 K a n u7 [mE g,.ff (ns.ej .str)]=.ok (.fr (.str (dM ns g)))):g9 K a (n+1) u7 [mE h,.ff (ns.ej .str)]=.ok (.fr (.str (ee w (dM ns f) (dM ns g)))):=by
 rw[FL,hh];unfold Be;rw?;simp only[h1,h2,h3];rw?;rw[rf];rw?;have c1:("(":eh).J=1:=rfl;have c2:(" ":eh).J=1:=rfl;have c3:(")":eh).J=1:=rfl;rw[gE (by omega),gE (by simp only[o8];omega),gE (by simp only[o8];omega),gE (by simp only[o8];omega),rg];rw?;rw[gE (by simp only[o8];omega)];rw?;rw[gE (by simp only[o8];omega)];rfl
theorem v8(ns:L eh)(hn:∀x∈ns,x.J<=8):∀(f:Fm)(n:dt),f.oY<=n->f.eG<=100->f.jr ns.J->g9 K a n u7 [mE f,.ff (ns.ej .str)]=.ok (.fr (.str (dM ns f)))
 |.is b,n+1,_,_,_=>by
  rw[FL];unfold Be mE;rw?;cases b<;>rfl
 |.at p,n+1,_,_,hi=>by
  have hp:p<ns.J:=hi;rw[FL];unfold Be mE;rw?;rw[RY hp];rw?;simp[dM,hp]
 |.not f,n+1,hd,hs,hi=>by
  have hd:f.oY+1<=n+1:=hd;have hs:f.eG+1<=100:=hs;have hl:=nE hn f;rw[FL];unfold Be mE;rw?;rw[v8 ns hn f n (by omega) (by omega) hi];rw?;rw[gE (by have h1:("not ":eh).J=4:=rfl;omega)];rfl
 |.and f g,n+1,hd,hs,hi=>by
  have hd:max f.oY g.oY+1<=n+1:=hd;have hs:f.eG+g.eG+1<=100:=hs;have:=nE hn f;have:=nE hn g;exact Ms n ns rfl (by decide) (by decide) (by decide) (by decide) (by omega) (by omega) (v8 ns hn f n (by omega) (by omega) hi.1) (v8 ns hn g n (by omega) (by omega) hi.2)
 |.or f g,n+1,hd,hs,hi=>by
  have hd:max f.oY g.oY+1<=n+1:=hd;have hs:f.eG+g.eG+1<=100:=hs;have:=nE hn f;have:=nE hn g;exact Ms n ns rfl (by decide) (by decide) (by decide) (by decide) (by omega) (by omega) (v8 ns hn f n (by omega) (by omega) hi.1) (v8 ns hn g n (by omega) (by omega) hi.2)
 |.E1 f g,n+1,hd,hs,hi=>by
  have hd:max f.oY g.oY+1<=n+1:=hd;have hs:f.eG+g.eG+1<=100:=hs;have:=nE hn f;have:=nE hn g;exact Ms n ns rfl (by decide) (by decide) (by decide) (by decide) (by omega) (by omega) (v8 ns hn f n (by omega) (by omega) hi.1) (v8 ns hn g n (by omega) (by omega) hi.2)
 |f,0,hd,_,_=>nS (w1d f.c9 hd) (by omega)
def Fo(cs:L dt)(ts:L (L dt)):Prop:=∀oN,gh (cs.t_ aP (oN,[]))=oN++ts/\∀c,d6 c=false->aP (cs.t_ aP (oN,[])) c=aP (oN++ts,[]) c
theorem Fo.vj{w:L dt}(hw:w≠[])(hl:∀c∈w,d6 c=true):Fo w [w]:=λoN=>by
 rw[K9 w oN [] hl,w1t];refine⟨by simp[gh,fl,hw],λc hc=>?_⟩
 rw[F5 hc,F5 hc];simp[fl,hw]
theorem Fo.not{x:L dt}{ts:L (L dt)}(h:Fo x ts):Fo ([110,111,116,32]++x) ([110,111,116]::ts):=λoN=>by
 let⟨h1,h2⟩:=h (oN++[[110,111,116]]);rw[w1p,show[110,111,116,32].t_ aP (oN,[])=(oN++[[110,111,116]],[]) by simp[aP,d6,fl]];refine⟨by rw[h1];simp,λc hc=>?_⟩
 rw[h2 c hc];simp
theorem Fo.bin{x y w:L dt}{ts us:L (L dt)}(hx:Fo x ts)(hy:Fo y us)(hw:w≠[])(hl:∀c∈w,d6 c=true):Fo (40::(x++(32::(w++(32::(y++[41])))))) ([40]::((ts++w::us)++[[41]])):=λoN=>by
 have e:(40::(x++(32::(w++(32::(y++[41])))))).t_ aP (oN,[])=(oN++[40]::((ts++w::us)++[[41]]),[]):=by
  rw[w1g,w1p,w1g,w1p,w1g,w1p,show aP (oN,[]) 40=(oN++[[40]],[]) by simp[aP,d6,fl],(hx _).2 32 rfl,show aP (oN++[[40]]++ts,[]) 32=(oN++[[40]]++ts,[]) by simp[aP,d6,fl],((Fo.vj hw hl) _).2 32 rfl,show ∀o,aP (o,[]) 32=(o,[])from λo=>by simp[aP,d6,fl],w1g,(hy _).2 41 rfl]
  simp[aP,d6,fl]
 rw[e];exact⟨by simp[gh,fl],λ_ _=>rfl⟩
def GQ(w x y:eh):aX (ee w x y)=40::(aX x++(32::(aX w++(32::(aX y++[41]))))):=by
 unfold ee;simp only[DN,w0k];rfl
def Ñ(ns:L eh)(f:Fm):Prop:=∃ts d,(∀l,l<=3->Tk ns l f (ts.ej tx) d)/\d<f.oY/\Fo (aX (dM ns f)) ts
def Mt{g h:Fm}{w:L dt}(hw:w≠[])(hl:∀c∈w,d6 c=true)(hb:dM ns h=ee (tx w) (dM ns f) (dM ns g))(hd:h.oY=max f.oY g.oY+1)(zdP:Ñ ns f)(tg:Ñ ns g)
  (mk:∀{ts us:L eh}{d e:dt},(∀l,l<=3->Tk ns l f ts d)->(∀l,l<=3->Tk ns l g us e)->Tk ns 0 h (ts++tx w::us) (max d e)):Ñ ns h:=by
 let⟨ts,d,h1,h2,h3⟩:=zdP;let⟨us,e,k1,k2,k3⟩:=tg;refine⟨[40]::((ts++w::us)++[[41]]),max d e+1,λl hl=>?_,by omega,?_⟩
 .rw[w0j,w0m,w0m];exact Tk.Zi (mk h1 k1)
 .rw[hb,GQ];rw[show aX (tx w)=w from mH w];exact h3.bin k3 hw hl
theorem xM(hx:∀x∈ns,ro x=true):∀f:Fm,f.jr ns.J->Ñ ns f
 |.is true,_=>⟨[kS true],0,λl _=>.yn true,w5x,Fo.vj (w:=kS true) (by decide) (by decide)⟩
 |.is false,_=>⟨[kS false],0,λl _=>.yn false,w5x,Fo.vj (w:=kS false) (by decide) (by decide)⟩
 |.at p,hi=>by
  have hp:p<ns.J:=hi;have e:ns.mF p ""∈ns:=by rw[w0n,w0a hp];exact w1z hp
  let⟨_,h2,_,h4⟩:=qq (hx _ e);refine⟨[aX (ns.mF p "")],0,λl _=>?_,w5x,Fo.vj (λz=>?_) h4⟩
  .rw[w0j,show tx (aX (ns.mF p ""))=ns.mF p "" from rE _];exact .JQ hp
  .have:(ns.mF p "").rq.n9.J=0:=Yc L.J z;rw[w2a]at this;have h2:1<=(ns.mF p "").rq.eG:=h2;omega
 |.not f,hi=>by
  let⟨ts,d,h1,h2,h3⟩:=xM hx f hi;refine⟨[110,111,116]::ts,d,λl hl=>Tk.not hl (h1 3 (w0d _)),w1v h2,?_⟩
  show Fo (aX (("not ":eh)++dM ns f)) _;rw[DN];exact h3.not
 |.and f g,hi=>Mt (w:=[97,110,100]) (by decide) (by decide) rfl rfl (xM hx f hi.1) (xM hx g hi.2) λh k=>Tk.and (by omega) (h 2 (by omega)) (k 3 (by omega))
 |.or f g,hi=>Mt (w:=[111,114]) (by decide) (by decide) rfl rfl (xM hx f hi.1) (xM hx g hi.2) λh k=>Tk.or (by omega) (h 0 (by omega)) (k 1 (by omega))
 |.E1 f g,hi=>Mt (w:=[111,100,100]) (by decide) (by decide) rfl rfl (xM hx f hi.1) (xM hx g hi.2) λh k=>Tk.E1 (by omega) (h 1 (by omega)) (k 2 (by omega))
def yo:L dt:=[97,98,99,100,101,102,103,104,105,106,107,108,109,110,111,112,113,114,115,116,117,118,119,120,121,122]
def T1(j:eW):dt:=97+(j%26).oR
def Nd(j:eW):d6 (T1 j)=true:=by
 have h1:=w1x j (show(26:eW)≠0 by decide);have h2:=w1q j (show(0:eW)<26 by decide);unfold d6 T1;rw[w0q,ľ,ľ];omega
def Tb(j:eW):aU (.str "abcdefghijklmnopqrstuvwxyz") (.d0 (j%26))=O (.str (tx [T1 j])):=by
 have h1:=w1x j (show(26:eW)≠0 by decide);have h2:=w1q j (show(0:eW)<26 by decide);obtain⟨k,hk⟩:∃k:dt,j%26=(k:eW):=⟨(j%26).oR,by omega⟩;unfold T1;rw[hk,w2j];refine(Jo (cs:=yo) (by decide) ?_);have qV:k<26:=by omega
 rw[show yo=(L.so 26).ej (97+·)from rfl,w1c,w4w qV];rfl
def z5y(j:eW):∃s:dt,s<=7/\et [W.d0 0,.d0 1,.d0 2,.d0 0,.d0 5,.d0 7,.d0 3,.d0 0] (j%8)=O (.d0 (s:eW)):=by
 have h1:=w1x j (show(8:eW)≠0 by decide);have h2:=w1q j (show(0:eW)<8 by decide);generalize j%8=k at h1 h2;obtain rfl|rfl|rfl|rfl|rfl|rfl|rfl|rfl:k=0\/k=1\/k=2\/k=3\/k=4\/k=5\/k=6\/k=7:=by omega
 .exact⟨0,by omega,rfl⟩
 .exact⟨1,by omega,rfl⟩
 .exact⟨2,by omega,rfl⟩
 .exact⟨0,by omega,rfl⟩
 .exact⟨5,by omega,rfl⟩
 .exact⟨7,by omega,rfl⟩
 .exact⟨3,by omega,rfl⟩
 .exact⟨0,by omega,rfl⟩
theorem R3{d:gF W}{pe:L S}:∀ws:L W,(∀w∈ws,∃j e',d (.fr w::pe)=.ok (.str (tx [T1 j])) e')->∃cs:L dt,cs.J=ws.J/\(∀c∈cs,d6 c=true)/\cq cP d pe ws=O (cs.ej λc=>.str (tx [c]))
 |[],_=>⟨[],rfl,(λ_ h=>nomatch h),rfl⟩
 |w::ws,h=>by
  let⟨j,e',h1⟩:=h w w0l;let⟨cs,h2,h3,h4⟩:=R3 ws λx hx=>h x (w0f _ hx)
  refine⟨T1 j::cs,by simp[h2],λc hc=>?_,?_⟩
  .rcases w0h.mp hc with rfl|hc
   .exact Nd j
   .exact h3 c hc
  .rw[Gd,h4];simp only[y2m,h1];rfl
def z5z(n:dt)(c k:eW)(w:W)(hw:∃j:eW,w=.d0 j):∃j e',FA K a (g9 K a (n+1)) [.fr w,.fr (.d0 c),.fr (.str "abcdefghijklmnopqrstuvwxyz"),.fr (.d0 k)]=.ok (.str (tx [T1 j])) e':=by
 let⟨j,rfl⟩:=hw;unfold FA;rw?;let⟨v,hv⟩:=Gz (K:=K) (a:=a) n c (9*k+j);rw[hv];rw?;rw[Tb v];rw?;exact⟨v,_,rfl⟩
def f_:L eh:=["yes", "no", "not", "and", "odd", "or", "in", "held", "out"]
def Nm(c:eW)(k:dt)(x:eh):Prop:=ro x=true/\x∉b_/\(if c%3=2 then ∃t,aX x=T1 (c / 3+7*(k:eW))::t else ∃i j,aX x=L.oS i 113++T1 (c / 3+7*(k:eW))::L.oS j 113)
def Tc(h1:1<=cs.J)(h2:cs.J<=8)(h3:∀c∈cs,d6 c=true)(h4:tx cs∉f_):ro (tx cs)=true/\tx cs∉b_:=by
 have hs:six (tx cs)=false:=by
  unfold six;exact _e λh=>h4 ((by decide:∀y∈(["yes", "no", "not", "and", "odd", "or"]:L eh),y∈f_) _ h)
 refine⟨?_,λh=>h4 ((by decide:∀y∈b_,y∈f_) _ h)⟩
 unfold ro;rw[hs,h_,mH];simp[h1,h2];exact h3
def UP{y:eh}(h:y∈f_):y++"x"∉f_/\(y++"x").J<=8/\∀c∈aX (y++"x"),d6 c=true:=by
 simp only[f_,w0h,w1b,Xz]at h;rcases h with rfl|rfl|rfl|rfl|rfl|rfl|rfl|rfl|rfl<;>decide
def Uk(h:tx cs∈f_):113∉cs/\2<=cs.J:=by
 have:∀y∈f_,113∉aX y/\2<=(aX y).J:=by decide
 have:=this _ h
 rwa [show aX (tx cs)=cs from mH cs]at this
def R4(r:dt->L W->FR)(c:eW)(w1 w2:W)(m7:L W)(k:dt)(ha:m7.J<=100)(z5 z6 z7 z9:S)(h1:1<=cs.J)(h2:cs.J<=8)(h3:∀c∈cs,d6 c=true)(h4:if c%3=2 then ∃t,cs=T1 (c / 3+7*(k:eW))::t else ∃i j,cs=L.oS i 113++T1 (c / 3+7*(k:eW))::L.oS j 113):∃x t8,Nm c k x/\JG K a r [.fr (.d0 c),.fr w1,.fr w2,.gD none m7,.fr (.d0 k),z5,z6,z7,.fr (.str (tx cs)),z9]=.nx [.fr (.d0 c),.fr w1,.fr w2,.gD none (m7++[.str x]),.fr (.d0 k),z5,z6,z7,t8,z9]:=by
 unfold JG;rw?;rw[show ki (.str (tx cs)) (.ff [.str "yes", .str "no", .str "not", .str "and", .str "odd", .str "or", .str "in", .str "held", .str "out"])=O (.bl (decide (tx cs∈f_)))from EI f_];rw?
 by_cases h:tx cs∈f_
 .let⟨g1,g2,g3⟩:=UP h;let⟨q1,q2⟩:=Uk h;have hx:("x":eh).J=1:=rfl;rw[gE h,h_,gE (by omega)];rw?;rw[gE (by omega)];have e:tx cs++"x"=tx (cs++[120]):=nC cs [120];rw[e]at g1 g2 g3 |-
  rw[show aX (tx (cs++[120]))=cs++[120]from mH _]at g3;rw[h_]at g2;let⟨o1,o2⟩:=Tc (by simp) g2 g3 g1;refine⟨_,_,⟨o1,o2,?_⟩,rfl⟩;rw[show aX (tx (cs++[120]))=cs++[120]from mH _];split at h4
  .rename_i hc;rw[gE hc];let⟨t,rfl⟩:=h4;exact⟨t++[120],rfl⟩
  .let⟨i,j,rfl⟩:=h4;exfalso;cases i with
   |zD i=>exact q1 (by simp[w2l])
   |zc=>cases j with
    |zD j=>exact q1 (by simp[w2l])
    |zc=>simp at q2
 .rw[kl h];rw?;rw[gE (by omega)];let⟨o1,o2⟩:=Tc h1 h2 h3 h;refine⟨_,_,⟨o1,o2,?_⟩,rfl⟩;rw[show aX (tx cs)=cs from mH _];exact h4
theorem Rf:∀cs:L dt,cF [] (cs.ej λc=>[c])=cs
 |[]=>rfl
 |[c]=>rfl
 |c::d::cs=>by
  show[c]++([]++cF [] ((d::cs).ej λc=>[c]))=_
  rw[Rf (d::cs)];rfl
def CN(cs:L dt)(h:cs.J<=1000):d7 (.str "") [.fy (cs.ej λc=>.str (tx [c]))]=O (.str (tx cs)):=by
 have e:=Hf (z:=[]) (l:=cs.ej λc=>[c]) (by
  rw[w1f,show L.J ∘ (λc:dt=>[c])=λ_=>1 from rfl,L.map_const']
  simp;omega)
 rw[Rf,w1f]at e;exact e
def R5(n:dt)(c:eW)(w1:W)(m7:L W)(k s:dt)(hs:s<=7)(ha:m7.J<=100)(z7 z8 z9:S):∃x t7 t8 t9,Nm c k x/\JH K a (g9 K a (n+1)) [.fr (.d0 c),.fr w1,.fr (.str "abcdefghijklmnopqrstuvwxyz"),.gD none m7,.fr (.d0 k),.fr (.str (tx [T1 (c / 3+7*(k:eW))])),.fr (.d0 s),z7,z8,z9]=.nx [.fr (.d0 c),.fr w1,.fr (.str "abcdefghijklmnopqrstuvwxyz"),.gD none (m7++[.str x]),.fr (.d0 k),.fr (.str (tx [T1 (c / 3+7*(k:eW))])),.fr (.d0 s),t7,t8,t9]:=by
 unfold JH;rw?;have t1:=w1x (c / 624) (show((s:eW)+1)≠0 by omega);have t2:=w1q (c / 624) (show(0:eW)<(s:eW)+1 by omega);rw[gE (by omega)];generalize c / 624%((s:eW)+1)=t at t1 t2;obtain⟨t,rfl⟩:∃m:dt,t=(m:eW):=⟨t.oR,by omega⟩;rw[rG 113 "q" rfl t (by omega)];rw?;rw[h_,h_,nC,gE (by simp;omega)];rw?;rw[show((s:eW)-(t:eW))=((s-t:dt):eW) by omega,rG 113 "q" rfl (s-t) (by omega)];rw?;rw[h_,h_,nC,gE (by simp;omega)];rw?
 by_cases hc:c%3=2
 .simp only[hc];rw?;rw[gE (o4 (by omega) (by omega))];rw?;rw[gE (by rw[v5];omega)];simp only[i4,rD,w0v,w1o]
  let⟨cs,g1,g2,g3⟩:=R3 (d:=FA K a (g9 K a (n+1))) (pe:=[.fr (.d0 c),.fr (.str "abcdefghijklmnopqrstuvwxyz"),.fr (.d0 k)]) (bQ 0 s) λw hw=>z5z n c k w (by
   let⟨j,_,rfl⟩:=w1e.mp hw;exact⟨_,rfl⟩)
  rw[v5]at g1;rw[g3];rw?;rw[CN cs (by omega)];rw?;rw[h_,h_,nC,gE (by simp;omega)];rw?
  let⟨x,t8,q1,q2⟩:=R4 (K:=K) (a:=a) (g9 K a (n+1)) c w1 (.str "abcdefghijklmnopqrstuvwxyz") m7 k ha (.fr (.str (tx [T1 (c / 3+7*(k:eW))]))) (.fr (.d0 s)) (.fr (.d0 t)) (.fr (.fy (cs.ej λc=>.str (tx [c])))) (cs:=[T1 (c / 3+7*(k:eW))]++cs) (by simp) (by simp;omega) (λc hc=>by
   rcases w0h.mp hc with rfl|hc
   .exact Nd _
   .exact g2 c hc) (by rw[gE hc];exact⟨cs,rfl⟩)
  exact⟨x,_,t8,_,q1,q2⟩
 .simp only[hc];rw?
  let⟨x,t8,q1,q2⟩:=R4 (K:=K) (a:=a) (g9 K a (n+1)) c w1 (.str "abcdefghijklmnopqrstuvwxyz") m7 k ha (.fr (.str (tx [T1 (c / 3+7*(k:eW))]))) (.fr (.d0 s)) (.fr (.d0 t)) z9 (cs:=L.oS t 113++[T1 (c / 3+7*(k:eW))]++L.oS (s-t) 113) (by simp;omega) (by simp;omega) (λc hc=>by
   simp only[w0w,w5b,w0u]at hc;rcases hc with(⟨_,rfl⟩|rfl)|⟨_,rfl⟩
   .rfl
   .exact Nd _
   .rfl) (by rw[kl hc];exact⟨t,s-t,by simp⟩)
  exact⟨x,_,t8,_,q1,q2⟩
def y4z(n:dt)(c:eW)(w1:W)(m7:L W)(k:dt)(ha:m7.J<=100)(z5 z6 z7 z8 z9:S):∃x t5 t6 t7 t8 t9,Nm c k x/\FD K a (g9 K a (n+1)) [.fr (.d0 c),.fr w1,.fr (.str "abcdefghijklmnopqrstuvwxyz"),.gD none m7,.fr (.d0 k),z5,z6,z7,z8,z9]=.nx [.fr (.d0 c),.fr w1,.fr (.str "abcdefghijklmnopqrstuvwxyz"),.gD none (m7++[.str x]),.fr (.d0 k),t5,t6,t7,t8,t9]:=by
 let⟨s,hs,zb8⟩:=z5y (c / 78);let⟨v,hv⟩:=Gz (K:=K) (a:=a) n c k;unfold FD;rw?;rw[Tb];rw?;rw[zb8];rw?
 by_cases hc:c%3=0
 .have t1:=w1x v (show(8:eW)≠0 by omega);have t2:=w1q v (show(0:eW)<8 by omega);simp only[hc];rw?;rw[hv];rw?;generalize v%8=m at t1 t2;obtain⟨m,rfl⟩:∃j:dt,m=(j:eW):=⟨m.oR,by omega⟩;let⟨x,t7,t8,t9,q1,q2⟩:=R5 (K:=K) (a:=a) n c w1 m7 k m (by omega) ha z7 z8 z9;exact⟨x,_,_,t7,t8,t9,q1,q2⟩
 .simp only[hc];rw?;let⟨x,t7,t8,t9,q1,q2⟩:=R5 (K:=K) (a:=a) n c w1 m7 k s hs ha z7 z8 z9;exact⟨x,_,_,t7,t8,t9,q1,q2⟩
def Ul{q:eW}{j:dt}(h:i<j)(hj:j<26):T1 (q+7*(i:eW))≠T1 (q+7*(j:eW)):=by
 unfold T1;omega
theorem Nm.ne{c:eW}{j:dt}{y:eh}(hx:Nm c i x)(hy:Nm c j y)(h:i<j)(hj:j<26):x≠y:=λe=>by
 subst e;have hl:=Ul (q:=c / 3) h hj;let⟨_,_,h1⟩:=hx;let⟨_,_,h2⟩:=hy;split at h1
 .rename_i hc;rw[gE hc]at h2;let⟨t,e1⟩:=h1;let⟨u,e2⟩:=h2;rw[e1]at e2;exact hl (L.m6.sE e2).1
 .rename_i hc;rw[kl hc]at h2;let⟨p,q,e1⟩:=h1;let⟨r,s,e2⟩:=h2;rw[e1]at e2;have m1:T1 (c / 3+7*(i:eW))∈L.oS r 113++T1 (c / 3+7*(j:eW))::L.oS s 113:=by rw[<- e2];simp
  have m2:T1 (c / 3+7*(j:eW))∈L.oS p 113++T1 (c / 3+7*(i:eW))::L.oS q 113:=by rw[e2];simp
  simp only[w0w,w0h,w5b]at m1 m2
  grind
def y9k(n:dt)(c:eW)(m:dt)(hm:m<=20):∃xs:L eh,xs.J=m/\xs.p9/\(∀x∈xs,ro x=true/\x∉b_)/\g9 K a (n+2) J' [.d0 c,.d0 m]=.ok (.gD none (xs.ej .str)):=by
 rw[Xj];unfold Kc;rw?;rw[gE (o4 (by omega) (by omega))];rw?
 let⟨e',h1,xs,z4,z5,z6,z7,z8,z9,rfl,hl,hx⟩:=xD (lo:=0) (hi:=(m:eW)) (b:=FD K a (g9 K a (n+1))) (i:=4) m (by omega) (λk e=>∃(xs:L eh)(z4 z5 z6 z7 z8 z9:S),e=[.fr (.d0 c),.fr (.d0 m),.fr (.str "abcdefghijklmnopqrstuvwxyz"),.gD none (xs.ej .str),z4,z5,z6,z7,z8,z9]/\xs.J=k/\∀(i:dt)(x:eh),xs[i]?=O x->Nm c i x) [.fr (.d0 c),.fr (.d0 m),.fr (.str "abcdefghijklmnopqrstuvwxyz"),.gD none [],.no,.no,.no,.no,.no,.no] ⟨[],_,_,_,_,_,_,rfl,rfl,λ_ _ h=>nomatch h⟩ (λj e hj h=>by
  let⟨xs,z4,z5,z6,z7,z8,z9,rfl,hl,hx⟩:=h;let⟨x,t5,t6,t7,t8,t9,q1,q2⟩:=y4z (K:=K) (a:=a) n c (.d0 m) (xs.ej .str) j (by simp;omega) z5 z6 z7 z8 z9;refine⟨_,by rw[w5c];exact q2,xs++[x],_,t5,t6,t7,t8,t9,by rw[w0m];rfl,by simp[hl],λi y hy=>?_⟩
  rcases w5a i xs.J with h|h
  .rw[w0x h]at hy;exact hx i y hy
  .rw[w0z h]at hy;cases hk:i-xs.J with
   |zc=>rw[hk]at hy;cases hy;rw[show i=j by omega];exact q1
   |zD _=>rw[hk]at hy;simp at hy)
 rw[h1];rw?;refine⟨xs,hl,?_,λx h=>?_,rfl⟩
 .rw[L.nodup_iff_pairwise_ne,L.pairwise_iff_getElem];intro i j hi hj yR;exact Nm.ne (hx i _ (w0a hi)) (hx j _ (w0a hj)) yR (by omega)
 .let⟨i,hi,rfl⟩:=w4q h;have:=hx i _ (w0a hi);exact⟨this.1,this.2.1⟩
def y9l(n:dt)(k:dt)(s:eW)(m:dt)(hm:m<=5):∃cs:L eW,cs.J=m/\cq cP (Ft K a (g9 K a (n+1))) [.fr (.d0 k),.fr (.d0 s)] (bQ 0 m)=O (cs.ej .d0):=by
 have:∀ws:L W,(∀w∈ws,∃j:eW,w=.d0 j)->∃cs:L eW,cs.J=ws.J/\cq cP (Ft K a (g9 K a (n+1))) [.fr (.d0 k),.fr (.d0 s)] ws=O (cs.ej .d0):=by
  intro ws
  induction ws with
  |m8=>exact λ_=>⟨[],rfl,rfl⟩
  |m6 w ws ih=>
   intro h;let⟨j,rfl⟩:=h w w0l;let⟨cs,h1,h2⟩:=ih λx hx=>h x (w0f _ hx)
   let⟨v,hv⟩:=Gz (K:=K) (a:=a) n s (11*k+j);refine⟨v::cs,by simp[h1],?_⟩;rw[Gd,h2];unfold Ft;rw?;rw[hv];rw?
 let⟨cs,h1,h2⟩:=this (bQ 0 m) λw hw=>by let⟨j,_,rfl⟩:=w1e.mp hw;exact⟨_,rfl⟩
 exact⟨cs,by rw[h1,v5];omega,h2⟩
def dz(m:dt)(f:Fm):Prop:=f.jr m/\f.oY<=6/\f.eG<=12
def z50(n:dt)(ns:L eW)(mZ:eW)(m c o k:dt)(fs:L Fm)(hl:fs.J<=100)(z8 z9 rL TN TQ:S):∃f t8 t9 x8,dz (m+c) f/\Fu K a (g9 K a (n+2)) [.fr (.fy (ns.ej .d0)),.fr (.d0 4),.fr (.d0 mZ),.fr (.d0 m),.fr (.d0 c),.fr (.d0 o),.gD none (fs.ej mE),.fr (.d0 k),z8,z9,rL,TN,TQ]=.nx [.fr (.fy (ns.ej .d0)),.fr (.d0 4),.fr (.d0 mZ),.fr (.d0 m),.fr (.d0 c),.fr (.d0 o),.gD none ((fs++[f]).ej mE),.fr (.d0 k),t8,t9,x8,TN,TQ]:=by
 unfold Fu;rw?;rw[Aa (n+1) ns (k:=2+(k:eW)) (by omega)];rw?;generalize ns.mF (2+(k:eW)).oR 0=sd;let⟨v,hv⟩:=Gz (K:=K) (a:=a) (n+1) sd k;rw[hv];rw?;have t1:=w1x v (show(4:eW)≠0 by omega);have t2:=w1q v (show(0:eW)<4 by omega);generalize v%4=q at t1 t2;obtain⟨q,rfl⟩:∃j:dt,q=(j:eW):=⟨q.oR,by omega⟩;rw[show(1+(q:eW))=((q+1:dt):eW) by omega,gE (o4 (by omega) (by omega))];rw?;rw[gE (by rw[v5];omega)];simp only[i4,rD,w0v,w1o];let⟨cs,g1,g2⟩:=y9l (K:=K) (a:=a) (n+1) k sd (q+1) (by omega);rw[g2];rw?;rw[show((m:eW)+(c:eW))=((m+c:dt):eW) by omega];let⟨f,f1,f2,f3,f4⟩:=y4a (K:=K) (a:=a) n cs (m+c) (by omega);rw[f1];rw?;rw[gE (by simp;omega)];exact⟨f,_,_,_,⟨f2,by omega,by omega⟩,by rw[w0m];rfl⟩
def Rg(n:dt):bQ 0 (n:eW)=(L.so n).ej fun(i:dt)=>W.d0 (i:eW):=by
 unfold bQ;rw[show((n:eW)-0).oR=n by omega];refine w1y λi _=>?_
 rw[w5c]
def z51(r:dt->L W->FR)(fs:L Fm)(q:eW)(k:dt)(hk:k<fs.J)(zfe:k<100):JS K a r [.fr (.d0 (k:eW)),.fr (.fy (fs.ej mE)),.fr (.d0 q)]=.ok (.ff [.bl (decide (q / (k+1:eW)%2=1)),mE fs[k]]) [.fr (.d0 (k:eW)),.fr (.fy (fs.ej mE)),.fr (.d0 q)]:=by
 unfold JS;rw?;rw[gE ⟨by omega,by omega⟩];rw?;rw[show et (fs.ej mE) (k:eW)=O (mE fs[k])from v_ (by rw[w1c,w0a hk];rfl)];rw?
def uW(m:dt)(bs:L fJ)(fs:L Fm):W:=.ff [.d0 m,.ff (cZ (bs.ej .bl) ((fs.n5 bs.J).ej mE)),.ff ((fs.m9 bs.J).ej mE)]
def Um(n:dt)(ns:L eW)(mZ:eW)(m c o:dt)(hc:c<=4)(ho:o<=6):∃(bs:L fJ)(fs:L Fm),bs.J=c/\fs.J=c+o/\(∀f∈fs,dz (m+c) f)/\(EZ K a (g9 K a (n+2)) [.fr (.fy (ns.ej .d0)),.fr (.d0 4),.fr (.d0 mZ),.fr (.d0 m),.fr (.d0 c),.fr (.d0 o),.no,.no,.no,.no,.no,.no,.no]).fn=.ok (.fr (uW m bs fs)):=by
 unfold EZ;rw?;rw[show((c:eW)+(o:eW))=((c+o:dt):eW) by omega,gE (o4 (by omega) (by omega))];rw?
 let⟨e',h1,fs,z7,z8,z9,rL,rfl,hl,hx⟩:=xD (lo:=0) (hi:=((c+o:dt):eW)) (b:=Fu K a (g9 K a (n+2))) (i:=7) (c+o) (by omega) (λk e=>∃(fs:L Fm)(z7 z8 z9 rL:S),e=[.fr (.fy (ns.ej .d0)),.fr (.d0 4),.fr (.d0 mZ),.fr (.d0 m),.fr (.d0 c),.fr (.d0 o),.gD none (fs.ej mE),z7,z8,z9,rL,.no,.no]/\fs.J=k/\∀f∈fs,dz (m+c) f) [.fr (.fy (ns.ej .d0)),.fr (.d0 4),.fr (.d0 mZ),.fr (.d0 m),.fr (.d0 c),.fr (.d0 o),.gD none [],.no,.no,.no,.no,.no,.no] ⟨[],_,_,_,_,rfl,rfl,λ_ h=>nomatch h⟩ (λj e hj h=>by
  let⟨fs,z7,z8,z9,rL,rfl,hl,hx⟩:=h;let⟨f,t8,t9,x8,q1,q2⟩:=z50 (K:=K) (a:=a) n ns mZ m c o j fs (by omega) z8 z9 rL .no .no;refine⟨_,by rw[w5c];exact q2,fs++[f],_,t8,t9,x8,rfl,by simp[hl],λg hg=>?_⟩
  rcases w0w.mp hg with hg|hg
  .exact hx g hg
  .rw[w0u.mp hg];exact q1)
 rw[h1];rw?;rw[Aa (n+1) ns (k:=1) (by omega)];rw?;generalize ns.mF 1 0=q;rw[gE (o4 (by omega) (by omega))];rw?;rw[gE (by rw[v5];omega),Rg];simp only[i4,rD,w0v,w1o];rw[xI (fun(i:dt)=>W.d0 (i:eW)) (λk=>.ff [.bl (decide (q / (k+1:eW)%2=1)),mE (fs.mF k (.is false))]) (λ_=>true)]
 .rw[w2i.rj (λ_ _=>rfl)]
  rw?;rw[GB (by rw[w0b];omega)];refine⟨(L.so c).ej fun(k:dt)=>decide (q / (k+1:eW)%2=1),fs,by simp,hl,hx,?_⟩
  unfold uW
  have e:(L.so c).ej (fun(k:dt)=>W.ff [.bl (decide (q / (k+1:eW)%2=1)),mE (fs.mF k (.is false))])=cZ (((L.so c).ej fun(k:dt)=>decide (q / (k+1:eW)%2=1)).ej .bl) ((fs.n5 c).ej mE):=by
   unfold cZ;apply L.ext_getElem
   .simp[hl]
   .intro i h1 h2;have hi:i<c:=by simpa using h1
    have VZ:i<fs.J:=by omega
    simp[L.getElem_zip,L.mF,VZ]
  rw[e,w4p];simp
 .intro k hk;have hk:=w2e.mp hk;have qV:k<fs.J:=by omega
  have:=z51 (K:=K) (a:=a) (g9 K a (n+2)) fs q k qV (by omega);rw[show fs[k]=fs.mF k (.is false) by rw[w0n,w0a qV];rfl]at this;exact⟨_,rfl,λ_=>⟨_,this⟩⟩
def z52(j:eW):∃o:dt,o<=3/\et [W.d0 1,.d0 2,.d0 3,.d0 0] (j%4)=O (.d0 (o:eW)):=by
 have h1:=w1x j (show(4:eW)≠0 by decide);have h2:=w1q j (show(0:eW)<4 by decide);generalize j%4=k at h1 h2;obtain rfl|rfl|rfl|rfl:k=0\/k=1\/k=2\/k=3:=by omega
 .exact⟨1,by omega,rfl⟩
 .exact⟨2,by omega,rfl⟩
 .exact⟨3,by omega,rfl⟩
 .exact⟨0,by omega,rfl⟩
def ye(K:Fg)(a:a9)(r:FR):Prop:=∃(m:dt)(bs:L fJ)(fs:L Fm),m<=3/\m+bs.J<=5/\bs.J<=4/\bs.J<=fs.J/\fs.J<=bs.J+6/\(∀f∈fs,dz (m+bs.J) f)/\r=.ok (.fr (uW m bs fs))
def GR(n:dt)(ns:L eW)(mZ:eW)(m c:dt)(hm:m<=3)(hc:c<=4)(h:m+c<=5):ye K a (HH K a (g9 K a (n+2)) [.fr (.fy (ns.ej .d0)),.fr (.d0 4),.fr (.d0 mZ),.fr (.d0 m),.fr (.d0 c),.no,.no,.no,.no,.no,.no,.no,.no]).fn:=by
 let⟨o,ho,e⟩:=z52 (mZ / 12)
 have NV:∀o:dt,o<=6->ye K a (EZ K a (g9 K a (n+2)) [.fr (.fy (ns.ej .d0)),.fr (.d0 4),.fr (.d0 mZ),.fr (.d0 m),.fr (.d0 c),.fr (.d0 o),.no,.no,.no,.no,.no,.no,.no]).fn:=λo ho=>by
  let⟨bs,fs,h1,h2,h3,h4⟩:=Um (K:=K) (a:=a) n ns mZ m c o hc ho;subst h1;exact⟨m,bs,fs,hm,h,hc,by omega,by omega,h3,h4⟩
 unfold HH;rw?;rw[e];rw?
 by_cases h3:mZ / 48%8=3
 .simp only[h3];rw?;exact NV 6 (by omega)
 .simp only[h3];rw?;exact NV o (by omega)
def zav(n:dt)(ns:L eW):ye K a (g9 K a (n+3) JX [.fy (ns.ej .d0),.d0 4]):=by
 rw[Xf];unfold J1;rw?;rw[Aa (n+1) ns (k:=0) (by omega)];generalize ns.mF (0:eW).oR 0=x;have a1:=w1x x (show(3:eW)≠0 by omega);have a2:=w1q x (show(0:eW)<3 by omega);have b1:=w1x (x / 3) (show(4:eW)≠0 by omega);have b2:=w1q (x / 3) (show(0:eW)<4 by omega);obtain⟨m,hm⟩:∃m:dt,x%3=(m:eW):=⟨(x%3).oR,by omega⟩;obtain⟨c,hc⟩:∃m:dt,x / 3%4=(m:eW):=⟨(x / 3%4).oR,by omega⟩;rw?;rw[hm,hc]
 by_cases h1:x / 48%8=1
 .rw[gE h1]
  by_cases h2:(m:eW)<2
  .rw[gE h2,kl (by omega)];exact GR n ns x m 4 (by omega) (by omega) (by omega)
  .rw[kl h2,kl (by omega)];exact GR n ns x m c (by omega) (by omega) (by omega)
 .rw[kl h1]
  by_cases h2:x / 48%8=2
  .rw[gE h2,show((c:eW)%3)=((c%3:dt):eW) by omega];exact GR n ns x 3 (c%3) (by omega) (by omega) (by omega)
  .rw[kl h2];exact GR n ns x m c (by omega) (by omega) (by omega)
def P8{bs:L fJ}{fs:L Fm}(h:bs.J<=fs.J):(cZ (bs.ej .bl) ((fs.n5 bs.J).ej mE)).J=bs.J:=by
 unfold cZ;simp;omega
def z53{l:L W}{k j:dt}(h:k<=j)(hj:j<=l.J):fE l (O (k:eW)) (O (j:eW))=(l.m9 k).n5 (j-k):=by
 unfold fE;rw[HT.gw,HT.gw,w2u hj,w2u (by omega)]
def y40(n:dt)(ns:L eW)(m:dt)(bs:L fJ)(fs:L Fm)(h1:m+bs.J<=5)(h2:bs.J<=fs.J)(h3:fs.J<=bs.J+6):∃xs:L eh,xs.J=m+fs.J/\xs.p9/\(∀x∈xs,ro x=true/\x∉b_)/\g9 K a (n+3) FV [.fy (ns.ej .d0),uW m bs fs]=.ok (.fr (.ff [.ff ((xs.n5 m).ej .str),.ff (((xs.m9 m).n5 bs.J).ej .str),.ff ((xs.m9 (m+bs.J)).ej .str)])):=by
 let⟨xs,x1,x2,x3,x4⟩:=y9k (K:=K) (a:=a) n (ns.mF 9 0) (m+fs.J) (by omega);refine⟨xs,x1,x2,x3,?_⟩;rw[zaA];unfold KG uW;rw?;rw[P8 h2,Aa (n+1) ns (k:=9) (by omega)];rw?;rw[show((m:eW)+(bs.J:eW)+(((fs.m9 bs.J).ej mE).J:eW))=((m+fs.J:dt):eW) by simp;omega,x4];rw?;rw[M9 (by simp;omega),show((m:eW)+(bs.J:eW))=((m+bs.J:dt):eW) by omega,GB (by simp;omega)];rw[z53 (by omega) (by simp;omega),w4e,<- w3e,<- w4p,<- w4p,<- w3e]
def cw(xs:L eh):eh:=tx (105::110::xs.Nn λx=>32::aX x)
def tT(x:eh)(b:fJ)(t:eh):eh:=("held ":eh)++x++" "++uI b++" = "++t
def tU(x t:eh):eh:=("out ":eh)++x++" = "++t
def y9m(r:dt->L W->FR)(x:eh)(h:x.J<=100):FQ K a r [.fr (.str x)]=.ok (.str (tx (32::aX x))) [.fr (.str x)]:=by
 unfold FQ;rw?;rw[gE (by have:(" ":eh).J=1:=rfl;omega)];rw?;rw[show x=tx (aX x)from(rE x).symm,show(" ":eh)=tx [32]from rfl,nC,show aX (tx (aX x))=aX x from mH _];rfl
theorem Pp:∀l:L (L dt),cF [] l=l.Yt
 |[]=>rfl
 |[p]=>by simp[cF]
 |p::q::r=>by
  show p++([]++cF [] (q::r))=_;rw[Pp (q::r)];simp
def uY(kn hn:L eh)(bs:L fJ)(fs:L Fm)(k:dt):eh:=tT (hn.mF k "") (bs.mF k false) (dM kn (fs.mF k (.is false)))
def Ρ(kn on:L eh)(gs:L Fm)(k:dt):eh:=tU (on.mF k "") (dM kn (gs.mF k (.is false)))
def bA(f' hn on:L eh)(bs:L fJ)(fs:L Fm):L eh:=(cw f'::(L.so bs.J).ej (uY (f'++hn) hn bs fs))++(L.so (fs.m9 bs.J).J).ej (Ρ (f'++hn) on (fs.m9 bs.J))
def R6{l:L eh}{k:dt}(h:k<l.J):et (l.ej W.str) (k:eW)=O (.str (l.mF k "")):=by
 rw[RY h,w0n,w0a h];rfl
def U7(b:fJ):et [W.str "no", .str "yes"] (if b=true then 1 else 0)=O (.str (uI b)):=by cases b<;>rfl
theorem Uo{l:L Fm}{k:dt}(h:k<l.J):et (l.ej mE) (k:eW)=O (mE (l.mF k (.is false))):=v_ (by rw[w1c,w0a h,w0n,w0a h];rfl)
def y9n(n:dt)(kn on ls:L eh)(gs:L Fm)(w0 w1 v0 v1:W)(k:dt)(hk:k<gs.J)(qV:k<on.J)(hn:∀x∈kn,x.J<=8)(ho:∀x∈on,x.J<=8)(hg:∀f∈gs,dz kn.J f)(hl:ls.J<=100)(z5 z6:S):∃t6,FO K a (g9 K a (n+6)) [.fr (.ff [w0,w1,.ff (on.ej .str)]),.fr (.ff [v0,v1,.ff (gs.ej mE)]),.fr (.ff (kn.ej .str)),.gD none (ls.ej .str),.fr (.d0 k),z5,z6]=.nx [.fr (.ff [w0,w1,.ff (on.ej .str)]),.fr (.ff [v0,v1,.ff (gs.ej mE)]),.fr (.ff (kn.ej .str)),.gD none ((ls++[Ρ kn on gs k]).ej .str),.fr (.d0 k),z5,t6]:=by
 have hf:dz kn.J (gs.mF k (.is false)):=by
  rw[w0n,w0a hk];exact hg _ (w1z hk)
 have hx:=Mr ho k;have ht:=nE hn (gs.mF k (.is false));have hs:=hf.2.2;unfold FO;rw?;rw[Uo hk];rw?;rw[v8 kn hn _ (n+6) (by have:=hf.2.1;omega) (by omega) hf.1];rw?;rw[R6 qV];rw?;have c1:("out ":eh).J=4:=rfl;have c2:(" = ":eh).J=3:=rfl;rw[gE (by omega)];rw?;rw[gE (by simp only[o8];omega)];rw?;rw[gE (by simp only[o8];omega)];rw?;rw[gE (by simp;omega)];exact⟨_,by rw[w0m];rfl⟩
def R7{bs:L fJ}{fs:L Fm}{k:dt}(h:k<bs.J)(h2:bs.J<=fs.J):et (cZ (bs.ej .bl) ((fs.n5 bs.J).ej mE)) (k:eW)=O (.ff [.bl (bs.mF k false),mE (fs.mF k (.is false))]):=by
 have h3:k<fs.J:=by omega
 refine v_ ?_;unfold cZ;simp[w3u,L.mF,h,h3]
def y41(n:dt)(kn hn ls:L eh)(bs:L fJ)(fs:L Fm)(w0 w2 v0 v2:W)(k:dt)(hk:k<bs.J)(hb:bs.J<=fs.J)(qV:k<hn.J)(N1:∀x∈kn,x.J<=8)(ho:∀x∈hn,x.J<=8)(hg:∀f∈fs,dz kn.J f)(hl:ls.J<=100)(z5 z6:S):∃t5 t6,FP K a (g9 K a (n+6)) [.fr (.ff [w0,.ff (hn.ej .str),w2]),.fr (.ff [v0,.ff (cZ (bs.ej .bl) ((fs.n5 bs.J).ej mE)),v2]),.fr (.ff (kn.ej .str)),.gD none (ls.ej .str),.fr (.d0 k),z5,z6]=.nx [.fr (.ff [w0,.ff (hn.ej .str),w2]),.fr (.ff [v0,.ff (cZ (bs.ej .bl) ((fs.n5 bs.J).ej mE)),v2]),.fr (.ff (kn.ej .str)),.gD none ((ls++[uY kn hn bs fs k]).ej .str),.fr (.d0 k),t5,t6]:=by
 have N0:k<fs.J:=by omega
 have hf:dz kn.J (fs.mF k (.is false)):=by
  rw[w0n,w0a N0];exact hg _ (w1z N0)
 have hx:=Mr ho k;have ht:=nE N1 (fs.mF k (.is false));have hs:=hf.2.2;have hy:(uI (bs.mF k false)).J<=3:=by cases bs.mF k false<;>decide
 unfold FP;rw?;rw[R7 hk hb];rw?;rw[U7];rw?;rw[R7 hk hb];rw?;rw[v8 kn N1 _ (n+6) (by have:=hf.2.1;omega) (by omega) hf.1];rw?;rw[R6 qV];rw?;have c1:("held ":eh).J=5:=rfl;have c2:(" = ":eh).J=3:=rfl;have c3:(" ":eh).J=1:=rfl;rw[gE (by omega)];rw?;rw[gE (by simp only[o8];omega)];rw?;rw[gE (by simp only[o8];omega)];rw?;rw[gE (by simp only[o8];omega)];rw?;rw[gE (by simp only[o8];omega)];rw?;rw[gE (by simp;omega)];exact⟨_,_,by rw[w0m];rfl⟩
def dI(f' hn on:L eh):W:=.ff [.ff (f'.ej .str),.ff (hn.ej .str),.ff (on.ej .str)]
def y9o(r:dt->L W->FR)(xs:L eh)(h:∀x∈xs,x.J<=8):cq cP (FQ K a r) [] (xs.ej .str)=O (xs.ej λx=>.str (tx (32::aX x))):=by
 rw[xI (cc:=cP) .str (λx=>.str (tx (32::aX x))) (λ_=>true) xs λx hx=>⟨_,rfl,λ_=>⟨_,y9m r x (by have:=h x hx;omega)⟩⟩,w2i.rj λ_ _=>rfl]
theorem Ah{g:α->dt}{b:dt}:∀l:L α,(∀x∈l,g x<=b)->(l.ej g)._l<=l.J*b
 |[],_=>by simp
 |x::l,h=>by
  have h1:=h x w0l;have:=Ah l λy hy=>h y (w0f _ hy)
  simp only[w0j,w5i,w0r,dt.succ_mul];omega
def y9p(xs:L eh)(h:∀x∈xs,x.J<=8)(hl:xs.J<=100):d7 (.str "") [.fy (xs.ej λx=>.str (tx (32::aX x)))]=O (.str (tx (xs.Nn λx=>32::aX x))):=by
 have:=Ah (g:=λx=>(32::aX x).J) (b:=9) xs λx hx=>by
  have:(aX x).J=x.J:=w2a;have:=h x hx;rw[w0r];omega
 have:=Hf (z:=[]) (l:=xs.ej λx=>32::aX x) (by rw[w1f,w0b];show(xs.ej λx=>(32::aX x).J)._l+_<=_;simp only[w3n];omega)
 rw[w1f,Pp]at this;exact this
def y42(n m:dt)(f' hn on:L eh)(bs:L fJ)(fs:L Fm)(e1:hn.J=bs.J)(hb:bs.J<=fs.J)(e2:on.J=fs.J-bs.J)(h5:f'.J<=5)(h6:fs.J<=20)(hx:∀x∈f'++hn,x.J<=8)(ho:∀x∈on,x.J<=8)(hg:∀f∈fs,dz (f'++hn).J f):g9 K a (n+7) zV [dI f' hn on,uW m bs fs]=.ok (.gD none ((bA f' hn on bs fs).ej .str)):=by
 rw[zaB];unfold KH dI uW;rw?;rw[gE (by simp;omega)];rw?;rw[<- w0m];rw[y9o _ _ λx h=>hx x (w1h _ h)]
 rw?;rw[y9p _ (λx h=>hx x (w1h _ h)) (by omega)]
 rw?
 have c1:(tx (f'.Nn λx=>32::aX x)).J<=1000:=by
  show(f'.Nn λx=>32::aX x).ky.eG<=_
  have:=Ah (g:=λx=>(32::aX x).J) (b:=9) f' λx h=>by
   have:(aX x).J=x.J:=w2a;have:=hx x (w1h _ h);rw[w0r];omega
  simp only[w0i,w4x];omega
 rw[gE (by simp;omega),gE (by have:("in":eh).J=2:=rfl;omega),P8 hb,gE (o4 (by omega) (by omega)),show("in":eh)=tx [105,110]from rfl,nC];rw?
 let⟨e',g1,z4,z5,z6,rfl⟩:=xD (lo:=0) (hi:=(bs.J:eW)) (b:=FP K a (g9 K a (n+6))) (i:=4) bs.J (by omega) (λj e=>∃z4 z5 z6:S,e=[.fr (dI f' hn on),.fr (uW m bs fs),.fr (.ff ((f'++hn).ej .str)),.gD none ((cw f'::(L.so j).ej (uY (f'++hn) hn bs fs)).ej .str),z4,z5,z6]) [.fr (dI f' hn on),.fr (uW m bs fs),.fr (.ff ((f'++hn).ej .str)),.gD none [.str (cw f')],.no,.no,.no] ⟨_,_,_,rfl⟩ (λj e hj h=>by
  let⟨z4,z5,z6,rfl⟩:=h;let⟨t5,t6,q⟩:=y41 (K:=K) (a:=a) n (f'++hn) hn (cw f'::(L.so j).ej (uY (f'++hn) hn bs fs)) bs fs (.ff (f'.ej .str)) (.ff (on.ej .str)) (.d0 m) (.ff ((fs.m9 bs.J).ej mE)) j hj hb (by omega) hx (λx h=>hx x (w0e _ h)) hg (by simp;omega) z5 z6
  exact⟨_,by rw[w5c];exact q,_,_,_,by rw[w4y,w0m (f:=uY (f'++hn) hn bs fs)];rfl⟩)
 unfold dI uW cw at g1;rw[g1];rw?;rw[w0b,gE (o4 (by omega) (by rw[w1j];omega))];rw?
 let⟨e',g2,z4,z5,z6,rfl⟩:=xD (lo:=0) (hi:=((fs.m9 bs.J).J:eW)) (b:=FO K a (g9 K a (n+6))) (i:=4) (fs.m9 bs.J).J (by omega) (λj e=>∃z4 z5 z6:S,e=[.fr (dI f' hn on),.fr (uW m bs fs),.fr (.ff ((f'++hn).ej .str)),.gD none (((cw f'::(L.so bs.J).ej (uY (f'++hn) hn bs fs))++(L.so j).ej (Ρ (f'++hn) on (fs.m9 bs.J))).ej .str),z4,z5,z6]) [.fr (dI f' hn on),.fr (uW m bs fs),.fr (.ff ((f'++hn).ej .str)),.gD none (.str (cw f')::((L.so bs.J).ej (uY (f'++hn) hn bs fs)).ej .str),z4,z5,z6] ⟨z4,z5,z6,by simp⟩ (λj e hj h=>by
  let⟨z4,z5,z6,rfl⟩:=h;let⟨t6,q⟩:=y9n (K:=K) (a:=a) n (f'++hn) on ((cw f'::(L.so bs.J).ej (uY (f'++hn) hn bs fs))++(L.so j).ej (Ρ (f'++hn) on (fs.m9 bs.J))) (fs.m9 bs.J) (.ff (f'.ej .str)) (.ff (hn.ej .str)) (.d0 m) (.ff (cZ (bs.ej .bl) ((fs.n5 bs.J).ej mE))) j hj (by rw[w1j]at hj;omega) hx ho (λf h=>hg f (w2y h)) (by rw[w1j]at hj;simp;omega) z5 z6
  exact⟨_,by rw[w5c];exact q,_,_,_,by rw[w4y,w0m (f:=Ρ (f'++hn) on (fs.m9 bs.J)),<- w0k];rfl⟩)
 unfold dI uW cw at g2;rw[g2];rw?;rfl
def rA(w:eW):L eh:=if w=1 then["   "]else if w=2 then["", ""]else[]
def ni(w:eW)(l:eh):L eh:=rA w++[jh w l]
def eR(ws:L eW)(ls:L eh):L eh:=(L.zipWith ni ws ls).Yt
def y9q(w:eW)(l:eh):(ni w l).J<=3:=by
 unfold ni rA;split
 .simp
 .split<;>simp
def kq(p:Pt):Pt:=⟨0,p.vj,p.lH,p.first, "", p.fm⟩
def Bq(ps:L Pt)(x:eh):vt (ps.ej kq) x=vt ps x:=by
 induction ps with
 |m8=>rfl
 |m6 p ps ih=>rw[w0j,Dp,Dp,ih];rfl
def Rh(ps:L Pt):YI (ps.ej kq)=YI ps:=by unfold YI;rw[Bq,Bq,Bq]
def z54(ps:L Pt):eD (ps.ej kq)=eD ps:=by
 unfold eD;rw[L.getLast?_map];cases ps.ć<;>rfl
theorem ir.C7{ps:L Pt}{p:Pt}(h:ir (ps.ej kq) (kq p)):ir ps p:=
 ⟨h.vj,by rw[<- z54];exact h.last,by rw[<- Bq];exact h.ZK,h.ok,by rw[<- Rh];exact h.nd,by rw[<- Rh];exact h.oO⟩
def y9r(ps:L Pt):jb (ps.ej kq)=jb ps:=by
 have e1:dG (ps.ej kq)=dG ps:=by unfold dG;rw[L.filter_map,w1f];rfl
 have e2:bE (ps.ej kq)=bE ps:=by unfold bE;rw[L.filter_map,w1f];rfl
 unfold jb hU;simp only[e1,e2,Bq]
def iW(K:Fg)(a:a9)(kn:L eh)(l:eh)(q:Pt):Prop:=∀(w:eW)(k:dt),∃cs p,jh w l=tx cs/\gk cs≠[]/\10∉cs/\cs.J<=2200/\(∀n,g9 K a (n+2) u5 [.str (tx cs),.d0 k]=.ok (.dw .str pk (pw p)))/\kq p=q/\(p.vj≠"in"->iV kn p)
def P9{w:eW}:∀b∈rA w,gk (aX b)=[]/\10∉aX b/\(aX b).J<=2200:=by
 unfold rA;split
 .decide
 .split
  .decide
  .simp
theorem Mu{ah:L Pt}{P:L Pt->Prop}(h:∀k,∃ps,ri K a k ah rs ps/\P ps):∀bl:L (L dt),(∀b∈bl,gk b=[]/\b.J<=100000)->∀k,∃ps,ri K a k ah (bl++rs) ps/\P ps
 |[],_,k=>h k
 |b::bl,hb,k=>by
  let⟨ps,h1,h2⟩:=Mu h bl (λx hx=>hb x (w0f _ hx)) (k+1)
  have:=hb b w0l;exact⟨ps,._t this.1 this.2 h1,h2⟩
def ri.EY{bl:L (L dt)}(hb:∀b∈bl,gk b=[]/\b.J<=100000){k:dt}{ah ps:L Pt}(h:ri K a k ah rs ps):ri K a k ah (rs++bl) ps:=by
 induction h with
 | @m8 k ah=>
  let⟨ps,h1,rfl⟩:=Mu (K:=K) (a:=a) (ah:=ah) (rs:=[]) (P:=λps=>ps=[]) (λk=>⟨[],.m8,rfl⟩) bl hb k
  rw[w0s]at h1;exact h1
 |_t hw hc _ ih=>exact ._t hw hc ih
 |ω hw hc hp hs _ ih=>exact .ω hw hc hp hs ih
theorem MQ{qs:L Pt}(hs:∀b q c,qs=b++q::c->ir b q):∀(Yp:L (eh×Pt))(ws:L eW)(ah:L Pt)(k:dt),qs=ah.ej kq++Yp.ej (·.2)->ws.J=Yp.J->(∀pr∈Yp,iW K a kn pr.1 pr.2)->∃ps,ri K a k ah ((eR ws (Yp.ej (·.1))).ej aX) ps/\ps.ej kq=Yp.ej (·.2)/\∀p∈ps,p.vj≠"in"->iV kn p
 |[],[],ah,k,_,h,_=>⟨[],.m8,rfl,λ_ h=>nomatch h⟩
 |(l,q)::Yp,w::ws,ah,k,e,h,ok=>by
  have e0:(eR (w::ws) (((l,q)::Yp).ej (·.1))).ej aX=(rA w).ej aX++(aX (jh w l)::(eR ws (Yp.ej (·.1))).ej aX):=by
   show((rA w++[jh w l])++eR ws (Yp.ej (·.1))).ej aX=_;simp
  rw[e0];refine Mu (λk=>?_) _ (λb hb=>?_) k
  .let⟨cs,p,h1,h2,h3,h4,h5,h6,h7⟩:=ok (l,q) w0l w k;have h6:kq p=q:=h6;let⟨ps,g1,g2,g3⟩:=MQ hs Yp ws (ah++[p]) (k+1) (by rw[e,w0m,w0k,w0j];show _=_++(kq p::_);rw[h6];rfl) (by simpa using h) λpr hp=>ok pr (w0f _ hp)
   have h1:jh w l=tx cs:=h1;rw[h1,show aX (tx cs)=cs from mH cs];refine⟨p::ps,.ω h2 (by omega) h5 (ir.C7 ?_) g1,?_,λx hx=>?_⟩
   .rw[h6];exact hs _ _ _ e
   .rw[w0j,g2,h6];rfl
   .rcases w0h.mp hx with rfl|hx
    .exact h7
    .exact g3 x hx
  .let⟨x,hx,rfl⟩:=w1e.mp hb;have:=P9 x hx;exact⟨this.1,by omega⟩
 |[],w::ws,_,_,_,h,_=>nomatch h
 |_::_,[],_,_,_,h,_=>nomatch h
theorem MR:∀(Yp:L (eh×Pt))(ws:L eW),(∀pr∈Yp,iW K a kn pr.1 pr.2)->(eR ws (Yp.ej (·.1))).J<=3*Yp.J/\∀r∈eR ws (Yp.ej (·.1)),10∉aX r/\(aX r).J<=2200
 |[],[],_=>⟨w1k _,λ_ h=>nomatch h⟩
 |[],w::ws,_=>⟨w1k _,λ_ h=>nomatch h⟩
 |_::_,[],_=>⟨w1k _,λ_ h=>nomatch h⟩
 |(l,q)::Yp,w::ws,ok=>by
  let⟨h1,h2⟩:=MR Yp ws λpr hp=>ok pr (w0f _ hp)
  have e0:eR (w::ws) (((l,q)::Yp).ej (·.1))=ni w l++eR ws (Yp.ej (·.1)):=rfl;rw[e0];have:=y9q w l;refine⟨by rw[w0g,w0r];omega,λr hr=>?_⟩
  rcases w0w.mp hr with hr|hr
  .rcases w0w.mp hr with hr|hr
   .exact(P9 r hr).2
   .let⟨cs,p,h1,_,h3,h4,_⟩:=ok (l,q) w0l w 0;have h1:jh w l=tx cs:=h1;rw[w0u.mp hr,h1,show aX (tx cs)=cs from mH cs];exact⟨h3,h4⟩
  .exact h2 r hr
theorem S3:∀{cs:L dt},gk cs=[]->∀c∈cs,c=32
 |[],_,_,h=>nomatch h
 |d::r,h,c,hc=>by
  let⟨p,ps,e⟩:=GP 32 r;unfold gk at h;rw[Bn,e]at h
  by_cases hd:d=32
  .rw[gE hd,<- e]at h;rcases w0h.mp hc with rfl|hc
   .exact hd
   .exact S3 (cs:=r) (by unfold gk;simpa [sq]using h) c hc
  .rw[kl hd]at h;simp[sq]at h
def xS(h:ro x=true)(hc:c∈aX x):97<=c/\c<=122:=by
 have:=(qq h).2.2.2 c hc
 simpa [d6]using this
def Hh(h:ro x=true):aX x≠[]/\(aX x).J<=8:=by
 let⟨_,h1,h2,_⟩:=qq h;have e:(aX x).J=x.J:=w2a;exact⟨λz=>by rw[z]at e;simp at e;omega,by omega⟩
theorem Ri:∀(xs:L eh){p:L dt},32∉p->(∀x∈xs,ro x=true)->cA 32 (p++xs.Nn λx=>32::aX x)=p::xs.ej aX
 |[],p,hp,_=>by rw[L.flatMap_nil,w0s,Gg hp];rfl
 |x::xs,p,hp,h=>by
  rw[w3s,w1n,Ab _ hp,Ri xs (λhc=>by have:=xS (h x w0l) hc;omega) λy hy=>h y (w0f _ hy)]
  rfl
theorem z55{g:Fm}(h:∀x∈f',ro x=true)(hl:f'.J<=5):iW K a kn (cw f') ⟨0, "in", f',.aH, "", g⟩:=λw k=>by
 have YD:∀c∈105::110::(f'.Nn λx=>32::aX x),c=32\/97<=c:=λc hc=>by
  rcases w0h.mp hc with rfl|hc
  .omega
  .rcases w0h.mp hc with rfl|hc
   .omega
   .let⟨x,hx,hc⟩:=L.mem_flatMap.mp hc;rcases w0h.mp hc with rfl|hc
    .omega
    .have:=xS (h x hx) hc;omega
 have oO:=Ah (g:=λx=>(32::aX x).J) (b:=9) f' λx hx=>by
  have:=(Hh (h x hx)).2;rw[w0r];omega
 have no:∀c,c≠32->c<97->c∉105::110::(f'.Nn λx=>32::aX x):=λc h1 h2 hc=>by have:=YD c hc;omega
 have zea:gk (105::110::(f'.Nn λx=>32::aX x))=[105,110]::f'.ej aX:=by
  unfold gk;rw[show(105::110::(f'.Nn λx=>32::aX x))=[105,110]++(f'.Nn λx=>32::aX x)from rfl,Ri f' (by decide) h]
  refine w2i.rj λy hy=>?_
  rcases w0h.mp hy with rfl|hy
  .rfl
  .let⟨x,hx,rfl⟩:=w1e.mp hy;exact _u (Hh (h x hx)).1
 let⟨cs,e,i,l⟩:=UJ (w:=w) (cs:=105::110::(f'.Nn λx=>32::aX x)) ⟨no 61 (by omega) (by omega),no 10 (by omega) (by omega),zea⟩ (no 40 (by omega) (by omega)) (no 41 (by omega) (by omega))
 simp only[w0r,w4x]at l oO;have l2:cs.J<=2200:=by omega
 refine⟨cs,_,e,by rw[i.2.2];simp,i.2.1,l2,λn=>UO (g:=g) n k (by omega) i,?_,λz=>nS rfl z⟩
 show Pt.mk 0 "in" ((f'.ej aX).ej tx) .aH "" g=_;rw[w1f,w1y (f:=tx ∘ aX) (g:=id) λx _=>rE x,L.map_id]
theorem xN(hn:∀x∈ns,ro x=true):∀f:Fm,61∉aX (dM ns f)/\10∉aX (dM ns f)
 |.is true=>by show 61∉aX (uI true)/\10∉aX (uI true);decide
 |.is false=>by show 61∉aX (uI false)/\10∉aX (uI false);decide
 |.at p=>by
  show 61∉aX (ns.mF p "")/\10∉aX (ns.mF p "");rcases w5a p ns.J with h|h
  .rw[w0n,w0a h];have:=hn _ (w1z h);exact⟨λhc=>by have:=xS this hc;omega,λhc=>by have:=xS this hc;omega⟩
  .rw[w0n,w2o h];decide
 |.not f=>by
  have:=xN hn f;show 61∉aX (("not ":eh)++dM ns f)/\10∉aX (("not ":eh)++dM ns f);rw[DN,w0w,w0w,show aX ("not ":eh)=[110,111,116,32]from rfl];simp[this]
 |.and f g=>by
  have h1:=xN hn f;have h2:=xN hn g;show 61∉aX (ee "and" _ _)/\10∉aX (ee "and" _ _);rw[GQ,show aX ("and":eh)=[97,110,100]from rfl];simp[h1,h2]
 |.or f g=>by
  have h1:=xN hn f;have h2:=xN hn g;show 61∉aX (ee "or" _ _)/\10∉aX (ee "or" _ _);rw[GQ,show aX ("or":eh)=[111,114]from rfl];simp[h1,h2]
 |.E1 f g=>by
  have h1:=xN hn f;have h2:=xN hn g;show 61∉aX (ee "odd" _ _)/\10∉aX (ee "odd" _ _);rw[GQ,show aX ("odd":eh)=[111,100,100]from rfl];simp[h1,h2]
def S4(hn:∀x∈kn,ro x=true)(hf:dz kn.J f)(w:eW){l:L dt}(hl:∀c∈l,c=32\/97<=c)(hw:gk l=ws)(vd:l.J<=20):∃l' r,jh w (tx (l++32::61::32::aX (dM kn f)))=tx (l'++61::r)/\61∉l'/\61∉r/\10∉l'++61::r/\gk l'=ws/\(l'++61::r).J<=2200/\gk (l'++61::r)≠[]/\∀k w ns v,iV kn ⟨k,w,ns,v,tx r,f⟩:=by
 let⟨ts,d,t1,t2,t3⟩:=xM hn f hf.1;let⟨c1,c2⟩:=xN hn f;have c3:=nE (λx hx=>(qq (hn x hx)).2.2.1) f
 have c4:(aX (dM kn f)).J=(dM kn f).J:=w2a;have no:∀c,c≠32->c<97->c∉l:=λc h1 h2 hc=>by have:=hl c hc;omega
 let⟨cs,e,⟨l',r,rfl,g1,g2,g3,g4,g5⟩,g6⟩:=UK (w:=w) (l:=l) (r:=aX (dM kn f)) (no 61 (by omega) (by omega)) c1 (λh=>(w0w.mp h).ke (no 10 (by omega) (by omega)) c2) (no 40 (by omega) (by omega)) (no 41 (by omega) (by omega)) hw (show nW (aX (dM kn f))=ts from(t3 []).1)
 have:=hf.2.2;have g7:(l'++61::r).J<=2200:=by omega
 refine⟨l',r,e,g1,g2,g3,g4,g7,λz=>by have:=S3 z 61 (by simp);omega,λk w ns v=>⟨r,ts.ej tx,d,rfl,?_,t1 0 (by omega),?_,by have:=hf.2.1;omega⟩⟩
 .rw[w0g,w0r]at g7;omega
 .rw[<- g5];unfold nW;rw[<- y4q,w1f];rfl
def M'{p:L dt}(h:32∉p)(hp:p≠[]):gk (p++32::r)=p::gk r:=by
 unfold gk;rw[Ab _ h,w4c (p:=sq) (_u hp)]
def R8{p:L dt}(h:32∉p)(hp:p≠[]):gk p=[p]:=by
 unfold gk;rw[Gg h,w4c (p:=sq) (_u hp)];rfl
theorem y45(hn:∀x∈kn,ro x=true)(hf:dz kn.J f)(hx:ro x=true)(b:fJ):iW K a kn (tT x b (dM kn f)) ⟨0, "held", [x],wT (kS b), "", f⟩:=λw k=>by
 have HW:32∉aX x:=λhc=>by have:=xS hx hc;omega
 have zey:∀c∈kS b,97<=c:=by cases b<;>decide
 have y32:32∉kS b:=by cases b<;>decide
 have yn:kS b≠[]/\(kS b).J<=3:=by cases b<;>decide
 let⟨n1,n2⟩:=Hh hx
 let⟨l,r,e,g1,g2,g3,g4,g5,g6,g7⟩:=S4 hn hf w (l:=kg++32::(aX x++32::kS b)) (ws:=[kg,aX x,kS b]) (λc hc=>by
  simp only[w0w,w0h]at hc;rcases hc with hc|rfl|hc|rfl|hc
  .exact .j' ((by decide:∀c∈kg,97<=c) c hc)
  .exact .h8 rfl
  .exact .j' (xS hx hc).1
  .exact .h8 rfl
  .exact .j' (zey c hc)) (by rw[M' (by decide) (by decide),M' HW n1,R8 y32 yn.1]) (by simp[kg];omega)
 refine⟨_,_,?_,g6,g3,g5,λn=>y9h (g:=f) n k (by omega) g1 g2 g4,?_,λ_=>g7 _ _ _ _⟩
 .rw[<- e];congr 1;unfold tT;rw[<- rE (("held ":eh)++x++" "++uI b++" = "++dM kn f)];congr 1;show aX _=_;simp only[DN];rw[show aX (uI b)=kS b by cases b<;>rfl,show aX ("held ":eh)=kg++[32]from rfl,show aX (" ":eh)=[32]from rfl,show aX (" = ":eh)=[32,61,32]from rfl];simp
 .show Pt.mk 0 "held" [tx (aX x)] (wT (kS b)) "" f=_;rw[show tx (aX x)=x from rE x]
theorem y9s(hn:∀x∈kn,ro x=true)(hf:dz kn.J f)(hx:ro x=true):iW K a kn (tU x (dM kn f)) ⟨0, "out", [x],.aH, "", f⟩:=λw k=>by
 have HW:32∉aX x:=λhc=>by have:=xS hx hc;omega
 let⟨n1,n2⟩:=Hh hx
 let⟨l,r,e,g1,g2,g3,g4,g5,g6,g7⟩:=S4 hn hf w (l:=oZ++32::aX x) (ws:=[oZ,aX x]) (λc hc=>by
  simp only[w0w,w0h]at hc;rcases hc with hc|rfl|hc
  .exact .j' ((by decide:∀c∈oZ,97<=c) c hc)
  .exact .h8 rfl
  .exact .j' (xS hx hc).1) (by rw[M' (by decide) (by decide),R8 HW n1]) (by simp[oZ];omega)
 refine⟨_,_,?_,g6,g3,g5,λn=>z5t (g:=f) n k (by omega) g1 g2 g4,?_,λ_=>g7 _ _ _ _⟩
 .rw[<- e];congr 1;unfold tU;rw[<- rE (("out ":eh)++x++" = "++dM kn f)];congr 1;show aX _=_;simp only[DN];rw[show aX ("out ":eh)=oZ++[32]from rfl,show aX (" = ":eh)=[32,61,32]from rfl];simp
 .show Pt.mk 0 "out" [tx (aX x)] .aH "" f=_;rw[show tx (aX x)=x from rE x]
def qI(f':L eh):Pt:=⟨0, "in", f',.aH, "", .is false⟩
def qH(hn:L eh)(bs:L fJ)(fs:L Fm)(k:dt):Pt:=⟨0, "held", [hn.mF k ""],wT (kS (bs.mF k false)), "", fs.mF k (.is false)⟩
def qO(on:L eh)(gs:L Fm)(k:dt):Pt:=⟨0, "out", [on.mF k ""],.aH, "", gs.mF k (.is false)⟩
def qL(f' hn on:L eh)(bs:L fJ)(fs gs:L Fm)(i j:dt):L Pt:=qI f'::((L.so i).ej (qH hn bs fs)++(L.so j).ej (qO on gs))
def GS{d:α}:∀{l:L α}{k:dt},k<=l.J->(L.so k).ej (λi=>l.mF i d)=l.n5 k:=by
 intro l k h;apply L.ext_getElem
 .simp;omega
 .intro i h1 h2;have h1:i<k:=by simpa using h1
  have:i<l.J:=by omega
  simp[L.mF,this]
def zaw(ps qs:L Pt)(x:eh):vt (ps++qs) x=vt ps x++vt qs x:=by unfold vt;rw[w6o,w4u]
def P_{f:dt->Pt}{g:dt->eh}{v:eh}(hf:∀k,(f k).vj=v/\(f k).lH=[g k])(x:eh)(l:L dt):vt (l.ej f) x=if v=x then l.ej g else[]:=by
 induction l with
 |m8=>simp[vt]
 |m6 k l ih=>
  rw[w0j,Dp,(hf k).1,(hf k).2,ih];split<;>rfl
def Gr{hn:L eh}{bs:L fJ}{fs:L Fm}{j:dt}(hi:i<=hn.J)(hj:j<=on.J)(x:eh):vt (qL f' hn on bs fs gs i j) x=(if "in"=x then f' else[])++((if "held"=x then hn.n5 i else[])++(if "out"=x then on.n5 j else[])):=by
 unfold qL;rw[Dp,zaw,P_ (f:=qH hn bs fs) (g:=λk=>hn.mF k "") (v:="held") (λk=>⟨rfl,rfl⟩) x,P_ (f:=qO on gs) (g:=λk=>on.mF k "") (v:="out") (λk=>⟨rfl,rfl⟩) x,GS hi,GS hj]
 rfl
def Ng{hn:L eh}{bs:L fJ}{fs:L Fm}{j:dt}(hi:i<=hn.J)(hj:j<=on.J):vt (qL f' hn on bs fs gs i j) "in"=f':=by rw[Gr hi hj,gE rfl,kl (by decide),kl (by decide),w0s,w0s]
def GU{hn:L eh}{bs:L fJ}{fs:L Fm}{j:dt}(hi:i<=hn.J)(hj:j<=on.J):vt (qL f' hn on bs fs gs i j) "held"=hn.n5 i:=by rw[Gr hi hj,kl (by decide),gE rfl,kl (by decide),w0s];rfl
def M5{hn:L eh}{bs:L fJ}{fs:L Fm}{j:dt}(hi:i<=hn.J)(hj:j<=on.J):vt (qL f' hn on bs fs gs i j) "out"=on.n5 j:=by rw[Gr hi hj,kl (by decide),kl (by decide),gE rfl];rfl
def Hi{hn:L eh}{bs:L fJ}{fs:L Fm}{j:dt}(hi:i<=hn.J)(hj:j<=on.J):YI (qL f' hn on bs fs gs i j)=f'++(hn.n5 i++on.n5 j):=by unfold YI;rw[Ng hi hj,GU hi hj,M5 hi hj]
def QE(ps:L Pt)(p:Pt):eD (ps++[p])=p.vj:=by unfold eD;rw[L.getLast?_append];rfl
def R9{hn:L eh}{bs:L fJ}{fs:L Fm}:eD (qL f' hn on bs fs gs i 0)∈Β "held":=by
 cases i with
 |zc=>exact w0l
 |zD i=>
  unfold qL;rw[w4y,w0m,L.range_zero,w3d,w0s,<- w1n];show eD (_++[_])∈_;rw[QE];exact w0f _ w0l
def y9t{hn:L eh}{bs:L fJ}{fs:L Fm}{j:dt}:eD (qL f' hn on bs fs gs i j)∈Β "out":=by
 cases j with
 |zc=>exact(by decide:∀x∈Β "held", x∈Β "out") _ R9
 |zD j=>
  unfold qL;rw[w4y,w0m,<- w0k,<- w1n];show eD (_++[_])∈_;rw[QE];exact w0f _ (w0f _ w0l)
def QF{l:L eh}{k:dt}(h:k<l.J):l.n5 k++[l.mF k ""]=l.n5 (k+1):=by
 rw[w3r,w0a h,w0n,w0a h];rfl
def Gs{l:L eh}{k:dt}(h:k<l.J):l.mF k ""∈l:=by
 rw[w0n,w0a h];exact w1z h
def uA{hn:L eh}{bs:L fJ}{fs:L Fm}(h3:f'.J<=3)(h4:hn.J<=4)(h6:on.J<=6)(nd:(f'++(hn++on)).p9)(ok:∀x∈f'++(hn++on),ro x=true/\x∉b_)(b:L Pt)(q:Pt)(d:L Pt)(e:qL f' hn on bs fs gs hn.J on.J=b++q::d):ir b q:=by
 cases b with
 |m8=>
  let⟨rfl,_⟩:=L.m6.sE e;exact⟨(by decide:("in":eh)∈b_),(by decide:eD []∈Β "in"),h3,λx hx=>ok x (w1h _ hx),(w2d.mp nd).1,by decide⟩
 |m6 p b=>
  let⟨rfl,e1⟩:=L.m6.sE e
  replace e:(L.so hn.J).ej (qH hn bs fs)++(L.so on.J).ej (qO on gs)=b++q::d:=e1
  have hb:b=((L.so hn.J).ej (qH hn bs fs)++(L.so on.J).ej (qO on gs)).n5 b.J:=by rw[e,w5v rfl]
  have hq:((L.so hn.J).ej (qH hn bs fs)++(L.so on.J).ej (qO on gs))[b.J]?=O q:=by rw[e,w0z (w0d _),dt.sub_self];rfl
  generalize b.J=i at hb hq;rcases w5a i hn.J with h|h
  .rw[w0x (by simpa using h),w1c,w4w h]at hq;cases hq;rw[w4n (by simp;omega),<- w3e,L.take_range,w2u (by omega)]at hb;have e:qI f'::b=qL f' hn on bs fs gs i 0:=by rw[hb];unfold qL;simp
   rw[e];refine⟨(by decide:("held":eh)∈b_),R9,?_,λx hx=>?_,?_,?_⟩
   .show(vt _ "held"++[hn.mF i ""]).J<=4;rw[GU (by omega) (by omega)];simp;omega
   .rw[w0u.mp hx];exact ok _ (w0e _ (w1h _ (Gs h)))
   .show(_++[hn.mF i ""]).p9;rw[Hi (by omega) (by omega),L.take_zero,w0s,w0k,QF h];exact nd.ġ (.N' (.oQ _) ((w4g _ _).iD (L.sublist_append_left _ _)))
   .rw[Hi (by omega) (by omega)];simp;omega
  .let⟨j,rfl⟩:=dt.exists_eq_add_of_le h;rw[w0z (by simp),w0b,L.zc0,w4e,w1c]at hq;rcases w5a j on.J with hj|hj
   .rw[w4w hj]at hq;cases hq;rw[L.take_append,w1u (by simp),w0b,L.zc0,w4e,<- w3e,L.take_range,w2u (by omega)]at hb;have e:qI f'::b=qL f' hn on bs fs gs hn.J j:=by rw[hb];rfl
    rw[e];refine⟨(by decide:("out":eh)∈b_),y9t,?_,λx hx=>?_,?_,?_⟩
    .show(vt _ "out"++[on.mF j ""]).J<=6;rw[M5 (by omega) (by omega)];simp;omega
    .rw[w0u.mp hx];exact ok _ (w0e _ (w0e _ (Gs hj)))
    .show(_++[on.mF j ""]).p9;rw[Hi (by omega) (by omega),w0k,w0k,QF hj,w3f];exact nd.ġ (.N' (.oQ _) (.N' (.oQ _) (w4g _ _)))
    .rw[Hi (by omega) (by omega)];simp;omega
   .rw[w2o (by simpa using hj)]at hq;cases hq
def y9u{hn:L eh}{bs:L fJ}{fs:L Fm}(hb:hn.J=bs.J)(hf:bs.J<=fs.J)(ho:on.J=fs.J-bs.J):jb (qL f' hn on bs fs (fs.m9 bs.J) hn.J on.J)=.ff [dI f' hn on,uW f'.J bs fs]:=by
 have e1:dG (qL f' hn on bs fs (fs.m9 bs.J) hn.J on.J)=fs.ej mE:=by
  unfold dG qL
  rw[w4d (p:=xn) (a:=qI f') (show ¬(!decide (("in":eh)="in"))=true by decide),w2i.rj λp hp=>by
   rcases w0w.mp hp with hp|hp<;>(let⟨k,_,rfl⟩:=w1e.mp hp;rfl)]
  rw[w0m,w1f,w1f];have NV:∀(l:L Fm)(k:dt),k<=l.J->(L.so k).ej (λk=>mE (l.mF k (.is false)))=(l.n5 k).ej mE:=λl k h=>by rw[<- GS (d:=Fm.is false) h,w1f];rfl
  refine(congr (Yc _ (NV fs hn.J (by omega))) (NV (fs.m9 bs.J) on.J (by rw[w1j];omega))).iD ?_;rw[w1u (l:=fs.m9 bs.J) (by rw[w1j];omega),<- w0m,hb,w2p]
 have e2:bE (qL f' hn on bs fs (fs.m9 bs.J) hn.J on.J)=bs.ej .bl:=by
  unfold bE qL;rw[w4d (p:=jo) (a:=qI f') (show ¬decide (("in":eh)="held")=true by decide),w6o,w2i.rj (λp hp=>by let⟨k,_,rfl⟩:=w1e.mp hp;rfl),L.filter_eq_nil_iff.rj (λp hp=>by let⟨k,_,rfl⟩:=w1e.mp hp;show ¬decide (("out":eh)="held")=true;decide),w0s,w1f]
  have:(L.so hn.J).ej ((λp:Pt=>W.bl (rK p.first)) ∘ qH hn bs fs)=((L.so hn.J).ej λk=>bs.mF k false).ej .bl:=by
   rw[w1f];refine w1y λk _=>?_
   show W.bl (rK (wT (kS (bs.mF k false))))=.bl (bs.mF k false);cases bs.mF k false<;>rfl
  rw[this,GS (by omega),hb,w3f]
 unfold jb hU dI uW;rw[e1,e2];unfold b_;simp only[w0j,w3d];rw[Ng (w0d _) (w0d _),GU (w0d _) (w0d _),M5 (w0d _) (w0d _),w3f,w3f,w0b,w3e,w4p]
theorem Ld:∀l:L (L dt),(cF [10] l).J<=(l.ej L.J)._l+l.J
 |[]=>by simp[cF]
 |[p]=>by simp[cF]
 |p::q::r=>by
  have:=Ld (q::r);show(p++([10]++cF [10] (q::r))).J<=_;simp only[w0g,w0j,w5i,w0r,w3n]at this |-
  omega
def y9v{ls:L (L dt)}(fY:ls≠[])(h:∀l∈ls,10∉l)(j:eW):∃t bl,et [W.str "", .str "\n", .str "\n \n"] (j%3)=O (.str (tx t))/\t.J<=3/\cA 10 (cF [10] ls++t)=ls++bl/\∀b∈bl,gk b=[]/\b.J<=100000:=by
 have h1:=w1x j (show(3:eW)≠0 by decide);have h2:=w1q j (show(0:eW)<3 by decide)
 have NV:∀t bl,(∀p:L dt,10∉p->cA 10 (p++t)=p::bl)->cA 10 (cF [10] ls++t)=ls++bl:=λt bl e=>by
  let⟨p,e1,e2⟩:=Mm t fY h;rw[e2,e p (h p (w6a e1))];let⟨ys,rfl⟩:=w5f.mp e1;simp
 generalize j%3=k at h1 h2;obtain rfl|rfl|rfl:k=0\/k=1\/k=2:=by omega
 .exact⟨[],[],rfl,by decide,NV _ _ λp hp=>by rw[w0s,Gg hp],λ_ h=>nomatch h⟩
 .exact⟨[10],[[]],rfl,by decide,NV _ _ λp hp=>by rw[Ab _ hp];rfl,by decide⟩
 .exact⟨[10,32,10],[[32],[]],rfl,by decide,NV _ _ λp hp=>by rw[Ab _ hp];rfl,by decide⟩
def kR(f' hn on:L eh)(bs:L fJ)(fs:L Fm):L (eh×Pt):=(cw f',qI f')::((L.so bs.J).ej (λk=>(uY (f'++hn) hn bs fs k,qH hn bs fs k))++(L.so (fs.m9 bs.J).J).ej λk=>(Ρ (f'++hn) on (fs.m9 bs.J) k,qO on (fs.m9 bs.J) k))
def Q2{hn:L eh}{bs:L fJ}{fs:L Fm}(hb:hn.J=bs.J)(hf:bs.J<=fs.J)(ho:on.J=fs.J-bs.J)(h3:f'.J<=5)(ok:∀x∈f'++(hn++on),ro x=true/\x∉b_)(fF:∀f∈fs,dz (f'++hn).J f)(pr:eh×Pt)(hp:pr∈kR f' hn on bs fs):iW K a (f'++hn) pr.1 pr.2:=by
 have nO:on.J=(fs.m9 bs.J).J:=by rw[w1j];omega
 have kn:∀x∈f'++hn,ro x=true:=λx hx=>(ok x (by rw[<- w0k];exact w1h _ hx)).1
 have gf:∀(l:L Fm)(k:dt),k<l.J->(∀f∈l,f∈fs)->dz (f'++hn).J (l.mF k (.is false)):=λl k h hl=>by
  rw[w0n,w0a h];exact fF _ (hl _ (w1z h))
 rcases w0h.mp hp with rfl|hp
 .exact z55 (λx hx=>(ok x (w1h _ hx)).1) (by omega)
 .rcases w0w.mp hp with hp|hp
  .let⟨k,hk,rfl⟩:=w1e.mp hp;have hk:=w2e.mp hk;exact y45 kn (gf fs k (by omega) λ_ h=>h) (ok _ (w0e _ (w1h _ (Gs (by omega))))).1 _
  .let⟨k,hk,rfl⟩:=w1e.mp hp;have hk:=w2e.mp hk;exact y9s kn (gf _ k hk λ_ h=>w2y h) (ok _ (w0e _ (w0e _ (Gs (by omega))))).1
def Gu{hn:L eh}{bs:L fJ}{fs:L Fm}:bA f' hn on bs fs=(kR f' hn on bs fs).ej (·.1):=by simp[bA,kR,É.Ľ]
def y46{hn:L eh}{bs:L fJ}{fs:L Fm}(hb:hn.J=bs.J)(hf:bs.J<=fs.J)(ho:on.J=fs.J-bs.J)(h3:f'.J<=3)(h4:hn.J<=4)(h6:on.J<=6)(nd:(f'++(hn++on)).p9)(ok:∀x∈f'++(hn++on),ro x=true/\x∉b_)(fF:∀f∈fs,dz (f'++hn).J f)(ws:L eW)(hw:ws.J=(bA f' hn on bs fs).J)(j:eW):
  ∃cs t,d7 (.str "\n") [.fy ((eR ws (bA f' hn on bs fs)).ej .str)]=O (.str (tx cs))/\et [W.str "", .str "\n", .str "\n \n"] (j%3)=O (.str (tx t))/\(cs++t).J<=100000/\(∀n,g9 K a (n+5) Dr [.str (tx (cs++t))]=.ok (.fr .aH))/\∀n,g9 K a (n+6) lO [.str (tx (cs++t))]=.ok (.fr (.ff [dI f' hn on,uW f'.J bs fs])):=by
 have nO:on.J=(fs.m9 bs.J).J:=by rw[w1j];omega
 have kn:∀x∈f'++hn,ro x=true:=λx hx=>(ok x (by rw[<- w0k];exact w1h _ hx)).1
 have eQ:qL f' hn on bs fs (fs.m9 bs.J) hn.J on.J=(kR f' hn on bs fs).ej (·.2):=by
  unfold qL kR;rw[hb,nO];simp[É.Ľ]
 have CV:=Q2 (K:=K) (a:=a) hb hf ho (by omega) ok fF;have Dc:(kR f' hn on bs fs).J<=11:=by unfold kR;simp;omega
 rw[Gu]at hw |-
 rw[w0b]at hw;let⟨ps,r1,r2,r3⟩:=MQ (K:=K) (a:=a) (kn:=f'++hn) (uA (bs:=bs) (fs:=fs) (gs:=fs.m9 bs.J) h3 h4 h6 nd ok) (kR f' hn on bs fs) ws [] 0 eQ hw CV;let⟨f1,f2⟩:=MR (K:=K) (a:=a) (kR f' hn on bs fs) ws CV
 have NL:eR ws ((kR f' hn on bs fs).ej (·.1))≠[]:=by
  cases ws with
  |m8=>exact nS hw (by unfold kR;simp)
  |m6 w ws=>
   show ni w _++_≠[];unfold ni;simp
 generalize eR ws ((kR f' hn on bs fs).ej (·.1))=rs at r1 f1 f2 NL;let⟨t,bl,t1,t2,t3,t4⟩:=y9v (ls:=rs.ej aX) (by simpa using NL) (λl hl=>by let⟨r,hr,rfl⟩:=w1e.mp hl;exact(f2 r hr).1) j
 have sm:=Ah (g:=L.J) (b:=2200) (rs.ej aX) λl hl=>by let⟨r,hr,rfl⟩:=w1e.mp hl;exact(f2 r hr).2
 have jl:=Ld (rs.ej aX);rw[w0b]at sm jl;have oO:(cF [10] (rs.ej aX)++t).J<=100000:=by rw[w0g];omega
 have R:=r1.EY t4;rw[<- t3]at R;have eP:ps.ej kq=qL f' hn on bs fs (fs.m9 bs.J) hn.J on.J:=by rw[r2,eQ]
 have nk:∀x,vt ps x=vt (qL f' hn on bs fs (fs.m9 bs.J) hn.J on.J) x:=λx=>by rw[<- Bq,eP]
 have pl:ps.J=(kR f' hn on bs fs).J:=by have:=Yc L.J r2;simpa using this
 have sh:pE (f'++hn) ps:=⟨λz=>by rw[z]at pl;unfold kR at pl;simp at pl,by omega,kn,by rw[<- w0k]at nd;exact(w2d.mp nd).1,by simp;omega,λx=>by
  rw[nk,Gr (w0d _) (w0d _)];simp only[w0g];split<;>split<;>split<;>simp<;>omega,by rw[nk,nk,Ng (w0d _) (w0d _),GU (w0d _) (w0d _),w3f],r3⟩
 refine⟨cF [10] (rs.ej aX),t,?_,t1,oO,λn=>Rc n oO R sh,λn=>?_⟩
 .have:=Hf (z:=[10]) (l:=rs.ej aX) (by rw[w0b];show _+_*2<=_;omega);rw[w1f,w1y (f:=(λw=>W.str (tx w)) ∘ aX) (g:=.str) λx _=>Yc W.str (rE x)]at this
  exact this
 .rw[y9j n oO R sh λp hp hw=>?_,<- y9r,eP,y9u hb hf ho]
  have:kq p∈qL f' hn on bs fs (fs.m9 bs.J) hn.J on.J:=by rw[<- eP];exact L.mem_map_of_mem hp
  unfold qL at this;rcases w0h.mp this with e|e
  .have e:=Yc Pt.vj e;rw[show(kq p).vj=p.vj from rfl,hw]at e;exact nS e (show("held":eh)≠"in" by decide)
  .rcases w0w.mp e with e|e
   .let⟨k,_,e⟩:=w1e.mp e;exact⟨_,(Yc Pt.first e).symm⟩
   .let⟨k,_,e⟩:=w1e.mp e;have e:=Yc Pt.vj e;rw[show(kq p).vj=p.vj from rfl,hw]at e;exact nS e (show("out":eh)≠"held" by decide)
theorem Up(l:eh):ni 0 l=[l]:=rfl
theorem M6:∀ls:L eh,eR (L.oS ls.J 0) ls=ls
 |[]=>rfl
 |l::ls=>by
  show ni 0 l++eR (L.oS ls.J 0) ls=_;rw[Up,M6 ls];rfl
open Np
def YA(n)(m)(h0:0<=m)(h1:m<1000):g9 K a (n+1) Dq [.d0 m]=.ok (.fr (.d0 (2^m.oR))):=by
 rw[ON];unfold F9;rw?;rw[gE (o4 (by omega) (by omega))];rw?
 let⟨e',h2,z,rfl⟩:=xD (b:=Dh K a (g9 K a n)) (i:=2) (lo:=0) (hi:=m) m.oR (by omega) (λj e=>∃z,e=[.fr (.d0 m),.fr (.d0 (2^j)),z]) [.fr (.d0 m),.fr (.d0 1),.no] ⟨_,rfl⟩ (by
  rintro j e hj ⟨z,rfl⟩;unfold Dh;rw?;exact⟨_,rfl,_,by rw[w5s,eW.œ]⟩)
 rw[h2];rw?
def z56(n)(i m)(h0:0<=m)(h1:m<1000)(hi:i._y<2^1000):g9 K a (n+1) Gy [.d0 i,.d0 m]=if oM m.oR i=0 then .ok (.fr (.ff ((Zg m.oR i).wd.ej .bl)))else .ex (.ei a.bM):=by
 rw[zbi];unfold Mh;rw?;rw[gE (o4 (by omega) (by omega))];rw?
 let⟨e',h2,z,rfl⟩:=xD (b:=KY K a (g9 K a n)) (i:=4) (lo:=0) (hi:=m) m.oR (by omega) (λj e=>∃z,e=[.fr (.d0 i),.fr (.d0 m),.gD none ((Zg j i).ej .bl),.fr (.d0 (oM j i)),z]) [.fr (.d0 i),.fr (.d0 m),.gD none [],.fr (.d0 i),.no] ⟨_,rfl⟩ (by
  rintro j e hj ⟨z,rfl⟩;unfold KY;rw?;rw[gE (by rw[w0b,Gx];omega)];rw?;exact⟨_,rfl,_,by rw[Qu,Qv,w0m];rfl⟩)
 rw[h2];rw?
 simp_all
def As{i:eW}(h1:0<=i)(h2:i<100000):i._y<2^1000:=by
 grind
def mi(m:dt)(k:dt):L fJ:=(Zg m (k:eW)).wd
def y9w(m k):(mi m k).J=m:=by unfold mi;rw[w4r,Gx]
def z57(n){k:dt}(hk:k<2^m)(hm:m<=10):g9 K a (n+1) Gy [.d0 (k:eW),.d0 (m:eW)]=.ok (.fr (.ff ((mi m k).ej .bl))):=by
 have yI:(2:dt)^m<=2^10:=w2z (by decide) hm;have Ca:(2:dt)^10=1024:=by decide
 have qV:(k:eW)<2^m:=by exact_mod_cast hk
 rw[z56 n k m (by omega) (by omega) (As (by omega) (by omega)),gE (y31 (by omega) (by simpa using qV))];rw[w2j];rfl
def z58(m):(2:eW)^m=((2^m:dt):eW):=by exact_mod_cast rfl
def y47(q:dt):bQ 0 (q:eW)=(L.so q).ej λk=>W.d0 ((k:dt):eW):=by
 simp_all [bQ]
def zah(n)(hm:m<=10):g9 K a (n+2) F1 [.d0 (m:eW)]=.ok (.gD none ((L.so (2^m)).ej λk=>W.ff ((mi m k).ej .bl))):=by
 have yI:(2:dt)^m<=2^10:=w2z (by decide) hm;have Ca:(2:dt)^10=1024:=by decide
 have hp0:0<(2:dt)^m:=dt.pow_pos (by decide);rw[zab];unfold KZ;rw?;rw[YA n m (by omega) (by omega)];rw?;rw[w2j,z58,gE (o4 (by omega) (by omega))];rw?;rw[gE (by rw[v5];omega)];simp only[i4,rD,w0v,w1o];rw[y47,D.Gm (g:=λw=>match w with|.d0 k=>W.ff ((mi m k.oR).ej .bl)|w=>w)]
 .rw?;rw[w1f];rfl
 .intro w hw;let⟨k,hk,rfl⟩:=w1e.mp hw;rw[w2e]at hk;unfold OV;rw?;rw[z57 n hk hm];rw?;exact⟨_,rfl⟩
def mt:L (fG fJ)->L fJ->fJ
 |o::c,b::r=>(o==none||o==O b)&&mt c r
 |_,_=>true
def Xn(c:L (fG fJ)):L dt:=(L.so (2^c.J)).Tn λk=>mt c (mi c.J k)
def _n(c:L (fG fJ))(k:dt):L (fG fJ):=c.n5 k++none::c.m9 (k+1)
abbrev Cb:=L (fG fJ)
def Wx(n:eW)(l:L dt):fJ:=l.pX λk=>decide ((k:eW)=n)
def hv(P:L Cb)(n:eW):L Cb:=P.Tn λc=>Wx n (Xn c)
def Fm.hd:Fm->eh
 |.is _=>"is"
 |.at _=>"at"
 |.not _=>"not"
 |.and _ _=>"and"
 |.or _ _=>"or"
 |.E1 _ _=>"odd"
theorem R_{i:dt}(I:dt->L S->Prop):∀(ws:L W)(k:dt)(e:L S),I k e->(∀(j:dt)(w:W)(e:L S),w∈ws->I j e->∃e',b (e.my i (.fr w))=.nx e'/\I (j+1) e')->∃e',bT i b ws e=.nx e'/\I (k+ws.J) e'
 |[],k,e,h0,_=>⟨e,rfl,h0⟩
 |w::ws,k,e,h0,h=>by
  let⟨e1,h1,h2⟩:=h k w e (by simp) h0;let⟨e2,h3,h4⟩:=R_ I ws (k+1) e1 h2 λj u e hu=>h j u e (by simp[hu])
  grind [xF,xG]
def a8(bs:L fJ):W:=.ff (bs.ej .bl)
abbrev Pr:=L fJ×dt
structure Mc where
 m:dt
 _n:dt
 bU:L (L Pr)
structure Mc.Og(c:Mc):Prop where
 qK:c.m<=3
 zgw:c._n<=40
 fZ:0<c.bU.J
 mo:c.bU.J<=700
 st:∀s∈c.bU,s.J=2^c.m
 pr:∀s∈c.bU,∀p∈s,p.1.J=c._n/\p.2<c.bU.J
def kc(p:Pr):W:=.ff [a8 p.1,.d0 (p.2:eW)]
def cQ(s:L Pr):W:=.fy (s.ej kc)
def cK(c:Mc):W:=.ff [.d0 (c.m:eW),.d0 (c._n:eW),.fy (c.bU.ej cQ)]
def y9x(n m:dt)(hm:m<=100):g9 K a (n+1) Dq [.d0 (m:eW)]=.ok (.fr (.d0 ((2^m:dt):eW))):=by
 rw[ON];unfold F9;rw?;rw[gE (o4 (by omega) (by omega))];rw?
 let⟨e',h2,z,rfl⟩:=xD (b:=Dh K a (g9 K a n)) (i:=2) (lo:=0) (hi:=(m:eW)) m (by omega) (λj e=>∃z,e=[.fr (.d0 (m:eW)),.fr (.d0 ((2^j:dt):eW)),z]) [.fr (.d0 (m:eW)),.fr (.d0 1),.no] ⟨.no,rfl⟩ (by
  rintro j e hj ⟨z,rfl⟩;unfold Dh;rw?
  simp_all [dt.pow_succ,eW.œ])
 rw[h2];rw?
def Y0(n)(c:Mc)(h:s<c.bU.J):g9 K a (n+1) KW [cK c,.d0 (s:eW)]=.ok (.fr (.bl true)):=by
 rw[zad];unfold K1 cK;rw?
 grind
def Y1(l:L Pr):cH (l.ej kc)=O (l.ej λp=>(a8 p.1,W.d0 (p.2:eW))):=by
 induction l with
 |m8=>rfl
 |m6 p l ih=>
  grind [cH,kc]
theorem Q3{i j:dt}(I:L S->Prop):∀(ps:L (W×W))(e:L S),I e->(∀p∈ps,∀e,I e->∃e',b ((e.my i (.fr p.1)).my j (.fr p.2))=.nx e'/\I e')->∃e',eg i j b ps e=.nx e'/\I e'
 |[],e,h,_=>⟨e,rfl,h⟩
 |p::ps,e,h,st=>by
  let⟨e1,h1,h2⟩:=st p (by simp) e h;let⟨e2,h3,h4⟩:=Q3 I ps e1 h2 (λq hq=>st q (by simp[hq]))
  refine⟨e2,?_,h4⟩;show(b ((e.my i (.fr p.1)).my j (.fr p.2))).cV (eg i j b ps)=_;rw[h1];exact h3
theorem DQ(c):aU (cK c) (.d0 0)=O (.d0 (c.m:eW)):=rfl
theorem M7(c):aU (cK c) (.d0 1)=O (.d0 (c._n:eW)):=rfl
theorem Uq(c):aU (cK c) (.d0 2)=O (.fy (c.bU.ej cQ)):=rfl
def Gq(n)(c)(hc:c.Og):g9 K a (n+2) Fv [cK c]=.ok (.fr .aH):=by
 rw[Xh];unfold Ka;rw?;rw[Uq];rw?;rw[DQ];rw?;rw[y9x n c.m (by have:=hc.qK;omega)];rw?;rw[w0b,kl (by have:=hc.fZ;omega)];rw?
 let⟨e',k1,z3,z4,z5,k2⟩:=R_ (i:=3) (b:=JZ K a (g9 K a (n+1))) (λ_ e=>∃z3 z4 z5,e=[.fr (cK c),.fr (.fy (c.bU.ej cQ)),.fr (.d0 ((2^c.m:dt):eW)),z3,z4,z5]) (c.bU.ej cQ) 0 [.fr (cK c),.fr (.fy (c.bU.ej cQ)),.fr (.d0 ((2^c.m:dt):eW)),.no,.no,.no] ⟨_,_,_,rfl⟩ (by
  rintro j w e hw ⟨z3,z4,z5,rfl⟩;let⟨s,hs,rfl⟩:=w1e.mp hw;unfold JZ;simp only[cQ];rw?;rw[w0b,hc.st s hs,kl (by simp)];rw?;rw[Y1];rw?
  let⟨e1,h1,z4,z5,rfl⟩:=Q3 (i:=4) (j:=5) (b:=JY K a (g9 K a (n+1))) (λe=>∃z4 z5,e=[.fr (cK c),.fr (.fy (c.bU.ej cQ)),.fr (.d0 ((2^c.m:dt):eW)),.fr (.fy (s.ej kc)),z4,z5]) (s.ej λp=>(a8 p.1,W.d0 (p.2:eW))) [.fr (cK c),.fr (.fy (c.bU.ej cQ)),.fr (.d0 ((2^c.m:dt):eW)),.fr (.fy (s.ej kc)),z4,z5] ⟨_,_,rfl⟩ (by
   rintro q hq e ⟨z4,z5,rfl⟩;let⟨p,hp,rfl⟩:=w1e.mp hq;let⟨p1,p2⟩:=hc.pr s hs p hp;unfold JY;simp only[a8];rw?;rw[M7];rw?;rw[w0b,p1,kl (by simp)];rw?;rw[Y0 n c p2];rw?;exact⟨_,rfl,_,_,rfl⟩)
  rw[h1];exact⟨_,rfl,_,_,_,rfl⟩)
 rw[k1,k2];rfl
def posK:L Kx->Kx->dt
 |[],_=>0
 |k::l,x=>if k=x then 0 else posK l x+1
def HD(l:L Kx)(x:Kx):L Kx:=if x∈l then l else l++[x]
def W8(ks:L dt)(p:Pr):Kx:=.ff [.ff (p.1.ej .bl),.d0 ((ks.mF p.2 0:dt):eW)]
def stK(ks:L dt)(s:L Pr):Kx:=.ff (s.ej (W8 ks))
def vR(c:Mc)(ks:L dt):L dt:=c.bU.ej λs=>posK ((c.bU.ej (stK ks)).t_ HD []) (stK ks s)
def Fh(c:Mc):dt->L dt
 |0=>L.oS c.bU.J 0
 |t+1=>vR c (Fh c t)
def zcV(c:Mc)(t i:dt):dt:=(Fh c t).mF i 0
def told(c:Mc)(i r:dt):L fJ:=((c.bU.mF i []).mF r ([],0)).1
theorem M8:∀(n:dt){l:L dt},l.p9->(∀x∈l,x<n)->l.J<=n
 |0,l,_,h=>by
  cases l with
  |m8=>simp
  |m6 x l=>exact nS (h x (by simp)) (by omega)
 |n+1,l,hn,h=>by
  by_cases m:n∈l
  .have e:=w5g m
   have:=M8 n (hn.erase n) (λx hx=>by
    grind)
   grind
  .have:=M8 n hn (λx hx=>by
    grind)
   omega
theorem TM:∀bs:L fJ,lh (bs.ej .bl)=O (bs.ej .bl)
 |[]=>rfl
 |b::bs=>by
  show(match CP (.bl b),lh (bs.ej .bl)with|O k,O ks=>O (k::ks)|_,_=>none)=_;rw[TM bs];rfl
theorem Sd:∀bs:L fJ,pB (bs.ej .bl) .bl
 |[]=>trivial
 |_::bs=>⟨trivial,Sd bs⟩
theorem S5:∀bs:L fJ,Kx.eF (bs.ej .bl)=0
 |[]=>rfl
 |b::bs=>by show max 0 (Kx.eF (bs.ej .bl))=0;rw[S5 bs];rfl
def rep(c:Mc)(ar k:dt):dt:=(Fh c ar).idxOf k
def WC(c:Mc)(ar k:dt):L Pr:=(c.bU.mF (rep c ar k) []).ej λp=>(p.1,zcV c ar p.2)
structure Cl(c:Mc)(ar:dt)(T:L dt):Prop where
 nd:T.p9
 YD:∀k∈T,k∈Fh c ar
 fZ:0<T.J
 cl:∀k∈T,∀p∈WC c ar k,p.2∈T
theorem p8(hm:m<=3):2^m<=8:=w2z (by decide) hm
inductive F2(P:dt->dt->Prop):L dt->L dt->Prop
 |m8:F2 P [] []
 |m6 {x y l m}:P x y->F2 P l m->F2 P (x::l) (y::m)
def AM(b:fJ):dt:=if b=true then 1 else 0
def ua(pS:L fJ):dt:=pS.t_ (λn b=>2*n+AM b) 0
theorem Se:∀(r:L fJ)(n:dt),r.t_ (λn b=>2*n+AM b) n<(n+1)*2^r.J
 |[],n=>by simp
 |b::r,n=>by
  have ih:=Se r (2*n+AM b);rw[w1g,w0r,dt.pow_succ];have hb:AM b<=1:=by unfold AM;split<;>omega
  have:(2*n+AM b+1)*2^r.J<=(n+1)*2*2^r.J:=w6b _ (by omega);rw[dt.œ (2^r.J) 2,<- dt.mul_assoc];omega
def z59(r:L fJ):ua r<2^r.J:=by
 have:=Se r 0;rw[w2t,dt.one_mul]at this;exact this
theorem Q4:∀r:L fJ,r.J<=4->mi r.J (ua r)=r
 |[],_=>rfl
 |[a],_=>by cases a<;>rfl
 |[a,b],_=>by cases a<;>cases b<;>rfl
 |[a,b,c],_=>by cases a<;>cases b<;>cases c<;>rfl
 |[a,b,c,d],_=>by cases a<;>cases b<;>cases c<;>cases d<;>rfl
 |_::_::_::_::_::_,h=>by simp at h
def y9y{r s:L fJ}(h:r.J=s.J)(hl:r.J<=4)(e:ua r=ua s):r=s:=by
 rw[<- Q4 r hl,<- Q4 s (by omega),h,e]
def za9(n:dt){pS:L fJ}(h:p<pS.J):g9 K a (n+1) KU [.ff (pS.ej .bl),.d0 p]=.ok (.fr (.bl (pS.mF p false))):=by
 rw[zac];unfold K0;rw?;rw[kl (by omega),kl (by simpa using h)];rw?;rw[UA h];rw?
theorem xE:∀(f:Fm)(n:dt){pS:L fJ},f.oY<=n->f.jr pS.J->g9 K a (n+1) Ae [mE f,.ff (pS.ej .bl)]=.ok (.fr (.bl (f.tN pS)))
 |.is b,n,pS,hd,hb=>by
  rw[Bl];unfold xH;simp only[mE];rw?;rfl
 |.at p,n,pS,hd,hb=>by
  rw[Bl];unfold xH;simp only[mE];rw?;obtain⟨n,rfl⟩:∃k,n=k+1:=⟨n-1,by simp only[Fm.oY]at hd;omega⟩;rw[za9 n hb];rw?;rfl
 |.not f,n,pS,hd,hb=>by
  rw[Bl];unfold xH;simp only[mE];rw?;obtain⟨n,rfl⟩:∃k,n=k+1:=⟨n-1,by simp only[Fm.oY]at hd;omega⟩;rw[xE f n (by simp only[Fm.oY]at hd;omega) hb];rw?;rfl
 |.and f g,n,pS,hd,hb=>by
  rw[Bl];unfold xH;simp only[mE];rw?;obtain⟨n,rfl⟩:∃k,n=k+1:=⟨n-1,by simp only[Fm.oY]at hd;omega⟩;rw[xE f n (by simp only[Fm.oY]at hd;omega) hb.1];rw?;rw[xE g n (by simp only[Fm.oY]at hd;omega) hb.2];rw?;simp only[Fm.tN];cases f.tN pS<;>simp
 |.or f g,n,pS,hd,hb=>by
  rw[Bl];unfold xH;simp only[mE];rw?;obtain⟨n,rfl⟩:∃k,n=k+1:=⟨n-1,by simp only[Fm.oY]at hd;omega⟩;rw[xE f n (by simp only[Fm.oY]at hd;omega) hb.1];rw?;rw[xE g n (by simp only[Fm.oY]at hd;omega) hb.2];rw?;simp only[Fm.tN];cases f.tN pS<;>simp
 |.E1 f g,n,pS,hd,hb=>by
  rw[Bl];unfold xH;simp only[mE];rw?;obtain⟨n,rfl⟩:∃k,n=k+1:=⟨n-1,by simp only[Fm.oY]at hd;omega⟩;rw[xE f n (by simp only[Fm.oY]at hd;omega) hb.1];rw?;rw[xE g n (by simp only[Fm.oY]at hd;omega) hb.2];rw?;simp only[Fm.tN];cases f.tN pS<;>cases g.tN pS<;>rfl
structure Cc where
 m:dt
 tO:L (fJ×Fm)
 Yn:L Fm
def mS(p:fJ×Fm):W:=.ff [.bl p.1,mE p.2]
def bJ(c:Cc):W:=.ff [.d0 (c.m:eW),.ff (c.tO.ej mS),.ff (c.Yn.ej mE)]
def Fq(q:dt)(f:Fm):Prop:=f.jr q/\f.oY<=100/\f.eG<=1000
structure Cc.Ok(c:Cc):Prop where
 qK:c.m+c.tO.J<=12
 mm:c.m<=3
 cc:c.tO.J<=4
 zda:c.Yn.J<=10
 Yn:c.Yn.J<=100
 cf:∀p∈c.tO,Fq (c.m+c.tO.J) p.2
 of:∀f∈c.Yn,Fq (c.m+c.tO.J) f
def Pq(l:L (fJ×Fm)):cH (l.ej mS)=O (l.ej λp=>(W.bl p.1,mE p.2)):=by
 induction l with
 |m8=>rfl
 |m6 p l ih=>
  show(cH (l.ej mS)).ej ((W.bl p.1,mE p.2)::·)=_;rw[ih];rfl
def X8(n:dt)(c:Cc)(hc:c.Ok):g9 K a (n+1) Kt [bJ c]=.ok (.gD none ((c.tO.ej Prod.snd).ej mE)):=by
 have:=hc.qK;rw[X9];unfold Ky bJ;rw?;rw[Pq];rw?;rw[gE (by rw[w0b];omega),D.Lp (q:=λ_=>true) (g:=λp=>p.2)]
 .rw?;rw[w2i.rj (λ_ _=>rfl),w1f,w1f]
  rfl
 .intro p hp;unfold OI;rw?;exact⟨_,rfl,λ_=>⟨_,rfl⟩⟩
def i9(c:Cc)(st pS:L fJ):W:=.ff [.ff ((c.Yn.ej λf=>f.tN (pS++st)).ej .bl),.ff ((c.tO.ej λp=>p.2.tN (pS++st)).ej .bl)]
def y49(n:dt)(c:Cc)(hc:c.Ok)(st pS:L fJ)(hs:st.J=c.tO.J)(hr:pS.J=c.m):g9 K a (n+102) MI [bJ c,.ff (st.ej .bl),.ff (pS.ej .bl)]=.ok (.fr (i9 c st pS)):=by
 have h1:=hc.qK;have h2:=hc.Yn;rw[y33];unfold ML;have II:aU (bJ c) (.d0 2)=O (.ff (c.Yn.ej mE)):=rfl;rw?;rw[gE (by simp only[w0b];omega)];rw?;rw[II];rw?;rw[gE (by rw[w0b];omega)];simp only[i4,rD,w0v,w1o];rw[<- w0m]
 have tN:∀(l:L Fm),(∀f∈l,Fq (c.m+c.tO.J) f)->cq cP (Ad K a (g9 K a (n+101))) [.fr (.ff ((pS++st).ej .bl))] (l.ej mE)=O ((l.ej λf=>f.tN (pS++st)).ej .bl):=by
  intro l
  induction l with
  |m8=>intro _;rfl
  |m6 f l ih=>
   intro h;have hf:=h f (by simp);rw[w0j,Gd];show(match Ad K a (g9 K a (n+101)) [.fr (mE f),.fr (.ff ((pS++st).ej .bl))]with|.ok y _=>(cq cP (Ad K a (g9 K a (n+101))) [.fr (.ff ((pS++st).ej .bl))] (l.ej mE)).ej (y::·)|_=>none)=_;rw[ih λg hg=>h g (by simp[hg])]
   have e1:Ad K a (g9 K a (n+101)) [.fr (mE f),.fr (.ff ((pS++st).ej .bl))]=.ok (.bl (f.tN (pS++st))) [.fr (mE f),.fr (.ff ((pS++st).ej .bl))]:=by
    unfold Ad;rw?;rw[xE f (n+100) (by have:=hf.2.1;omega) (by rw[w0g,hr,hs];exact hf.1)];rw?
   rw[e1];rfl
 have Vs:Qw K a (g9 K a (n+101))=Ad K a (g9 K a (n+101)):=rfl;rw[tN _ hc.of];rw?;rw[X8 (n+100) c hc];rw?;rw[gE (by simp only[w0b];omega)];simp only[i4,rD,w0v,w1o];rw[Vs,tN _ (λf hf=>by let⟨p,hp,rfl⟩:=w1e.mp hf;exact hc.cf p hp)]
 rw?;unfold i9;simp only[w1f];rfl
def uc(c:Cc)(st pS:L fJ):L fJ:=c.Yn.ej λf=>f.tN (pS++st)
def tZ(c:Cc)(st pS:L fJ):L fJ:=c.tO.ej λp=>p.2.tN (pS++st)
theorem y5a(c:Cc)(st pS:L fJ):i9 c st pS=.ff [a8 (uc c st pS),a8 (tZ c st pS)]:=rfl
def cS(c:Cc):L fJ:=c.tO.ej Prod.YC
def y5b(n:dt)(c:Cc)(hc:c.Ok):g9 K a (n+1) Km [bJ c]=.ok (.fr (a8 (cS c))):=by
 have:=hc.qK;rw[X1];unfold Kn bJ;rw?;rw[Pq];rw?;rw[gE (by rw[w0b];omega),D.Lp (q:=λ_=>true) (g:=λp=>p.1)]
 .rw?;rw[w2i.rj (λ_ _=>rfl)]
  unfold a8 cS;simp only[w1f];rfl
 .intro p hp;unfold OG;rw?;exact⟨_,rfl,λ_=>⟨_,rfl⟩⟩
def cL(m:dt):L (L fJ):=(L.so (2^m)).ej (mi m)
def zaa(n:dt)(hm:m<=3):g9 K a (n+2) F1 [.d0 (m:eW)]=.ok (.gD none ((cL m).ej a8)):=by
 rw[zah n (by omega)];unfold cL;rw[w1f];rfl
abbrev yh:=L fJ×L fJ
def yy(p:yh):W:=.ff [a8 p.1,a8 p.2]
def za_(l:L yh):cH (l.ej yy)=O (l.ej λp=>(a8 p.1,a8 p.2)):=by
 induction l with
 |m8=>rfl
 |m6 p l ih=>
  show(cH (l.ej yy)).ej _=_;rw[ih];rfl
def c_(x:L fJ):Kx:=.ff (x.ej .bl)
abbrev LN:Sh:=.Υ .bl
def Dy(x:L fJ):jD (a8 x)=O (c_ x):=by
 show(lh (x.ej .bl)).ej Kx.ff=_;rw[TM];rfl
theorem D0(x:L fJ):Zw (c_ x) LN:=⟨Sd x,by show Kx.eF (x.ej .bl)+1<=7;rw[S5];decide⟩
def Q5{x y:L fJ}(h:c_ x=c_ y):x=y:=by
 unfold c_ at h;injection h with h
 exact(w6l (λx y h=>by injection h)).mp h
def jF:dt->L (L fJ)->L W
 |_,[]=>[]
 |o,_::T=>.d0 (o:eW)::jF (o+1) T
theorem LC(x:L fJ):∀(T:L (L fJ))(o:dt),jF o (T++[x])=jF o T++[.d0 ((o+T.J:dt):eW)]
 |[],o=>rfl
 |y::T,o=>by
  show _::jF (o+1) (T++[x])=_::(jF (o+1) T++_);rw[LC x T (o+1),show o+1+T.J=o+(y::T).J by simp;omega]
theorem Q6{x:L fJ}:∀(T:L (L fJ))(o:dt),x∉T->iO (T.ej c_) (jF o T) (c_ x)=none
 |[],_,_=>rfl
 |y::T,o,h=>by
  show(if c_ y=c_ x then _ else iO (T.ej c_) (jF (o+1) T) (c_ x))=_;rw[kl λz=>h (by rw[Q5 z];simp)]
  exact Q6 T (o+1) λz=>h (by simp[z])
theorem Mv{x:L fJ}:∀(T:L (L fJ))(o:dt),x∈T->∃j:dt,T[j]?=O x/\iO (T.ej c_) (jF o T) (c_ x)=O (.d0 ((o+j:dt):eW))
 |[],_,h=>nomatch h
 |y::T,o,h=>by
  by_cases e:y=x
  .subst e;refine⟨0,rfl,?_⟩;show(if c_ y=c_ y then O (W.d0 (o:eW))else _)=_;rw[gE rfl];rfl
  .let⟨j,h1,h2⟩:=Mv T (o+1) ((w0h.mp h).Ψ λz=>e z.symm)
   refine⟨j+1,h1,?_⟩;show(if c_ y=c_ x then _ else iO (T.ej c_) (jF (o+1) T) (c_ x))=_;rw[kl λz=>e (Q5 z),h2,show o+1+j=o+(j+1) by omega]
def nu(T:L (L fJ)):S:=.dw LN (T.ej c_) (jF 0 T)
def Tl(T:L (L fJ))(s:L Pr)(g:L yh):Prop:=s.J=g.J/\∀(k:dt)(p:Pr)(y:yh),s[k]?=O p->g[k]?=O y->p.1=y.1/\T[p.2]?=O y.2
def MC{x y:L fJ}(h:T[i]?=O y)(T2:L (L fJ)):(T++T2)[i]?=O y:=by
 rw[w0x (w0c.mp h).1];exact h
theorem Tl.pre{s:L Pr}{g:L yh}(h:Tl T s g)(T2:L (L fJ)):Tl (T++T2) s g:=⟨h.1,λk p y a b=>⟨(h.2 k p y a b).1,MC (x:=y.2) (h.2 k p y a b).2 T2⟩⟩
structure NB(q:dt)(T:L (L fJ)):Prop where
 nd:T.p9
 oO:∀x∈T,x.J=q
def NB.ZK(hq:q<=4)(h:NB q T):T.J<=16:=by
 have:=M8 16 (l:=T.ej ua) (L.zdg.rj (L.ø.imp_of_mem (λ{x y} hx hy fY e=>fY (y9y (by rw[h.oO x hx,h.oO y hy]) (by rw[h.oO x hx];exact hq) e)) h.nd)) λz hz=>by
  let⟨x,hx,rfl⟩:=w1e.mp hz;have h1:=z59 x;rw[h.oO x hx]at h1;exact w1a h1 (w1d (w2z (by decide) hq) (by decide))
 rwa [w0b]at this
def oA(w0 w1:W)(T:L (L fJ))(sv:L W)(z5:S)(st:L Pr)(z7 z8:S):L S:=[.fr w0,.fr w1,.gD none (T.ej a8),nu T,.gD none sv,z5,.gD none (st.ej kc),z7,z8]
def y5c(r:dt->L W->FR)(w0 w1:W)(hq:q<=4)(hT:NB q T)(sv:L W)(z5:W)(st:L Pr)(oI:st.J<=100)(t y:L fJ)(hy:y.J=q):
  ∃(T2:L (L fJ))(k:dt),NB q (T++T2)/\(T++T2)[k]?=O y/\Bc K a r (oA w0 w1 T sv (.fr z5) st (.fr (a8 t)) (.fr (a8 y)))=.nx (oA w0 w1 (T++T2) sv (.fr z5) (st++[(t,k)]) (.fr (a8 t)) (.fr (a8 y))):=by
 have hl:=hT.ZK hq;have en:=T8 (fz:=false) (sh:=LN) (ks:=T.ej c_) (ws:=jF 0 T) (Dy y) (D0 y);unfold Bc oA nu;rw?;rw[en];rw?
 by_cases yS:y∈T
 .let⟨j,h1,h2⟩:=Mv T 0 yS;rw[w2t]at h2;rw[h2];rw?;rw[kl (by simp),TC (Dy y) (D0 y),h2];rw?;rw[gE (by rw[w0b];omega)];exact⟨[],j,by rw[w0s];exact hT,by rw[w0s];exact h1,by rw[w0s,w0m];rfl⟩
 .have hn:NB q (T++[y]):=⟨w2d.rj ⟨hT.nd,by simp,fun u hu v hv e=>by
    rw[w0u]at hv;rw[e,hv]at hu;exact yS hu⟩,λx hx=>by
    rcases w0w.mp hx with z|z
    .exact hT.oO x z
    .rw[w0u.mp z];exact hy⟩
  have lk:=Q6 T 0 yS;let⟨j,h1,h2⟩:=Mv (T++[y]) 0 (w0e T (w0u.rj rfl));rw[w2t,LC,w0m,w2t]at h2;have h2:iO (T.ej c_++[c_ y]) (jF 0 T++[.d0 (T.J:eW)]) (c_ y)=O (.d0 (j:eW)):=h2;rw[lk];rw?;rw[gE (by rfl),w0b,z42 (Dy y) (by rw[w0b];omega) (by rfl) (D0 y) lk];rw?;rw[gE (by rw[w0b];omega)];rw?;rw[TC (Dy y) (D0 y),h2];rw?;rw[gE (by rw[w0b];omega)];refine⟨[y],j,hn,h1,?_⟩;rw[w0m,w0m,w0m,LC,w2t];rfl
theorem Ro(r:dt->L W->FR)(w0 w1:W)(hq:q<=4)(sv:L W)(z5:W):∀(g2 g1:L yh)(T:L (L fJ))(st:L Pr)(z7 z8:S),NB q T->(∀p∈g2,p.2.J=q)->g1.J+g2.J<=100->Tl T st g1 ->
  ∃(T2:L (L fJ))(n6:L Pr)(z7' z8':S),NB q (T++T2)/\Tl (T++T2) n6 (g1++g2)/\eg 7 8 (Bc K a r) (g2.ej λp=>(a8 p.1,a8 p.2)) (oA w0 w1 T sv (.fr z5) st z7 z8)=.nx (oA w0 w1 (T++T2) sv (.fr z5) n6 z7' z8')
 |[],g1,T,st,z7,z8,hT,_,_,ht=>⟨[],st,z7,z8,by rw[w0s];exact hT,by rw[w0s,w0s];exact ht,by rw[w0s];rfl⟩
 |p::g2,g1,T,st,z7,z8,hT,hp,hl,ht=>by
  have tJ:=ht.1;rw[w0r]at hl;let⟨T2,k,i1,k1,e⟩:=y5c (K:=K) (a:=a) r w0 w1 hq hT sv z5 st (by omega) p.1 p.2 (hp p (by simp))
  have zj:Tl (T++T2) (st++[(p.1,k)]) (g1++[p]):=by
   refine⟨by simp[tJ],λi u y h1 h2=>?_⟩
   by_cases hi:i<st.J
   .rw[w0x hi]at h1;rw[w0x (by omega)]at h2;exact(ht.pre T2).2 i u y h1 h2
   .have qU:st.J<=i:=w3q.mp hi;rw[w0z qU]at h1;rw[w0z (by omega),<- tJ]at h2;cases hj:i-st.J with
    |zc=>
     rw[hj]at h1 h2;cases h1;cases h2;exact⟨rfl,k1⟩
    |zD j=>rw[hj]at h1;simp at h1
  let⟨T3,vf,y7,y8,i2,t2,e2⟩:=Ro r w0 w1 hq sv z5 g2 (g1++[p]) (T++T2) (st++[(p.1,k)]) (.fr (a8 p.1)) (.fr (a8 p.2)) i1 (λu hu=>hp u (by simp[hu])) (by simp;omega) zj
  refine⟨T2++T3,vf,y7,y8,by rw[<- w0k];exact i2,by rw[<- w0k];simpa using t2,?_⟩;show(Bc K a r (oA w0 w1 T sv (.fr z5) st (.fr (a8 p.1)) (.fr (a8 p.2)))).cV (eg 7 8 (Bc K a r) (g2.ej λp=>(a8 p.1,a8 p.2)))=_
  rw[e,<- w0k];exact e2
theorem MD:∀bs:L fJ,b9 (bs.ej .bl)=true
 |[]=>rfl
 |b::bs=>by show(true&&b9 (bs.ej .bl))=true;rw[MD bs];rfl
theorem Af{f:α->W}(h:∀x,YE (f x)=true):∀l:L α,b9 (l.ej f)=true
 |[]=>rfl
 |x::l=>by show(YE (f x)&&b9 (l.ej f))=true;rw[h x,Af h l];rfl
theorem wc:∀f:Fm,YE (mE f)=true
 |.is b=>rfl
 |.at p=>rfl
 |.not f=>by show(true&&(YE (mE f)&&true))=true;rw[wc f];rfl
 |.and f g=>by show(true&&(YE (mE f)&&(YE (mE g)&&true)))=true;rw[wc f,wc g];rfl
 |.or f g=>by show(true&&(YE (mE f)&&(YE (mE g)&&true)))=true;rw[wc f,wc g];rfl
 |.E1 f g=>by show(true&&(YE (mE f)&&(YE (mE g)&&true)))=true;rw[wc f,wc g];rfl
def JD(c:Cc):YE (bJ c)=true:=by
 show(true&&(b9 (c.tO.ej mS)&&(b9 (c.Yn.ej mE)&&true)))=true;rw[Af (f:=mS) λp=>by show(true&&(YE (mE p.2)&&true))=true;rw[wc];rfl,Af (f:=mE) wc];rfl
theorem zI(b:L fJ):YE (a8 b)=true:=MD b
theorem JE(s:L Pr):YE (cQ s)=true:=Af (f:=kc) (λp=>by show(b9 (p.1.ej .bl)&&(true&&true))=true;rw[MD];rfl) s
def vA(c:Cc)(st:L fJ):L yh:=(cL c.m).ej λr=>(uc c st r,tZ c st r)
def Sf(c:Cc)(st:L fJ):(vA c st).J=2^c.m:=by unfold vA cL;simp
theorem Td(c:Cc)(st:L fJ):∀p∈vA c st,p.1.J=c.Yn.J/\p.2.J=c.tO.J:=λp hp=>by
 let⟨r,_,rfl⟩:=w1e.mp hp;exact⟨by unfold uc;simp,by unfold tZ;simp⟩
theorem Ez{c:Cc}(hc:c.Ok):2^c.m<=8:=w1d (w2z (by decide) hc.mm) (by decide)
def L':W->fJ
 |.bl b=>b
 |_=>false
def gM(c:Cc)(st:L fJ):W->W
 |.ff ws=>i9 c st (ws.ej L')
 |w=>w
def Te(c:Cc)(st r:L fJ):gM c st (.ff (r.ej .bl))=i9 c st r:=by
 show i9 c st ((r.ej .bl).ej L')=_;rw[w1f,show(L' ∘ W.bl)=id from rfl,L.map_id]
def y5f(n:dt)(c:Cc)(hc:c.Ok)(st:L fJ)(hs:st.J=c.tO.J)(e:L S):iX de (g9 K a (n+103)) su o6 [bJ c,.fy ((cL c.m).ej a8)] [a8 st] e=.ok (.fy ((vA c st).ej yy)) e:=by
 refine y3y Xg (by show(YE (a8 st)&&true)=true;rw[zI];rfl) (by show(YE (bJ c)&&(b9 ((cL c.m).ej a8)&&true))=true;rw[JD,Af zI];rfl) ?_;show g9 K a (n+103) su [a8 st,bJ c,.fy ((cL c.m).ej a8)]=_;have p8:=Ez hc;have hl:((cL c.m).ej a8).J<=8:=by unfold cL;simp;exact p8
 rw[Xc];unfold Fx;rw?;rw[gE (by omega)];simp only[i4,rD,w0v,w1o];rw[D.Gm (g:=gM c st)]
 .rw?;unfold vA;rw[w1f,w1f];show FR.ok (S.fr (W.fy _))=FR.ok (S.fr (W.fy _));congr 3;refine w1y λr _=>?_
  show gM c st (.ff (r.ej .bl))=_;rw[Te,y5a];rfl
 .intro w hw;let⟨r,hr,rfl⟩:=w1e.mp hw;let⟨k,_,rfl⟩:=w1e.mp hr;have mv:=y49 (K:=K) (a:=a) n c hc st (mi c.m k) hs (y9w _ _);unfold OE a8;rw?;rw[mv,Te];rw?;exact⟨_,rfl⟩
structure CB(c:Cc)(T:L (L fJ))(ss:L (L Pr)):Prop where
 nb:NB c.tO.J T
 hd:T[0]?=O (cS c)
 le:ss.J<=T.J
 st:∀(i:dt) s x,ss[i]?=O s->T[i]?=O x->Tl T s (vA c x)
def HE{x:L fJ}(h:T[i]?=O x):et (T.ej a8) (i:eW)=O (a8 x):=by
 refine v_ ?_;rw[w1c,h];rfl
theorem QG(n:dt)(c:Cc)(hc:c.Ok)(w0:W):∀(WL:dt)(T:L (L fJ))(ss:L (L Pr))(z5 z6 z7 z8:S),CB c T ss->17<=ss.J+WL ->
  ∃(T':L (L fJ))(LQ:L (L Pr))(y5 y6 y7 y8:S),CB c T' LQ/\LQ.J=T'.J/\bK (Ds K a (g9 K a (n+103))) (Dt K a (g9 K a (n+103))) (WL+1) [.fr w0,.fr (.fn su o6 [bJ c,.fy ((cL c.m).ej a8)]),.gD none (T.ej a8),nu T,.gD none (ss.ej cQ),z5,z6,z7,z8] =
   .nx [.fr w0,.fr (.fn su o6 [bJ c,.fy ((cL c.m).ej a8)]),.gD none (T'.ej a8),nu T',.gD none (LQ.ej cQ),y5,y6,y7,y8]
 |0,T,ss,z5,z6,z7,z8,hC,hf=>by
  have:=hC.nb.ZK hc.cc;have:=hC.le;omega
 |WL+1,T,ss,z5,z6,z7,z8,hC,hf=>by
  have hl:=hC.nb.ZK hc.cc;have hle:=hC.le
  have hw:Ds K a (g9 K a (n+103)) [.fr w0,.fr (.fn su o6 [bJ c,.fy ((cL c.m).ej a8)]),.gD none (T.ej a8),nu T,.gD none (ss.ej cQ),z5,z6,z7,z8]=.ok (decide (ss.J<T.J)) [.fr w0,.fr (.fn su o6 [bJ c,.fy ((cL c.m).ej a8)]),.gD none (T.ej a8),nu T,.gD none (ss.ej cQ),z5,z6,z7,z8]:=by
   unfold Ds;rw?;rw[w0b,w0b];congr 1;rw[ă];omega
  rw[DK,hw]
  by_cases h:ss.J<T.J
  .obtain⟨x,hx⟩:∃x,T[ss.J]?=O x:=⟨_,w0a h⟩;have Oa:=hC.nb.oO x (w1m hx);have p8:=Ez hc;let⟨T2,iK,y7,y8,i1,t1,g⟩:=Ro (K:=K) (a:=a) (g9 K a (n+103)) w0 (.fn su o6 [bJ c,.fy ((cL c.m).ej a8)]) hc.cc (ss.ej cQ) (a8 x) (vA c x) [] T [] z7 z8 hC.nb (λp hp=>(Td c x p hp).2) (by rw[Sf,w3n];omega) ⟨rfl,λk p y h _=>by simp at h⟩
   rw[w1t]at t1
   have VP:Dt K a (g9 K a (n+103)) [.fr w0,.fr (.fn su o6 [bJ c,.fy ((cL c.m).ej a8)]),.gD none (T.ej a8),nu T,.gD none (ss.ej cQ),z5,z6,z7,z8]=.nx [.fr w0,.fr (.fn su o6 [bJ c,.fy ((cL c.m).ej a8)]),.gD none ((T++T2).ej a8),nu (T++T2),.gD none ((ss++[iK]).ej cQ),.fr (a8 x),.fr (cQ iK),y7,y8]:=by
    unfold oA at g;unfold Dt;rw?;rw[w0b,HE hx];rw?;rw[y5f n c hc x Oa];rw?;rw[za_];rw?;rw[w3d]at g;rw[g];rw?;rw[gE (by rw[w0b];omega)];simp only[w0m];rfl
   rw[_u h];rw?;rw[VP];rw?
   have E5:CB c (T++T2) (ss++[iK]):=⟨i1,MC (x:=cS c) hC.hd T2,by simp;omega,λi s y h1 h2=>by
    by_cases hi:i<ss.J
    .rw[w0x hi]at h1;rw[w0x (by omega)]at h2;exact(hC.st i s y h1 h2).pre T2
    .have qU:ss.J<=i:=w3q.mp hi;rw[w0z qU]at h1;cases hj:i-ss.J with
     |zc=>
      rw[hj]at h1;cases h1;obtain rfl:i=ss.J:=by omega
      rw[MC (x:=x) hx T2]at h2;cases h2;exact t1
     |zD j=>rw[hj]at h1;simp at h1⟩
   exact QG n c hc w0 WL (T++T2) (ss++[iK]) _ _ _ _ E5 (by simp;omega)
  .rw[_e h];rw?;exact⟨T,ss,z5,z6,z7,z8,hC,by omega,rfl⟩
def y5g(n:dt)(c:Cc)(hc:c.Ok):∃(T:L (L fJ))(ss:L (L Pr)),CB c T ss/\ss.J=T.J/\g9 K a (n+104) Ls [a8 (cS c),.fn su o6 [bJ c,.fy ((cL c.m).ej a8)]]=.ok (.fr (.ff [.fy (ss.ej cQ),.fy (T.ej a8)])):=by
 have h0:CB c [cS c] []:=⟨⟨by simp,λx hx=>by rw[w0u.mp hx];unfold cS;simp⟩,rfl,by simp,λi s x h _=>by simp at h⟩
 let⟨T,ss,y5,y6,y7,y8,k1,k2,g⟩:=QG (K:=K) (a:=a) n c hc (a8 (cS c)) 999999 [cS c] [] .no .no .no .no h0 (by simp);have g:bK (Ds K a (g9 K a (n+103))) (Dt K a (g9 K a (n+103))) 1000000 [.fr (a8 (cS c)),.fr (.fn su o6 [bJ c,.fy ((cL c.m).ej a8)]),.gD none [a8 (cS c)],.dw (.Υ .bl) [c_ (cS c)] [.d0 0],.gD none [],.no,.no,.no,.no]=_:=g;rw[zbt];unfold Lu;rw?;rw[Dy,show ∀e:L S,kI 3 (.Υ .bl) (.d0 0) e (O (c_ (cS c)))=.nx (e.my 3 (.dw (.Υ .bl) [c_ (cS c)] [.d0 0]))from λe=>gE (D0 _)]
 rw?;rw[g];rw?;exact⟨T,ss,k1,k2,rfl⟩
def z6a(n:dt)(c:Cc)(hc:c.Ok):∃(T:L (L fJ))(ss:L (L Pr)),CB c T ss/\ss.J=T.J/\g9 K a (n+105) Dk [bJ c]=.ok (.fr (.ff [cK ⟨c.m,c.Yn.J,ss⟩,.fy (T.ej a8)])):=by
 let⟨T,ss,k1,k2,g⟩:=y5g (K:=K) (a:=a) n c hc;refine⟨T,ss,k1,k2,?_⟩;have zbR:=zaa (K:=K) (a:=a) (n+102) hc.mm;have fr:=y5b (K:=K) (a:=a) (n+103) c hc;rw[X_];unfold Kz;rw?;rw[show aU (bJ c) (.d0 0)=O (.d0 (c.m:eW))from rfl];rw?;rw[zbR];rw?;rw[fr];rw?
 rw[show fR [0,1] [S.fr (bJ c),S.fr (W.fy ((cL c.m).ej a8)),S.no]=O [bJ c,.fy ((cL c.m).ej a8)]from rfl,W',g,y3z (by
  show(b9 (ss.ej cQ)&&(b9 (T.ej a8)&&true))=true;rw[Af JE,Af zI];rfl)]
 rw?;rw[show aU (bJ c) (.d0 0)=O (.d0 (c.m:eW))from rfl];rw?;rw[show aU (bJ c) (.d0 2)=O (.ff (c.Yn.ej mE))from rfl];rw?;rw[w0b];rfl
def ou(m:dt)(bs:L fJ)(fs:L Fm):Cc:=⟨m,bs.uu (fs.n5 bs.J),fs.m9 bs.J⟩
def Ur(m:dt)(bs:L fJ)(fs:L Fm):bJ (ou m bs fs)=uW m bs fs:=by
 unfold bJ ou uW cZ;rw[L.zip_map,w1f];rfl
def Tf{m:dt}{bs:L fJ}{fs:L Fm}(h:bs.J<=fs.J):(ou m bs fs).tO.J=bs.J/\(ou m bs fs).Yn.J=fs.J-bs.J:=by
 unfold ou;rw[w3m,w1i,w1j];omega
def U8{bs:L fJ}{fs:L Fm}(hm:m<=3)(hb:bs.J<=4)(h:bs.J<=fs.J)(h6:fs.J<=bs.J+6)(hf:∀f∈fs,dz (m+bs.J) f):(ou m bs fs).Ok:=by
 let⟨l1,l2⟩:=Tf (m:=m) h;have e:(ou m bs fs).m=m:=rfl;have ok:∀f∈fs,Fq (m+bs.J) f:=λf hm=>⟨(hf f hm).1,w1d (hf f hm).2.1 (by decide),w1d (hf f hm).2.2 (by decide)⟩
 refine⟨by omega,by omega,by omega,by omega,by omega,λp hp=>?_,λf hf=>?_⟩
 .rw[l1];exact ok _ (w3a (w3z hp).2)
 .rw[l1];exact ok _ (w2y hf)
def U9{c:Cc}(hc:c.Ok){ss:L (L Pr)}(h:CB c T ss)(hl:ss.J=T.J):Mc.Og ⟨c.m,c.Yn.J,ss⟩:=by
 have hm:=h.nb.ZK hc.cc;have h0:0<T.J:=(w0c.mp h.hd).1;have ho:=hc.zda
 have each:∀s∈ss,∃x,Tl T s (vA c x):=λs hs=>by
  let⟨i,hi⟩:=w6c hs;have cb:=(w0c.mp hi).1;exact⟨T[i]'(by omega),h.st i s _ hi (w0a (by omega))⟩
 refine⟨hc.mm,by show c.Yn.J<=40;omega,by show 0<ss.J;omega,by show ss.J<=700;omega,λs hs=>?_,λs hs p hp=>?_⟩
 .let⟨x,hx⟩:=each s hs;rw[hx.1,Sf]
 .let⟨x,hx⟩:=each s hs;let⟨k,hk⟩:=w6c hp;have cb:=(w0c.mp hk).1;have hg:k<(vA c x).J:=by rw[<- hx.1];exact cb
  let⟨e1,e2⟩:=hx.2 k p _ hk (w0a hg);refine⟨by rw[e1];exact(Td c x _ (w1z hg)).1,?_⟩;show p.2<ss.J;have:=(w0c.mp e2).1;omega
def pd(n:dt){bs:L fJ}{fs:L Fm}(hm:m<=3)(hb:bs.J<=4)(h:bs.J<=fs.J)(h6:fs.J<=bs.J+6)(hf:∀f∈fs,dz (m+bs.J) f):∃(B:Mc)(w:W),B.Og/\B.m=m/\B._n=fs.J-bs.J/\g9 K a (n+105) Dk [uW m bs fs]=.ok (.fr (.ff [cK B,w])):=by
 have ok:=U8 hm hb h h6 hf;let⟨T,ss,hC,hl,hr⟩:=z6a (K:=K) (a:=a) n _ ok;rw[Ur]at hr;exact⟨_,_,U9 ok hC hl,rfl,(Tf h).2,hr⟩
def y5i(n:dt)(c d:Mc)(hc:c.Og)(hd:d.Og)(hm:c.m≠d.m):g9 K a (n+3) Dl [cK c,cK d]=.ex (.ei a.ay):=by
 rw[OK];unfold FW;rw?;rw[Gq n c hc];rw?;rw[Gq n d hd];rw?;rw[DQ];rw?;rw[DQ];rw?;rw[gE (by simp;omega)]
def y5j(n:dt)(c d:Mc)(hc:c.Og)(hd:d.Og)(hm:c.m=d.m):g9 K a (n+3) Dl [cK c,cK d]=.ok (.fr .aH):=by
 rw[OK];unfold FW;rw?;rw[Gq n c hc];rw?;rw[Gq n d hd];rw?;rw[DQ];rw?;rw[DQ];rw?;rw[hm];rw?
def y5k{x:W}{v:e5}(h:g9 K a n Dl [x,y]=.ex v):g9 K a (n+1) Dm [x,y]=.ex v:=by
 rw[OL];unfold FX;rw?;rw[h];rw?
def y5l(n:dt)(c d:Mc)(hc:c.Og)(hd:d.Og)(hm:c.m=d.m)(hw:c._n≠d._n):g9 K a (n+4) Dm [cK c,cK d]=.ex (.ei a.ay):=by
 rw[OL];unfold FX;rw?;rw[y5j n c d hc hd hm];rw?;rw[M7];rw?;rw[M7];rw?;rw[gE (by simp;omega)]
def y9z{x:W}{v:e5}(h:g9 K a n Dm [x,y]=.ex v):g9 K a (n+1) Fw [x,y]=.ex v:=by
 rw[Xi];unfold Kb;rw?;rw[h];rw?
def y5m(n:dt)(c d:Mc)(hc:c.Og)(hd:d.Og)(h:c.m≠d.m\/c._n≠d._n):g9 K a (n+5) Fw [cK c,cK d]=.ex (.ei a.ay):=by
 refine y9z ?_
 by_cases hm:c.m=d.m
 .exact y5l n c d hc hd hm (h.Ψ λz=>z hm)
 .exact y5k (y5i n c d hc hd hm)
structure gp where
 f':L eh
 hn:L eh
 on:L eh
 bs:L fJ
 fs:L Fm
structure gp.Ok(s:gp):Prop where
 m:s.f'.J<=3
 c:s.bs.J<=4
 cf:s.bs.J<=s.fs.J
 o:s.fs.J<=s.bs.J+6
 f:∀f∈s.fs,dz (s.f'.J+s.bs.J) f
def vb(s:gp):W:=.ff [dI s.f' s.hn s.on,uW s.f'.J s.bs s.fs]
def z6b(n:dt){x:W}(h:g9 K a n lO [x]=.ex (.ei a.aE)):g9 K a (n+1) Ba [x,y]=.ex (.ei a.aE):=by
 rw[Kd];unfold Dg;rw?;rw[h];rw?
def z6c(n:dt){x:W}{s:gp}(h1:g9 K a n lO [x]=.ok (.fr (vb s)))(h:g9 K a n lO [y]=.ex (.ei a.aE)):g9 K a (n+1) Ba [x,y]=.ex (.ei a.aE):=by
 rw[Kd];unfold Dg;rw?;rw[h1];unfold vb;rw?;rw[h];rw?
def y90(n:dt){x:W}{s t:gp}(hs:s.Ok)(ht:t.Ok)(h1:g9 K a (n+105) lO [x]=.ok (.fr (vb s)))(h2:g9 K a (n+105) lO [y]=.ok (.fr (vb t)))(hd:s.f'.J≠t.f'.J\/s.fs.J-s.bs.J≠t.fs.J-t.bs.J):g9 K a (n+106) Ba [x,y]=.ex (.ei a.ay):=by
 let⟨B,w,b1,b2,b3,b4⟩:=pd (K:=K) (a:=a) n hs.m hs.c hs.cf hs.o hs.f;let⟨C,v,c1,c2,c3,c4⟩:=pd (K:=K) (a:=a) n ht.m ht.c ht.cf ht.o ht.f;have hz:=y5m (K:=K) (a:=a) (n+100) B C b1 c1 (by rw[b2,b3,c2,c3];exact hd);rw[Kd];unfold Dg;rw?;rw[h1];unfold vb;rw?;rw[h2];unfold vb;rw?;rw[b4];rw?;rw[c4];rw?;rw[hz];rw?
def y5n(M:nM K mg a)(n:dt){c:fh}(hc:bD K c=true)(h:∀d∈[a.aY,a.bp,a.aZ,a.aF,a.bM,a.cN,a.bY],pW K (.ei c) (.ei d)=O false):g9 K a (n+1) Kw [.zt (.ei c)]=.ok (.fr (.bl false)):=by
 rw[zaC];unfold Bh;rw?;rw[u_ hc (h _ (by simp))];rw?;rw[u_ hc (h _ (by simp))];rw?;rw[u_ hc (h _ (by simp))];rw?;rw[u_ hc (h _ (by simp))];rw?;rw[u_ hc (h _ (by simp))];rw?;rw[u_ hc (h _ (by simp))];rw?;rw[u_ hc (h _ (by simp))];rw?
def Rp(M:nM K mg a)(n:dt){x:W}{c:fh}{b1 b2:fJ}(hx:ZV K (.ei c) (.ei a.aK)=O true)(hc:bD K c=true)(h:∀d∈[a.aY,a.bp,a.aZ,a.aF,a.bM,a.cN,a.bY],pW K (.ei c) (.ei d)=O false)
  (h1:pW K (.ei c) (.hJ "ValueError")=O true)(h2:pW K (.ei c) (.ei a.ay)=O b1)(h3:pW K (.ei c) (.ei a.aE)=O b2)(hr:g9 K a (n+1) Ba [x,y]=.ex (.ei c)):g9 K a (n+2) xC [x,y]=.ok (.fr (.d0 ((if b1 then 1 else 0)+2*(if b2 then 1 else 0)))):=by
 rw[zaD];unfold Ko;rw?;rw[hr];rw?;rw[z9p hx];rw?;rw[u_ hc h1];rw?;rw[y5n M n hc h];rw?;rw[u_ hc h2];rw?;rw[u_ hc h3];rw?
def dm:L dt:=[110,111,32,109,111,114,101]
def Sg:gk dm=[[110,111],[109,111,114,101]]:=by decide +kernel
def z6d{g:Fm}(n k:dt):g9 K a (n+2) u5 [.str (tx dm),.d0 k]=.ok (.dw .str pk (pw ⟨k, "", [],.aH, "", g⟩)):=by
 rw[GG n k (l:=dm) (s1:="") (s2:="") (by decide) (by decide) (P5 (by decide)),Sg];unfold A_;rw?;rw[wk,show wT [110,111]=.str "no" from rfl,wj];rw?;rw[wk,wj];rw?;rw[wk,wj];rw?;rfl
def z6e(n:dt)(ps:L Pt)(hl:ps.J<=1000){p:Pt}(hp:p.vj=""):g9 K a (n+3) F8 [aJ p,.fy (ps.ej aJ)]=.ok (.fr (.bl false)):=by
 rw[OQ];unfold Ga;rw[show uO (av (ag mB (ck bo (aa (ae 1) af)) (dC (.d0 0)))) (ag i5 (ag aU (ae 1) (jQ lp (dC (.d0 1)))) (dC (.str "word"))) (dC (.str ""))=qb from rfl];rw?;rw[Ag,hp];rw?;rw[Rb _ _ _ _ _ _ ps hl];rw?;rw[show kF (.str "") (.ff [.str "in", .str "held", .str "out"])=O (.bl true)from(Hg b_).iD (by rw[show decide (("":eh)∈b_)=false from by decide +kernel];rfl)];rw?
def y91(n k:dt)(w0:W)(ah:L Pt)(z4:S)(hl:ah.J<=900):∃e,vZ K a (g9 K a (n+3)) [.fr w0,.gD none (ah.ej aJ),.fr (.d0 k),.fr (wT dm),z4]=.rt (.fr (.ff [.fy (ah.ej aJ),.d0 k])) e:=by
 unfold vZ;rw?;rw[show wT dm=.str (tx dm)from rfl,Gp (n+2) dm (by decide)];rw?;rw[gE (by rw[w0b,Sg];decide),z6d (g:=.is false) (n+1) k];rw?;rw[show W.dw false .str pk (pw ⟨k, "", [],.aH, "", .is false⟩)=aJ ⟨k, "", [],.aH, "", .is false⟩from rfl,z6e n ah (by omega) rfl];rw?;exact⟨_,rfl⟩
def y92(n:dt)(w0:W){k:dt}{ah ps:L Pt}(h:ri K a k ah rs ps):ah.J+ps.J<=900->∀z2 z3 z4:S,∃(j:dt)(e:L S),eg 2 3 (vZ K a (g9 K a (n+3))) (bZ k ((rs++[dm]).ej wT)) [.fr w0,.gD none (ah.ej aJ),z2,z3,z4]=.rt (.fr (.ff [.fy ((ah++ps).ej aJ),.d0 (j:eW)])) e:=by
 induction h with
 | @m8 k ah=>
  intro hl z2 z3 z4;let⟨e,he⟩:=y91 (K:=K) (a:=a) n k w0 ah z4 (by simp at hl;omega);refine⟨k,e,?_⟩;rw[w1t,w0j,bZ,u4];simp only[w1s,w1r];rw[he,w0s];rfl
 | @_t k ah ps cs rs hw hc h ih=>
  intro hl z2 z3 z4;let⟨j,e,he⟩:=ih hl (.fr (.d0 k)) (.fr (wT cs)) z4;refine⟨j,e,?_⟩;rw[w1n,w0j,bZ,u4];simp only[w1s,w1r];rw[PL n k w0 ah z4 hw hc,o7];exact he
 | @ω k ah ps p cs rs hw hc hp hs h ih=>
  intro hl z2 z3 z4;let⟨j,e,he⟩:=ih (by simp at hl |-;omega) (.fr (.d0 k)) (.fr (wT cs)) (.fr (aJ p));refine⟨j,e,?_⟩;rw[w1n,w0j,bZ,u4];simp only[w1s,w1r];rw[PM n k w0 ah z4 hw hc (by omega) hp hs,o7,he,w0k];rfl
def y93(n:dt){ps:L Pt}(hc:cs.J<=100000)(hr:cA 10 cs=rs++[dm])(h:ri K a 0 [] rs ps)(hl:ps.J<=900):g9 K a (n+6) lO [.str (tx cs)]=.ex (.ei a.aE):=by
 let⟨j,e,he⟩:=y92 n (.fy ((rs++[dm]).ej wT)) h (by simpa using hl) .no .no .no;rw[show([]:L Pt).ej aJ=[]from rfl,w1t]at he
 have st:g9 K a (n+4) Df [.fy ((rs++[dm]).ej wT)]=.ok (.fr (.ff [.fy (ps.ej aJ),.d0 (j:eW)])):=by
  rw[OF];unfold FI;rw?;rw[he];rw?
 have fr:g9 K a (n+5) Dr [.str (tx cs)]=.ok (.fr (.d0 (j:eW))):=by
  rw[OP];unfold F_;rw?;rw[show("\n":eh)=⟨#[10]⟩from rfl,wA (by omega) hc,hr];rw?;rw[st];rw?
 rw[OM];unfold FY;rw?;rw[fr];rw?
def zes{hn:L eh}{bs:L fJ}{fs:L Fm}(hb:hn.J=bs.J)(hf:bs.J<=fs.J)(ho:on.J=fs.J-bs.J)(h3:f'.J<=3)(h4:hn.J<=4)(h6:on.J<=6)(nd:(f'++(hn++on)).p9)(ok:∀x∈f'++(hn++on),ro x=true/\x∉b_)(fF:∀f∈fs,dz (f'++hn).J f):
  ∃cs,d7 (.str "\n") [.fy ((bA f' hn on bs fs).ej .str)]=O (.str (tx cs))/\cs.J<=90000/\(∀n,g9 K a (n+6) lO [.str (tx cs)]=.ok (.fr (.ff [dI f' hn on,uW f'.J bs fs])))/\∀n,g9 K a (n+6) lO [.str (tx (cs++10::dm))]=.ex (.ei a.aE):=by
 have nO:on.J=(fs.m9 bs.J).J:=by rw[w1j];omega
 have hw:(L.oS (bA f' hn on bs fs).J (0:eW)).J=(bA f' hn on bs fs).J:=w4i ..;let⟨cs,t,g1,g2,g3,g4,g5⟩:=y46 (K:=K) (a:=a) hb hf ho h3 h4 h6 nd ok fF _ hw 0
 have ht:t=[]:=by
  have e:O (W.str "")=O (.str (tx t)):=g2;have e:=W.str.sE (fG.O.sE e);exact(He (show tx []=tx t from e)).symm
 subst ht;rw[w0s]at g3;simp only[w0s]at g5
 have eQ:qL f' hn on bs fs (fs.m9 bs.J) hn.J on.J=(kR f' hn on bs fs).ej (·.2):=by
  unfold qL kR;rw[hb,nO];simp[É.Ľ]
 have CV:=Q2 (K:=K) (a:=a) hb hf ho (by omega) ok fF;have Dc:(kR f' hn on bs fs).J<=11:=by unfold kR;simp;omega
 have N9:(L.oS (bA f' hn on bs fs).J (0:eW)).J=(kR f' hn on bs fs).J:=by rw[hw,Gu,w0b]
 let⟨ps,r1,r2,r3⟩:=MQ (K:=K) (a:=a) (kn:=f'++hn) (uA (bs:=bs) (fs:=fs) (gs:=fs.m9 bs.J) h3 h4 h6 nd ok) (kR f' hn on bs fs) _ [] 0 eQ N9 CV;let⟨f1,f2⟩:=MR (K:=K) (a:=a) (kR f' hn on bs fs) (L.oS (bA f' hn on bs fs).J (0:eW)) CV;rw[<- Gu,M6]at r1 f1 f2;rw[M6]at g1;have pl:ps.J=(kR f' hn on bs fs).J:=by have:=Yc L.J r2;simpa using this
 have ne:(bA f' hn on bs fs).ej aX≠[]:=by unfold bA;simp
 have yI:∀l∈(bA f' hn on bs fs).ej aX,10∉l:=λl hl=>by let⟨r,hr,rfl⟩:=w1e.mp hl;exact(f2 r hr).1
 have sm:=Ah (g:=L.J) (b:=2200) ((bA f' hn on bs fs).ej aX) λl hl=>by let⟨r,hr,rfl⟩:=w1e.mp hl;exact(f2 r hr).2
 have jl:=Ld ((bA f' hn on bs fs).ej aX);have zfy:(bA f' hn on bs fs).J<=11:=by rw[Gu,w0b];exact Dc
 rw[w0b]at sm jl
 have ec:cs=cF [10] ((bA f' hn on bs fs).ej aX):=by
  have:=Hf (z:=[10]) (l:=(bA f' hn on bs fs).ej aX) (by rw[w0b];show _+_*2<=_;omega);rw[w1f,w1y (f:=(λw=>W.str (tx w)) ∘ aX) (g:=.str) λx _=>Yc W.str (rE x)]at this
  exact He (W.str.sE (fG.O.sE (g1.symm.iD this)))
 refine⟨cs,g1,by rw[ec];omega,g5,λn=>?_⟩
 refine y93 n (rs:=(bA f' hn on bs fs).ej aX) (ps:=ps) ?_ ?_ r1 (by omega)
 .rw[w0g,ec];show _+8<=_;omega
 .let⟨p,e1,e2⟩:=Mm (10::dm) ne yI;rw[ec,e2,Ab _ (yI p (w6a e1)),show cA 10 dm=[dm] by decide +kernel];let⟨ys,hy⟩:=w5f.mp e1;rw[hy];simp
def ng:L eh:=yo.ej λc=>tx [c]
theorem QH(r:dt->L W->FR)(xs ys zs:L eh)(hl:xs.J+ys.J+zs.J<=1000):∀(ls:L eh)(z1:S),(∃l∈ls,l∉xs++ys++zs)->∃l e,l∈ls/\l∉xs++ys++zs/\bT 1 (FK K a r) (ls.ej .str) [.fr (dI xs ys zs),z1]=.rt (.fr (.str l)) e
 |[],_,h=>by let⟨_,h,_⟩:=h;cases h
 |l::ls,z1,h=>by
  have hb:FK K a r [.fr (dI xs ys zs),.fr (.str l)]=if l∈xs++ys++zs then .nx [.fr (dI xs ys zs),.fr (.str l)]else .rt (.fr (.str l)) [.fr (dI xs ys zs),.fr (.str l)]:=by
   unfold FK dI;rw?;rw[gE (by simp;omega)];rw?;rw[gE (by simp;omega),<- w0m,<- w0m];rw?;rw[Hg]
   by_cases hi:l∈xs++ys++zs
   .rw[gE hi,_u hi];rw?
   .rw[kl hi,_e hi];rw?
  rw[w0j,xF];simp only[w1s,w1r];rw[hb]
  by_cases hi:l∈xs++ys++zs
  .rw[gE hi,xG]
   let⟨l2,e,h1,h2,h3⟩:=QH r xs ys zs hl ls (.fr (.str l)) (by
    let⟨l3,h3,h4⟩:=h;rcases w0h.mp h3 with rfl|h3
    .exact nS hi h4
    .exact⟨l3,h3,h4⟩)
   exact⟨l2,e,w0f _ h1,h2,h3⟩
  .rw[kl hi];exact⟨l,_,w0l,hi,rfl⟩
def y5o(h:xs.J<26):∃l∈ng,l∉xs:=by
 refine È.zbV λhn=>?_
 have hs:∀l∈ng,l∈xs:=λl hl=>È.zbV λz=>hn ⟨l,hl,z⟩
 have nd:ng.p9:=by decide +kernel
 have:ng.J<=xs.J:=by
  have NV:∀(l m:L eh),l.p9->(∀x∈l,x∈m)->l.J<=m.J:=by
   intro l
   induction l with
   |m8=>exact λm _ _=>w1k _
   |m6 x l ih=>
    intro m rV hm;let⟨h1,h2⟩:=w2f.mp rV;have hx:=hm x w0l;have:=ih (m.erase x) h2 λy hy=>(L.mem_erase_of_ne (λz=>h1 (by rw[<- z];exact hy))).rj (hm y (w0f _ hy))
    rw[w5g hx]at this;have hp:=L.length_pos_of_mem hx;rw[w0r];omega
  exact NV _ _ nd hs
 have e:ng.J=26:=by decide +kernel
 omega
def Tg:∀l∈ng,ro l=true/\l∉b_:=by decide +kernel
def y94(n:dt)(xs ys zs:L eh)(hl:(xs++ys++zs).J<26):∃x,x∉xs++ys++zs/\ro x=true/\x∉b_/\g9 K a (n+1) zX [dI xs ys zs]=.ok (.fr (.str x)):=by
 let⟨l,e,h1,h2,h3⟩:=QH (K:=K) (a:=a) (g9 K a n) xs ys zs (by simp at hl;omega) ng .no (y5o hl);refine⟨l,h2,(Tg l h1).1,(Tg l h1).2,?_⟩;rw[zaT];unfold KP;rw?;rw[show d8 "abcdefghijklmnopqrstuvwxyz"=ng.ej .str from rfl];rw[h3];rw?
def iQ(m:dt):Fm->Fm
 |.is b=>.is b
 |.at p=>.at (if p<m then p else p+1)
 |.not f=>.not (iQ m f)
 |.and f g=>.and (iQ m f) (iQ m g)
 |.or f g=>.or (iQ m f) (iQ m g)
 |.E1 f g=>.E1 (iQ m f) (iQ m g)
theorem xO{ys:L eh}:∀f:Fm,dM (xs++x::ys) (iQ xs.J f)=dM (xs++ys) f
 |.is b=>rfl
 |.at p=>by
  show(xs++x::ys).mF (if p<xs.J then p else p+1) ""=(xs++ys).mF p ""
  by_cases h:p<xs.J
  .rw[gE h,w0n,w0n,w0x h,w0x h]
  .rw[kl h,w0n,w0n,w0z (by omega),w0z (by omega),show p+1-xs.J=p-xs.J+1 by omega];rfl
 |.not f=>by unfold iQ dM;rw[xO f]
 |.and f g=>by unfold iQ dM;rw[xO f,xO g]
 |.or f g=>by unfold iQ dM;rw[xO f,xO g]
 |.E1 f g=>by unfold iQ dM;rw[xO f,xO g]
theorem we(m:dt):∀f:Fm,(iQ m f).oY=f.oY/\(iQ m f).eG=f.eG
 |.is b=>⟨rfl,rfl⟩
 |.at p=>⟨rfl,rfl⟩
 |.not f=>by
  let⟨h1,h2⟩:=we m f;exact⟨by simp only[iQ,Fm.oY,h1],by simp only[iQ,Fm.eG,h2]⟩
 |.and f g=>by
  let⟨h1,h2⟩:=we m f;let⟨h3,h4⟩:=we m g;exact⟨by simp only[iQ,Fm.oY,h1,h3],by simp only[iQ,Fm.eG,h2,h4]⟩
 |.or f g=>by
  let⟨h1,h2⟩:=we m f;let⟨h3,h4⟩:=we m g;exact⟨by simp only[iQ,Fm.oY,h1,h3],by simp only[iQ,Fm.eG,h2,h4]⟩
 |.E1 f g=>by
  let⟨h1,h2⟩:=we m f;let⟨h3,h4⟩:=we m g;exact⟨by simp only[iQ,Fm.oY,h1,h3],by simp only[iQ,Fm.eG,h2,h4]⟩
theorem xP:∀f:Fm,f.jr q->(iQ m f).jr (q+1)
 |.is b,_=>trivial
 |.at p,h=>by
  have h:p<q:=h;show(if p<m then p else p+1)<q+1;split<;>omega
 |.not f,h=>xP f h
 |.and f g,h=>⟨xP f h.1,xP g h.2⟩
 |.or f g,h=>⟨xP f h.1,xP g h.2⟩
 |.E1 f g,h=>⟨xP f h.1,xP g h.2⟩
theorem z6f{m:dt}(h:dz q f):dz (q+1) (iQ m f):=⟨xP f h.1,by rw[(we m f).1];exact h.2.1,by rw[(we m f).2];exact h.2.2⟩
def za'{hn:L eh}{bs:L fJ}{fs:L Fm}(x:eh)(hf:bs.J<=fs.J):bA (f'++[x]) hn on bs (fs.ej (iQ f'.J))=((bA f' hn on bs fs).my 0 (cw (f'++[x]))):=by
 have e:f'++[x]++hn=f'++x::hn:=by simp
 have g:∀(l:L Fm)(k:dt),dM (f'++x::hn) ((l.ej (iQ f'.J)).mF k (.is false))=dM (f'++hn) (l.mF k (.is false)):=λl k=>by
  rw[w0n,w1c,w0n];cases l[k]? with
  |none=>rfl
  |O f=>exact xO f
 unfold bA;rw[<- w4p,w0b,e];show _=cw (f'++[x])::_++_;congr 2
 .refine w1y λk _=>?_
  unfold uY;rw[g]
 .funext k
  unfold Ρ;rw[g]
theorem QI(M:nM K mg a){s t:gp}(hs:s.Ok)(ht:t.Ok){x:W}(h1:∀n,g9 K a (n+6) lO [x]=.ok (.fr (vb s)))(h2:∀n,g9 K a (n+6) lO [y]=.ok (.fr (vb t)))(hd:s.f'.J≠t.f'.J\/s.fs.J-s.bs.J≠t.fs.J-t.bs.J):g9 K a 150 xC [x,y]=.ok (.fr (.d0 1)):=
 Rp (b1:=true) (b2:=false) M 148 M.zb4 M.zcU (by simp only[w3t,w1b,zcv,zcO,and_true];exact⟨M.zcr,M.zcp,M.zcs,M.zb_,M.zcF,M.zct,M.zcz⟩) M.zb9 M.zca M.zcx (y90 43 hs ht (h1 142) (h2 142) hd)
def Sk(M:nM K mg a){s:gp}{x:W}(h:(∀n,g9 K a (n+6) lO [x]=.ex (.ei a.aE))\/(∀n,g9 K a (n+6) lO [x]=.ok (.fr (vb s)))/\∀n,g9 K a (n+6) lO [y]=.ex (.ei a.aE)):g9 K a 150 xC [x,y]=.ok (.fr (.d0 2)):=by
 refine Rp (b1:=false) (b2:=true) M 148 M.zb' M.zdb (by simp only[w3t,w1b,zcv,zcO,and_true];exact⟨M.zcC,M.zcM,M.zcG,M.zcu,M.zcK,M.zcJ,M.zcE⟩) M.zcq M.zcw M.zcD ?_;rcases h with h|⟨h1,h2⟩
 .exact z6b 148 (h 142)
 .exact z6c 148 (h1 142) (h2 142)
structure ϡ(K:Fg)(a:a9)(s:gp)(cs:L dt):Prop where
 oO:cs.J<=90000
 ϯ:∀n,g9 K a (n+6) lO [.str (tx cs)]=.ok (.fr (vb s))
 bad:∀n,g9 K a (n+6) lO [.str (tx (cs++10::dm))]=.ex (.ei a.aE)
def Sl(M:nM K mg a){s t:gp}{c1 c2:L dt}(t1:ϡ K a s c1)(t2:ϡ K a t c2):(∀x:L dt,x=c2\/x=c2++10::dm->g9 K a 150 xC [.str (tx (c1++10::dm)),.str (tx x)]=.ok (.fr (.d0 2))/\g9 K a 150 xC [.str (tx x),.str (tx (c1++10::dm))]=.ok (.fr (.d0 2))):=by
 intro x hx;refine⟨Sk (s:=s) M (.h8 t1.bad),Sk (s:=t) M ?_⟩;rcases hx with rfl|rfl
 .exact .j' ⟨t2.ϯ,t1.bad⟩
 .exact .h8 t2.bad
def Gv(r:dt->L W->FR)(z0 z1 z2 z3 z4 z5 z6 z7 z9:S){x y:L dt}(hx:x.J<=95000)(hy:y.J<=95000)(j:dt)(hj:j<2):GL K a r [z0,z1,z2,z3,z4,z5,z6,z7,.gD none [.str (tx x),.str (tx y)],z9,.fr (.d0 (j:eW))]=.nx [z0,z1,z2,z3,z4,z5,z6,z7,.gD none (if j=0 then[.str (tx (x++10::dm)),.str (tx y)]else[.str (tx x),.str (tx (y++10::dm))]),z9,.fr (.d0 (j:eW))]:=by
 have oO:∀l:L dt,(tx l).J=l.J:=λl=>by simp[tx,eh.J]
 have ap:∀l:L dt,tx l++"\nno more"=tx (l++10::dm):=λl=>nC l (10::dm)
 have lb:("\nno more":eh).J=8:=by decide +kernel
 obtain rfl|rfl:j=0\/j=1:=by omega
 .unfold GL;rw?;rw[gE (by rw[oO,lb];omega),ap];rfl
 .unfold GL;rw?;rw[gE (by rw[oO,lb];omega),ap];rfl
def z6g(M:nM K mg a)(ns:L eW){s t:gp}(hs:s.Ok)(ht:t.Ok)(hd:s.f'.J≠t.f'.J\/s.fs.J-s.bs.J≠t.fs.J-t.bs.J){L1 L2:L eh}{c1 c2:L dt}(h1:g9 K a 150 zV [dI s.f' s.hn s.on,uW s.f'.J s.bs s.fs]=.ok (.gD none (L1.ej .str)))
  (j1:d7 (.str "\n") [.fy (L1.ej .str)]=O (.str (tx c1)))(j2:d7 (.str "\n") [.fy (L2.ej .str)]=O (.str (tx c2)))(t1:ϡ K a s c1)(t2:ϡ K a t c2){s7:S}(h7:s7=.gD none (L2.ej .str)\/s7=.fr (.fy (L2.ej .str)))(w3 w4 w5 w6:W):
  (AU K a (g9 K a 150) [.fr (.fy (ns.ej .d0)),.fr (uW s.f'.J s.bs s.fs),.fr (dI s.f' s.hn s.on),.fr w3,.fr w4,.fr w5,.fr w6,s7,.no,.no,.no]).fn=.ok (.fr (.bl true)):=by
 have b1:=t1.oO;have b2:=t2.oO;have lb:dm.J=7:=by decide
 have q1:=QI (K:=K) (a:=a) M hs ht t1.ϯ t2.ϯ hd;have q2:=QI (K:=K) (a:=a) M ht hs t2.ϯ t1.ϯ (hd.pQ Ne.symm Ne.symm);have wI:=Sl M t1 t2;have Ey:=Sl M t2 t1;have oO:∀l:L dt,(tx l).J=l.J:=λl=>by simp[tx,eh.J]
 have ap:∀l:L dt,tx l++"\nno more"=tx (l++10::dm):=λl=>nC l (10::dm)
 have Wz:∀z:eW,∃ks:L eW,(ks=[0]\/ks=[1]\/ks=[0,1])/\et [W.fy [.d0 0],.fy [.d0 1],.fy [.d0 0,.d0 1]] (z%3)=O (.fy (ks.ej .d0)):=λz=>by
  have h1:=w1x z (show(3:eW)≠0 by decide);have h2:=w1q z (show(0:eW)<3 by decide);generalize z%3=k at h1 h2;obtain rfl|rfl|rfl:k=0\/k=1\/k=2:=by omega
  .exact⟨_,.h8 rfl,rfl⟩
  .exact⟨_,.j' (.h8 rfl),rfl⟩
  .exact⟨_,.j' (.j' rfl),rfl⟩
 let⟨ks,hk,k1⟩:=Wz (ns.mF 11 0 / 3);unfold AU;rw?;rw[h1];rw?;rw[j1]
 have hv:∀z0 z1 z2 z3 z4 z5 z6 z8 z9 rL:S,uH 7 [z0,z1,z2,z3,z4,z5,z6,s7,z8,z9,rL] (O s7)=.ok (.fy (L2.ej .str)) [z0,z1,z2,z3,z4,z5,z6,.fr (.fy (L2.ej .str)),z8,z9,rL]:=λz0 z1 z2 z3 z4 z5 z6 z8 z9 rL=>by
  rcases h7 with rfl|rfl<;>rfl
 rw?;rw[hv];rw?;rw[j2];rw?;rw[Aa 149 ns (k:=11) (by omega)];rw?
 by_cases hc:ns.mF 11 0%3=1
 .rw[gE hc,Aa 149 ns (k:=11) (by omega)];rw?;rw[k1];rw?;rcases hk with rfl|rfl|rfl
  .simp only[w0j,w3d];rw?;rw[xF];simp only[w1s,w1r];rw[show(W.d0 0)=W.d0 ((0:dt):eW)from rfl,Gv (K:=K) (a:=a) (g9 K a 150) _ _ _ _ _ _ _ _ _ (by omega) (by omega) 0 (by decide),xG];simp only[gE,kl,w4z,_i,ZI];rw[show ∀(b:L S->SR)(e:L S),bT 10 b [] e=.nx e from λ_ _=>rfl]
   rw?;rw[(wI c2 (.h8 rfl)).1];rw?;rw[(wI c2 (.h8 rfl)).2];rw?
  .simp only[w0j,w3d];rw?;rw[xF];simp only[w1s,w1r];rw[show(W.d0 1)=W.d0 ((1:dt):eW)from rfl,Gv (K:=K) (a:=a) (g9 K a 150) _ _ _ _ _ _ _ _ _ (by omega) (by omega) 1 (by decide),xG];simp only[gE,kl,w4z,_i,ZI];rw[show ∀(b:L S->SR)(e:L S),bT 10 b [] e=.nx e from λ_ _=>rfl]
   rw?;rw[(Ey c1 (.h8 rfl)).2];rw?;rw[(Ey c1 (.h8 rfl)).1];rw?
  .simp only[w0j,w3d];rw?;rw[xF];simp only[w1s,w1r];rw[show(W.d0 0)=W.d0 ((0:dt):eW)from rfl,Gv (K:=K) (a:=a) (g9 K a 150) _ _ _ _ _ _ _ _ _ (by omega) (by omega) 0 (by decide),xG];simp only[gE,kl,w4z,_i,ZI];rw[xF];simp only[w1s,w1r];rw[show(W.d0 1)=W.d0 ((1:dt):eW)from rfl,Gv (K:=K) (a:=a) (g9 K a 150) _ _ _ _ _ _ _ _ _ (by rw[w0g,w0r,lb];omega) (by omega) 1 (by decide),xG];simp only[gE,kl,w4z,_i,ZI];rw[show ∀(b:L S->SR)(e:L S),bT 10 b [] e=.nx e from λ_ _=>rfl]
   rw?;rw[(wI _ (.j' rfl)).1];rw?;rw[(wI _ (.j' rfl)).2];rw?
 .rw[kl hc];rw?;rw[q1];rw?;rw[q2];rw?
structure gp.VF(s:gp):Prop where
 hb:s.hn.J=s.bs.J
 hf:s.bs.J<=s.fs.J
 ho:s.on.J=s.fs.J-s.bs.J
 h3:s.f'.J<=3
 h4:s.hn.J<=4
 h6:s.on.J<=6
 nd:(s.f'++(s.hn++s.on)).p9
 ok:∀x∈s.f'++(s.hn++s.on),ro x=true/\x∉b_
 fF:∀f∈s.fs,dz (s.f'++s.hn).J f
def gp.ar(s:gp):L eh:=bA s.f' s.hn s.on s.bs s.fs
def gp.VF.OA{s:gp}(h:s.VF):s.Ok:=by
 have h1:=h.hb;have h2:=h.ho;have h3:=h.h6;have h4:=h.h4;refine⟨h.h3,by omega,h.hf,by omega,λf hf=>?_⟩
 have:=h.fF f hf
 rwa [w0g,h1]at this
def gp.VF.txt{s:gp}(h:s.VF):∃cs,d7 (.str "\n") [.fy (s.ar.ej .str)]=O (.str (tx cs))/\ϡ K a s cs:=by
 let⟨cs,h1,h2,h3,h4⟩:=zes (K:=K) (a:=a) h.hb h.hf h.ho h.h3 h.h4 h.h6 h.nd h.ok h.fF;exact⟨cs,h1,h2,h3,h4⟩
def gp.VF.lines{s:gp}(h:s.VF)(n:dt):g9 K a (n+7) zV [dI s.f' s.hn s.on,uW s.f'.J s.bs s.fs]=.ok (.gD none (s.ar.ej .str)):=by
 have h1:=h.hb;have h2:=h.ho;have h3:=h.h6;have h4:=h.h4;have h5:=h.hf;have h6:=h.h3;have hx:∀x∈s.f'++(s.hn++s.on),x.J<=8:=λx hx=>(qq (h.ok x hx).1).2.2.1
 exact y42 n s.f'.J s.f' s.hn s.on s.bs s.fs h1 h5 h2 (by omega) (by omega) (λx h=>hx x (by rw[<- w0k];exact w1h _ h)) (λx h=>hx x (w0e _ (w0e _ h))) h.fF
def sW(M:nM K mg a)(ns:L eW){s t:gp}(hs:s.VF)(ht:t.VF)(hd:s.f'.J≠t.f'.J\/s.fs.J-s.bs.J≠t.fs.J-t.bs.J){s7:S}(h7:s7=.gD none (t.ar.ej .str)\/s7=.fr (.fy (t.ar.ej .str)))(w3 w4 w5 w6:W):
  (AU K a (g9 K a 150) [.fr (.fy (ns.ej .d0)),.fr (uW s.f'.J s.bs s.fs),.fr (dI s.f' s.hn s.on),.fr w3,.fr w4,.fr w5,.fr w6,s7,.no,.no,.no]).fn=.ok (.fr (.bl true)):=by
 let⟨c1,j1,t1⟩:=hs.txt (K:=K) (a:=a);let⟨c2,j2,t2⟩:=ht.txt (K:=K) (a:=a);exact z6g M ns hs.OA ht.OA hd (hs.lines 143) j1 j2 t1 t2 h7 w3 w4 w5 w6
def VF.EY{s:gp}(h:s.VF)(hm:s.f'.J<3)(hx:x∉s.f'++s.hn++s.on)(h1:ro x=true)(h2:x∉b_):gp.VF ⟨s.f'++[x],s.hn,s.on,s.bs,s.fs.ej (iQ s.f'.J)⟩:=by
 have nd:=h.nd;refine⟨h.hb,by show _<=(L.ej _ _).J;rw[w0b];exact h.hf,by show _=(L.ej _ _).J-_;rw[w0b];exact h.ho,by show L.J (_++_)<=3;rw[w0g];exact hm,h.h4,h.h6,?_,λy hy=>?_,λf hf=>?_⟩
 .show(s.f'++[x]++(s.hn++s.on)).p9;rw[w0k];rw[w2d]at nd |-
  let⟨n1,n2,n3⟩:=nd
  have xl:x∉s.f'/\x∉s.hn++s.on:=by
   rw[w0k,w0w]at hx;exact⟨λz=>hx (.h8 z),λz=>hx (.j' z)⟩
  refine⟨n1,w2f.rj ⟨xl.2,n2⟩,λy hy z hz e=>?_⟩
  rcases w0h.mp hz with rfl|hz
  .exact xl.1 (e ▸ hy)
  .exact n3 y hy z hz e
 .have hy:y∈s.f'++[x]++(s.hn++s.on):=hy;rcases w0w.mp hy with hy|hy
  .rcases w0w.mp hy with hy|hy
   .exact h.ok y (w1h _ hy)
   .rw[w0u.mp hy];exact⟨h1,h2⟩
  .exact h.ok y (w0e _ hy)
 .let⟨g,hg,rfl⟩:=w1e.mp hf;have:=z6f (m:=s.f'.J) (h.fF g hg);show dz (s.f'++[x]++s.hn).J _
  rwa [show(s.f'++[x]++s.hn).J=(s.f'++s.hn).J+1 by simp;omega]
def Us{s:gp}(h:s.VF)(x:eh):gp.ar ⟨s.f'++[x],s.hn,s.on,s.bs,s.fs.ej (iQ s.f'.J)⟩=s.ar.my 0 (cw s.f'++" "++x):=by
 have e:cw (s.f'++[x])=cw s.f'++" "++x:=by
  unfold cw;rw[show(" ":eh)=tx [32]from rfl,<- rE x,nC,nC];show tx (105::110::_)=tx ((105::110::_)++[32]++_);simp[aX,tx]
 rw[<- e];exact za' x h.hf
def VF.Yn{s:gp}(h:s.VF){on gs}(hl:on.J=gs.J)(h6:on.J<=6)(hn:(s.f'++(s.hn++on)).p9)(ho:∀x∈on,ro x=true/\x∉b_)(hg:∀f∈gs,dz (s.f'++s.hn).J f):gp.VF ⟨s.f',s.hn,on,s.bs,s.fs.n5 s.bs.J++gs⟩:=by
 have l1:(s.fs.n5 s.bs.J).J=s.bs.J:=by have:=h.hf;rw[w1i];omega
 refine⟨h.hb,by show s.bs.J<=L.J (_++_);rw[w0g];omega,by show on.J=L.J (_++_)-s.bs.J;rw[w0g];omega,h.h3,h.h4,h6,hn,λx hx=>?_,λf hf=>?_⟩
 .have hx:x∈s.f'++(s.hn++on):=hx;rw[<- w0k]at hx;rcases w0w.mp hx with hx|hx
  .exact h.ok x (by rw[<- w0k];exact w1h _ hx)
  .exact ho x hx
 .rcases w0w.mp hf with hf|hf
  .exact h.fF f (w3a hf)
  .exact hg f hf
def JO(o:dt):L eh:=(L.so o).ej λk=>tx [111,97+k]
def A7(o:dt):gp:=⟨[],[],JO o,[],L.oS o (.is false)⟩
theorem U_:∀o,o<=6->(A7 o).ar=("in":eh)::(L.so o).ej λk=>("out o":eh)++tx [97+k]++" = no"
 |0,_=>by decide +kernel
 |1,_=>by decide +kernel
 |2,_=>by decide +kernel
 |3,_=>by decide +kernel
 |4,_=>by decide +kernel
 |5,_=>by decide +kernel
 |6,_=>by decide +kernel
 |n+7,h=>nS h (by omega)
theorem Ut:∀o,o<=6->(JO o).p9/\∀x∈JO o,ro x=true/\x∉b_
 |0,_=>by decide +kernel
 |1,_=>by decide +kernel
 |2,_=>by decide +kernel
 |3,_=>by decide +kernel
 |4,_=>by decide +kernel
 |5,_=>by decide +kernel
 |6,_=>by decide +kernel
 |n+7,h=>nS h (by omega)
def y95{o:dt}(h:o<=6):(A7 o).VF:=by
 let⟨h1,h2⟩:=Ut o h;refine⟨rfl,w1k _,by show(L.ej _ _).J=(L.oS _ _).J-0;simp,w1k _,w1k _,by show(L.ej _ _).J<=6;simp;exact h,h1,h2,λf hf=>?_⟩
 rw[(w5b.mp hf).2];exact⟨trivial,by decide,by decide⟩
def z6h(e:L S){z0 z2 z4 z5 z6 z7 z8 z9 rL:S}{w1 w2:W}(h:¬(0<mZ%3/\0<m)):
  zJ K a (g9 K a 150) [z0,.fr (.ff [.d0 (m:eW),w1,w2]),z2,.fr (.d0 mZ),z4,z5,z6,z7,z8,z9,rL]=AU K a (g9 K a 150) [z0,.fr (.ff [.d0 (m:eW),w1,w2]),z2,.fr (.d0 mZ),z4,z5,z6,z7,z8,z9,rL]:=by
 unfold zJ;rw?
 by_cases h1:0<mZ%3
 .rw[gE h1,kl (by omega)]
 .rw[kl h1]
def U'(ws:L W)(k:dt):fE ws none (O (k:eW))=ws.n5 k:=by
 unfold fE;rw[HT.kH,HT.gw];show(ws.m9 0).n5 _=_;rw[w5e,dt.Ŭ,<- L.take_take,w1u (w0d ws.J)]
def Ec(ws:L W)(k:dt):wu (.ff ws) none (O (k:eW))=O (.ff (ws.n5 k)):=by
 show(if ¬(HT.cn ws.J 0 none=0/\HT.cn ws.J ws.J (O (k:eW))=ws.J)then O (W.ff (fE ws none (O (k:eW))))else O (W.ff ws))=_;split
 .rw[U']
 .rename_i h;have h:=(È.not_not.mp h).2;rw[HT.gw]at h;rw[w1u (by omega)]
theorem JF(x y z:L eh):aU (dI x y z) (.d0 0)=O (.ff (x.ej .str)):=rfl
theorem WN(x y z:L eh):aU (dI x y z) (.d0 1)=O (.ff (y.ej .str)):=rfl
theorem WO(x y z:L eh):aU (dI x y z) (.d0 2)=O (.ff (z.ej .str)):=rfl
def Uu(ns:L eW)(mZ:eW){hn:L eh}{bs:L fJ}{fs:L Fm}(hg:gs.J<=6)(ho:on.J=gs.J)(hl:f'.J+hn.J<=10)(hx:g9 K a 150 zX [dI f' hn on]=.ok (.fr (.str x))):
  JP K a (g9 K a 150) [.fr (.fy (ns.ej .d0)),.fr (uW m bs fs),.fr (dI f' hn on),.fr (.d0 mZ),.fr (.ff (gs.ej mE)),.fr (dI f' hn on),.no,.no,.no,.no,.no]=.nx [.fr (.fy (ns.ej .d0)),.fr (uW m bs fs),.fr (dI f' hn on),.fr (.d0 mZ),.fr (.ff ((if gs.J<6 then gs++[.is (decide (mZ / 3%2=1))]else gs.n5 5).ej mE)),.fr (dI f' hn (if gs.J<6 then on++[x]else on.n5 5)),.no,.no,.no,.no,.no]:=by
 have r1:∀w:W,rF (.ff [w]) (.d0 1)=O (.ff [w]):=λw=>rfl
 have r0:∀w:W,rF (.ff [w]) (.d0 0)=O (.ff []):=λw=>rfl
 unfold JP;rw?;rw[show wu (.ff (gs.ej mE)) none (O 5)=_ from Ec (gs.ej mE) 5];rw?
 have go:∀(o2:L W),o2.J<=6->aG 5 (bI (aa (ag aU (ae 2) (dC (.d0 0))) (aa (ag aU (ae 2) (dC (.d0 1))) (aa (e8 (ag a_ (ag aU (ae 2) (dC (.d0 2))) (bI (aa (aA (g9 K a 150 zX) (aa (ae 2) af)) af))) bG (cB (ck bo (aa (ae 4) af)))) af)))) [.fr (.fy (ns.ej .d0)),.fr (uW m bs fs),.fr (dI f' hn on),.fr (.d0 mZ),.fr (.ff o2),.fr (dI f' hn on),.no,.no,.no,.no,.no]=.nx [.fr (.fy (ns.ej .d0)),.fr (uW m bs fs),.fr (dI f' hn on),.fr (.d0 mZ),.fr (.ff o2),.fr (dI f' hn ((on++[x]).n5 o2.J)),.no,.no,.no,.no,.no]:=λo2 nO=>by
  rw?;rw[JF];rw?;rw[WN];rw?;rw[WO];rw?;rw[hx];rw?;rw[gE (by rw[w0b];omega)];rw?;rw[show wu (.ff (on.ej .str++[.str x])) none (O ((o2.J:dt):eW))=O (.ff (((on++[x]).n5 o2.J).ej .str)) by rw[Ec,w3e,w0m];rfl];rw?;rfl
 by_cases h:gs.J<6
 .rw[w0b,gE (by omega),r1,gE h,gE h];rw?;rw[gE (by rw[w1i,w0b];omega)];have g:=go ((gs.ej mE).n5 5++[.ff [.str "is", .bl (decide (mZ / 3%2=1))]]) (by rw[w0g,w1i,w0b,w2b];omega)
  have e1:(gs.ej mE).n5 5++[.ff [.str "is", .bl (decide (mZ / 3%2=1))]]=(gs++[Fm.is (decide (mZ / 3%2=1))]).ej mE:=by
   rw[w1u (by rw[w0b];omega),w0m];rfl
  have e2:(on++[x]).n5 ((gs.ej mE).n5 5++[W.ff [.str "is", .bl (decide (mZ / 3%2=1))]]).J=on++[x]:=w1u (by rw[w0g,w0g,w1i,w0b,w2b,w2b];omega);rw[e2,e1]at g;rw[e1];exact g
 .rw[w0b,kl (by omega),r0,kl h,kl h];rw?;rw[gE (by rw[w1i,w0b];omega),w0s];have g:=go ((gs.ej mE).n5 5) (by rw[w1i,w0b];omega)
  have e2:(on++[x]).n5 ((gs.ej mE).n5 5).J=on.n5 5:=by
   rw[w1i,w0b,w2u (by omega),w4n (by omega)]
  rw[e2,<- w3e]at g;rw[<- w3e];exact g
def y5q(h:xs.J<=3)(hx:∀x∈xs,x.J<=8):(cw xs).J<=1000:=by
 have e:(cw xs).J=2+(xs.Nn λx=>32::aX x).J:=by
  unfold cw;simp only[tx,eh.J];show(105::110::_:L dt).ky.eG=_;rw[w0i,w0r,w0r];omega
 have s:=Ah (g:=λx:eh=>(32::aX x).J) (b:=9) xs λx hm=>by
  have:=hx x hm;have l:(aX x).J=x.J:=by simp[aX,eh.J]
  rw[w0r,l];omega
 rw[e,w4x];have:xs.J*9<=3*9:=w6b _ h;omega
def UR(k:dt)(h:k<6):aU (.str "abcdefg") (.d0 (k:eW))=O (.str (tx [97+k])):=by
 obtain rfl|rfl|rfl|rfl|rfl|rfl:k=0\/k=1\/k=2\/k=3\/k=4\/k=5:=by omega
 all_goals rfl
def Va(r:dt->L W->FR)(k:dt)(h:k<6):∃e',GN K a r [.fr (.d0 (k:eW))]=.ok (.str (("out o":eh)++tx [97+k]++" = no")) e':=by
 unfold GN;rw?;rw[UR k h];rw?;have l1:("out o":eh).J=5:=by decide +kernel
 have l2:(" = no":eh).J=5:=by decide +kernel
 have l3:(tx [97+k]).J=1:=rfl;rw[gE (by omega),gE (by rw[o8];omega)];exact⟨_,rfl⟩
def z6i(r:dt->L W->FR)(o:dt)(h:o<=6):cq cP (GN K a r) [] (bQ 0 (o:eW))=O ((L.so o).ej λk=>W.str (("out o":eh)++tx [97+k]++" = no")):=by
 rw[Rg,xI (cc:=cP) (λk:dt=>W.d0 (k:eW)) (λk=>W.str (("out o":eh)++tx [97+k]++" = no")) (λ_=>true) (L.so o) λk hk=>⟨_,rfl,λ_=>Va r k (by have:=w2e.mp hk;omega)⟩]
 rw[w2i.rj λ_ _=>rfl]
def US(ns:L eW){s:gp}(hs:s.VF){w5 w6:W}(hx:g9 K a 150 zX [dI s.f' s.hn s.on]=.ok (.fr (.str x)))(Oa:x.J<=8):
  ∃s7,Fj K a (g9 K a 150) [.fr (.fy (ns.ej .d0)),.fr (uW s.f'.J s.bs s.fs),.fr (dI s.f' s.hn s.on),.fr (.d0 mZ),.fr (.ff ((s.fs.m9 s.bs.J).ej mE)),.fr w5,.fr w6,.gD none (s.ar.ej .str),.no,.no,.no]=.nx [.fr (.fy (ns.ej .d0)),.fr (uW s.f'.J s.bs s.fs),.fr (dI s.f' s.hn s.on),.fr (.d0 mZ),.fr (.ff ((s.fs.m9 s.bs.J).ej mE)),.fr w5,.fr w6,s7,.no,.no,.no] /\
   (s7=.gD none ((s.ar.my 0 (cw s.f'++" "++x)).ej .str)/\s.f'.J<3\/s7=.fr (.fy ((A7 (s.fs.J-s.bs.J)).ar.ej .str))/\2<=s.f'.J):=by
 have hL:s.ar=cw s.f'::s.ar._O:=rfl;unfold Fj;rw[hL];simp only[w0j];rw?;have hl:=y5q hs.h3 λy hy=>(qq (hs.ok y (w1h _ hy)).1).2.2.1
 have lb:(" ":eh).J=1:=by decide +kernel
 rw[gE (by omega),hx];rw?;rw[gE (by rw[o8];omega)];rw?;rw[show oJ ((s.ar._O.ej W.str).J+1) 0=O 0 from by unfold oJ;simp];rw?;have ho:s.fs.J-s.bs.J<=6:=by rw[<- hs.ho];exact hs.h6
 have h3:=hs.h3
 have nl:∀xs:L eh,bo [.ff (xs.ej .str)]=O (.d0 (xs.J:eW)):=λxs=>by
  show O (W.d0 ((xs.ej W.str).J:eW))=_;rw[w0b]
 have lo:((s.fs.m9 s.bs.J).ej mE).J=s.fs.J-s.bs.J:=by rw[w0b,w1j]
 have vR:W.str "in"::(L.so (s.fs.J-s.bs.J)).ej (λk=>W.str (("out o":eh)++tx [97+k]++" = no"))=(A7 (s.fs.J-s.bs.J)).ar.ej .str:=by
  rw[U_ _ ho,w0j,w1f];rfl
 have cm:=z6i (K:=K) (a:=a) (g9 K a 150) _ ho;rw[JF];rw?;rw[w0b]
 by_cases c3:(s.f'.J:eW)=3
 .rw[gE c3];rw?;rw[lo,gE (o4 (by omega) (by omega))];rw?;rw[gE (by rw[v5];omega),cm];rw?;rw[gE (by simp;omega)];exact⟨.fr (.fy ((A7 (s.fs.J-s.bs.J)).ar.ej .str)),by rw[<- vR],.j' ⟨rfl,by omega⟩⟩
 .rw[kl c3,JF];rw?;rw[w0b]
  by_cases c2:(s.f'.J:eW)=2
  .rw[gE c2]
   by_cases c4:mZ%3=2
   .rw[gE c4];rw[lo,gE (o4 (by omega) (by omega))];rw?;rw[gE (by rw[v5];omega),cm];rw?;rw[gE (by simp;omega)];exact⟨.fr (.fy ((A7 (s.fs.J-s.bs.J)).ar.ej .str)),by rw[<- vR],.j' ⟨rfl,by omega⟩⟩
   .rw[kl c4];exact⟨_,rfl,.h8 ⟨rfl,by omega⟩⟩
  .rw[kl c2];exact⟨_,rfl,.h8 ⟨rfl,by omega⟩⟩
def y96{bs:L fJ}{fs:L Fm}(h:bs.J<=fs.J):uW m bs (fs.n5 bs.J++gs)=.ff [.d0 (m:eW),.ff (cZ (bs.ej .bl) ((fs.n5 bs.J).ej mE)),.ff (gs.ej mE)]:=by
 have l:(fs.n5 bs.J).J=bs.J:=by rw[w1i];omega
 unfold uW;rw[w5v l,L.drop_left' l]
def Th(ns:L eW){s t:gp}(ht:t.VF)(hb:s.bs.J<=s.fs.J){on gs}(e:t=⟨s.f',s.hn,on,s.bs,s.fs.n5 s.bs.J++gs⟩):∃w6,C9 K a (g9 K a 150) [.fr (.fy (ns.ej .d0)),.fr (uW s.f'.J s.bs s.fs),.fr (dI s.f' s.hn s.on),.fr (.d0 mZ),.fr (.ff (gs.ej mE)),.fr (dI s.f' s.hn on),.no,.no,.no,.no,.no]=zJ K a (g9 K a 150) [.fr (.fy (ns.ej .d0)),.fr (uW s.f'.J s.bs s.fs),.fr (dI s.f' s.hn s.on),.fr (.d0 mZ),.fr (.ff (gs.ej mE)),.fr (dI s.f' s.hn on),.fr w6,.gD none (t.ar.ej .str),.no,.no,.no]:=by
 have hl:=ht.lines (K:=K) (a:=a) 143;subst e;have hl:g9 K a 150 zV [dI s.f' s.hn on,uW s.f'.J s.bs (s.fs.n5 s.bs.J++gs)]=_:=hl;rw[y96 hb]at hl;refine⟨.ff [.d0 (s.f'.J:eW),.ff (cZ (s.bs.ej .bl) ((s.fs.n5 s.bs.J).ej mE)),.ff (gs.ej mE)],?_⟩;unfold C9;rw?;rw[show aU (uW s.f'.J s.bs s.fs) (.d0 0)=O (.d0 (s.f'.J:eW))from rfl];rw?;rw[show aU (uW s.f'.J s.bs s.fs) (.d0 1)=O (.ff (cZ (s.bs.ej .bl) ((s.fs.n5 s.bs.J).ej mE)))from rfl];rw?;rw[hl];rw?
def y97(M:nM K mg a)(ns:L eW)(hl:ns.J<=63):g9 K a 151 Nh [.fy (ns.ej .d0)]=.ok (.fr (.bl true)):=by
 let⟨m,bs,fs,hm,h5,hc,hb,ho,hf,e⟩:=zav (K:=K) (a:=a) 147 ns;let⟨xs,x1,x2,x3,x4⟩:=y40 (K:=K) (a:=a) 147 ns m bs fs h5 hb ho
 have ex:xs=xs.n5 m++((xs.m9 m).n5 bs.J++xs.m9 (m+bs.J)):=by
  rw[<- w6f,w2p,w2p]
 have l1:(xs.n5 m).J=m:=by rw[w1i];omega
 have l2:((xs.m9 m).n5 bs.J).J=bs.J:=by rw[w1i,w1j];omega
 have l3:(xs.m9 (m+bs.J)).J=fs.J-bs.J:=by rw[w1j];omega
 generalize xs.n5 m=f' at ex l1 x4;generalize (xs.m9 m).n5 bs.J=hn at ex l2 x4;generalize xs.m9 (m+bs.J)=on at ex l3 x4;subst ex;subst l1;have fF:∀f∈fs,dz (f'++hn).J f:=by rw[w0g,l2];exact hf
 have hs:gp.VF ⟨f',hn,on,bs,fs⟩:=⟨l2,hb,l3,hm,by show hn.J<=4;omega,by show on.J<=6;omega,x2,x3,fF⟩;have x4:g9 K a 150 FV [.fy (ns.ej .d0),uW f'.J bs fs]=.ok (.fr (dI f' hn on)):=x4;have vd:(f'++hn++on).J<26:=by rw[w0g,w0g];omega
 let⟨x,f1,f2,f3,f4⟩:=y94 (K:=K) (a:=a) 149 f' hn on vd;have ld:(fs.m9 bs.J).J=fs.J-bs.J:=w1j ..;have pb:=Uu (K:=K) (a:=a) ns (ns.mF 10 0) (f':=f') (hn:=hn) (on:=on) (m:=f'.J) (bs:=bs) (fs:=fs) (gs:=fs.m9 bs.J) (by omega) (by omega) (by omega) f4
 have other:∀(A9:L eh)(gs:L Fm),(A9=if(fs.m9 bs.J).J<6 then on++[x]else on.n5 5)->(gs=if(fs.m9 bs.J).J<6 then fs.m9 bs.J++[.is (decide (ns.mF 10 0 / 3%2=1))]else(fs.m9 bs.J).n5 5)->gp.VF ⟨f',hn,A9,bs,fs.n5 bs.J++gs⟩/\gs.J≠fs.J-bs.J:=λA9 gs h1 h2=>by
  have nd:=x2;rw[<- w0k,w2d]at nd;let⟨n1,n2,n3⟩:=nd
  have NJ:x∉f'++hn/\x∉on:=by
   rw[w0w]at f1;exact⟨λz=>f1 (.h8 z),λz=>f1 (.j' z)⟩
  by_cases c:(fs.m9 bs.J).J<6
  .rw[gE c]at h1 h2;subst h1;subst h2;refine⟨VF.Yn hs (by rw[w0g,w0g];show on.J+1=_+1;omega) (by rw[w0g];show on.J+1<=6;omega) ?_ (λy hy=>?_) λf hf=>?_,by rw[w0g,w2b];omega⟩
   .show(f'++(hn++(on++[x]))).p9;rw[<- w0k,w2d];refine⟨n1,w2d.rj ⟨n2,by simp,λy hy z hz e=>?_⟩,λy hy z hz e=>?_⟩
    .rw[w0u.mp hz]at e;exact NJ.2 (e ▸ hy)
    .rcases w0w.mp hz with hz|hz
     .exact n3 y hy z hz e
     .rw[w0u.mp hz]at e;exact NJ.1 (e ▸ hy)
   .rcases w0w.mp hy with hy|hy
    .exact x3 y (w0e _ (w0e _ hy))
    .rw[w0u.mp hy];exact⟨f2,f3⟩
   .rcases w0w.mp hf with hf|hf
    .exact fF f (w2y hf)
    .rw[w0u.mp hf];exact⟨trivial,show 1<=6 by decide,show 1<=12 by decide⟩
  .rw[kl c]at h1 h2;subst h1;subst h2;refine⟨VF.Yn hs (by rw[w1i,w1i];omega) (by rw[w1i];omega) ?_ (λy hy=>x3 y (w0e _ (w0e _ (w3a hy)))) λf hf=>fF f (w2y (w3a hf)),by rw[w1i];omega⟩
   show(f'++(hn++on.n5 5)).p9;rw[<- w0k,w2d];exact⟨n1,n2.ġ (w4g _ _),λy hy z hz=>n3 y hy z (w3a hz)⟩
 generalize Wf:(if(fs.m9 bs.J).J<6 then on++[x]else on.n5 5)=A9 at pb;generalize Fb:(if(fs.m9 bs.J).J<6 then fs.m9 bs.J++[Fm.is (decide (ns.mF 10 0 / 3%2=1))]else(fs.m9 bs.J).n5 5)=gs at pb;let⟨ht,fY⟩:=other A9 gs Wf.symm Fb.symm;have lt:(fs.n5 bs.J++gs).J=bs.J+gs.J:=by rw[w0g,w1i];omega
 have skip:ns.mF 10 0%3=0\/f'.J=0->¬(0<ns.mF 10 0%3/\0<f'.J):=λh=>by omega
 have post:(ns.mF 10 0%3=0\/f'.J=0)->(C9 K a (g9 K a 150) [.fr (.fy (ns.ej .d0)),.fr (uW f'.J bs fs),.fr (dI f' hn on),.fr (.d0 (ns.mF 10 0)),.fr (.ff (gs.ej mE)),.fr (dI f' hn A9),.no,.no,.no,.no,.no]).fn=.ok (.fr (.bl true)):=λh=>by
  let⟨w6,g⟩:=Th (K:=K) (a:=a) ns (s:=⟨f',hn,on,bs,fs⟩) ht hb rfl (mZ:=ns.mF 10 0);refine(Yc SR.fn (Eq.iD g (z6h [] (mZ:=ns.mF 10 0) (m:=f'.J) (skip h)))).iD ?_;exact sW M ns hs ht (.j' (by show fs.J-bs.J≠(fs.n5 bs.J++gs).J-bs.J;omega)) (.h8 rfl) _ _ _ _
 rw[z5h];unfold Ni;rw?;rw[e];rw?;rw[x4];rw?;rw[Aa 149 ns (k:=10) (by omega)];rw?;rw[show aU (uW f'.J bs fs) (.d0 2)=O (.ff ((fs.m9 bs.J).ej mE))from rfl];rw?
 by_cases c1:ns.mF 10 0%3=0
 .rw[gE c1,pb];rw?;exact post (.h8 c1)
 .rw[kl c1,show aU (uW f'.J bs fs) (.d0 0)=O (.d0 (f'.J:eW))from rfl];rw?
  by_cases c2:(f'.J:eW)=0
  .rw[gE c2,pb];rw?;exact post (.j' (by omega))
  .rw[kl c2];rw?;have es:(⟨f',hn,on,bs,fs⟩:gp)=⟨f',hn,on,bs,fs.n5 bs.J++fs.m9 bs.J⟩:=by rw[w2p]
   let⟨w6,g⟩:=Th (K:=K) (a:=a) ns (s:=⟨f',hn,on,bs,fs⟩) hs hb es (mZ:=ns.mF 10 0);rw[show C9 K a (g9 K a 150) _=_ from g];let⟨s7,g7,h7⟩:=US (K:=K) (a:=a) ns (s:=⟨f',hn,on,bs,fs⟩) hs (mZ:=ns.mF 10 0) (x:=x) (w5:=dI f' hn on) (w6:=w6) f4 (qq f2).2.2.1
   have zcB:zJ K a (g9 K a 150) [.fr (.fy (ns.ej .d0)),.fr (uW f'.J bs fs),.fr (dI f' hn on),.fr (.d0 (ns.mF 10 0)),.fr (.ff ((fs.m9 bs.J).ej mE)),.fr (dI f' hn on),.fr w6,.gD none ((⟨f',hn,on,bs,fs⟩:gp).ar.ej .str),.no,.no,.no]=AU K a (g9 K a 150) [.fr (.fy (ns.ej .d0)),.fr (uW f'.J bs fs),.fr (dI f' hn on),.fr (.d0 (ns.mF 10 0)),.fr (.ff ((fs.m9 bs.J).ej mE)),.fr (dI f' hn on),.fr w6,s7,.no,.no,.no]:=by
    unfold zJ;rw?;rw[gE (by omega),show aU (uW f'.J bs fs) (.d0 0)=O (.d0 (f'.J:eW))from rfl];rw?;rw[gE (by omega),show Fj K a (g9 K a 150) _=_ from g7];rw?
   rw[show zJ K a (g9 K a 150) _=_ from zcB];rcases h7 with⟨rfl,h3⟩|⟨rfl,h3⟩
   .rw[<- Us hs x];exact sW M ns hs (VF.EY hs h3 f1 f2 f3) (.h8 (by show f'.J≠(f'++[x]).J;rw[w0g,w2b];omega)) (.h8 rfl) _ _ _ _
   .exact sW M ns hs (y95 (by show fs.J-bs.J<=6;omega)) (.h8 (by show f'.J≠0;have h3:2<=f'.J:=h3;omega)) (.j' rfl) _ _ _ _
end
theorem walk{l:kd.W._U}{q:qM}{Τ:L eh}{XP:(eh->fG e5)->fH->Prop}{YP:pT->fH->Prop}{d:ĩ}{K:Ï->Fg}{rX:L (fh×eh)}(hn:l.ZK=O 63)(yN:d.p7.Ý=[])
  (hY:∀(w:pT)(h:fH),YP w h->(K w.p7).In h)(hT:∀(w:pT)(h:fH),YP w h->∀P∈rX.ej (·.1),h.f6 P=O (ϐ #[]))
  (hG:∀w:pT,((D.dZ (K w.p7)).fI EO).sG=true)(Cf:∀w:pT,hV (K w.p7)=true)(hd:rX.oP (λp=>rX.fI p.1==O p.2)=true)
  (hK:∀w:pT,rX.oP (λp=>((D.dZ (K w.p7)).fI p.1).isNone)=true)(hc:∀w:pT,∀p∈rX,∃c,Û (K w.p7) c p.1=true)
  (F:∀(w:pT)(mg:eh->fG e5)(fa:fh)(h:fH),(D.dy (D.dZ (K w.p7)) rX).In h->h.Ns EO mg->mg d.name=O (.ei fa) ->
   ∃fd:Zp,(∀(s:kx)(u:e5),_r s fd ⟨[u],[]⟩ [("_law_script", u)])/\∀g0:fH,(D.dy (D.dZ (K w.p7)) rX).In g0->g0.Ns EO mg->ZQ g0 mg->fN l.g_ w (D.dy (D.dZ (K w.p7)) rX) mg g0 (eJ l.g_ w) 151 fa fd ["_law_script"] (qv (D.dy (D.dZ (K w.p7)) rX))):
  kd.W.ù q Τ XP YP l.pS.ϑ d [] (λf vs=>kd.zN f vs):=
 L2.y8j (K:=λp=>D.dy (D.dZ (K p)) rX) (rX:=rX) (n:=63) (k:=151) (x:="_law_script") (CX:=λw=>eJ l.g_ w) (sp:=λw=>qv (D.dy (D.dZ (K w.p7)) rX)) hn (by decide) yN ⟨rfl,by decide,by decide,rfl⟩ (λw h Y=>D.Ji (hG w) (D.y8d (hY w h Y))) F (λ_ _ a ns hl hS=>⟨a,ns,rfl,hS,hl,λ_=>rfl⟩) (λ_ _ _ _ _ z=>z8l z)
  (λw=>D.zbg (D.Y' (Cf w)) hd) (λw h Y=>D.z5e (hY w h Y) (hT w h Y) (hc w)) (λw=>D.lQ (hG w) (hK w))
end Q
open PySem PySem.W PyProof.Rows
set_option maxRecDepth 100000 in
set_option maxHeartbeats 0 in
theorem PySem.Challenge.cw_circuits_k77_told_refused_holds : PySem.Challenge.rw_circuits_k77_told_refused.Holds := by
 w_on; o_law; k_head; (case hw => w_witness2)
 k_fill
 refine Q.walk (l := PySem.Challenge.rw_circuits_k77_told_refused) (tabs := [(199, ("machine_of" ++ ".<locals>.") ++ "<lambda>")]) rfl rfl (fun w h Y => PySem.W.km_in_of Y) (fun w h Y => PySem.W.km_tabs_of Y) (fun w => by kernel_rfl) (fun w => by kernel_rfl) (by decide +kernel) (fun w => by kernel_rfl) (fun w => w3t.mpr ⟨⟨203, by kernel_rfl⟩, fun _ h => nomatch h⟩) ?F
 case F =>
  intro w mg fa h KX G hmg;refine' Q.mk hmg ?zA ?zB ?zM ?zK 150 ?hL
  (case zA =>
   intro i h
   (iterate 49 (rcases i with _ | i; · exact Q.at_k KX G (D.ns_m (D.q3b (by k_is) (by kernel_rfl))) (D.q5n (D.q1f (by k_is) (by kernel_rfl))) (D.Q1g (D.x7m (by k_is) (by kernel_rfl))) (D.Q1h (by kernel_rfl)) fun _ _ _ _ _ _ => by first | exact Q.us1 fun _ => rfl | exact Q.us2 fun _ _ => rfl | exact Q.us3 fun _ _ _ => rfl))
   exact absurd h (by omega))
  (case zB => constructor <;> first | exact mg_none_of KX G (D.ns_m (D.q3b (by k_is) (by kernel_rfl))) | exact ⟨_, mg_of KX G (D.ns_m (D.q3b (by k_is) (by kernel_rfl))), D.z4i (by kernel_rfl) (by decide) (by kernel_rfl) ⟨_, (D.q5n (D.q1f (by k_is) (by kernel_rfl))), rfl, rfl⟩⟩ | exact ⟨_, mg_of KX G (D.ns_m (D.q3b (by k_is) (by kernel_rfl))), _, (D.q5n (D.q1f (by k_is) (by kernel_rfl))), by kernel_rfl, by kernel_rfl⟩)
  (case zM => constructor <;> first | trivial | exact mg_of KX G (D.ns_m (D.q3b (by k_is) (by kernel_rfl))) | exact D.no_m (by kernel_rfl) D.y8e | kernel_rfl)
  (case zK => exact w3t.mpr ⟨Q.mk_k (st := Q.s8 10) KX G (D.ns_m (D.q3b (by k_is) (by kernel_rfl))) (D.q5n (D.q1f (by k_is) (by kernel_rfl))) rfl (show codeHdIn _ _ 199 = true by kernel_rfl) (w0e _ (by simp; rfl)), fun _ h => nomatch h⟩)
  (case hL => exact fun a M ns hl => Q.y97 M ns hl)
