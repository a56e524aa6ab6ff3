import PyProof.Rows.All
import Wide.All
import OpenK.AllK
import Wide.FinOn
import PyProof.TupleKey
import PyProof.EqAt
import PyProof.EqKinds
import Wide.Seal
import Lean
import PyProof.TupleCall
import KE.KTryMore
import KE.KRevIter
import PyProof.CollectIter
import PyProof.ConsumeWalk
import PyProof.TupleOfStr
import KE.KIsAll
import PyProof.ExcArgs
import PyProof.ExcAttrAll.ValueError
import PyProof.CompUse
import PyProof.NeKinds
import PyProof.EnumIter
import PyProof.EnumFor
import PyProof.EnumMake
import PyProof.EnumStmt
import PyProof.ListMulRoad
import PyProof.ZipIter
import PyProof.TupleIter
import PyProof.Rows.SortWalk
import PyProof.SetKind
import PyProof.Rows.SetFrom
import PyProof.FactsAll.set_1
import KE.KDictSum
import PyProof.FactsAll.set_2
import PyProof.FactsAll.tuple_2
import PyProof.ReprRoads
import PyProof.Rows.SeqMore
import PyProof.ReprLen
import PyProof.WalkInts
import PyProof.SeqI3
import PyProof.Rows.TupIter
import PyProof.ListRange
import PyProof.SumWalk
import PyProof.DictIter
import PyProof.DictWalks
import PyProof.DictRoadsH
import PyProof.DictTruth
import KE.KDictList
import PyProof.Rows.TupDisplay
import PyProof.Draws
import PyProof.StrBlockI
import PyProof.StrLawsIn
import PyProof.StrOps2
import PyProof.ReprStr
import PyProof.ListNew
import PyProof.Rows.SortRev
import KE.KMinKey
import PyProof.Rows.SortStr
import PyProof.Rows.SortRunsK
import PyProof.Rows.SortKeyStr
import KE.RegMulBits
import KE.KRevSl
import PyProof.CallStr
import PySem.Challenge.RW_circuits_k68_made_refused
set_option Elab.async false
set_option linter.all false
set_option maxRecDepth 100000
set_option maxHeartbeats 1000000
local macro_rules | `(tactic| cases $h:ident) => `(tactic| first | (guard_hyp $h : _ = _; first | subst $h:ident | (injection $h:ident; done) | (injection $h:ident with z1 z2 z3; cases z1; cases z2; cases z3) | (injection $h:ident with z1 z2; cases z1; cases z2) | (injection $h:ident with z1; cases z1)) | cases ($h))
local macro_rules | `(tactic| omega) => `(tactic| first | with_reducible assumption | decide | with_reducible exact Nat.le_refl _ | with_reducible exact Nat.zero_le _ | lia)
set_option genSizeOf false
set_option genInjectivity false
set_option compiler.extract_closed false
local macro_rules | `(tactic| walk_at "1") => `(tactic| (first | exact Or.inl rfl | exact Or.inr (Or.inl rfl) | exact Or.inr (Or.inr rfl)))
local macro_rules | `(tactic| walk_at "2") => `(tactic| (first | exact .inl rfl | exact .inr rfl | assumption))
local macro_rules | `(tactic| walk_at "3") => `(tactic| (first | exact Or.inl rfl | exact Or.inr rfl))
open PySem.W (codeHdIn exmOne findIn hideAll_get keepIn kia_one kitOne kla_fn kla_obj methodObj pyHash_slot specialIn tabObj takesIn)
def w0a:=@List.length_map
def w0b:=@List.getElem?_eq_some_iff
def w0c:=@Nat.le_refl
def w0d:=@List.getElem?_eq_getElem
def w0e:=@List.mem_cons
def w0f:=@List.getElem?_cons_succ
def w0g:=@List.getElem?_set_ne
def w0h:=@Option.map_eq_some_iff
def w0i:=@List.getElem?_set_self
def w0j:=@List.mem_append_right
def w0k:=@List.getElem?_cons_zero
def w0l:=@List.map_cons
def w0m:=@Nat.ne_of_lt
def w0n:=@Bool.and_eq_true
def w0o:=@Nat.pow_le_pow_right
def w0p:=@List.mem_cons_of_mem
def w0q:=@List.mem_map
def w0r:=@Nat.lt_of_lt_of_le
def w0s:=@Nat.le_trans
def w0t:=@List.map_map
def w0u:=@List.mem_of_getElem?
def w0v:=@List.length_range
def w0w:=@List.all_eq_true
def w0x:=@List.map_append
def w0y:=@List.not_mem_nil
def w0z:=@List.mem_range
def w1a:=@Nat.zero_le
def w1b:=@List.mem_cons_self
def w1c:=@List.size_toArray
def w1d:=@Option.bind_eq_some_iff
def w1e:=@List.length_cons
def w1f:=@Bool.false_ne_true
def w1g:=@List.mem_singleton
def w1h:=@List.mem_filter
def w1i:=@List.getElem?_map
def w1j:=@List.set_cons_succ
def w1k:=@List.set_cons_zero
def w1l:=@Bool.or_eq_true
def w1m:=@List.map_congr_left
def w1n:=@List.getElem_mem
def w1o:=@Int.toNat_natCast
def w1p:=@Nat.pow_succ
def w1q:=@Option.isSome_iff_exists
def w1r:=@Nat.lt_succ_of_lt
def w1s:=@List.replicate_succ
def w1t:=@Bool.eq_iff_iff
def w1u:=@List.find?_cons
def w1v:=@List.mem_map_of_mem
def w1w:=@List.getElem?_append_right
def w1x:=@List.length_append
def w1y:=@Nat.zero_add
def w1z:=@List.take_append_drop
def w2a:=@List.mem_append_left
def w2b:=@List.nodup_cons
def w2c:=@List.foldl_cons
def w2d:=@List.append_nil
def w2e:=@List.all_cons
def w2f:=@List.mem_filterMap
def w2g:=@Nat.ne_of_gt
def w2h:=@List.length_replicate
def w2i:=@List.cons_lt_cons_iff
def w2j:=@Bool.eq_false_iff
def w2k:=@Nat.lt_irrefl
def w2l:=@List.any_cons
def w2m:=@List.reverse_cons
def w2n:=@List.forall_mem_cons
def w2o:=@List.getElem?_append_left
def w2p:=@List.pairwise_iff_getElem
def w2q:=@List.drop_length
def w2r:=@List.getElem_of_mem
def w2s:=@List.forIn_cons
def w2t:=@List.of_mem_zip
def w2u:=@List.map_inj_right
def w2v:=@Nat.two_pow_pos
def w2w:=@List.take_succ_eq_append_getElem
def w2x:=@List.take_of_length_le
def w2y:=@List.ext_getElem?
def w2z:=@List.flatten_cons
def w3a:=@Nat.not_lt
def w3b:=@List.append_assoc
def w3c:=@Option.isSome_map
def w3d:=@Nat.le_of_ble_eq_true
def w3e:=@List.length_filter_le
def w3f:=@List.length_take
def w3g:=@List.any_eq_true
def w3h:=@Int.mul_le_mul_of_nonneg_left
def w3i:=@List.filter_cons
def w3j:=@List.mem_iff_getElem
def w3k:=@Array.toArray_toList
def w3l:=@List.mem_append
def w3m:=@Array.length_toList
def w3n:=@List.filter_eq_self
def w3o:=@Int.emod_nonneg
def w3p:=@List.nodup_iff_pairwise_ne
def w3q:=@List.map_nil
def w3r:=@List.pairwise_cons
def w3s:=@Int.emod_lt_of_pos
def w3t:=@List.forIn_nil
def w3u:=@List.drop_eq_getElem_cons
def w3v:=@List.pairwise_map
def w3w:=@List.length_erase_of_mem
def w3x:=@List.eq_of_mem_replicate
def w3y:=@List.getElem?_replicate
def w3z:=@List.length_eq_zero_iff
def w4a:=@List.length_drop
def w4b:=@Nat.le_add_right
def w4c:=@Nat.succ_ne_self
def w4d:=@Int.natCast_emod
def w4e:=@Option.bind_some
def w4f:=@List.length_pos_of_mem
def w4g:=@Nat.le_of_lt
def w4h:=@List.all_map
def w4i:=@List.any_map
def w4j:=@Int.pow_succ
def w4k:=@List.contains_iff_mem
def w4l:=@List.pairwise_flatMap
def w4m:=@List.map_set
def w4n:=@Nat.mod_lt
def w4o:=@List.length_reverse
def w4p:=@List.getElem?_range
def w4q:=@Array.forIn_toList
def w4r:=@Bool.false_eq_true
def w4s:=@List.zip_cons_cons
def w4t:=@List.map_drop
def w4u:=@Nat.add_zero
def w4v:=@List.mem_set
def w4w:=@Nat.le_succ
theorem jJ0(_:True:=by rfl):True:=trivial
def jJ:=jJ0._auto_1
theorem jK0(_:True:=by decide):True:=trivial
def jK:=jK0._auto_1
theorem jL0(_:True:=by walk_at "2"):True:=trivial
def jL:=jL0._auto_1
theorem jM0(_:True:=by walk_at "3"):True:=trivial
def jM:=jM0._auto_1
theorem jN0(_:True:=by walk_at "1"):True:=trivial
def jN:=jN0._auto_1
theorem jO0(_:True:=by grind):True:=trivial
def jO:=jO0._auto_1
abbrev Fg:=PySem.W.Frag
local macro_rules|`(Lean.Parser.Command.declaration|$m:declModifiers $d)=>do
 unless m.raw.getArgs.all (·.isNone) do Lean.Macro.throwUnsupported
 let d:=d.raw
 if d[3][1].isOfKind ``Lean.Parser.Term.byTactic&&d.isOfKind ``Lean.Parser.Command.definition then return .node .none ``Lean.Parser.Command.declaration #[m,.node .none ``Lean.Parser.Command.theorem #[.atom .none "theorem",d[1],.node .none ``Lean.Parser.Command.declSig #[d[2][0],d[2][1][0]],d[3]]]
 unless d.isOfKind ``Lean.Parser.Command.definition||d.isOfKind ``Lean.Parser.Command.abbrev do Lean.Macro.throwUnsupported
 return .node .none ``Lean.Parser.Command.declaration #[m.raw.setArg 4 (.node .none `null #[.node .none ``Lean.Parser.Command.noncomputable #[.atom .none "noncomputable"]]),d]
namespace PySem.W.Fast
theorem tw1815541217598568133:True:=trivial
theorem tw1463428927578457466:True:=trivial
theorem tw12662704357816522536:True:=trivial
theorem tw6848468757437287855:True:=trivial
theorem tw7134437157812707386:True:=trivial
theorem tw5914415319558252895:True:=trivial
theorem tw4193738692504971270:True:=trivial
theorem tw17933579362509232333:True:=trivial
theorem tw4738584275719869297:True:=trivial
theorem tw8375793318000121654:True:=trivial
theorem tw4008252288528055084:True:=trivial
theorem tw4418816832897070237:True:=trivial
theorem tw15361441576757490740:True:=trivial
theorem tw6562453713065354725:True:=trivial
theorem tw2487524257595364178:True:=trivial
theorem tw9542339976843689813:True:=trivial
theorem tw18067216407824293202:True:=trivial
theorem tw16726895274510512039:True:=trivial
theorem tw13770474415686610271:True:=trivial
theorem tw55101843472657208:True:=trivial
theorem tw7812163661634574857:True:=trivial
theorem tw16634510791843910802:True:=trivial
theorem tw13458936416300020583:True:=trivial
theorem tw6141999226036393590:True:=trivial
theorem tw8958336550319478581:True:=trivial
theorem tw13146080805252174971:True:=trivial
theorem tw12954819198108366590:True:=trivial
theorem tw16499846747788099780:True:=trivial
theorem tw3008266327874839190:True:=trivial
theorem tw8673114907171395823:True:=trivial
theorem tw5515520124435950115:True:=trivial
theorem tw17813497791282911719:True:=trivial
theorem tw2804032046085928145:True:=trivial
theorem tw7751355842260649663:True:=trivial
theorem tw4472327545634876790:True:=trivial
theorem tw12380119642655943862:True:=trivial
theorem tw10765032951876508423:True:=trivial
theorem tw11987085246402936924:True:=trivial
theorem tw8895212328601267895:True:=trivial
theorem tw10119612194056316858:True:=trivial
theorem tw17753727782584402782:True:=trivial
theorem tw9933310259207252131:True:=trivial
theorem tw10509478982871642173:True:=trivial
theorem tw10401242060302678242:True:=trivial
theorem tw13823832037248237951:True:=trivial
theorem tw16301946319113487018:True:=trivial
theorem tw15694585368821650725:True:=trivial
theorem tw4867954548658858441:True:=trivial
theorem tw8780530873013277669:True:=trivial
theorem tw5567454384053432678:True:=trivial
theorem tw5136672614386449933:True:=trivial
theorem tw3824213199099857174:True:=trivial
theorem tw1366492618922162173:True:=trivial
theorem tw15120547055812285137:True:=trivial
theorem tw16874357918800741743:True:=trivial
theorem tw8077779221502884496:True:=trivial
theorem tw15622282160392668030:True:=trivial
theorem tw15144016550555258328:True:=trivial
theorem tw8799998064204048678:True:=trivial
theorem tw6769224049697872419:True:=trivial
theorem tw16160257579349927081:True:=trivial
theorem tw10825546868100277515:True:=trivial
theorem tw1398020636538340259:True:=trivial
theorem tw13285304983242700994:True:=trivial
theorem tw876194605933843296:True:=trivial
theorem tw7073861617931715895:True:=trivial
theorem tw8914888119224517945:True:=trivial
theorem tw17400554903423081927:True:=trivial
theorem tw2660131862946448932:True:=trivial
theorem tw7985272498164273198:True:=trivial
theorem tw4683590592341807724:True:=trivial
theorem tw2186861806991472035:True:=trivial
theorem tw10257661312815480402:True:=trivial
theorem tw5079239692367323177:True:=trivial
theorem tw12045473349685321599:True:=trivial
theorem tw17558395980623839998:True:=trivial
theorem tw7344656813735447731:True:=trivial
theorem tw10772283463623413550:True:=trivial
theorem tw171373728202464169:True:=trivial
theorem tw5590663740135971656:True:=trivial
theorem tw14817706252724294240:True:=trivial
theorem tw16319778482425531061:True:=trivial
theorem tw10172477497903611475:True:=trivial
theorem tw13272515843302049565:True:=trivial
theorem tw2328997452975841621:True:=trivial
theorem tw6438091907197029285:True:=trivial
theorem tw9273632471388327308:True:=trivial
theorem tw13213085880377485090:True:=trivial
theorem tw13468704173251161007:True:=trivial
theorem tw12633356937064701327:True:=trivial
theorem tw3731970776975713278:True:=trivial
theorem tw360692313095021968:True:=trivial
theorem tw13557292614464663964:True:=trivial
theorem tw9751831978025262553:True:=trivial
theorem tw9368290438086340949:True:=trivial
theorem tw16094530069963701124:True:=trivial
theorem tw6710709941392683031:True:=trivial
theorem tw1932006162719830415:True:=trivial
theorem tw10684929980641734244:True:=trivial
theorem tw7919380888389877263:True:=trivial
theorem tw6667188200776038285:True:=trivial
theorem tw4369233085210023234:True:=trivial
theorem tw12560416238080038688:True:=trivial
theorem tw12215502620361720340:True:=trivial
theorem tw2536424228439090878:True:=trivial
theorem tw4530296916210788793:True:=trivial
theorem tw4922039442462187545:True:=trivial
theorem tw3636329200880072676:True:=trivial
theorem tw18068181852249234083:True:=trivial
theorem tw7449817772393996547:True:=trivial
theorem tw17964452761564948283:True:=trivial
theorem tw5996333170643735849:True:=trivial
theorem tw1429743128263704847:True:=trivial
theorem tw14750681199705301476:True:=trivial
theorem tw2026898155122457961:True:=trivial
theorem tw11172579837717361230:True:=trivial
theorem tw5849782629240913869:True:=trivial
theorem tw8137669389303128600:True:=trivial
theorem tw8620528064388255310:True:=trivial
theorem tw5128685260891380170:True:=trivial
theorem tw9996650036888873946:True:=trivial
theorem tw16000198001395814333:True:=trivial
theorem tw11131705064532058253:True:=trivial
theorem tw15691525357705644975:True:=trivial
theorem tw8422084791192257722:True:=trivial
theorem tw15152878100197343430:True:=trivial
theorem tw6912992457835464143:True:=trivial
theorem tw6225961379174549793:True:=trivial
theorem tw3807478777502181497:True:=trivial
theorem tw3385325709260623123:True:=trivial
theorem tw16315973009320799658:True:=trivial
theorem tw12784354319275506230:True:=trivial
theorem tw6880429470633515068:True:=trivial
theorem tw5021099096388476355:True:=trivial
theorem tw4160906257129895690:True:=trivial
theorem tw6548567264020329591:True:=trivial
theorem tw1661103343572677406:True:=trivial
theorem tw6357762996942960986:True:=trivial
theorem tw14330818635039771919:True:=trivial
theorem tw860973274133700271:True:=trivial
theorem tw12682839050434311394:True:=trivial
theorem tw11307756016241962830:True:=trivial
theorem tw9968857471420482299:True:=trivial
theorem tw18198384146580929752:True:=trivial
theorem tw2271759872678020543:True:=trivial
theorem tw6601813213204838340:True:=trivial
theorem tw4063391085253288075:True:=trivial
theorem tw16835774549636740150:True:=trivial
theorem tw1549721207202461942:True:=trivial
theorem tw1397915988351683689:True:=trivial
theorem tw2468654071956245156:True:=trivial
theorem tw9046503531593471747:True:=trivial
theorem tw15588735975697791603:True:=trivial
theorem tw12746445407874880041:True:=trivial
theorem tw14038758393120294234:True:=trivial
theorem tw7399700131979139822:True:=trivial
theorem tw8535162792479124752:True:=trivial
theorem tw445767667076866452:True:=trivial
theorem tw13003923553191271442:True:=trivial
theorem tw13892736644299975201:True:=trivial
theorem tw7475959676096074851:True:=trivial
theorem tw12106862347000437443:True:=trivial
theorem tw15163696228795031645:True:=trivial
theorem tw1573436203729661173:True:=trivial
theorem tw4832338236022681837:True:=trivial
theorem tw16419112743055488406:True:=trivial
theorem tw13826873081649044140:True:=trivial
theorem tw9306260153810042444:True:=trivial
theorem tw818915302284110755:True:=trivial
theorem tw4148256692021023847:True:=trivial
theorem tw1805198384054305392:True:=trivial
theorem tw1514711242940040268:True:=trivial
theorem tw16852876590638378378:True:=trivial
theorem tw3730045262054509661:True:=trivial
theorem tw3208681724738747527:True:=trivial
theorem tw9715352541624688012:True:=trivial
theorem tw9652464903162772182:True:=trivial
theorem tw9600613835133684605:True:=trivial
theorem tw9505126239654227131:True:=trivial
theorem tw8197492687852575134:True:=trivial
theorem tw8067256574251009601:True:=trivial
theorem tw791527593034929772:True:=trivial
theorem tw6622520953073196288:True:=trivial
theorem tw6331766566104101933:True:=trivial
theorem tw6319185142064582673:True:=trivial
theorem tw5841844717771053769:True:=trivial
theorem tw5645764317617372911:True:=trivial
theorem tw5498235840168641392:True:=trivial
theorem tw5114454787623219438:True:=trivial
theorem tw4903360520467872856:True:=trivial
theorem tw482373843371738102:True:=trivial
theorem tw4679174956487190601:True:=trivial
theorem tw4425614609510572889:True:=trivial
theorem tw4152369029482627620:True:=trivial
theorem tw3942059197421726560:True:=trivial
theorem tw3084996027939505974:True:=trivial
theorem tw3024651552340341653:True:=trivial
theorem tw2867249380519553982:True:=trivial
theorem tw2744056255797807192:True:=trivial
theorem tw2651289622314716841:True:=trivial
end PySem.W.Fast
namespace L2
open PySem PySem.Spec PyProof.Rows
variable{C a:Addr}{A:Around}{op:CmpOp}{c e tg:Expr}{fd:FuncData}{base h h':Heap}{pins:List (Addr×Obj)}{ch fp:List Addr}{es:List Expr}{N:List Str}{us:List Value}{M:Model}{i t':Nat}{p pos:Pos}{prog:Program}{K:Fg}{s:Shared}{x:Str}{mg:Str->Option Value}{u:Value}{E:Value->Shared->Prop}{f:Value->Value->Sem Value}{w:World}
set_option genInjectivity true in
inductive Kx where
 |aE|bl (b:Bool)|int (i:Int)|str (x:Str)|tup (ks:List Kx)
inductive Sh where
 |ob|bl|int|str|tup (ss:List Sh)|many (s:Sh)
noncomputable instance:DecidableEq Kx:=λ_ _=>Classical.propDecidable _
mutual
noncomputable def Kx.depth:Kx->Nat
 |.tup ks=>Kx.de ks+1
 |_=>0
noncomputable def Kx.de:List Kx->Nat
 |[]=>0
 |k::ks=>max k.depth (Kx.de ks)
end
mutual
noncomputable def fe:Kx->Sh->Prop
 |.aE,.ob=>True
 |.bl _,.ob=>True
 |.bl _,.bl=>True
 |.int _,.int=>True
 |.str _,.str=>True
 |.tup ks,.tup ss=>pG ks ss
 |.tup ks,.many s=>lK ks s
 |_,_=>False
noncomputable def pG:List Kx->List Sh->Prop
 |[],[]=>True
 |k::ks,s::ss=>fe k s/\pG ks ss
 |_,_=>False
noncomputable def lK:List Kx->Sh->Prop
 |[],_=>True
 |k::ks,s=>fe k s/\lK ks s
end
mutual
noncomputable def oR(h:Heap):Kx->Value->Prop
 |.aE,v=>v=.none
 |.bl b,v=>v=.bool b
 |.int i,v=>∃t,v=.int i t
 |.str x,v=>∃t,v=.str x t
 |.tup ks,v=>∃a o items n,v=.ref a/\h.get? a=some o/\o.cls=.type "tuple" /\ o.data=.seq items n/\gP h ks items.toList
noncomputable def gP(h:Heap):List Kx->List Value->Prop
 |[],vs=>vs=[]
 |k::ks,vs=>∃v r,vs=v::r/\oR h k v/\gP h ks r
end
mutual
theorem Om{h:Heap}:∀(k k':Kx){v:Value},oR h k v->oR h k' v->k=k'
 |.aE,k',v,x,y=>by
  cases(show v=.none from x);cases k' with
  |aE=>rfl
  |bl c=>cases(show Value.none=.bool c from y)
  |int i=>obtain⟨t,e⟩:=y;cases e
  |str i=>obtain⟨t,e⟩:=y;cases e
  |tup ks=>obtain⟨_,_,_,_,e,_⟩:=y;cases e
 |.bl b,k',v,x,y=>by
  cases(show v=.bool b from x);cases k' with
  |aE=>cases(show Value.bool b=.none from y)
  |bl c=>cases(show Value.bool b=.bool c from y);rfl
  |int i=>obtain⟨t,e⟩:=y;cases e
  |str i=>obtain⟨t,e⟩:=y;cases e
  |tup ks=>obtain⟨_,_,_,_,e,_⟩:=y;cases e
 |.int b,k',v,x,y=>by
  obtain⟨t,rfl⟩:=x;cases k' with
  |aE=>cases y
  |bl c=>cases y
  |int i=>obtain⟨t,e⟩:=y;cases e;rfl
  |str i=>obtain⟨t,e⟩:=y;cases e
  |tup ks=>obtain⟨_,_,_,_,e,_⟩:=y;cases e
 |.str b,k',v,x,y=>by
  obtain⟨t,rfl⟩:=x;cases k' with
  |aE=>cases y
  |bl c=>cases y
  |int i=>obtain⟨t,e⟩:=y;cases e
  |str i=>obtain⟨t,e⟩:=y;cases e;rfl
  |tup ks=>obtain⟨_,_,_,_,e,_⟩:=y;cases e
 |.tup ks,k',v,x,y=>by
  obtain⟨a,o,it,n,rfl,h1,h2,h3,h4⟩:=x;cases k' with
  |aE=>cases y
  |bl c=>cases y
  |int i=>obtain⟨t,e⟩:=y;cases e
  |str i=>obtain⟨t,e⟩:=y;cases e
  |tup ks'=>
   obtain⟨a',o',Fw,n',e,g1,g2,g3,g4⟩:=y;cases e;rw[h1]at g1;cases g1;rw[h3]at g3;injection g3 with e1 _
   subst e1;rw[HC ks ks' h4 g4]
theorem HC{h:Heap}:∀(ks ks':List Kx){vs:List Value},gP h ks vs->gP h ks' vs->ks=ks'
 |[],ks',vs,x,y=>by
  cases(show vs=[]from x);cases ks' with
  |nil=>rfl
  |cons k ks'=>obtain⟨v,r,e,_⟩:=y;cases e
 |k::ks,ks',vs,x,y=>by
  obtain⟨v,r,rfl,h1,h2⟩:=x;cases ks' with
  |nil=>cases(show v::r=[]from y)
  |cons k' ks'=>
   obtain⟨v',r',e,g1,g2⟩:=y;cases e;rw[Om k k' h1 g1,HC ks ks' h2 g2]
end
mutual
theorem MD{h h':Heap}(hk:∀a o,h.get? a=some o->o.cls=.type "tuple"->(∃it n,o.data=.seq it n)->h'.get? a=some o):∀(k:Kx){v:Value},oR h k v->oR h' k v
 |.aE,v,x=>x
 |.bl b,v,x=>x
 |.int b,v,x=>x
 |.str b,v,x=>x
 |.tup ks,v,x=>by
  obtain⟨a,o,it,n,rfl,h1,h2,h3,h4⟩:=x;exact⟨a,o,it,n,rfl,hk a o h1 h2 ⟨it,n,h3⟩,h2,h3,LQ hk ks h4⟩
theorem LQ{h h':Heap}(hk:∀a o,h.get? a=some o->o.cls=.type "tuple"->(∃it n,o.data=.seq it n)->h'.get? a=some o):∀(ks:List Kx){vs:List Value},gP h ks vs->gP h' ks vs
 |[],vs,x=>x
 |k::ks,vs,x=>by
  obtain⟨v,r,rfl,h1,h2⟩:=x;exact⟨v,r,rfl,MD hk k h1,LQ hk ks h2⟩
end
theorem gP.length:∀(ks:List Kx){vs:List Value},gP h ks vs->vs.length=ks.length
 |[],vs,x=>by cases(show vs=[]from x);rfl
 |k::ks,vs,x=>by
  obtain⟨v,r,rfl,h1,h2⟩:=x;rw[w1e,w1e,gP.length ks h2]
mutual
noncomputable def kx(w:World):Kx->Int
 |.aE=>PySem.W.hashW w.params .none
 |.bl b=>reduceHash (if b=true then 1 else 0)
 |.int i=>hashInt i
 |.str x=>hashStr w x
 |.tup ks=>reduceHash (Builtin.Tuple.tupleHashOf (hU w ks))
noncomputable def hU(w:World):List Kx->List Int
 |[]=>[]
 |k::ks=>kx w k::hU w ks
end
mutual
noncomputable def kY:Kx->Nat
 |.tup ks=>i_ ks+1
 |_=>1
noncomputable def i_:List Kx->Nat
 |[]=>0
 |k::ks=>kY k+i_ ks
end
mutual
theorem Oo:∀(k:Kx)(v:Value)(A:Around)(s:Shared)(Q:Int->Shared->Prop),oR s.heap k v->A.units+k.depth<cLine->Q (kx w k) {s with toks:=s.toks+kY k}->wpAny (model prog w) A (pyHash v) Q E s
 |.aE,v,A,s,Q,x,hu,h=>by
  cases(show v=.none from x);exact pyHash_slot (T:="NoneType") rfl F.slot_NoneType_hash F.entry_NoneType_hash (F.args_NoneType_hash_1 _) (beq_builtin_none _) (.inr (by omega)) (wpAny_bind (wpAny_pure (wpAny_bind (wpAny_mkInt (wpAny_pure ⟨_,_,rfl,h⟩)))))
 |.bl b,v,A,s,Q,x,hu,h=>by
  cases(show v=.bool b from x);refine pyHash_slot (T:="bool") rfl F.slot_bool_hash entry_int_hash (args_int_hash _) (beq_builtin_none _) (.inr (by omega)) ?_;cases b
  .exact(show wpAny _ _ (do ret (<- mkInt 0)) _ _ s from wpAny_bind (wpAny_mkInt (wpAny_pure ⟨_,_,rfl,h⟩)))
  .exact(show wpAny _ _ (do ret (<- mkInt 1)) _ _ s from wpAny_bind (wpAny_mkInt (wpAny_pure ⟨_,_,rfl,h⟩)))
 |.int i,v,A,s,Q,x,hu,h=>by
  obtain⟨t,rfl⟩:=x;exact wpAny_pyHash_int h
 |.str i,v,A,s,Q,x,hu,h=>by
  obtain⟨t,rfl⟩:=x;exact wpAny_pyHash_str h
 |.tup ks,v,A,s,Q,x,hu,h=>by
  obtain⟨a,o,it,n,rfl,h1,h2,h3,h4⟩:=x;refine pyHash_slot (T:="tuple") ⟨_,h1,h2⟩ F.slot_tuple_hash F.entry_tuple_hash (F.args_tuple_hash_1 _) (beq_builtin_none _) (.inr (by omega)) ?_;show wpAny _ _ (Builtin.Tuple.tupleItemsOf (.ref a) >>= _) _ _ s;refine wpAny_bind (wpAny_tupleItemsOf h1 h3 ?_);refine wpAny_bind ?_;rw[<- w4q];refine ME ks it.toList A.in1 s #[] _ h4 (by simp only[Kx.depth,Around.in1_units]at hu |-;omega) λb hb=>?_
  show wpAny _ _ (retInt (Builtin.Tuple.tupleHashOf b.toList)) _ _ _;rw[hb];exact wpAny_bind (wpAny_mkInt (wpAny_pure ⟨_,_,rfl,by simpa [kx,kY,Nat.add_assoc]using h⟩))
theorem ME:∀(ks:List Kx)(vs:List Value)(A:Around)(s:Shared)(b:Array Int)(Q:Array Int->Shared->Prop),gP s.heap ks vs->A.units+Kx.de ks<cLine ->
  (∀b',b'.toList=b.toList++hU w ks->Q b' {s with toks:=s.toks+i_ ks}) ->
  wpAny (model prog w) A (forIn vs b λx r=>do let h <- pyHash x;pure PUnit.unit;pure (ForInStep.yield (r.push h))) Q E s
 |[],vs,A,s,b,Q,x,hu,h=>by
  cases(show vs=[]from x);exact wpAny_pure (h b (by simp[hU]))
 |k::ks,vs,A,s,b,Q,x,hu,h=>by
  obtain⟨v,r,rfl,h1,h2⟩:=x;simp only[Kx.de]at hu;rw[w2s];refine wpAny_bind (wpAny_bind (Oo k v A s _ h1 (by omega) ?_));refine wpAny_bind (wpAny_pure (wpAny_pure ?_))
  exact ME ks r A _ _ Q h2 (by omega) λb' hb=>by
   have:=h b' (by simp[hb,hU])
   simpa [i_,Nat.add_assoc]using this
end
def Oq(a b):decide (Kx.bl a=Kx.bl b)=(a==b):=by
 grind
def Xs(a b):decide (Kx.int a=Kx.int b)=(a==b):=by
 grind
def Xt(a b):decide (Kx.str a=Kx.str b)=(a==b):=by
 grind
def sameAt(ks ks':List Kx)(j:Nat):Bool:=decide (ks[j]?=ks'[j]?)
def Xu:∀ks ks':List Kx,((List.range (min ks.length ks'.length)).all (sameAt ks ks')&&ks.length==ks'.length)=decide (Kx.tup ks=Kx.tup ks'):=by
 intro ks ks'
 by_cases e:ks=ks'
 .grind [sameAt]
 .rw[decide_eq_false (λz=>e (by injection z))]
  rw[Bool.and_eq_false_iff]
  by_cases hl:ks.length=ks'.length
  .left
   rw[w2j];intro ha;refine e (w2y λj=>?_)
   by_cases hj:j<ks.length
   .have:=w0w.mp ha j (w0z.mpr (by omega));exact of_decide_eq_true this
   grind
  grind
theorem C8:∀(ks:List Kx){vs:List Value},gP h ks vs->∀(j:Nat)(v:Value),vs[j]?=some v->∃k,ks[j]?=some k/\oR h k v
 |[],vs,x,j,v,e=>by cases(show vs=[]from x);simp at e
 |k::ks,vs,x,j,v,e=>by
  obtain⟨u,r,rfl,h1,h2⟩:=x;cases j with
  |zero=>grind
  |succ j=>exact C8 ks h2 j v (by simpa using e)
theorem GU:∀(ks:List Kx)(j:Nat)(k:Kx),ks[j]?=some k->k.depth<=Kx.de ks
 |[],j,k,e=>by simp at e
 |x::ks,j,k,e=>by
  simp only[Kx.de];cases j with
  |zero=>cases e;omega
  |succ j=>have:=GU ks j k (by simpa using e);omega
theorem GV:∀(ks:List Kx)(ss:List Sh),pG ks ss->∀(j:Nat)(k:Kx),ks[j]?=some k->∃s,ss[j]?=some s/\fe k s
 |[],ss,_,j,k,e=>by simp at e
 |x::ks,[],c,j,k,e=>c.elim
 |x::ks,s::ss,c,j,k,e=>by
  cases j with
  |zero=>cases e;exact⟨s,rfl,c.1⟩
  |succ j=>exact GV ks ss c.2 j k (by simpa using e)
theorem GW:∀(ks:List Kx)(s:Sh),lK ks s->∀(j:Nat)(k:Kx),ks[j]?=some k->fe k s
 |[],s,_,j,k,e=>by simp at e
 |x::ks,s,c,j,k,e=>by
  cases j with
  |zero=>cases e;exact c.1
  |succ j=>exact GW ks s c.2 j k (by simpa using e)
def z98(s:Shared):∀(n:Nat)(k k':Kx)(sh:Sh)(v v':Value)(A:Around),k.depth<=n->fe k sh->fe k' sh->oR s.heap k v->oR s.heap k' v'->A.units+n<cLine->SeqAt.EqAt A s v v' (decide (k=k')):=by
 intro n
 induction n with
 |zero=>
  intro k k' sh v v' A hd c c' x y hu;cases k with
  |aE=>
   cases sh with
   |ob=>
    cases k' with
    |aE=>cases(show v=.none from x);cases(show v'=.none from y);rw[decide_eq_true rfl];exact .same _
    |bl b=>cases(show v=.none from x);cases(show v'=.bool b from y);simp_all [SeqAt.EqAt.none_bool]
    |_=>exact c'.elim
   |_=>exact c.elim
  |bl a=>
   cases sh with
   |ob=>
    cases k' with
    |aE=>cases(show v=.bool a from x);cases(show v'=.none from y);simp_all [SeqAt.EqAt.bool_none]
    |bl b=>cases(show v=.bool a from x);cases(show v'=.bool b from y);rw[Oq];exact .bool_bool a b
    |_=>exact c'.elim
   |bl=>
    cases k' with
    |bl b=>cases(show v=.bool a from x);cases(show v'=.bool b from y);rw[Oq];exact .bool_bool a b
    |_=>exact c'.elim
   |_=>exact c.elim
  |int a=>
   cases sh with
   |int=>
    cases k' with
    |int b=>obtain⟨t,rfl⟩:=x;obtain⟨u,rfl⟩:=y;rw[Xs];exact .int_int a t b u
    |_=>exact c'.elim
   |_=>exact c.elim
  |str a=>
   cases sh with
   |str=>
    cases k' with
    |str b=>obtain⟨t,rfl⟩:=x;obtain⟨u,rfl⟩:=y;rw[Xt];exact .str_str a t b u
    |_=>exact c'.elim
   |_=>exact c.elim
  |tup ks=>grind [Kx.depth]
 |succ n ih=>
  intro k k' sh v v' A hd c c' x y hu;cases k with
  |aE=>exact ih .aE k' sh v v' A (w1a _) c c' x y (by omega)
  |bl a=>exact ih (.bl a) k' sh v v' A (w1a _) c c' x y (by omega)
  |int a=>exact ih (.int a) k' sh v v' A (w1a _) c c' x y (by omega)
  |str a=>exact ih (.str a) k' sh v v' A (w1a _) c c' x y (by omega)
  |tup ks=>
   obtain⟨a,o,it,m,rfl,h1,h2,h3,h4⟩:=x
   have tail:∀ks',k'=.tup ks'->(∀(j:Nat)(u u':Kx),ks[j]?=some u->ks'[j]?=some u'->∃s,fe u s/\fe u' s)->SeqAt.EqAt A s (.ref a) v' (decide (Kx.tup ks=k')):=by
    rintro ks' rfl hc;obtain⟨b,o',Fw,m',rfl,g1,g2,g3,g4⟩:=y
    by_cases ur:a=b
    .grind [HC,SeqAt.EqAt.same]
    .have l1:=gP.length ks h4;have l2:=gP.length ks' g4;rw[<- Xu]
     have:=SeqAt.RcAt.tuples (A:=A) (s:=s) (e:=sameAt ks ks') (show s.heap.IsTuple a it from⟨o,h1,h2,m,h3⟩) (show s.heap.IsTuple b Fw from⟨o',g1,g2,m',g3⟩) (by omega) (λj j1 j2=>by
      obtain⟨u,u1,u2⟩:=C8 ks h4 j it[j] (by simp[j1]);obtain⟨u',Ud,Ue⟩:=C8 ks' g4 j Fw[j] (by simp[j2]);obtain⟨T4,c1,c2⟩:=hc j u u' u1 Ud;have hdj:=GU ks j u u1;simp only[Kx.depth]at hd;have z:=ih u u' T4 _ _ A.in1 (by omega) c1 c2 u2 Ue (by grind)
      grind [sameAt,decide])
     grind [SeqAt.EqAt.of_refs]
   cases sh with
   |tup ss=>
    cases k' with
    |tup ks'=>
     refine tail ks' rfl λj u u' e1 e2=>?_
     obtain⟨s1,q1,q2⟩:=GV ks ss c j u e1;obtain⟨s2,q3,q4⟩:=GV ks' ss c' j u' e2
     grind
    |_=>exact c'.elim
   |many s1=>
    cases k' with
    |tup ks'=>exact tail ks' rfl λj u u' e1 e2=>⟨s1,GW ks s1 c j u e1,GW ks' s1 c' j u' e2⟩
    |_=>exact c'.elim
   |_=>exact c.elim
def Xv:∀(n:Nat)(k:Kx)(v:Value)(s:Shared)(Q:Bool->Shared->Prop),k.depth<=n->oR s.heap k v->Q true s->wpAny (model prog w) A (eqIsQuiet n v) Q E s:=by
 intro n
 induction n with
 |zero=>
  intro k v s Q hd x h;cases k with
  |aE=>cases(show v=.none from x);rw[eqIsQuiet_byValue _ rfl];exact wpAny_pure h
  |bl b=>cases(show v=.bool b from x);rw[eqIsQuiet_byValue _ rfl];exact wpAny_pure h
  |int i=>obtain⟨t,rfl⟩:=x;rw[eqIsQuiet_byValue _ rfl];exact wpAny_pure h
  |str i=>obtain⟨t,rfl⟩:=x;rw[eqIsQuiet_byValue _ rfl];exact wpAny_pure h
  |tup ks=>grind [Kx.depth]
 |succ n ih=>
  intro k v s Q hd x h;cases k with
  |aE=>cases(show v=.none from x);rw[eqIsQuiet_byValue _ rfl];exact wpAny_pure h
  |bl b=>cases(show v=.bool b from x);rw[eqIsQuiet_byValue _ rfl];exact wpAny_pure h
  |int i=>obtain⟨t,rfl⟩:=x;rw[eqIsQuiet_byValue _ rfl];exact wpAny_pure h
  |str i=>obtain⟨t,rfl⟩:=x;rw[eqIsQuiet_byValue _ rfl];exact wpAny_pure h
  |tup ks=>
   obtain⟨a,o,it,m,rfl,h1,h2,h3,h4⟩:=x;have hT:s.TypeIs (.ref a) "tuple":=⟨o,h1,h2⟩;unfold eqIsQuiet;refine wpAny_bind (wpAny_specialOf hT F.slot_tuple_eq.lookup ?_);show wpAny _ _ (isInstance (.ref a) (.type "tuple") >>= _) _ _ s;refine wpAny_bind (wpAny_isInstance hT isSubtype_tuple_tuple ?_);simp only[Bool.not_true,w4r,if_false];refine wpAny_bind (wpAny_seqItems h1 h3 ?_);refine wpAny_bind ?_;show wpAny _ _ (forIn it _ _) _ _ s;rw[<- w4q];refine wpAny_forIn_list _ (λrest r s'=>r.1=none/\s'=s/\∀v∈rest,∃k:Kx,k.depth<=n/\oR s.heap k v) _ ?_ ?_ _ _ ⟨rfl,rfl,λv hv=>?_⟩
   .rintro v rest r s' ⟨hr,rfl,vJ⟩;obtain⟨k,k1,k2⟩:=vJ v w1b;refine wpAny_bind (ih k v _ _ k1 k2 ?_)
    simp_all [wpAny_pure]
   .grind [wpAny_pure]
   .obtain⟨j,hj,e⟩:=w3j.mp hv;obtain⟨k,k1,k2⟩:=C8 ks h4 j v (by grind);have:=GU ks j k k1
    grind [Kx.depth]
def eR(prog)(w)(sh:Sh):HeapKind prog w Kx where
 is:=λh k a=>oR h k (.ref a)/\fe k sh/\k.depth<=7
 hash:=kx w
 draws:=kY
 room:=λA=>A.units+8<cLine
 inj:=λhx hy=>Om _ _ hx.1 hy.1
 keeps:=λ{h h' k a d o es ep} x ho hd hs=>⟨MD (λb ob e1 e2 e3=>by
  have i0:b≠d:=by
   grind
  exact(hs.2 b i0).trans e1) _ x.1,x.2⟩
 pyHash:=λ{A E s k a Q} hu hk h=>Oo k _ A s Q hk.1 (by have:=hk.2.2;omega) h
 eqBool:=λ{A E s x y a b Q} hu hx hy h=>z98 s 7 x y sh _ _ A hx.2.2 hx.2.1 hy.2.1 hx.1 hy.1 (by omega) prog w E Q h
 quiet:=λ{A E s k a Q} hk h=>Xv 8 k _ s Q (by have:=hk.2.2;omega) hk.1 h
set_option Elab.async false
set_option linter.all false
set_option maxRecDepth 100000
abbrev Key:=Sum Int Str
def kz:Key->Value->Bool
 |.inl k,v=>Value.isInt k v
 |.inr x,v=>Value.isStrOf x v
def Fz(w:World):Key->Int
 |.inl k=>hashInt k
 |.inr x=>hashStr w x
theorem wB:∀{k:Key}{v:Value},kz k v=true->(∃i t,k=Sum.inl i/\v=Value.int i t)\/(∃x t,k=Sum.inr x/\v=Value.str x t)
 |.inl i,v,h=>by
  obtain⟨t,e⟩:=Value.isInt_shape (k:=i) (v:=v) h;exact .inl ⟨i,t,rfl,e⟩
 |.inr x,v,h=>by
  obtain⟨t,e⟩:=Value.isStrOf_shape (x:=x) (v:=v) h;exact .inr ⟨x,t,rfl,e⟩
def V_(i)(t):kz (.inl i) (.int i t)=true:=by simp[kz,Value.isInt]
def V'(x)(t):kz (.inr x) (.str x t)=true:=by simp[kz,Value.isStrOf]
def z4g(a b):decide ((Sum.inl a:Key)=Sum.inl b)=(a==b):=by
 grind
def z4h(a b):decide ((Sum.inr a:Key)=Sum.inr b)=decide (a=b):=by
 grind
theorem z4i(a)(b):decide ((Sum.inl a:Key)=Sum.inr b)=false:=decide_eq_false (λq=>nomatch q)
theorem z4j(a)(b):decide ((Sum.inr a:Key)=Sum.inl b)=false:=decide_eq_false (λq=>nomatch q)
def cV(prog)(w):PySem.KeyKind prog w Key where
 is:=kz
 hash:=Fz w
 inj:=λv a b ha hb=>by
  grind [wB]
 byValue:=λk v h=>by
  rcases wB h with⟨i,t,rfl,rfl⟩|⟨x,t,rfl,rfl⟩<;>rfl
 pyHash:=λhv h=>by
  rcases wB hv with⟨i,t,rfl,rfl⟩|⟨x,t,rfl,rfl⟩
  .exact wpAny_pyHash_int h
  .exact wpAny_pyHash_str h
 eqBool:=λhu hv h=>by
  rcases wB hu with⟨i,t,rfl,rfl⟩|⟨x,t,rfl,rfl⟩
  .rcases wB hv with⟨j,u,rfl,rfl⟩|⟨y,u,rfl,rfl⟩
   .grind [z4g,wpAny_eqBool_int]
   .rw[z4i]at h;exact SeqAt.EqAt.int_str i t y u _ _ _ _ h
  .rcases wB hv with⟨j,u,rfl,rfl⟩|⟨y,u,rfl,rfl⟩
   .rw[z4j]at h;exact SeqAt.EqAt.str_int x t j u _ _ _ _ h
   grind [z4h,wpAny_eqBool_str]
 «strs»:=λk x t v h=>by
  rcases wB h with⟨i,u,rfl,e⟩|⟨y,u,rfl,e⟩
  .exact nomatch e
  .injection e with e1 _
   subst e1;cases v<;>rfl
theorem Vt(prog)(w)(i)(t):(cV prog w).is (.inl i) (.int i t)=true:=V_ i t
theorem Vu(prog)(w)(x)(t):(cV prog w).is (.inr x) (.str x t)=true:=V' x t
set_option genInjectivity true in
inductive V where
 |aE|bl (b:Bool)|int (i:Int)|str (x:Str)|ud (b:Array UInt8)|um (b:UInt64)|ref (a:Addr)|ty (n:String)
 deriving DecidableEq
variable{xs:List V}{v:V}
def RelV:V->Value->Prop
 |.aE,u=>u=Value.none
 |.bl b,u=>u=Value.bool b
 |.int i,u=>∃t,u=Value.int i t
 |.str x,u=>∃t,u=Value.str x t
 |.ud b,u=>∃t,u=Value.bytes b t
 |.um b,u=>∃t,u=Value.float b t
 |.ref a,u=>u=Value.ref a
 |.ty n,u=>u=Value.type n
abbrev Vals:List V->List Value->Prop:=Paired RelV
theorem Vals.length(r:Vals xs us):xs.length=us.length:=Paired.length r
theorem Vals.get:∀{xs:List V}{us:List Value}{i:Nat}{x:V},Vals xs us->xs[i]?=some x->∃u,us[i]?=some u/\RelV x u
 |_,_,_,_,.nil,e=>by simp at e
 |_,_,0,_,.cons r _,e=>by simp at e;subst e;exact⟨_,rfl,r⟩
 |_,_,i+1,x,.cons _ t,e=>by
  obtain⟨u,h1,h2⟩:=Vals.get (i:=i) (x:=x) t (by simpa using e);exact⟨u,by simpa using h1,h2⟩
theorem Vals.set{x:V}(r:RelV x u):∀{xs:List V}{us:List Value}(i:Nat),Vals xs us->Vals (xs.set i x) (us.set i u)
 |_,_,_,.nil=>.nil
 |_,_,0,.cons _ t=>.cons r t
 |_,_,i+1,.cons q t=>.cons q (Vals.set r i t)
theorem Vals.append:∀{xs ys:List V}{us ws:List Value},Vals xs us->Vals ys ws->Vals (xs++ys) (us++ws)
 |_,_,_,_,.nil,s=>s
 |_,_,_,_,.cons r t,s=>.cons r (Vals.append t s)
theorem Vals.take:∀{xs:List V}{us:List Value}(n:Nat),Vals xs us->Vals (xs.take n) (us.take n)
 |_,_,0,_=>.nil
 |_,_,_+1,.nil=>.nil
 |_,_,n+1,.cons r t=>.cons r (Vals.take n t)
theorem Vals.drop:∀{xs:List V}{us:List Value}(n:Nat),Vals xs us->Vals (xs.drop n) (us.drop n)
 |_,_,0,r=>r
 |_,_,_+1,.nil=>.nil
 |_,_,n+1,.cons _ t=>Vals.drop n t
def jR:Option V->Option Value->Prop
 |some v,some u=>RelV v u
 |none,none=>True
 |_,_=>False
def KV{κ:Type}:List (κ×V)->List (κ×Value)->Prop:=Paired fun(p:κ×V) (q:κ×Value)=>p.1=q.1/\RelV p.2 q.2
def kV:Key->V
 |.inl i=>.int i
 |.inr x=>.str x
inductive HO where
 |lst (xs:List V)
 |tup (xs:List V)
 |dK (kvs:List (Key×V))|dT (sh:Sh) (kvs:List (Kx×V)) (bp:List Addr)
 |set (S:Int->Bool) (n:Nat)
 |ins (C dx:Addr) (fs:List (Str×V))
 |own (x:Addr)
 |xd (fs:List (Str×V))
 |met (f x:Addr)
 |Ir (lo hi:Int)
 |cP (o:Obj) (u:HO)
 |nU (ps:Array Value)
 |ext (φ:Heap->Prop)
abbrev Hp:=Addr->Option HO
variable{H H':Hp}
def d8:HO->Prop
 |.tup _=>True
 |.cP _ (.tup _)=>True
 |.cP _ (.own _)=>True
 |_=>False
mutual
noncomputable def cx(H:Hp):Kx->V->Prop
 |.aE,v=>v=.aE
 |.bl b,v=>v=.bl b
 |.int i,v=>v=.int i
 |.str x,v=>v=.str x
 |.tup ks,v=>∃a xs,v=.ref a/\(H a=some (.tup xs)\/∃o,H a=some (.cP o (.tup xs)))/\e_ H ks xs
noncomputable def e_(H:Hp):List Kx->List V->Prop
 |[],vs=>vs=[]
 |k::ks,vs=>∃v r,vs=v::r/\cx H k v/\e_ H ks r
end
mutual
theorem cx.keeps{H H':Hp}(ht:∀b u,d8 u->H b=some u->H' b=some u):∀(k:Kx){v:V},cx H k v->cx H' k v
 |.aE,_,x=>x
 |.bl _,_,x=>x
 |.int _,_,x=>x
 |.str _,_,x=>x
 |.tup ks,_,x=>by
  obtain⟨a,xs,e,q,r⟩:=x;refine⟨a,xs,e,?_,e_.keeps ht ks r⟩;rcases q with q|⟨o,q⟩
  .exact .inl (ht _ _ True.intro q)
  .exact .inr ⟨o,ht _ _ True.intro q⟩
theorem e_.keeps{H H':Hp}(ht:∀b u,d8 u->H b=some u->H' b=some u):∀(ks:List Kx){vs:List V},e_ H ks vs->e_ H' ks vs
 |[],_,x=>x
 |k::ks,_,x=>by
  obtain⟨v,r,e,h1,h2⟩:=x;exact⟨v,r,e,cx.keeps ht k h1,e_.keeps ht ks h2⟩
end
def upd(H:Hp)(a:Addr)(o:HO):Hp:=λb=>if b=a then some o else H b
def bV:upd H a o a=some o:=by simp_all [upd]
def aU(h:b≠a):upd H a o b=H b:=by unfold upd;rw[if_neg h]
def Dm{u:HO}:upd (upd H a o) a u=upd H a u:=by
 grind [upd]
def iD{u:HO}(h:H a=some o)(h':H b=some u)(d:o≠u):a≠b:=by
 grind
def gA(h:H a=some o)(h':H b=none):a≠b:=by
 grind
section
variable(P:Program)(w:World)
def yw(h:Heap)(a:Addr):Prop:=∃o,h.get? a=some o/\o.dict=none
def aN(H:Hp)(h:Heap)(a:Addr):HO->Prop
 |.lst xs=>xs.length<=sizeLine/\∃(aw:List Value)(n:Nat),Vals xs aw/\h.get? a=some {cls:=.type "list", data:=.seq aw.toArray n}
 |.tup xs=>xs.length<=sizeLine/\∃aw:List Value,Vals xs aw/\IsTup h a aw.toArray/\yw h a
 |.dK kvs=>kvs.length<=sizeLine/\(a==sysModules)=false/\∃vs,KV kvs vs/\h.DictOf (cV P w) a vs
 |.dT sh kvs bp=>kvs.length<=sizeLine/\(a==sysModules)=false/\∃xs:List (Kx×Addr×Value),
   Paired (fun(p:Kx×V) (q:Kx×Addr×Value)=>p.1=q.1/\(cx H p.1 (.ref q.2.1)/\fe p.1 sh/\p.1.depth<=7)/\RelV p.2 q.2.2) kvs xs/\xs.map (·.2.1)=bp /\
   ∃o es ep,h.get? a=some o/\o.ExactDict/\o.data=.dict es ep/\es.toList=xs.map (entryOfKey (eR P w sh))/\(xs.map (·.1)).Nodup
 |.set S n=>h.SetOf (intKind P w) a S n
 |.ins C dx fs=>H dx=some (.own a)/\fs.length<=1000/\dx≠a/\h.get? a=some (PySem.W.instObj C dx) /\
   ∃mA,h.Ns1 dx mA/\(∀f,jR (fs.lookup f) (mA f))/\PySem.Within mA (fs.map (·.1))
 |.own _=>∃o,h.get? a=some o
 |.xd fs=>∃mA,h.Ns1 a mA/\∀f,jR (fs.lookup f) (mA f)
 |.Ir lo hi=>∃t u v,h.get? a=some {cls:=.type "range", data:=.fields #[.int lo t,.int hi u,.int 1 v]}
 |.cP o u=>h.get? a=some o/\aN H h a u
 |.nU ps=>(∃(q:Str)(qs:Array Value),ps[0]?=some (.bool true)/\ps[1]?=some (.str q 0)/\h.get? a=some {cls:=.none,data:=.fields qs}/\TriplesOk qs.toList/\∀(pos:Pos)(cv:Value),codeAmong pos qs.toList=some cv ->
   ∃(c:Addr)(oc:Obj)(vs:Array Value)(t:Tok),cv=.ref c/\H c=some (.cP oc (.own 0))/\oc.data=.fields vs/\vs[1]?=some (.str q t)) \/
   ∃(q:Str)(c:Addr)(oc ob:Obj)(vs:Array Value)(t:Tok),ps[0]?=some (.bool false)/\ps[1]?=some (.str q 0)/\ps[2]?=some (.ref c)/\H c=some (.cP oc (.own 0))/\oc.data=.fields vs/\vs[1]?=some (.str q t)/\h.get? a=some ob
 |.met f x=>h.get? a=some (methodObj (.ref f) (.ref x))
 |.ext φ=>φ h/\(∃o,h.get? a=some o)/\∀h1 h2:Heap,φ h1->(∀o,h1.get? a=some o->h2.get? a=some o)->φ h2
def c9(H:Hp)(h:Heap):Prop:=∀a o,H a=some o->aN P w H h a o
end
section
variable{P:Program}{o:HO}
def aN.get(x:aN P w H h a o):∃ob,h.get? a=some ob:=by
 cases o with
 |lst xs=>obtain⟨_,_,_,_,e⟩:=x;exact⟨_,e⟩
 |tup xs=>obtain⟨_,_,_,p,_⟩:=x;obtain⟨o,e,_⟩:=p;exact⟨o,e⟩
 |dK kvs=>obtain⟨_,_,_,_,o,_,_,e,_⟩:=x;exact⟨_,e⟩
 |dT sh kvs bp=>obtain⟨_,_,_,_,_,o,_,_,e,_⟩:=x;exact⟨_,e⟩
 |set S n=>obtain⟨o,_,_,_,e,_⟩:=x;exact⟨_,e⟩
 |ins C dx fs=>obtain⟨_,_,_,e,_⟩:=x;exact⟨_,e⟩
 |own y=>obtain⟨_,e⟩:=x;exact⟨_,e⟩
 |xd fs=>obtain⟨_,⟨_,_,_,e,_⟩,_⟩:=x;exact⟨_,e⟩
 |Ir lo hi=>obtain⟨_,_,_,e⟩:=x;exact⟨_,e⟩
 |cP ob u=>obtain⟨e,_⟩:=x;exact⟨_,e⟩
 |nU ps=>rcases x with⟨_,_,_,_,e,_⟩|⟨_,_,_,_,_,_,_,_,_,_,_,_,e⟩<;>exact⟨_,e⟩
 |met f y=>exact⟨_,(show h.get? a=some _ from x)⟩
 |ext φ=>obtain⟨_,⟨_,e⟩,_⟩:=x;exact⟨_,e⟩
def aN.lt(x:aN P w H h a o):a<h.objs.size:=by
 obtain⟨_,e⟩:=x.get;exact Heap.lt_size e
theorem Paired.wc{α β:Type}{F G:α->β->Prop}:∀{Ai:List α}{Aj:List β},Paired F Ai Aj->(∀a b,F a b->G a b)->Paired G Ai Aj
 |_,_,.nil,_=>.nil
 |_,_,.cons r t,f=>.cons (f _ _ r) (Paired.wc t f)
def aN.eQ(x:aN P w H h a o)(k:∀b u,(b=a\/H b=some (.own a))->h.get? b=some u->h'.get? b=some u)
  (ho:∀b,H b=some (.own a)->H' b=some (.own a))(ht:∀b u,d8 u->H b=some u->H' b=some u):aN P w H' h' a o:=by
 induction o with
 |lst xs=>obtain⟨z,aw,n,r,e⟩:=x;exact⟨z,aw,n,r,k _ _ (.inl rfl) e⟩
 |tup xs=>obtain⟨z,aw,r,⟨ob,e,c⟩,⟨o2,e2,c2⟩⟩:=x;exact⟨z,aw,r,⟨ob,k _ _ (.inl rfl) e,c⟩,⟨o2,k _ _ (.inl rfl) e2,c2⟩⟩
 |dK kvs=>obtain⟨z,y,vs,r,ob,es,ep,e,c⟩:=x;exact⟨z,y,vs,r,ob,es,ep,k _ _ (.inl rfl) e,c⟩
 |dT sh kvs bp=>
  obtain⟨z,y,xs,r,ka,ob,es,ep,e,c⟩:=x;exact⟨z,y,xs,Paired.wc r λp q z=>⟨z.1,⟨cx.keeps ht _ z.2.1.1,z.2.1.2⟩,z.2.2⟩,ka,ob,es,ep,k _ _ (.inl rfl) e,c⟩
 |set S n=>obtain⟨ob,es,ep,t,e,c⟩:=x;exact⟨ob,es,ep,t,k _ _ (.inl rfl) e,c⟩
 |ins C dx fs=>
  obtain⟨d,z,ne,e,mA,⟨od,es,ep,e2,c⟩,r⟩:=x;exact⟨ho _ d,z,ne,k _ _ (.inl rfl) e,mA,⟨od,es,ep,k _ _ (.inr d) e2,c⟩,r⟩
 |own y=>obtain⟨ob,e⟩:=x;exact⟨ob,k _ _ (.inl rfl) e⟩
 |xd fs=>obtain⟨mA,⟨od,es,ep,e,c⟩,r⟩:=x;exact⟨mA,⟨od,es,ep,k _ _ (.inl rfl) e,c⟩,r⟩
 |Ir lo hi=>obtain⟨t,u,v,e⟩:=x;exact⟨t,u,v,k _ _ (.inl rfl) e⟩
 |cP ob u ih=>obtain⟨e,q⟩:=x;exact⟨k _ _ (.inl rfl) e,ih q⟩
 |nU ps=>
  rcases x with⟨q,qs,p0,p1,e,tr,cd⟩|⟨q,c,oc,ob,vs,t,p0,p1,p2,h3,h4,h5,e⟩
  .refine .inl ⟨q,qs,p0,p1,k _ _ (.inl rfl) e,tr,λpos cv z=>?_⟩
   obtain⟨c,oc,vs,t,h1,h3,h4,h5⟩:=cd pos cv z;exact⟨c,oc,vs,t,h1,ht _ _ True.intro h3,h4,h5⟩
  .exact .inr ⟨q,c,oc,ob,vs,t,p0,p1,p2,ht _ _ True.intro h3,h4,h5,k _ _ (.inl rfl) e⟩
 |met f y=>
  have e:h.get? a=some (methodObj (.ref f) (.ref y)):=x;show h'.get? a=some (methodObj (.ref f) (.ref y));exact k a _ (.inl rfl) e
 |ext φ=>obtain⟨p,⟨o,e⟩,st⟩:=x;exact⟨st _ _ p λo q=>k _ _ (.inl rfl) q,⟨o,k _ _ (.inl rfl) e⟩,st⟩
theorem c9.lt(x:c9 P w H h)(e:H a=some o):a<h.objs.size:=(x a o e).lt
def c9.fresh(x:c9 P w H h)(e:h.objs.size<=a):H a=none:=by
 cases q:H a with
 |none=>rfl
 |some u=>exact absurd (w0r (x.lt q) e) (w2k _)
theorem c9.kept(x:c9 P w H h)(k:∀b u,h.get? b=some u->h'.get? b=some u):c9 P w H h':=λa o e=>
 (x a o e).eQ (λb u _ q=>k b u q) (λ_ q=>q) λ_ _ _ q=>q
theorem c9.laid(x:c9 P w H h)(k:∀b u,h.get? b=some u->h'.get? b=some u)(hp:h.objs.size<=a)(new:aN P w (upd H a o) h' a o):c9 P w (upd H a o) h':=λb u e=>by
 have hn:=x.fresh hp
 by_cases hb:b=a
 .grind [bV]
 .rw[aU hb]at e;exact(x b u e).eQ (λc v _ q=>k c v q) (λc q=>by rw[aU (gA q hn)];exact q) λc xs _ q=>by rw[aU (gA q hn)];exact q
end
def Rd(H:Hp)(a:Addr)(u:HO):Prop:=H a=some u\/∃o,H a=some (.cP o u)
def Rd.ok{u:HO}(r:Rd H a u)(x:c9 P w H h):aN P w H h a u:=by
 rcases r with r|⟨o,r⟩
 .exact x a u r
 .obtain⟨_,q⟩:=x a _ r;exact q
def yG:Option HO->Prop
 |some (.lst _)=>True
 |some (.dK _)=>True
 |some (.dT _ _ _)=>True
 |some (.set _ _)=>True
 |some (.ins _ _ _)=>True
 |some (.ext _)=>True
 |_=>False
section
variable{P:Program}{x e:Addr}{o':HO}
theorem c9.write(ok:c9 P w H h)(mu:yG (H x))(he:e=x\/H e=some (.own x))(k:∀b u,b≠e->h.get? b=some u->h'.get? b=some u)(sM:∃u,h'.get? e=some u)
  (new:aN P w (upd H x o') h' x o'):c9 P w (upd H x o') h':=λb u q=>by
 have FN:∀c y,H c=some (.own y)->c≠x:=λc y r z=>by subst z;rw[r]at mu;exact mu
 have Te:∀c u,d8 u->H c=some u->c≠x:=λc u t r z=>by
  subst z;rw[r]at mu;cases u<;>first|exact mu|exact t
 by_cases hb:b=x
 .grind [bV]
 .rw[aU hb]at q
  by_cases Kn:b=e
  .have q':H b=some (.own x):=by
    grind
   rw[q]at q';cases q';obtain⟨v,hv⟩:=sM;exact⟨v,by rw[Kn];exact hv⟩
  .refine(ok b u q).eQ (λc v hc r=>k c v ?_ r) (λc r=>by grind [aU]) λc xs t r=>by grind [aU]
   rcases hc with rfl|hc
   .exact Kn
   .rintro rfl;rcases he with z|z
    .exact FN c b hc z
    .rw[hc]at z;cases z;exact hb rfl
end
structure Un(fs ex:List Addr)(H H':Hp)(h h':Heap):Prop where
 keep:∀b o,h.get? b=some o->H b=none->b∉fs->b∉ex->h'.get? b=some o
 slot:∀b o,h.get? b=some o->H b=none->b∈fs->b∉ex->∃sl,h'.get? b=some {o with slots:=sl}
 free:∀b o,h.get? b=some o->H b=none->b∉ex->H' b=none
 there:∀b o,h.get? b=some o->b∉ex->∃o',h'.get? b=some o'
 fO:∀b xs,H b=some (.tup xs)->H' b=some (.tup xs)
 aW:∀b o u,H b=some (.cP o u)->H' b=some (.cP o u)
 e9:∀b ps,H b=some (.nU ps)->∃more,H' b=some (.nU (ps++more))
section
variable{fs fs' ex Kd:List Addr}{H1 H2:Hp}{h1 h2:Heap}{x e:Addr}{o:HO}
def Un.any(u:Un fs ex H H1 h h1)(q:h.get? b=some ob)(n:H b=none)(hx:b∉ex):∃sl,h1.get? b=some {ob with slots:=sl}:=by
 by_cases hb:b∈fs
 .exact u.slot b ob q n hb hx
 .exact⟨ob.slots,u.keep b ob q n hb hx⟩
theorem Un.kept(k:∀b u,h.get? b=some u->h'.get? b=some u):Un fs ex H H h h':=
 ⟨λb ob q _ _ _=>k b ob q,λb ob q _ _ _=>⟨ob.slots,k b ob q⟩,λ_ _ _ n _=>n,λb ob q _=>⟨ob,k b ob q⟩,λ_ _ q=>q,λ_ _ _ q=>q,λ_ ps q=>⟨#[],by rw[q];simp⟩⟩
theorem Un.refl:Un fs ex H H h h:=Un.kept λ_ _ q=>q
theorem Un.laid(k:∀b u,h.get? b=some u->h'.get? b=some u)(hp:h.objs.size<=a)(hn:H a=none):Un fs ex H (upd H a o) h h' where
 keep:=λb u q _ _ _=>k b u q
 slot:=λb u q _ _ _=>⟨u.slots,k b u q⟩
 free:=λb u q n _=>by rw[aU (w0m (w0r (Heap.lt_size q) hp))];exact n
 there:=λb u q _=>⟨u,k b u q⟩
 fO:=λb xs q=>by rw[aU (gA q hn)];exact q
 aW:=λb u xs q=>by rw[aU (gA q hn)];exact q
 e9:=λb ps q=>⟨#[],by rw[aU (gA q hn),q];simp⟩
def Un.write(mu:yG (H x))(he:e=x\/H e=some (.own x))(k:∀b u,b≠e->h.get? b=some u->h'.get? b=some u)(sM:∃u,h'.get? e=some u):Un fs ex H (upd H x o) h h':=by
 have hx:∀b,H b=none->b≠x:=λb n z=>by subst z;rw[n]at mu;exact mu
 have hb:∀b,H b=none->b≠e:=λb n z=>by
  grind
 have hm:∀b u,H b=some u->¬yG (some u)->b≠x:=λb u q nm z=>by grind
 refine⟨λb u q n _ _=>k b u (hb b n) q,λb u q n _ _=>⟨u.slots,k b u (hb b n) q⟩,λb u q n _=>by grind [aU],λb u q _=>?_,
  λb xs q=>by rw[aU (hm b _ q λz=>z)];exact q,λb u xs q=>by rw[aU (hm b _ q λz=>z)];exact q,λb ps q=>⟨#[],by rw[aU (hm b _ q λz=>z),q];simp⟩⟩
 grind
end
def nV(h:Heap)(H:Hp):List Addr:=(List.range h.objs.size).filter λa=>(H a).isSome
def gF(h:Heap)(H:Hp):Heap:=PySem.W.hideAll h (nV h H)
theorem MF(h)(H):(gF h H).objs.size=h.objs.size:=PySem.W.hideAll_size _ _
theorem Nt(e:h.get? b=some o)(n:H b=none):(gF h H).get? b=some o:=
 hideAll_get _ e λhm=>by
  have q:(H b).isSome=true:=(w1h.mp hm).2;rw[n]at q;simp at q
def Ot(e:(gF h H).get? b=some o):h.get? b=some o/\H b=none:=by
 have e':h.get? b=some o:=PySem.W.of_hideAll (nV h H) e;refine⟨e',?_⟩;cases q:H b with
 |none=>rfl
 |some x=>
  grind [nV,Heap.lt_size,gF,W.hideAll_none]
def sx(g h:Heap)(L:Addr):List (Addr×Obj):=(List.range h.objs.size).filterMap λa=>if a=L\/(g.get? a).isSome=true then none else(h.get? a).map λo=>(a,o)
def rest(g h:Heap)(L d:Addr):List (Addr×Obj):=(sx g h L).filter λp=>decide (p.1≠d)
structure Mod(K:Fg)(mg:Str->Option Value)(base:Heap):Prop where
 uL:K.In base
 glob:base.Ns mainGlobals mg
 blt:∃mb,base.Ns builtinsNs mb/\∀x:Str,x≠"__name__"->mb x=bootBuiltins x
 nolimit:base.NoLimit
structure Cx where
 prog:Program
 w:World
 K:Fg
 mg:Str->Option Value
 base:Heap
 A:Around
 N:List Str
 ax:Shared
 aA:Hp
 env:Env
 outer:List Env
 stack:List Env
 ex:List Addr
 fn:Str->Bool
 calm:Bool
 pn:List (Addr×Obj)
 xe:Value->Shared->Prop
variable{X:Cx}
def fk(l:List Env):List Addr:=l.filterMap (·.frame)
abbrev Cx.fs(X:Cx):List Addr:=fk X.outer
def jI(sc:Scope)(x:Str):Prop:=sc.names.lookup x=some .local\/sc.names.lookup x=some .cell\/sc.names.lookup x=some .free
def Loc(sc:Scope)(x:Str):Prop:=sc.names.lookup x=some .local\/sc.names.lookup x=some .cell
def Look(env:Env)(h:Heap)(m:Str->Option Value)(x:Str)(u:Value):Prop:=
 (env.kindOf x=some .local/\m x=some u)\/((env.kindOf x=some .cell\/env.kindOf x=some .free)/\∃c,env.cells.lookup x=some c/\h.IsCell c (some u))
abbrev iN(P:Addr)(q:Str):Obj:={cls:=.str q 0,data:=.fields #[.ref P]}
def gb(K:Fg)(H:Hp):Prop:=∀(a:Addr)(q:Str)(P:Addr),(a,iN P q)∈K->∃ps:Array Value,H P=some (.nU ps)/\ps[0]?=some (.bool true)/\ps[1]?=some (.str q 0)
def gL(K:Fg):Bool:=K.all λp=>match p.2.cls with
 |.str _ _=>false
 |_=>true
theorem gb.Ui(h:gL K=true):gb K H:=λa q P m=>by
 have:=w0w.mp h _ m;cases this
theorem gb.un(t:gb K H)(u:Un fs ex H H' h h'):gb K H':=λa q P m=>by
 obtain⟨ps,e,p0,p1⟩:=t a q P m;obtain⟨more,e'⟩:=u.e9 P ps e
 grind
theorem gb.laid(t:gb K H)(hn:H D=none):gb K (upd H D o):=λa q P m=>by
 obtain⟨ps,e,p⟩:=t a q P m;exact⟨ps,by rw[aU (gA e hn)];exact e,p⟩
structure Cx.Ok(X:Cx):Prop where
 mod:Mod X.K X.mg X.base
 kind:X.env.scope.kind=.function
 glob:X.env.globals=mainGlobals
 blt:X.env.builtins=builtinsNs
 above:X.ax.heap.objs.size<=X.env.locals
 inj:∀x y c,X.env.cells.lookup x=some c->X.env.cells.lookup y=some c->x=y
 has:∀x,(X.env.kindOf x=some .cell\/X.env.kindOf x=some .free)->∃c,X.env.cells.lookup x=some c
 ue:∀x c,X.fn x=true->X.env.cells.lookup x=some c->X.ax.heap.objs.size<=c
 hd:X.calm=true->X.A.handled=none
 frames:X.A.frames=some X.stack
 Bp:X.stack=X.outer\/(X.stack=X.env::X.outer/\X.env.frame=some X.env.locals)
 vA:∀b∈X.ex,b≠X.env.locals/\∀x c,X.env.cells.lookup x=some c->c≠b
 bs:∀b o,X.base.get? b=some o->X.ax.heap.get? b=some o/\X.aA b=none
 mM:X.base.objs.size<=X.ax.heap.objs.size
 o6:∀b o,X.base.get? b=some o->b∉X.ex
 ng:∀b∈X.ex,b∉X.fs
 eM:X.ax.heap.FunFrames X.base X.outer
 oo:∀b∈X.fs,X.aA b=none
 tab:gb X.K X.aA
structure Inv(X:Cx)(pins:List (Addr×Obj))(σ:List (Option V))(H:Hp)(s:Shared):Prop where
 ok:X.Ok
 os:s.os=X.ax.os
 bare:AllBare s.gens
 base:Un X.fs X.ex X.aA H X.ax.heap s.heap
 loc:∃m,s.heap.Ns X.env.locals m/\∀(i:Nat)(x:Str)(v:V),X.N[i]?=some x->σ[i]?=some (some v)->jI X.env.scope x->∃u,RelV v u/\Look X.env s.heap m x u
 cell:∀x c,X.env.cells.lookup x=some c->∃v,s.heap.IsCell c v
 free:H X.env.locals=none
 c7:∀x c,X.env.cells.lookup x=some c->H c=none
 pin:∀p∈X.pn++pins,s.heap.get? p.1=some p.2/\H p.1=none/\p.1≠X.env.locals/\p.1∉X.fs/\∀v,p.2.data≠.cell v
 aG:c9 X.prog X.w H s.heap
 len:σ.length=X.N.length
section
variable{σ:List (Option V)}
theorem Cx.Ok.FK(ok:X.Ok)(e:X.base.get? b=some o):b∉X.fs:=λhb=>by
 have:=(ok.eM.mem hb).1
 grind
theorem Inv.bs(I:Inv X pins σ H s):∀b o,X.base.get? b=some o->s.heap.get? b=some o/\H b=none:=λb o e=>
 ⟨I.base.keep b o (I.ok.bs b o e).1 (I.ok.bs b o e).2 (I.ok.FK e) (I.ok.o6 b o e),I.base.free b o (I.ok.bs b o e).1 (I.ok.bs b o e).2 (I.ok.o6 b o e)⟩
theorem Inv.bk(I:Inv X pins σ H s):∀b o,X.base.get? b=some o->s.heap.get? b=some o:=λb o e=>(I.bs b o e).1
theorem Inv.mod(I:Inv X pins σ H s):Mod X.K X.mg X.base:=I.ok.mod
theorem Inv.ky(I:Inv X pins σ H s):X.K.In s.heap:=I.ok.mod.uL.keeps I.bk
theorem Inv.fr(I:Inv X pins σ H s):∃m,Fr X.base X.env.locals s.heap m:=
 let ⟨m,hn,_⟩:=I.loc
 ⟨m,hn,I.bk,w0s I.ok.mM I.ok.above⟩
theorem Inv.lt(I:Inv X pins σ H s):X.env.locals<s.heap.objs.size:=let ⟨_,hn,_⟩:=I.loc;hn.lt
theorem Inv.sz(I:Inv X pins σ H s):X.ax.heap.objs.size<=s.heap.objs.size:=w0s I.ok.above (w4g I.lt)
theorem Inv.FL(I:Inv X pins σ H s)(h:s.heap.objs.size<=a):a∉X.fs:=λhb=>by
 obtain⟨_,o,ho,_⟩:=I.ok.eM.mem hb
 exact absurd (w0r (Heap.lt_size ho) (w0s I.sz h)) (w2k _)
theorem Inv.rE(I:Inv X pins σ H s):∀x c,X.env.cells.lookup x=some c->c≠X.env.locals:=λx c e z=>by
 obtain⟨v,o,ho,hd⟩:=I.cell x c e;obtain⟨m,⟨o',es,ep,xK,Kr,_⟩,_⟩:=I.loc
 grind
def Inv.eM(I:Inv X pins σ H s):s.heap.FunFrames X.base X.outer:=by
 have all:∀(l:List Env),(∀b∈fk l,b∈X.fs)->X.ax.heap.FunFrames X.base l->s.heap.FunFrames X.base l:=by
  intro l
  induction l with
  |nil=>intro _ _;trivial
  |cons env r ih=>
   intro hs hl;obtain⟨hk,⟨L,o,hf,hn,ho,hd⟩,hr⟩:=hl;have hL:L∈X.fs:=hs L (by grind [fk]);obtain⟨sl,e⟩:=I.base.slot L o ho (I.ok.oo L hL) hL λz=>I.ok.ng L z hL
   exact⟨hk,⟨L,_,hf,hn,e,hd⟩,ih (λb hb=>hs b (by grind [fk])) hr⟩
 exact all X.outer (λ_ hb=>hb) I.ok.eM
def Inv.stack(I:Inv X pins σ H s):s.heap.FunFrames X.base X.stack:=by
 rcases I.ok.Bp with e|⟨e,hf⟩
 .rw[e];exact I.eM
 .rw[e];obtain⟨m,hn,_⟩:=I.loc;refine .cons (by rw[I.ok.kind];decide) hf hn ?_ I.eM
  exact Heap.get?_none_of_le (w0s I.ok.mM I.ok.above)
theorem Inv.jG(I:Inv X pins σ H s):∀b∈fk X.stack,b∈X.env.locals::X.fs:=λb hb=>by
 rcases I.ok.Bp with e|⟨e,hf⟩
 all_goals grind [fk]
theorem Inv.lD(I:Inv X pins σ H s):∀b∈fk X.stack,H b=none:=λb hb=>by
 rcases w0e.mp (I.jG b hb)with e|hb
 .rw[e];exact I.free
 .obtain⟨_,o,ho,_⟩:=I.ok.eM.mem hb
  exact I.base.free b o ho (I.ok.oo b hb) λz=>I.ok.ng b z hb
def Inv.step{g':Array GenState}{d':Drawn}{ch:List Addr}(I:Inv X pins σ H s)
  (rK:∀b∈ch,(b∈X.ex\/X.ax.heap.objs.size<=b)/\b≠X.env.locals/\(∀x c,X.env.cells.lookup x=some c->c≠b)/\∀p∈X.pn++pins,p.1≠b)
  (keep:∀b o,b≠X.env.locals->b∉X.fs->b∉ch->s.heap.get? b=some o->H b=none->h'.get? b=some o)
  (slot:∀b o,b≠X.env.locals->b∈X.fs->b∉ch->s.heap.get? b=some o->H b=none->∃sl,h'.get? b=some {o with slots:=sl})(free:∀b o,b∉ch->s.heap.get? b=some o->H b=none->H' b=none)
  (there:∀b o,b∉ch->s.heap.get? b=some o->∃o',h'.get? b=some o')
  (fO:∀b xs,H b=some (.tup xs)->H' b=some (.tup xs))(aW:∀b o u,H b=some (.cP o u)->H' b=some (.cP o u))(e9:∀b ps,H b=some (.nU ps)->∃more,H' b=some (.nU (ps++more)))
  (ns:∀m,s.heap.Ns X.env.locals m->h'.Ns X.env.locals m)(aG:c9 X.prog X.w H' h')(hg:AllBare g'):
  Inv X pins σ H' {s with heap:=h',gens:=g',drawn:=d',toks:=t'}:=by
 have Ao:∀b o,X.ax.heap.get? b=some o->b≠X.env.locals:=λb o e=>w0m (w0r (Heap.lt_size e) I.ok.above)
 have wk:∀b o,X.ax.heap.get? b=some o->b∉X.ex->b∉ch:=λb o e hx hb=>by
  rcases(rK b hb).1 with z|z
  .exact hx z
  .exact absurd (w0r (Heap.lt_size e) z) (w2k _)
 have cellK:∀x c,X.env.cells.lookup x=some c->∀v,s.heap.IsCell c v->h'.IsCell c v:=λx c e v ⟨o,ho,hd⟩=>by
  have K2:c∉ch:=λz=>(rK c z).2.2.1 x c e rfl
  by_cases hc:c∈X.fs
  .obtain⟨sl,q⟩:=slot c o (I.rE x c e) hc K2 ho (I.c7 x c e);exact⟨_,q,hd⟩
  .exact⟨o,keep c o (I.rE x c e) hc K2 ho (I.c7 x c e),hd⟩
 refine⟨I.ok,I.os,hg,⟨λb o e n hb hx=>?_,λb o e n hb hx=>?_,λb o e n hx=>?_,λb o e hx=>?_,λb xs e=>fO b xs (I.base.fO b xs e),λb o xs e=>aW b o xs (I.base.aW b o xs e),λb ps e=>?_⟩,?_,λx c e=>?_,?_,λx c e=>?_,λp hp=>?_,aG,I.len⟩
 .exact keep b o (Ao b o e) hb (wk b o e hx) (I.base.keep b o e n hb hx) (I.base.free b o e n hx)
 .obtain⟨sl,e1⟩:=I.base.slot b o e n hb hx;obtain⟨rZ,e2⟩:=slot b _ (Ao b o e) hb (wk b o e hx) e1 (I.base.free b o e n hx);exact⟨rZ,e2⟩
 .obtain⟨o',e1⟩:=I.base.there b o e hx;exact free b o' (wk b o e hx) e1 (I.base.free b o e n hx)
 .obtain⟨o',e1⟩:=I.base.there b o e hx
  grind
 .obtain⟨m1,e1⟩:=I.base.e9 b ps e
  grind
 .obtain⟨m,hn,hl⟩:=I.loc;refine⟨m,ns m hn,λi x v e1 e2 e3=>?_⟩
  obtain⟨u,r,l⟩:=hl i x v e1 e2 e3;refine⟨u,r,?_⟩;rcases l with l|⟨k,c,e,z⟩
  .exact .inl l
  .exact .inr ⟨k,c,e,cellK x c e _ z⟩
 .obtain⟨v,z⟩:=I.cell x c e
  grind
 .obtain⟨m,⟨o,_,_,ho,_⟩,_⟩:=I.loc
  grind [free]
 .obtain⟨v,o,ho,hd⟩:=I.cell x c e;exact free c o (λz=>(rK c z).2.2.1 x c e rfl) ho (I.c7 x c e)
 .obtain⟨e,n,ne,nf,d⟩:=I.pin p hp
  grind
def Inv.un(I:Inv X pins σ H s)(u:Un X.fs [] H H' s.heap h')(aG:c9 X.prog X.w H' h'):Inv X pins σ H' {s with heap:=h',toks:=t'}:=by
 obtain⟨m,⟨o,es,ep,ho,r⟩,_⟩:=id I.loc;obtain⟨sl,hL⟩:=u.any ho I.free (by simp)
 exact I.step (g':=s.gens) (d':=s.drawn) (ch:=[]) (λ_ z=>nomatch z) (λb o _ hb _ e n=>u.keep b o e n hb (by simp)) (λb o _ hb _ e n=>u.slot b o e n hb (by simp)) (λb o _ e n=>u.free b o e n (by simp)) (λb o _ e=>u.there b o e (by simp)) u.fO u.aW u.e9 (λm' hm=>by
  obtain⟨o',Eu,Et,xK,r'⟩:=hm;rw[ho]at xK;cases xK;exact⟨_,Eu,Et,hL,r'⟩) aG I.bare
def Inv.call{g':Array GenState}{d':Drawn}(I:Inv X pins σ H s)(u:Un (fk X.stack) ch H H' s.heap h')(aG:c9 X.prog X.w H' h')(hg:AllBare g')
  (rK:∀b∈ch,(b∈X.ex\/X.ax.heap.objs.size<=b)/\b≠X.env.locals/\(∀x c,X.env.cells.lookup x=some c->c≠b)/\∀p∈X.pn++pins,p.1≠b):
  Inv X pins σ H' {s with heap:=h',gens:=g',drawn:=d',toks:=t'}:=by
 obtain⟨m,⟨o,es,ep,ho,r⟩,_⟩:=id I.loc;obtain⟨sl,hL⟩:=u.any ho I.free λz=>(rK _ z).2.1 rfl
 exact I.step (ch:=ch) rK (λb o hL hb hc e n=>u.keep b o e n (λz=>(w0e.mp (I.jG b z)).elim hL hb) hc) (λb o _ _ hc e n=>u.any e n hc) (λb o hc e n=>u.free b o e n hc) (λb o hc e=>u.there b o e hc) u.fO u.aW u.e9 (λm' hm=>by
  obtain⟨o',Eu,Et,xK,r'⟩:=hm;rw[ho]at xK;cases xK;exact⟨_,Eu,Et,hL,r'⟩) aG hg
def Inv.turned{t':Nat}{it:Addr}(I:Inv X pins σ H s)(k:∀b o,b≠it->s.heap.get? b=some o->h'.get? b=some o)(hn:H it=none)(hL:it≠X.env.locals)
  (h1:it∈X.ex\/X.ax.heap.objs.size<=it)(h2:∀x c,X.env.cells.lookup x=some c->c≠it)(h3:∀p∈X.pn++pins,p.1≠it):Inv X pins σ H {s with heap:=h',toks:=t'}:=by
 have nit:∀b u,H b=some u->b≠it:=λb u e z=>by rw[z,hn]at e;cases e
 refine I.step (g':=s.gens) (d':=s.drawn) (ch:=[it]) (λb hb=>?_) (λb o _ _ hc e _=>k b o (λz=>hc (by simp[z])) e) (λb o _ _ hc e _=>⟨o.slots,k b o (λz=>hc (by simp[z])) e⟩) (λ_ _ _ _ n=>n)
  (λb o hc e=>⟨o,k b o (λz=>hc (by simp[z])) e⟩) (λ_ _ e=>e) (λ_ _ _ e=>e) (λb ps e=>⟨#[],by rw[e];simp⟩) (λm hm=>?_) (λb u e=>?_) I.bare
 .grind
 .obtain⟨o,es,ep,ho,r⟩:=hm;exact⟨o,es,ep,k _ o (Ne.symm hL) ho,r⟩
 .refine(I.aG b u e).eQ (λc v hc q=>k c v ?_ q) (λ_ q=>q) λ_ _ _ q=>q
  grind
theorem Inv.tok(I:Inv X pins σ H s)(t:Nat):Inv X pins σ H {s with toks:=t}:=I.un (h':=s.heap) (t':=t) Un.refl I.aG
theorem Inv.kept{t':Nat}(I:Inv X pins σ H s)(k:∀b u,s.heap.get? b=some u->h'.get? b=some u):Inv X pins σ H {s with heap:=h',toks:=t'}:=I.un (Un.kept k) (I.aG.kept k)
theorem Inv.laid{a:Addr}{o:HO}{t':Nat}(I:Inv X pins σ H s)(k:∀b u,s.heap.get? b=some u->h'.get? b=some u)(hp:s.heap.objs.size<=a)(new:aN X.prog X.w (upd H a o) h' a o):
  Inv X pins σ (upd H a o) {s with heap:=h',toks:=t'}:=I.un (Un.laid k hp (I.aG.fresh hp)) (I.aG.laid k hp new)
theorem Inv.write{x e:Addr}{o:HO}{t':Nat}(I:Inv X pins σ H s)(mu:yG (H x))(he:e=x\/H e=some (.own x))(k:∀b u,b≠e->s.heap.get? b=some u->h'.get? b=some u)(sM:∃u,h'.get? e=some u)
  (new:aN X.prog X.w (upd H x o) h' x o):Inv X pins σ (upd H x o) {s with heap:=h',toks:=t'}:=I.un (Un.write mu he k sM) (I.aG.write mu he k sM new)
theorem Inv.weak{aI:List (Option V)}(I:Inv X pins σ H s)(hl:aI.length=σ.length)(w:∀(i:Nat) v,aI[i]?=some (some v)->σ[i]?=some (some v)):Inv X pins aI H s:=
 ⟨I.ok,I.os,I.bare,I.base,let ⟨m,hn,Si⟩:=I.loc;⟨m,hn,λi x v e1 e2 e3=>Si i x v e1 (w i v e2) e3⟩,I.cell,I.free,I.c7,I.pin,I.aG,hl.trans I.len⟩
theorem Inv.jb{pins':List (Addr×Obj)}(I:Inv X pins σ H s)(h:∀p∈pins',s.heap.get? p.1=some p.2/\H p.1=none/\p.1≠X.env.locals/\p.1∉X.fs/\∀v,p.2.data≠.cell v):Inv X pins' σ H s:=
 ⟨I.ok,I.os,I.bare,I.base,I.loc,I.cell,I.free,I.c7,λp hp=>(w3l.mp hp).elim (λz=>I.pin p (w2a _ z)) (h p),I.aG,I.len⟩
def Nu(hN:N.Nodup){j:Nat}(a:N[i]?=some x)(b:N[j]?=some x):i=j:=by
 obtain⟨h1,e1⟩:=w0b.mp a;obtain⟨h2,e2⟩:=w0b.mp b;exact(List.getElem_inj hN).mp (e1.trans e2.symm)
def Wa{Q:Unit->Shared->Prop}(I:Inv X pins σ H s)(hN:X.N.Nodup)(hi:X.N[i]?=some x)(hx:Loc X.env.scope x)(r:RelV v u)
  (h:∀s',Inv X pins (σ.set i (some v)) H s'->(∃a,Heap.SameBut a s.heap s'.heap/\(a=X.env.locals\/X.env.cells.lookup x=some a))->Q () s')(hf:autoParam (X.fn x=true\/X.env.scope.names.lookup x=some .local) jL):wpAny M A (storeName X.env x u) Q E s:=by
 obtain⟨m,hn,hl⟩:=id I.loc;have EH:(X.env.scope.kind==.class||(X.env.scope.kind==.module&&X.env.locals != X.env.globals))=false:=by rw[I.ok.kind];rfl
 have zG:i<σ.length:=by grind [Inv.len]
 have rE:=I.rE
 have tracked:∀{a:Addr}{h':Heap},(∃o,s.heap.get? a=some o/\H a=none)->Heap.SameBut a s.heap h'->c9 X.prog X.w H h':=λ{a h'} ha hs b ob e=>by
  obtain⟨_,_,b7⟩:=ha;refine(I.aG b ob e).eQ (λc w' hc q=>(hs.2 c ?_).trans q) (λ_ q=>q) λ_ _ _ q=>q
  grind
 rcases hx with hk|hk
 .refine wpAny_storeName_local hk hn (λh' vQ hs=>?_) EH
  obtain⟨oL,_,_,KI,_⟩:=id hn;refine h _ ⟨I.ok,I.os,I.bare,⟨λb o e n hb hx=>?_,λb o e n hb hx=>?_,I.base.free,λb o e hx=>?_,I.base.fO,I.base.aW,I.base.e9⟩,⟨_,vQ,λj y v' e1 e2 e3=>?_⟩,λy c e=>?_,I.free,I.c7,λp hp=>?_,tracked ⟨oL,KI,I.free⟩ hs,by simpa using I.len⟩ ⟨_,hs,.inl rfl⟩
  .exact(hs.2 b (w0m (w0r (Heap.lt_size e) I.ok.above))).trans (I.base.keep b o e n hb hx)
  .obtain⟨sl,e1⟩:=I.base.slot b o e n hb hx;exact⟨sl,(hs.2 b (w0m (w0r (Heap.lt_size e) I.ok.above))).trans e1⟩
  .obtain⟨o',e1⟩:=I.base.there b o e hx;exact⟨o',(hs.2 b (w0m (w0r (Heap.lt_size e) I.ok.above))).trans e1⟩
  .by_cases hj:j=i
   .subst hj;rw[hi]at e1;cases e1;rw[w0i zG]at e2;cases e2;exact⟨u,r,.inl ⟨hk,by simp⟩⟩
   .rw[w0g (Ne.symm hj)]at e2;obtain⟨u',r',q⟩:=hl j y v' e1 e2 e3;refine⟨u',r',?_⟩;rcases q with⟨k,e⟩|⟨k,c,e,z⟩
    .refine .inl ⟨k,?_⟩
     grind [Nu]
    .exact .inr ⟨k,c,e,z.sameBut hs (rE y c e)⟩
  .obtain⟨w',z⟩:=I.cell y c e;exact⟨w',z.sameBut hs (rE y c e)⟩
  .obtain⟨e,n,ne,nf,d⟩:=I.pin p hp;exact⟨(hs.2 p.1 ne).trans e,n,ne,nf,d⟩
 .have qg:X.fn x=true:=by
   grind
  obtain⟨c,hc⟩:=I.ok.has x (.inl hk);obtain⟨w',z⟩:=I.cell x c hc;refine wpAny_storeName_cell I.ok.kind hk hc z (λh' R0 hs=>?_)
  obtain⟨oc,uF,Sx⟩:=id z;refine h {s with heap:=h'} ⟨I.ok,I.os,I.bare,⟨λb o e n hb hx=>?_,λb o e n hb hx=>?_,I.base.free,λb o e hx=>?_,I.base.fO,I.base.aW,I.base.e9⟩,⟨m,hn.sameBut hs (Ne.symm (rE x c hc)),λj y v' e1 e2 e3=>?_⟩,λy c' e=>?_,I.free,I.c7,λp hp=>?_,tracked ⟨oc,uF,I.c7 x c hc⟩ hs,by simpa using I.len⟩ ⟨c,hs,.inr hc⟩
  .exact(hs.2 b (w0m (w0r (Heap.lt_size e) (I.ok.ue x c qg hc)))).trans (I.base.keep b o e n hb hx)
  .obtain⟨sl,e1⟩:=I.base.slot b o e n hb hx;exact⟨sl,(hs.2 b (w0m (w0r (Heap.lt_size e) (I.ok.ue x c qg hc)))).trans e1⟩
  .obtain⟨o',e1⟩:=I.base.there b o e hx;exact⟨o',(hs.2 b (w0m (w0r (Heap.lt_size e) (I.ok.ue x c qg hc)))).trans e1⟩
  .by_cases hj:j=i
   .subst hj;rw[hi]at e1;cases e1;rw[w0i zG]at e2;cases e2;exact⟨u,r,.inr ⟨.inl hk,c,hc,R0⟩⟩
   .rw[w0g (Ne.symm hj)]at e2;obtain⟨u',r',q⟩:=hl j y v' e1 e2 e3;refine⟨u',r',?_⟩;rcases q with q|⟨k,c',e,z'⟩
    .exact .inl q
    .refine .inr ⟨k,c',e,z'.sameBut hs ?_⟩;rintro rfl;exact hj (Nu hN e1 (I.ok.inj _ _ _ e hc ▸ hi))
  .by_cases R1:c'=c
   .grind
   .obtain⟨w2,z2⟩:=I.cell y c' e;exact⟨w2,z2.sameBut hs R1⟩
  .obtain⟨e,n,ne,nf,d⟩:=I.pin p hp;refine⟨(hs.2 p.1 ?_).trans e,n,ne,nf,d⟩
   grind
theorem HD{Q:Unit->Shared->Prop}(I:Inv X pins σ H s)(hN:X.N.Nodup)(hi:X.N[i]?=some x)(hx:Loc X.env.scope x)(r:RelV v u)
  (h:∀s',Inv X pins (σ.set i (some v)) H s'->Q () s')(hf:autoParam (X.fn x=true\/X.env.scope.names.lookup x=some .local) jL):wpAny M A (storeName X.env x u) Q E s:=
 Wa I hN hi hx r (λs' I' _=>h s' I') hf
def Inv.n_{s':Shared}{ch:List Addr}(I:Inv X pins σ H s)(ho:s'.os=s.os)(u:Un (fk X.stack) ch H H' s.heap s'.heap)(aG:c9 X.prog X.w H' s'.heap)(hg:AllBare s'.gens)
  (rK:∀b∈ch,(b∈X.ex\/X.ax.heap.objs.size<=b)/\b≠X.env.locals/\(∀x c,X.env.cells.lookup x=some c->c≠b)/\∀p∈X.pn++pins,p.1≠b):Inv X pins σ H' s':=by
 obtain⟨h',g',d',t',o'⟩:=s';have e:o'=s.os:=ho;subst e;exact I.call (g':=g') (t':=t') (d':=d') u aG hg rK
end
abbrev XK:=Value->Option Addr->Hp->Prop
abbrev St:=List (Option V)
variable{σ:St}
abbrev VK:=V->Hp->Prop
abbrev TE:=St->Hp->VK->Prop
variable{ta te:TE}
abbrev TT:=St->Hp->(Bool->Hp->Prop)->Prop
abbrev TA:=St->Hp->(List V->Hp->Prop)->Prop
structure Ends where
 nx:St->Hp->Prop
 rt:VK
 bk:St->Hp->Prop:=λ_ _=>False
 ct:St->Hp->Prop:=λ_ _=>False
abbrev TS:=Ends->St->Hp->Prop
variable{tb:TS}
def EP(X:Cx)(pins:List (Addr×Obj))(σ:St)(Q:VK)(u:Value)(s':Shared):Prop:=∃v H',Inv X pins σ H' s'/\RelV v u/\Q v H'
def TP(X:Cx)(pins:List (Addr×Obj))(σ:St)(Q:Bool->Hp->Prop)(b:Bool)(s':Shared):Prop:=∃H',Inv X pins σ H' s'/\Q b H'
def AP(X:Cx)(pins:List (Addr×Obj))(σ:St)(Q:List V->Hp->Prop)(us:List Value)(s':Shared):Prop:=∃vs H',Inv X pins σ H' s'/\Vals vs us/\Q vs H'
def SP(X:Cx)(pins:List (Addr×Obj))(D:Ends)(f:Flow)(s':Shared):Prop:=
 match f with
 |.next=>∃aI H',Inv X pins aI H' s'/\D.nx aI H'
 |.brk=>∃aI H',Inv X pins aI H' s'/\D.bk aI H'
 |.cont=>∃aI H',Inv X pins aI H' s'/\D.ct aI H'
 |.ret u=>∃v aI H',Inv X pins aI H' s'/\RelV v u/\D.rt v H'
def PE(X:Cx)(e:Expr)(t:TE):Prop:=
 ∀(pins:List (Addr×Obj))(s:Shared)(σ:St)(H:Hp)(Q:VK),Inv X pins σ H s->t σ H Q->wpAny (model X.prog X.w) X.A (eval e X.env) (EP X pins σ Q) X.xe s
def PT(X:Cx)(e:Expr)(t:TT):Prop:=
 ∀(pins:List (Addr×Obj))(s:Shared)(σ:St)(H:Hp)(Q:Bool->Hp->Prop),Inv X pins σ H s->t σ H Q->wpAny (model X.prog X.w) X.A (isTrue e X.env (eval e X.env)) (TP X pins σ Q) X.xe s
def PW(X:Cx)(e:Expr)(t:TT):Prop:=
 ∀(whole:Sem Value)(pins:List (Addr×Obj))(s:Shared)(σ:St)(H:Hp)(Q:Bool->Hp->Prop),Inv X pins σ H s->t σ H Q->wpAny (model X.prog X.w) X.A (isTrue e X.env whole) (TP X pins σ Q) X.xe s
theorem PW.pt{t:TT}(h:PW X e t):PT X e t:=h _
def PA(X:Cx)(es:List Expr)(t:TA):Prop:=
 ∀(pos:Pos)(pins:List (Addr×Obj))(s:Shared)(σ:St)(H:Hp)(Q:List V->Hp->Prop),Inv X pins σ H s->t σ H Q->wpAny (model X.prog X.w) X.A (spliced (backTo pos (starEach es X.env))) (AP X pins σ Q) X.xe s
def PS(X:Cx)(st:Stmt)(t:TS):Prop:=
 ∀(pins:List (Addr×Obj))(s:Shared)(σ:St)(H:Hp)(D:Ends),Inv X pins σ H s->t D σ H->wpAny (model X.prog X.w) X.A (exec st X.env) (SP X pins D) X.xe s
def lH(X:Cx)(st:List Stmt)(t:TS):Prop:=
 ∀(pins:List (Addr×Obj))(s:Shared)(σ:St)(H:Hp)(D:Ends),Inv X pins σ H s->t D σ H->wpAny (model X.prog X.w) X.A (execs st X.env) (SP X pins D) X.xe s
theorem bt{α:Type}{t:Sem α}{Q Q':α->Shared->Prop}(h:wpAny M A t Q E s)(hQ:∀a s,Q a s->Q' a s):wpAny M A t Q' E s:=wpAny_mono h hQ λ_ _ x=>x
section
def rn(i:Nat):TE:=λσ H Q=>∃v,σ[i]?=some (some v)/\Q v H
def tC(v:V):TE:=λ_ H Q=>Q v H
def z4k(hN:X.N[i]?=some x)(hv:jI X.env.scope x)(hd:autoParam ((x==("__debug__":Str))=false) jK)(ei:autoParam ((x==("__classdict__":Str))=false) jK):PE X (.Name x pos) (rn i):=by
 intro pins s σ H Q I h;obtain⟨v,e,h⟩:=h;obtain⟨m,hn,hl⟩:=I.loc;obtain⟨u,r,l⟩:=hl i x v hN e hv;have fin:EP X pins σ Q u s:=⟨v,H,I,r,h⟩;rcases l with⟨hk,hm⟩|⟨hk,c,hc,dR⟩
 .exact wpAny_Name (wpAny_loadName_local I.ok.kind hk hn hm fin) hd
 .rcases hk with hk|hk
  .exact wpAny_Name (wpAny_loadName_cell I.ok.kind hk hc dR fin) hd
  .exact wpAny_Name (wpAny_loadName_free I.ok.kind hk hc dR fin ei) hd
theorem Ph{i j pos}:PE X (.Constant (.int i) j pos) (tC (.int i)):=λ_ _ _ H _ I h=>wpAny_Constant_int ⟨.int i,H,I.tok _,⟨_,rfl⟩,h⟩
theorem z99{b j pos}:PE X (.Constant (.bool b) j pos) (tC (.bl b)):=λ_ _ _ H _ I h=>Constant_bool ⟨.bl b,H,I,rfl,h⟩
theorem z4l{j pos}:PE X (.Constant .none j pos) (tC .aE):=λ_ _ _ H _ I h=>Constant_none ⟨.aE,H,I,rfl,h⟩
theorem z4m{x j pos}:PE X (.Constant (.str x) j pos) (tC (.str x)):=λ_ _ _ H _ I h=>Calls.Constant_str ⟨.str x,H,I.tok _,⟨_,rfl⟩,h⟩
def Gl(X:Cx)(x:Str):Prop:=X.env.kindOf x=some .globalImplicit
theorem x8{Q:Value->Shared->Prop}(I:Inv X pins σ H s)(hg:Gl X x)(hm:X.mg x=some u)(h:Q u s)
  (hd:autoParam ((x==("__debug__":Str))=false) jK):wpAny (model X.prog X.w) X.A (eval (.Name x pos) X.env) Q E s:=
 Calls.Name_function_global I.ok.kind hg (Calls.loadGlobal_global (by rw[I.ok.glob];exact I.mod.glob.keeps I.bk) hm h) hd
def qJ{Q:Value->Shared->Prop}(I:Inv X pins σ H s)(hg:Gl X x)(hm:X.mg x=none)(hv:bootBuiltins x=some u)(h:Q u s)
  (hn:autoParam (x≠"__name__") jK)(hd:autoParam ((x==("__debug__":Str))=false) jK):wpAny (model X.prog X.w) X.A (eval (.Name x pos) X.env) Q E s:=by
 obtain⟨mb,h1,h2⟩:=I.mod.blt;exact Calls.Name_function_global I.ok.kind hg (Calls.loadGlobal_builtin (by rw[I.ok.glob];exact I.mod.glob.keeps I.bk) hm (by rw[I.ok.blt];exact h1.keeps I.bk) ((h2 x hn).trans hv) h) hd
theorem Jc{v:V}(hg:Gl X x)(hm:X.mg x=some u)(r:RelV v u)(hd:autoParam ((x==("__debug__":Str))=false) jK):PE X (.Name x pos) (tC v):=
 λ_ _ _ H _ I h=>x8 I hg hm ⟨v,H,I,r,h⟩ hd
theorem YM{v:V}(hg:Gl X x)(hm:X.mg x=none)(hv:bootBuiltins x=some u)(r:RelV v u)(hn:autoParam (x≠"__name__") jK)(hd:autoParam ((x==("__debug__":Str))=false) jK):PE X (.Name x pos) (tC v):=
 λ_ _ _ H _ I h=>qJ I hg hm hv ⟨v,H,I,r,h⟩ hn hd
variable{a b:Expr}{tb:TE}
def PC(X:Cx)(op:CmpOp)(a b:Expr)(t:TE):Prop:=
 ∀(pins:List (Addr×Obj))(s:Shared)(σ:St)(H:Hp)(Q:VK),Inv X pins σ H s->t σ H Q ->
  wpAny (model X.prog X.w) X.A (eval a X.env) (λv aD=>wpAny (model X.prog X.w) X.A (eval b X.env) (λu mH=>wpAny (model X.prog X.w) X.A (compareOp op v u) (EP X pins σ Q) X.xe mH) X.xe aD) X.xe s
def qA(b:Expr)(h:op≠.In)(h2:op≠.NotIn):behindInMarks op b=false:=by
 have e1:(op==CmpOp.In)=false:=by grind
 have e2:(op==CmpOp.NotIn)=false:=by grind
 cases b<;>simp[behindInMarks,e1,e2]
def tB(t:TE):TT:=λσ H Q=>t σ H λx H1=>∃c,x=.bl c/\Q c H1
def Pj{t:TE}(h:PC X op a b t)(h1:behindInMarks op b=false:=by first|exact qA _ (by decide) (by decide)|rfl):PT X (.Compare a [op] [b] pos) (tB t):=by
 intro pins s σ H Q I hw;refine wpAny_isTrue_Compare1 (bt (h pins s σ H _ I hw) λv s1 h1=>bt h1 λu s2 h2=>bt h2 λc s3 ⟨x,H1,I1,r1,q1⟩=>?_) h1
 obtain⟨d,rfl,q⟩:=q1;cases r1;exact wpAny_truthy_bool ⟨H1,I1,q⟩
variable{tA Dx:TT}{rest:List Expr}
def Br(t u:TT):TT:=λσ H Q=>t σ H λc H1=>if c=true then u σ H1 Q else Q false H1
def L8(t u:TT):TT:=λσ H Q=>t σ H λc H1=>if c=true then Q true H1 else u σ H1 Q
def ID(t:TT):TT:=λσ H Q=>t σ H λc H1=>Q (!c) H1
def YN(ha:PT X a tA):PW X (.BoolOp .And [a] pos) tA:=by
 intro wh pins s σ H Q I h;refine isTrue_and (bt (ha pins s σ H Q I h) λc s1 e=>?_)
 grind [isTrue_and_nil]
def z4n(ha:PT X a tA):PW X (.BoolOp .Or [a] pos) tA:=by
 intro wh pins s σ H Q I h;refine isTrue_or (bt (ha pins s σ H Q I h) λc s1 e=>?_)
 grind [isTrue_or_nil]
def z4o(ha:PT X a tA)(hb:PW X (.BoolOp .And (b::rest) pos) Dx):PW X (.BoolOp .And (a::b::rest) pos) (Br tA Dx):=by
 intro wh pins s σ H Q I h;refine isTrue_and (bt (ha pins s σ H _ I h) λc s1 ⟨H1,I1,q1⟩=>?_)
 cases c with
 |true=>exact hb wh pins s1 σ H1 Q I1 q1
 |false=>exact⟨H1,I1,q1⟩
def QO(ha:PT X a tA)(hb:PW X (.BoolOp .Or (b::rest) pos) Dx):PW X (.BoolOp .Or (a::b::rest) pos) (L8 tA Dx):=by
 intro wh pins s σ H Q I h;refine isTrue_or (bt (ha pins s σ H _ I h) λc s1 ⟨H1,I1,q1⟩=>?_)
 cases c with
 |true=>exact⟨H1,I1,q1⟩
 |false=>exact hb wh pins s1 σ H1 Q I1 q1
def z4p(ha:PT X a tA):PT X (.UnaryOp .Not a pos) (ID tA):=by
 intro pins s σ H Q I h;exact isTrue_not (ha pins s σ H (λc H1=>Q (!c) H1) I h)
def Bs(ta tb:TE):TE:=λσ H Q=>ta σ H λx H1=>∃c,x=.bl c/\if c=true then tb σ H1 Q else Q (.bl false) H1
def IE(ta tb:TE):TE:=λσ H Q=>ta σ H λx H1=>∃c,x=.bl c/\if c=true then Q (.bl true) H1 else tb σ H1 Q
def BA(ta:TE):TE:=λσ H Q=>ta σ H λx H1=>∃c,x=.bl c/\Q (.bl (!c)) H1
theorem z4q{op}{t:TE}(h:PE X a t):PE X (.BoolOp op [a] pos) t:=λpins s σ H Q I hw=>BoolOp_one (h pins s σ H Q I hw)
def z4r(ha:PE X a ta)(hb:PE X (.BoolOp .And (b::rest) pos) tb):PE X (.BoolOp .And (a::b::rest) pos) (Bs ta tb):=by
 intro pins s σ H Q I h;refine BoolOp_and (bt (ha pins s σ H _ I h) λv s1 ⟨x,H1,I1,r1,q1⟩=>?_)
 obtain⟨c,rfl,q1⟩:=q1;cases r1;refine wpAny_truthy_bool ?_;cases c with
 |true=>exact hb pins s1 σ H1 Q I1 q1
 |false=>exact⟨.bl false,H1,I1,rfl,q1⟩
def QP(ha:PE X a ta)(hb:PE X (.BoolOp .Or (b::rest) pos) tb):PE X (.BoolOp .Or (a::b::rest) pos) (IE ta tb):=by
 intro pins s σ H Q I h;refine BoolOp_or (bt (ha pins s σ H _ I h) λv s1 ⟨x,H1,I1,r1,q1⟩=>?_)
 obtain⟨c,rfl,q1⟩:=q1;cases r1;refine wpAny_truthy_bool ?_;cases c with
 |false=>exact hb pins s1 σ H1 Q I1 q1
 |true=>exact⟨.bl true,H1,I1,rfl,q1⟩
def z4s(ha:PE X a ta):PE X (.UnaryOp .Not a pos) (BA ta):=by
 intro pins s σ H Q I h;refine UnaryOp_ (bt (ha pins s σ H _ I h) λv s1 ⟨x,H1,I1,r1,q1⟩=>?_)
 obtain⟨c,rfl,q1⟩:=q1;cases r1;exact not_of (wpAny_truthy_bool ⟨.bl (!c),H1,I1,rfl,q1⟩)
def T_(t:TT)(ta tb:TE):TE:=λσ H Q=>t σ H λc H1=>if c=true then ta σ H1 Q else tb σ H1 Q
def Xw(hc:PT X c tA)(ha:PE X a ta)(hb:PE X b tb):PE X (.IfExp c a b pos) (T_ tA ta tb):=by
 intro pins s σ H Q I h;refine wpAny_IfExp (bt (hc pins s σ H _ I h) λd s1 ⟨H1,I1,q1⟩=>?_)
 cases d with
 |true=>exact ha pins s1 σ H1 Q I1 q1
 |false=>exact hb pins s1 σ H1 Q I1 q1
end
def bB(K:Fg)(H:Hp)(a:Addr)(xs:List V):Prop:=
 Rd H a (.lst xs) \/
  ∃(o:Obj)(aw:Array Value)(n:Nat),K.lookup a=some o/\o.cls=.type "list" /\ o.dict=none/\o.data=.seq aw n/\aw.size<=sizeLine/\Vals xs aw.toList
def cZ(K:Fg)(H:Hp)(a:Addr)(xs:List V):Prop:=
 Rd H a (.tup xs) \/
  ∃(o:Obj)(aw:Array Value)(n:Nat),K.lookup a=some o/\o.cls=.type "tuple" /\ o.dict=none/\o.data=.seq aw n/\aw.size<=sizeLine/\Vals xs aw.toList
def El:Value->Option V
 |.none=>some .aE
 |.bool b=>some (.bl b)
 |.int i _=>some (.int i)
 |.str x _=>some (.str x)
 |.bytes b _=>some (.ud b)
 |.float b _=>some (.um b)
 |.ref a=>some (.ref a)
 |.type n=>some (.ty n)
 |_=>none
def RelV.abs{x:V}(r:RelV x u):El u=some x:=by
 cases x with
 |aE=>cases r;rfl
 |bl _=>cases r;rfl
 |int _=>obtain⟨t,rfl⟩:=r;rfl
 |str _=>obtain⟨t,rfl⟩:=r;rfl
 |ud _=>obtain⟨t,rfl⟩:=r;rfl
 |um _=>obtain⟨t,rfl⟩:=r;rfl
 |ref _=>cases r;rfl
 |ty _=>cases r;rfl
theorem RelV.inj{x y:V}(r:RelV x u)(q:RelV y u):x=y:=Option.some.inj (r.abs.symm.trans q.abs)
theorem Vals.inj:∀{xs ys:List V}{us:List Value},Vals xs us->Vals ys us->xs=ys
 |_,_,_,.nil,.nil=>rfl
 |_,_,_,.cons r t,.cons r' t'=>by rw[r.inj r',Vals.inj t t']
section
variable{ys:List V}
theorem bB.of(h:H a=some (.lst xs)):bB K H a xs:=.inl (.inl h)
theorem cZ.of(h:H a=some (.tup xs)):cZ K H a xs:=.inl (.inl h)
def Inv.list(I:Inv X pins σ H s)(h:bB X.K H a xs):∃aw:List Value,Vals xs aw/\PlainL s.heap a aw.toArray/\xs.length<=sizeLine:=by
 rcases h with h|⟨o,aw,n,hk,hc,hd,hs,hz,r⟩
 .obtain⟨z,aw,n,r,e⟩:=h.ok I.aG;exact⟨aw,r,⟨_,n,e,rfl,rfl,rfl⟩,z⟩
 .refine⟨aw.toList,r,⟨o,n,I.ky a o hk,hc,hd,by simpa using hs⟩,?_⟩
  grind [Vals.length,Array.length_toList]
def Inv.tuple(I:Inv X pins σ H s)(h:cZ X.K H a xs):∃aw:List Value,Vals xs aw/\IsTup s.heap a aw.toArray/\xs.length<=sizeLine:=by
 rcases h with h|⟨o,aw,n,hk,hc,_,hs,hz,r⟩
 .obtain⟨z,aw,r,p,_⟩:=h.ok I.aG;exact⟨aw,r,p,z⟩
 .refine⟨aw.toList,r,⟨o,I.ky a o hk,hc,n,by simpa using hs⟩,?_⟩
  grind [Vals.length,Array.length_toList]
def Inv.hX(I:Inv X pins σ H s)(h:bB X.K H a xs)(h':bB X.K H a ys):xs=ys:=by
 obtain⟨aw,r,⟨o,n,e,_,_,d⟩,_⟩:=I.list h;obtain⟨its',r',⟨o',n',e',_,_,d'⟩,_⟩:=I.list h';rw[e]at e';cases e';rw[d]at d';injection d' with d1 _
 have:aw=its':=by grind
 subst this;exact r.inj r'
def Inv.fX(I:Inv X pins σ H s)(h:cZ X.K H a xs)(h':cZ X.K H a ys):xs=ys:=by
 obtain⟨aw,r,⟨o,e,_,n,d⟩,_⟩:=I.tuple h;obtain⟨its',r',⟨o',e',_,n',d'⟩,_⟩:=I.tuple h';rw[e]at e';cases e';rw[d]at d';injection d' with d1 _
 have:aw=its':=by grind
 subst this;exact r.inj r'
end
section
variable{st:Stmt}{rest:List Stmt}{t u:TS}
def By:TS:=λD σ H=>D.nx σ H
def BD(t u:TS):TS:=λD σ H=>t {D with nx:=u D} σ H
theorem Y8:lH X [] By:=λ_ _ σ H _ I h=>wpAny_execs_nil ⟨σ,H,I,h⟩
def Xx(h1:PS X st t)(h2:lH X rest u):lH X (st::rest) (BD t u):=by
 intro pins s σ H D I h;refine wpAny_execs_cons (bt (h1 pins s σ H {D with nx:=u D} I h) λf s1 q=>?_)
 cases f with
 |next=>
  obtain⟨aI,H',I',q⟩:=q;exact h2 pins s1 aI H' D I' q
 |ret v=>exact q
 |brk=>exact q
 |cont=>exact q
def Y9(h1:PS X st t):lH X [st] t:=by
 intro pins s σ H D I h;refine wpAny_execs_cons (bt (h1 pins s σ H D I h) λf s1 q=>?_)
 grind [wpAny_execs_nil]
def Inv.quiet(I:Inv X pins σ H s):interactive X.env=false:=by simp[interactive,I.ok.kind]
def Bu(te:TE):TS:=λD σ H=>te σ H λ_ H1=>D.nx σ H1
def Dn(he:PE X e te)(hs:autoParam (swapsWith e none pos.line X.env=pure false) jJ):PS X (.Expr e pos) (Bu te):=by
 intro pins s σ H D I h;exact wpAny_Expr_any (bt (he pins s σ H _ I h) λv s1 ⟨x,H1,I1,r1,q1⟩=>⟨σ,H1,I1,q1⟩) I.quiet hs
def IF(te:TE):TS:=λD σ H=>te σ H D.rt
def Ju(he:PE X e te):PS X (.Return (some e) pos) (IF te):=by
 intro pins s σ H D I h;exact wpAny_Return_some (bt (he pins s σ H _ I h) λv s1 ⟨x,H1,I1,r1,q1⟩=>⟨x,σ,H1,I1,r1,q1⟩)
def Bv(c:TT)(t u:TS):TS:=λD σ H=>c σ H λb H1=>if b=true then t D σ H1 else u D σ H1
def QQ{a b:List Stmt}{tc:TT}(hc:PT X c tc)(ha:lH X a t)(hb:lH X b u):PS X (.If c a b pos) (Bv tc t u):=by
 intro pins s σ H D I h;refine wpAny_If (bt (hc pins s σ H _ I h) λd s1 ⟨H1,I1,q1⟩=>?_)
 cases d with
 |true=>exact ha pins s1 σ H1 D I1 q1
 |false=>exact hb pins s1 σ H1 D I1 q1
end
abbrev TG:=V->St->Hp->(St->Hp->Prop)->Prop
abbrev vj:=List V->St->Hp->(St->Hp->Prop)->Prop
def PG(X:Cx)(target:Expr)(t:TG):Prop:=
 ∀(pins:List (Addr×Obj))(s:Shared)(σ:St)(H:Hp)(v:V)(u:Value)(Q:St->Hp->Prop),Inv X pins σ H s->RelV v u->t v σ H Q ->
  wpAny (model X.prog X.w) X.A (assign target X.env u) (λ_ s'=>∃aI H',Inv X pins aI H' s'/\Q aI H') X.xe s
def yI(X:Cx)(ts:List Expr)(t:vj):Prop:=
 ∀(pins:List (Addr×Obj))(s:Shared)(σ:St)(H:Hp)(vs:List V)(us:List Value)(Q:St->Hp->Prop),Inv X pins σ H s->Vals vs us->t vs σ H Q ->
  wpAny (model X.prog X.w) X.A (assignInOrder ((assignEach ts X.env).map (·.2)) us) (λ_ s'=>∃aI H',Inv X pins aI H' s'/\Q aI H') X.xe s
abbrev vk:=V->V->V->Hp->(Hp->Prop)->Prop
def vi(X:Cx)(t:vk):Prop:=
 ∀(pins:List (Addr×Obj))(s:Shared)(σ:St)(H:Hp)(o i v:V)(ov iv u:Value)(Q:Hp->Prop),Inv X pins σ H s->RelV o ov->RelV i iv->RelV v u->t o i v H Q ->
  wpAny (model X.prog X.w) X.A (setItem ov iv u) (λ_ s'=>∃H',Inv X pins σ H' s'/\Q H') X.xe s
def bx(i:Nat):TG:=λv σ H Q=>Q (σ.set i (some v)) H
def Y_(hN:X.N.Nodup)(hi:X.N[i]?=some x)(hx:Loc X.env.scope x)(hf:autoParam (X.fn x=true\/X.env.scope.names.lookup x=some .local) jL):PG X (.Name x pos) (bx i):=by
 intro pins s σ H v u Q I r h;exact wpAny_assign_Name (HD I hN hi hx r (λs' I'=>⟨_,H,I',h⟩) hf)
def oV:vj:=λvs σ H Q=>vs=[]/\Q σ H
def fF(t:TG)(u:vj):vj:=λvs σ H Q=>∃v r,vs=v::r/\t v σ H λaI H'=>u r aI H' Q
def Ou:yI X [] oV:=by
 intro pins s σ H vs us Q I r h;obtain⟨e,h⟩:=h;subst e;cases r;exact assignInOrder_nil ⟨σ,H,I,h⟩
def De{t:TG}{u:vj}(h1:PG X e t)(h2:yI X es u)
  (hs:autoParam ((assignEach (e::es) X.env).map (·.2)=assign e X.env::(assignEach es X.env).map (·.2)) jJ):yI X (e::es) (fF t u):=by
 intro pins s σ H vs us Q I r h;obtain⟨v,vr,e1,h⟩:=h;subst e1;cases r with
 |cons r rr=>
  rw[hs];refine assignInOrder_cons (bt (h1 pins s σ H _ _ _ I r h) λ_ s1 ⟨si,H1,I1,q1⟩=>?_)
  exact h2 pins s1 si H1 _ _ Q I1 rr q1
def oW(K:Fg)(n:Nat)(t:vj):TG:=λv σ H Q=>∃a xs,v=.ref a/\cZ K H a xs/\xs.length=n/\t xs σ H Q
def Pk{k:Nat}{t:vj}{n:Nat}(hc:X.calm=true)(h:yI X es t)
  (hn:autoParam ((assignEach es X.env).length=n) jJ)(jY:autoParam ((assignEach es X.env).findIdx? (·.1)=none) jJ):PG X (.Tuple es k pos) (oW X.K n t):=by
 intro pins s σ H v u Q I r hw;obtain⟨a,xs,e1,hq,hl,hw⟩:=hw;subst e1;cases r;obtain⟨aw,rv,ht,hz⟩:=I.tuple hq;refine assign_Tuple_tuple (I.ok.hd hc) ht (by simp[hn,<- hl,rv.length]) jY λh' hx=>?_
 have I1:Inv X pins σ H {s with heap:=h'}:=I.kept (t':=s.toks) λb o e=>hx b o (w0m (Heap.lt_size e)) e
 exact h pins _ σ H xs _ Q I1 (by simpa using rv) hw
def EB(to ti:TE)(t:vk):TG:=λv σ H Q=>to σ H λo H1=>ti σ H1 λi H2=>t o i v H2 λH3=>Q σ H3
def Pl{o i:Expr}{to ti:TE}{t:vk}(ho:PE X o to)(hi:PE X i ti)(hs:vi X t)
  (ha:∀v,assign (.Subscript o i pos) X.env v=(do
   let ov <- holding [v] (eval o X.env)
   let iv <- holding [v,ov] (eval i X.env)
   standAt pos
   holding [v,ov,iv] (setItem ov iv v)
   release [v,ov,iv] []):=by intro _;rfl):PG X (.Subscript o i pos) (EB to ti t):=by
 intro pins s σ H v u Q I r h;rw[ha];refine wpAny_bind (wpAny_holding (bt (ho pins s σ H _ I h) λov s1 ⟨x,H1,I1,r1,q1⟩=>?_))
 refine wpAny_bind (wpAny_holding (bt (hi pins s1 σ H1 _ I1 q1) λiv s2 ⟨y,H2,I2,r2,q2⟩=>?_))
 refine wpAny_bind (wpAny_standAt (wpAny_bind (wpAny_holding (bt (hs pins s2 σ H2 x y v ov iv u _ I2 r1 r2 r q2) λ_ s3 ⟨H3,I3,q3⟩=>?_))))
 exact wpAny_release ⟨σ,H3,I3,q3⟩
def q_(te:TE)(g:TG):TS:=λD σ H=>te σ H λx H1=>g x σ H1 D.nx
def Pn{g:TG}(he:PE X e te)(hg:PG X tg g)(hs:autoParam (swapsWithSole [tg] e pos.line X.env=pure false) jJ)(hw:autoParam (swappedStores [tg] e X.env=pure none) jJ)
  (h1:autoParam ((assignEach [tg] X.env).map (·.2)=[assign tg X.env]) jJ):PS X (.Assign [tg] e pos) (q_ te g):=by
 intro pins s σ H D I h;refine wpAny_Assign_stores (bt (he pins s σ H _ I h) λv s1 ⟨x,H1,I1,r1,q1⟩=>?_) hs hw
 rw[h1];exact bt (hg pins s1 σ H1 x v _ I1 r1 q1) λ_ s2 q=>q
def z4t{pos':Pos}(hN:X.N.Nodup)(hi:X.N[i]?=some x)(hx:Loc X.env.scope x)(he:PE X e te)(hs:autoParam (swapsWith e (some (.Name x pos')) pos.line X.env=pure false) jJ)(hf:autoParam (X.fn x=true\/X.env.scope.names.lookup x=some .local) jL):
  PS X (.Assign [.Name x pos'] e pos) (q_ te (bx i)):=by
 intro pins s σ H D I h;refine wpAny_Assign_Name (bt (he pins s σ H _ I h) λv s1 ⟨y,H1,I1,r1,q1⟩=>?_) hs
 exact HD I1 hN hi hx r1 (λs2 I2=>⟨_,H1,I2,q1⟩) hf
def xm(c:TT)(tb:TS):TS:=λD σ H=>∃W:Nat->St->Hp->Prop,(∃m,W m σ H)/\∀m σ H,W m σ H ->
 c σ H λb H1=>if b=true then ∃N:St->Hp->Prop,(∀aI H',N aI H'->∃m',m'<m/\W m' aI H')/\tb {D with nx:=N,ct:=N,bk:=D.nx} σ H1 else D.nx σ H1
def Xy{body:List Stmt}{tc:TT}(hp:PassesOwn (model X.prog X.w) X.A X.env X.xe)(hc:PT X c tc)(hb:lH X body tb):PS X (.While c body [] pos) (xm tc tb):=by
 intro pins s σ H D I h;obtain⟨W,⟨m0,w0⟩,turn⟩:=h;refine wpAny_While (codeAny_whileLoop (λn s'=>∃aI H',Inv X pins aI H' s'/\W n aI H') ?_ m0 ⟨σ,H,I,w0⟩)
 rintro n s1 ⟨si,H1,I1,w1⟩;refine wpAny_passesOwn hp (bt (hc pins s1 si H1 _ I1 (turn n si H1 w1)) λb s2 ⟨H2,I2,q2⟩=>?_)
 cases b with
 |true=>
  obtain⟨N,hN,q2⟩:=q2;rw[if_pos rfl];refine wpAny_passesOwn hp (bt (hb pins s2 si H2 _ I2 q2) λf s3 q3=>?_)
  cases f with
  |next=>
   obtain⟨xu,H3,I3,n3⟩:=q3
   grind
  |cont=>
   obtain⟨xu,H3,I3,n3⟩:=q3
   grind
  |brk=>exact q3
  |ret v=>exact q3
 |false=>
  rw[if_neg w1f];exact wpAny_execs_nil ⟨si,H2,I2,q2⟩
structure It where
 go:Nat->Hp->Prop
 kI:Nat->Hp->V->Hp->Prop
 stop:Nat->Hp->Prop
def eD(X:Cx)(pins:List (Addr×Obj))(H:Hp)(b:Addr):Prop:=
 H b=none/\b≠X.env.locals/\b∉X.fs/\(b∈X.ex\/X.ax.heap.objs.size<=b)/\(∀x c,X.env.cells.lookup x=some c->c≠b)/\∀p∈X.pn++pins,p.1≠b
def Inv.jr{b:Addr}(I:Inv X pins σ H s)(hb:s.heap.objs.size<=b)(hn:H' b=none):eD X pins H' b:=by
 refine⟨hn,w2g (w0r I.lt hb),I.FL hb,.inr (w0s I.sz hb),λx c e z=>?_,λp hp z=>?_⟩
 .obtain⟨v,q⟩:=I.cell x c e;exact absurd (w0r q.lt (by rw[z];exact hb)) (w2k _)
 .exact absurd (w0r (Heap.lt_size (I.pin p hp).1) (by rw[z];exact hb)) (w2k _)
structure Turn(P:Program)(w:World)(K:Fg)(tg:Expr)(J:It)(fp:List Addr)(it:Addr)(tn:Nat->Heap->Prop):Prop where
 mem:it∈fp
 obj:∀i h,tn i h->∀b∈fp,∃o,h.get? b=some o/\∀v,o.data≠.cell v
 keep:∀i h h',tn i h->(∀b∈fp,∀o,h.get? b=some o->h'.get? b=some o)->tn i h'
 item:∀(X:Cx),X.prog=P->X.w=w->X.K=K->X.calm=true->∀(i:Nat)(pins:List (Addr×Obj))(s:Shared)(σ:St)(H:Hp)(E:Value->Shared->Prop),Inv X pins σ H s->(∀b∈fp,eD X pins H b)->tn i s.heap->J.go i H ->
  wpAny (model P w) X.A (pyNext (.ref it)) (λr s1=>∃u,r=some u /\
   wpAny (model P w) X.A (letOwnedTupleGo tg (.ref it) u) (λ_ s2=>∃x H',Inv X pins σ H' s2/\RelV x u/\J.kI i H x H'/\tn (i+1) s2.heap/\∀b∈fp,H' b=none) E s1) E s
 done:∀(X:Cx),X.prog=P->X.w=w->X.K=K->X.calm=true->∀(i:Nat)(pins:List (Addr×Obj))(s:Shared)(σ:St)(H:Hp)(E:Value->Shared->Prop),Inv X pins σ H s->(∀b∈fp,eD X pins H b)->tn i s.heap->J.stop i H ->
  wpAny (model P w) X.A (pyNext (.ref it)) (λr s1=>r=none/\Inv X pins σ H s1) E s
 self:∀(A:Around)(i:Nat)(s:Shared)(Q:Value->Shared->Prop)(E:Value->Shared->Prop),tn i s.heap->Q (.ref it) s->wpAny (model P w) A (pyIter (.ref it)) Q E s
abbrev TI:=St->Hp->(It->Hp->Prop)->Prop
def JR(X:Cx)(pins:List (Addr×Obj))(σ:St)(tg:Expr)(R:It->Hp->Prop)(Cm:Value)(s2:Shared):Prop:=
 ∃(it:Addr)(fp:List Addr)(tn:Nat->Heap->Prop)(J:It)(H':Hp),Cm=.ref it/\Inv X pins σ H' s2/\Turn X.prog X.w X.K tg J fp it tn/\tn 0 s2.heap/\(∀b∈fp,eD X pins H' b)/\R J H'
def PI(X:Cx)(tg iter:Expr)(wi:TI):Prop:=
 ∀(pins:List (Addr×Obj))(s:Shared)(σ:St)(H:Hp)(R:It->Hp->Prop),Inv X pins σ H s->wi σ H R ->
  wpAny (model X.prog X.w) X.A (eval iter X.env) (λv s1=>wpAny (model X.prog X.w) X.A (pyIter v) (JR X pins σ tg R) X.xe s1) X.xe s
def JF{E : Value -> Shared -> Prop}{s : Shared}{it : Addr}{o : Obj}{n : String}{vs : Array Value}{Q : Unit -> Shared -> Prop}(ho : s.heap.get? it = some o)(hc : o.cls = .type n)(hd : o.data = .fields vs)
    (hn : ["enumerate", "zip", "dict_itemiterator", "dict_reverseitemiterator", "odict_iterator", "itertools.zip_longest", "itertools.pairwise"].contains n = false)(hQ : Q () s) : wpAny M A (letOwnedTupleGo tg (.ref it) u) Q E s := by
  unfold letOwnedTupleGo
  cases tg <;> first
    | exact wpAny_pure hQ
    | (cases u <;> first
        | exact wpAny_pure hQ
        | (refine wpAny_bind (wpAny_load ho ?_)
           rw [hc, hd];show wpAny M A (if (["enumerate", "zip", "dict_itemiterator", "dict_reverseitemiterator", "odict_iterator", "itertools.zip_longest", "itertools.pairwise"].contains n && vs[0]? == some (rawInt _)) = true then _ else _) Q E s;rw [if_neg (by intro h; rw [hn, Bool.false_and] at h; cases h)];exact wpAny_pure hQ))
def xw(K:Fg)(a:Addr):It:=
 ⟨λi H=>∃xs x,bB K H a xs/\xs[i]?=some x,λi H x H'=>H'=H/\∀xs,bB K H a xs->xs[i]?=some x,λi H=>∃xs,bB K H a xs/\xs.length<=i⟩
def xx(K:Fg)(a:Addr):It:=
 ⟨λi H=>∃xs x,cZ K H a xs/\xs[i]?=some x,λi H x H'=>H'=H/\∀xs,cZ K H a xs->xs[i]?=some x,λi H=>∃xs,cZ K H a xs/\xs.length<=i⟩
def pK(lo:Int)(n:Nat):It:=⟨λi _=>i<n,λi H x H'=>H'=H/\x=.int (lo+i),λi _=>n<=i⟩
theorem Wy{P:Program}(a it:Addr):Turn P w K tg (xw K a) [it] it (λi h=>h.IsListIter it a i) where
 mem:=by simp
 obj:=λi h st b hb=>by
  have e:b=it:=by simpa using hb
  subst e;obtain⟨o,e,c,d⟩:=st
  grind
 keep:=λi h h' st k=>st.at λo e=>k it (by simp) o e
 item:=by
  intro X hP hw hK hc i pins s σ H E I hf st hg;subst hP hw hK;obtain⟨xs,x,hq,hx⟩:=hg;obtain⟨aw,rv,p,hz⟩:=I.list hq;obtain⟨u,hu,ru⟩:=rv.get hx;obtain⟨f0,f1,f2,f3,f4,f5⟩:=hf it (by simp);refine wpAny_pyNext_list_item st p.isList (x:=u) (by simpa using hu) λh' oI sb=>?_
  have I1:Inv X pins σ H {s with heap:=h'}:=I.turned (t':=s.toks) (λb o hb e=>(sb.2 b hb).trans e) f0 f1 f3 f4 f5
  obtain⟨o,e,c,d⟩:=id oI;exact⟨u,rfl,JF (s:={s with heap:=h'}) e c d (by decide) ⟨x,H,I1,ru,⟨rfl,λys hy=>by rw[I.hX hy hq];exact hx⟩,oI,λb hb=>(hf b hb).1⟩⟩
 done:=by
  intro X hP hw hK hc i pins s σ H E I hf st hg;subst hP hw hK;obtain⟨xs,hq,hx⟩:=hg;obtain⟨aw,rv,p,hz⟩:=I.list hq;obtain⟨f0,f1,f2,f3,f4,f5⟩:=hf it (by simp);have hl:=rv.length;exact wpAny_pyNext_list_end (I.ok.hd hc) st p.isList (by simp;omega) λh' eb=>⟨rfl,I.turned (t':=s.toks) (λb o hb e=>eb b o hb e) f0 f1 f3 f4 f5⟩
 self:=λ_ _ _ _ _ st h=>wpAny_pyIter_listiter st h
theorem VX{P:Program}(a it:Addr):Turn P w K tg (xx K a) [it] it (λi h=>h.IsTupleIter it a i) where
 mem:=by simp
 obj:=λi h st b hb=>by
  have e:b=it:=by simpa using hb
  subst e;obtain⟨o,e,c,d⟩:=st
  grind
 keep:=λi h h' st k=>st.at λo e=>k it (by simp) o e
 item:=by
  intro X hP hw hK hc i pins s σ H E I hf st hg;subst hP hw hK;obtain⟨xs,x,hq,hx⟩:=hg;obtain⟨aw,rv,p,hz⟩:=I.tuple hq;obtain⟨u,hu,ru⟩:=rv.get hx;obtain⟨f0,f1,f2,f3,f4,f5⟩:=hf it (by simp);refine wpAny_pyNext_tuple_item st (show s.heap.IsTuple a aw.toArray from p) (x:=u) (by simpa using hu) λh' oI sb=>?_
  have I1:Inv X pins σ H {s with heap:=h'}:=I.turned (t':=s.toks) (λb o hb e=>(sb.2 b hb).trans e) f0 f1 f3 f4 f5
  obtain⟨o,e,c,d⟩:=id oI;exact⟨u,rfl,JF (s:={s with heap:=h'}) e c d (by decide) ⟨x,H,I1,ru,⟨rfl,λys hy=>by rw[I.fX hy hq];exact hx⟩,oI,λb hb=>(hf b hb).1⟩⟩
 done:=by
  intro X hP hw hK hc i pins s σ H E I hf st hg;subst hP hw hK;obtain⟨xs,hq,hx⟩:=hg;obtain⟨aw,rv,p,hz⟩:=I.tuple hq;obtain⟨f0,f1,f2,f3,f4,f5⟩:=hf it (by simp);have hl:=rv.length;exact wpAny_pyNext_tuple_end (I.ok.hd hc) st (show s.heap.IsTuple a aw.toArray from p) (by simp;omega) λh' eb=>⟨rfl,I.turned (t':=s.toks) (λb o hb e=>eb b o hb e) f0 f1 f3 f4 f5⟩
 self:=λ_ _ _ _ _ st h=>wpAny_pyIter_tupleiter st h
theorem VY{P:Program}(it:Addr)(lo:Int)(n:Nat):Turn P w K tg (pK lo n) [it] it (λi h=>IsRangeIter h it (lo+(i:Nat)*1) ((n:Int)-(i:Nat)) 1) where
 mem:=by simp
 obj:=λi h st b hb=>by
  grind
 keep:=λi h h' st k=>k it (by simp) _ st
 item:=by
  intro X hP hw hK hc i pins s σ H E I hf st hg;subst hP hw hK;obtain⟨f0,f1,f2,f3,f4,f5⟩:=hf it (by simp);have W:=Walks.range (prog:=X.prog) (w:=X.w) (I.ok.hd hc) it lo 1 n;refine W.item i s _ _ hg st λv h' tk hv oI kk=>?_
  obtain⟨t,rfl⟩:=hv;have I1:Inv X pins σ H {s with heap:=h',toks:=tk}:=I.turned (λb o hb e=>kk b o (by simpa using hb) e) f0 f1 f3 f4 f5
  refine⟨_,rfl,JF (s:={s with heap:=h',toks:=tk}) (n:="range_iterator") oI rfl rfl (by decide) ⟨.int (lo+i),H,I1,⟨t,?_⟩,⟨rfl,rfl⟩,oI,λb hb=>(hf b hb).1⟩⟩
  rw[Int.mul_one]
 done:=by
  intro X hP hw hK hc i pins s σ H E I hf st hg;subst hP hw hK;obtain⟨f0,f1,f2,f3,f4,f5⟩:=hf it (by simp);exact wpAny_pyNext_range_end (I.ok.hd hc) st (by have:n<=i:=hg;omega) λh' eb=>⟨rfl,I.turned (t':=s.toks) (λb o hb e=>eb b o hb e) f0 f1 f3 f4 f5⟩
 self:=λ_ _ _ _ _ st h=>wpAny_pyIter_rangeiter st h
def Xz{R:It->Hp->Prop}{lo hi:Int}{t u v:Tok}{tk:Nat}(I:Inv X pins σ H s)(h1:-(2^62)<=lo)(h2:lo<2^62)(h3:-(2^62)<=hi)(h4:hi<2^62)
  (q:R (pK lo (hi-lo).toNat) H):wpAny (model X.prog X.w) X.A (pyIter (.ref s.heap.objs.size)) (JR X pins σ tg R) E {s with heap:=s.heap.push {cls:=.type "range", data:=.fields #[.int lo t,.int hi u,.int 1 v]},toks:=tk}:=by
 refine wpAny_pyIter_range (IsRange.new ..) (small_one h1 h2 h3 h4) ?_;have I1:Inv X pins σ H {s with heap:=s.heap.push {cls:=.type "range", data:=.fields #[.int lo t,.int hi u,.int 1 v]},toks:=tk}:=I.kept λb o e=>Heap.get?_push_of_some _ e
 refine⟨(s.heap.push {cls:=.type "range", data:=.fields #[.int lo t,.int hi u,.int 1 v]}).objs.size,[(s.heap.push {cls:=.type "range", data:=.fields #[.int lo t,.int hi u,.int 1 v]}).objs.size],_,_,H,rfl,
  I1.kept (t':=tk) λb o e=>Heap.get?_push_of_some _ e,VY _ lo (hi-lo).toNat,?_,λb hb=>?_,q⟩
 .have e1:lo+((0:Nat):Int)*1=lo:=by simp
  have e2:(((hi-lo).toNat:Nat):Int)-((0:Nat):Int)=Builtin.Range.rangeSize lo hi 1:=by grind [rangeSize_one]
  show IsRangeIter _ _ (lo+((0:Nat):Int)*1) ((((hi-lo).toNat:Nat):Int)-((0:Nat):Int)) 1;rw[e1,e2];exact Heap.get?_push_size _ rfl
 .have e:b=(s.heap.push {cls:=.type "range", data:=.fields #[.int lo t,.int hi u,.int 1 v]}).objs.size:=by simpa using hb
  subst e;exact I1.jr (w0c _) (I1.aG.fresh (w0c _))
def uJ(ta:TA):TI:=λσ H R=>ta σ H λvs H1=>∃j:Int,vs=[.int j]/\-(2^62)<=j/\j<2^62/\R (pK 0 j.toNat) H1
def Hf{a:Expr}{ta:TA}(hg:Gl X "range")(hm:X.mg "range"=none)(ha:PA X [a] ta)(hs:autoParam (starEach [a] X.env=[(false,eval a X.env)]) jJ):PI X tg (.Call (.Name "range" p) [a] [] pos) (uJ ta):=by
 intro pins s σ H R I h;refine Call_ (qJ I hg hm boot_range (PyProof.Rows.callWith_type1 (bt (ha pos pins s σ H _ I h) λus s1 ⟨vs,H1,I1,r1,q1⟩=>?_) hs rfl))
 obtain⟨j,e,q1,q2,q⟩:=q1;subst e;cases r1 with
 |cons r rr=>
  cases rr;obtain⟨t,rfl⟩:=r;exact call_range_1 (Xz I1 (by omega) (by omega) q1 q2 (by simpa using q))
def IB(wi:TI)(g:TG)(tb:TS):TS:=λD σ H=>wi σ H λJ H1=>∃W:Nat->Nat->St->Hp->Prop,(∃m,W 0 m σ H1)/\∀i m σ H,W i m σ H ->
 (J.stop i H/\D.nx σ H)\/(J.go i H/\∃N:St->Hp->Prop,(∀aI H',N aI H'->∃m',m'<m/\W (i+1) m' aI H')/\∀x H',J.kI i H x H'->g x σ H' λjg H2=>tb {D with nx:=N,ct:=N,bk:=D.nx} jg H2)
def iC(fp:List Addr)(h:Heap):List (Addr×Obj):=fp.filterMap λb=>(h.get? b).map λo=>(b,o)
theorem wD{b:Addr}{o:Obj}(hb:b∈fp)(e:h.get? b=some o):(b,o)∈iC fp h:=w2f.mpr ⟨b,hb,by rw[e];rfl⟩
def Wz{p:Addr×Obj}(hp:p∈iC fp h):p.1∈fp/\h.get? p.1=some p.2:=by
 obtain⟨b,hb,e⟩:=w2f.mp hp;cases q:h.get? b with
 |none=>rw[q]at e;cases e
 |some o=>
  grind
theorem Inv.pinned(I:Inv X pins σ H s)(hf:∀b∈fp,eD X pins H b)(ho:∀b∈fp,∃o,s.heap.get? b=some o/\∀v,o.data≠.cell v):Inv X (pins++iC fp s.heap) σ H s:=
 I.jb λp hp=>(w3l.mp hp).elim (λz=>I.pin p (w0j _ z)) λz=>by
  obtain⟨hb,e⟩:=Wz z;obtain⟨f0,f1,f2,_⟩:=hf p.1 hb
  grind
theorem Inv.eS{pl:List (Addr×Obj)}(I:Inv X (pins++pl) σ H s):Inv X pins σ H s:=I.jb λp hp=>I.pin p (w0j _ (w2a _ hp))
def Jv{iter:Expr}{body:List Stmt}{wi:TI}{g:TG}(hp:PassesOwn (model X.prog X.w) X.A X.env X.xe)(hc:X.calm=true)(hi:PI X tg iter wi)(hg:PG X tg g)(hb:lH X body tb)
  (hs:∀x,foldedSetIterable iter X.env x=pure x:=by intro _;rfl):PS X (.For tg iter body [] pos) (IB wi g tb):=by
 intro pins s σ H D I h;refine wpAny_For (bt (hi pins s σ H _ I h) λv s1 h1=>bt h1 λCm s2 h2=>?_) hs
 obtain⟨it,fp,tn,J,H2,e,I2,T,iF,f2,W,⟨m0,w0⟩,turn⟩:=h2;subst e;have jF:∀{H':Hp},(∀b∈fp,H' b=none)->∀b∈fp,eD X pins H' b:=λhn b hb=>⟨hn b hb,(f2 b hb).2⟩
 refine codeAny_forLoop_any (λn s'=>∃i aI H',Inv X pins aI H' s'/\tn i s'.heap/\(∀b∈fp,H' b=none)/\W i n aI H') ?_ m0 ⟨0,σ,H2,I2,iF,λb hb=>(f2 b hb).1,w0⟩
 rintro n s3 ⟨i,xu,H3,I3,vc,uq,w3⟩;rcases turn i n xu H3 w3 with⟨stop,qn⟩|⟨go,N,hN,step⟩
 .refine wpAny_passesOwn hp (bt (T.done X rfl rfl rfl hc i pins s3 xu H3 X.xe I3 (jF uq) vc stop) λr s4 ⟨hr,I4⟩=>?_)
  subst hr;exact wpAny_execs_nil ⟨xu,H3,I4,qn⟩
 .refine wpAny_passesOwn hp (bt (T.item X rfl rfl rfl hc i pins s3 xu H3 X.xe I3 (jF uq) vc go) λr s4 ⟨u,hr,h4⟩=>?_)
  subst hr;refine wpAny_passesOwn hp (bt h4 λ_ s5 ⟨x,H5,I5,r5,y5,Iy,Ez⟩=>?_)
  have QL:=I5.pinned (jF Ez) (T.obj _ _ Iy);refine wpAny_passesOwn hp (bt (hg _ s5 xu H5 x u _ QL r5 (step x H5 y5)) λ_ s6 ⟨JP,H6,I6,q6⟩=>?_)
  refine wpAny_passesOwn hp (bt (hb _ s6 JP H6 _ I6 q6) λf s7 q7=>?_)
  have again:∀{lG:St}{H7:Hp},Inv X (pins++iC fp s5.heap) lG H7 s7->N lG H7->∃m,m<n/\∃i aI H',Inv X pins aI H' s7/\tn i s7.heap/\(∀b∈fp,H' b=none)/\W i m aI H':=λ{lG H7} I7 n7=>by
   obtain⟨m',hm,w7⟩:=hN lG H7 n7;refine⟨m',hm,i+1,lG,H7,I7.eS,T.keep _ _ _ Iy λb hb o e=>(I7.pin (b,o) (w0j _ (w0j _ (wD hb e)))).1,λb hb=>?_,w7⟩
   obtain⟨o,e,d⟩:=T.obj _ _ Iy b hb;exact(I7.pin (b,o) (w0j _ (w0j _ (wD hb e)))).2.1
  cases f with
  |next=>obtain⟨lG,H7,I7,n7⟩:=q7;exact again I7 n7
  |cont=>obtain⟨lG,H7,I7,n7⟩:=q7;exact again I7 n7
  |brk=>obtain⟨lG,H7,I7,q7⟩:=q7;exact⟨lG,H7,I7.eS,q7⟩
  |ret v=>obtain⟨x7,lG,H7,I7,r7,q7⟩:=q7;exact⟨x7,lG,H7,I7.eS,r7,q7⟩
def XA{g:TG}{D:Ends}(Pv:Nat->St->Hp->Prop)(h0:Pv 0 σ H)(hl:∀i σ H,i<=xs.length->Pv i σ H->bB K H a xs)
  (hs:∀i x σ H,xs[i]?=some x->Pv i σ H->g x σ H λjg H2=>tb {D with nx:=Pv (i+1),ct:=Pv (i+1),bk:=D.nx} jg H2)(hd:∀σ H,Pv xs.length σ H->D.nx σ H):
  ∃W:Nat->Nat->St->Hp->Prop,(∃m,W 0 m σ H)/\∀i m σ H,W i m σ H ->
   ((xw K a).stop i H/\D.nx σ H)\/((xw K a).go i H/\∃N:St->Hp->Prop,(∀aI H',N aI H'->∃m',m'<m/\W (i+1) m' aI H')/\∀x H',(xw K a).kI i H x H'->g x σ H' λjg H2=>tb {D with nx:=N,ct:=N,bk:=D.nx} jg H2):=by
 refine⟨λi m σ H=>m=xs.length-i/\i<=xs.length/\Pv i σ H,⟨xs.length,by simp,w1a _,h0⟩,?_⟩
 rintro i m σ H ⟨rfl,hi,p⟩;have q:=hl i σ H hi p
 by_cases cb:i<xs.length
 .refine .inr ⟨⟨xs,xs[i],q,by simp[cb]⟩,Pv (i+1),λaI H' p'=>⟨xs.length-(i+1),by omega,rfl,cb,p'⟩,λx H' y=>?_⟩
  obtain⟨e,y⟩:=y
  grind
 .have e:i=xs.length:=by omega
  subst e;exact .inl ⟨⟨xs,q,w0c _⟩,hd σ H p⟩
def Y'{g:TG}{D:Ends}(Pv:Nat->St->Hp->Prop)(h0:Pv 0 σ H)(hl:∀i σ H,i<=xs.length->Pv i σ H->cZ K H a xs)
  (hs:∀i x σ H,xs[i]?=some x->Pv i σ H->g x σ H λjg H2=>tb {D with nx:=Pv (i+1),ct:=Pv (i+1),bk:=D.nx} jg H2)(hd:∀σ H,Pv xs.length σ H->D.nx σ H):
  ∃W:Nat->Nat->St->Hp->Prop,(∃m,W 0 m σ H)/\∀i m σ H,W i m σ H ->
   ((xx K a).stop i H/\D.nx σ H)\/((xx K a).go i H/\∃N:St->Hp->Prop,(∀aI H',N aI H'->∃m',m'<m/\W (i+1) m' aI H')/\∀x H',(xx K a).kI i H x H'->g x σ H' λjg H2=>tb {D with nx:=N,ct:=N,bk:=D.nx} jg H2):=by
 refine⟨λi m σ H=>m=xs.length-i/\i<=xs.length/\Pv i σ H,⟨xs.length,by simp,w1a _,h0⟩,?_⟩
 rintro i m σ H ⟨rfl,hi,p⟩;have q:=hl i σ H hi p
 by_cases cb:i<xs.length
 .refine .inr ⟨⟨xs,xs[i],q,by simp[cb]⟩,Pv (i+1),λaI H' p'=>⟨xs.length-(i+1),by omega,rfl,cb,p'⟩,λx H' y=>?_⟩
  obtain⟨e,y⟩:=y
  grind
 .have e:i=xs.length:=by omega
  subst e;exact .inl ⟨⟨xs,q,w0c _⟩,hd σ H p⟩
def WA{lo:Int}{n:Nat}{g:TG}{D:Ends}(Pv:Nat->St->Hp->Prop)(h0:Pv 0 σ H)
  (hs:∀i σ H,i<n->Pv i σ H->g (.int (lo+i)) σ H λjg H2=>tb {D with nx:=Pv (i+1),ct:=Pv (i+1),bk:=D.nx} jg H2)(hd:∀σ H,Pv n σ H->D.nx σ H):
  ∃W:Nat->Nat->St->Hp->Prop,(∃m,W 0 m σ H)/\∀i m σ H,W i m σ H ->
   ((pK lo n).stop i H/\D.nx σ H)\/((pK lo n).go i H/\∃N:St->Hp->Prop,(∀aI H',N aI H'->∃m',m'<m/\W (i+1) m' aI H')/\∀x H',(pK lo n).kI i H x H'->g x σ H' λjg H2=>tb {D with nx:=N,ct:=N,bk:=D.nx} jg H2):=by
 refine⟨λi m σ H=>m=n-i/\i<=n/\Pv i σ H,⟨n,by simp,w1a _,h0⟩,?_⟩
 rintro i m σ H ⟨rfl,hi,p⟩
 by_cases cb:i<n
 .refine .inr ⟨cb,Pv (i+1),λaI H' p'=>⟨n-(i+1),by omega,rfl,cb,p'⟩,λx H' y=>?_⟩
  obtain⟨e,y⟩:=y;subst e y;exact hs i σ _ cb p
 .have e:i=n:=by omega
  subst e;exact .inl ⟨w0c _,hd σ H p⟩
abbrev R2:=V->V->Hp->VK->Prop
variable{r:R2}
def fj(X:Cx)(f:Value->Value->Sem Value)(r:R2):Prop:=
 ∀(pins:List (Addr×Obj))(s:Shared)(σ:St)(H:Hp)(x y:V)(v u:Value)(Q:VK),Inv X pins σ H s->RelV x v->RelV y u->r x y H Q ->
  wpAny (model X.prog X.w) X.A (f v u) (EP X pins σ Q) X.xe s
def yL(X:Cx)(f:Value->Sem Value)(r:V->Hp->VK->Prop):Prop:=
 ∀(pins:List (Addr×Obj))(s:Shared)(σ:St)(H:Hp)(x:V)(v:Value)(Q:VK),Inv X pins σ H s->RelV x v->r x H Q ->
  wpAny (model X.prog X.w) X.A (f v) (EP X pins σ Q) X.xe s
def cX(X:Cx)(f:Value)(r:List V->Hp->VK->Prop):Prop:=
 ∀(pins:List (Addr×Obj))(s:Shared)(σ:St)(H:Hp)(xs:List V)(us:List Value)(Q:VK),Inv X pins σ H s->Vals xs us->r xs H Q ->
  wpAny (model X.prog X.w) X.A (call f us) (EP X pins σ Q) X.xe s
def yK(X:Cx)(r:V->Hp->(Bool->Hp->Prop)->Prop):Prop:=
 ∀(pins:List (Addr×Obj))(s:Shared)(σ:St)(H:Hp)(x:V)(v:Value)(Q:Bool->Hp->Prop),Inv X pins σ H s->RelV x v->r x H Q ->
  wpAny (model X.prog X.w) X.A (truthy v) (TP X pins σ Q) X.xe s
def BB(r:R2)(ta tb:TE):TE:=λσ H Q=>ta σ H λx H1=>tb σ H1 λy H2=>r x y H2 Q
def L9(r:V->Hp->VK->Prop)(ta:TE):TE:=λσ H Q=>ta σ H λx H1=>r x H1 Q
def rI(C:Int->Int->Prop)(g:Int->Int->V):R2:=λx y H Q=>∃i j,x=.int i/\y=.int j/\C i j/\Q (g i j) H
def nQ(g:Int->Int->V):R2:=λx y H Q=>∃i j,x=.int i/\y=.int j/\Q (g i j) H
def rU(g:Int->V):V->Hp->VK->Prop:=λx H Q=>∃i,x=.int i/\Q (g i) H
section
variable{a b:Expr}{tb tc:TE}
def vp(ha:PE X a ta)(hb:PE X b tb){R:V->V->Hp->Prop}(I:Inv X pins σ H s)
  (h:ta σ H λx H1=>tb σ H1 λy H2=>R x y H2){Q:Value->Shared->Prop}
  (hf:∀v u s2 x y H2,Inv X pins σ H2 s2->RelV x v->RelV y u->R x y H2->wpAny (model X.prog X.w) X.A (f v u) Q X.xe s2):
  wpAny (model X.prog X.w) X.A (eval a X.env) (λv aD=>wpAny (model X.prog X.w) X.A (eval b X.env) (λu mH=>wpAny (model X.prog X.w) X.A (f v u) Q X.xe mH) X.xe aD) X.xe s:=by
 refine bt (ha pins s σ H _ I h) λv s1 ⟨x,H1,I1,r1,q1⟩=>?_
 refine bt (hb pins s1 σ H1 _ I1 q1) λu s2 ⟨y,H2,I2,r2,q2⟩=>?_
 exact hf v u s2 x y H2 I2 r1 r2 q2
def Qr{op:Operator}(ho:fj X (binaryOp op) r)(ha:PE X a ta)(hb:PE X b tb):PE X (.BinOp a op b pos) (BB r ta tb):=by
 intro pins s σ H Q I h;exact wpAny_BinOp (vp ha hb I h λv u s2 x y H2 I2 rx ry q=>ho pins s2 σ H2 x y v u Q I2 rx ry q)
def QR{op:UnaryOp}{r:V->Hp->VK->Prop}(ho:yL X (unaryOp op) r)(ha:PE X a ta):PE X (.UnaryOp op a pos) (L9 r ta):=by
 intro pins s σ H Q I h;exact UnaryOp_ (bt (ha pins s σ H _ I h) λv s1 ⟨x,H1,I1,r1,q1⟩=>ho pins s1 σ H1 x v Q I1 r1 q1)
def Cp{C:Int->Int->Prop}{g:Int->Int->Int}
  (rule:∀(i j:Int)(t u:Tok)(s:Shared)(Q:Value->Shared->Prop)(E:Value->Shared->Prop),C i j->Q (.int (g i j) s.toks) {s with toks:=s.toks+1}->wpAny (model X.prog X.w) X.A (f (.int i t) (.int j u)) Q E s):
  fj X f (rI C λi j=>.int (g i j)):=by
 intro pins s σ H x y v u Q I rx ry h;obtain⟨i,j,rfl,rfl,hc,q⟩:=h;obtain⟨t,rfl⟩:=rx;obtain⟨t',rfl⟩:=ry;exact rule i j t t' s _ _ hc ⟨.int (g i j),H,I.tok _,⟨_,rfl⟩,q⟩
def Av{g:Int->Int->Int}
  (rule:∀(i j:Int)(t u:Tok)(s:Shared)(Q:Value->Shared->Prop)(E:Value->Shared->Prop),Q (.int (g i j) s.toks) {s with toks:=s.toks+1}->wpAny (model X.prog X.w) X.A (f (.int i t) (.int j u)) Q E s):
  fj X f (nQ λi j=>.int (g i j)):=by
 intro pins s σ H x y v u Q I rx ry h;obtain⟨i,j,rfl,rfl,q⟩:=h;obtain⟨t,rfl⟩:=rx;obtain⟨t',rfl⟩:=ry;exact rule i j t t' s _ _ ⟨.int (g i j),H,I.tok _,⟨_,rfl⟩,q⟩
def tu{g:Int->Int->Bool}
  (rule:∀(i j:Int)(t u:Tok)(s:Shared)(Q:Value->Shared->Prop)(E:Value->Shared->Prop),Q (.bool (g i j)) s->wpAny (model X.prog X.w) X.A (f (.int i t) (.int j u)) Q E s):
  fj X f (nQ λi j=>.bl (g i j)):=by
 intro pins s σ H x y v u Q I rx ry h;obtain⟨i,j,rfl,rfl,q⟩:=h;obtain⟨t,rfl⟩:=rx;obtain⟨t',rfl⟩:=ry;exact rule i j t t' s _ _ ⟨.bl (g i j),H,I,rfl,q⟩
def yx(i j:Int):Prop:=0<j/\j<1073741824
def yy(i j:Int):Prop:=0<=j/\j<=1000000/\i.natAbs<2^64
def sm(i j:Int):Prop:=(-(2^64)<i/\i<2^64)\/(-(2^64)<j/\j<2^64)
def sm.ok{i j:Int}(h:sm i j):IntMulOk i j:=by
 rcases h with⟨h1,h2⟩|⟨h1,h2⟩
 .exact .of_left (intBits_le_64 h1 h2)
 .exact .of_right (intBits_le_64 h1 h2)
theorem wq:fj X (binaryOp .Add) (nQ λi j=>.int (i+j)):=Av λ_ _ _ _ _ _ _ q=>add_int q
theorem z4u:fj X (binaryOp .Sub) (nQ λi j=>.int (i-j)):=Av λ_ _ _ _ _ _ _ q=>sub_int q
theorem z4v:fj X (binaryOp .Mult) (rI sm λi j=>.int (i*j)):=Cp λ_ _ _ _ _ _ _ hc q=>mul_int q hc.ok
theorem Za:fj X (binaryOp .FloorDiv) (rI yx λi j=>.int (i / j)):=Cp λi j _ _ _ _ _ hc q=>by
 have h1:(0:Int)<j:=hc.1;have h2:j<1073741824:=hc.2;exact floordiv_int (by omega) (by rw[Int.fdiv_eq_ediv_of_nonneg i (by omega)];exact q) (.inl (PyProof.noPylong_small (by omega)))
theorem z4w:fj X (binaryOp .Mod) (rI (λ_ j=>0<j) λi j=>.int (i%j)):=Cp λi j _ _ _ _ _ hc q=>by
 have h1:(0:Int)<j:=hc;exact mod_int' (by omega) (by rw[Int.fmod_eq_emod_of_nonneg i (by omega)];exact q)
theorem z4x:fj X (binaryOp .Pow) (rI yy λi j=>.int (i^j.toNat)):=Cp λ_ _ _ _ _ _ _ hc q=>pow_int_small hc.1 hc.2.1 hc.2.2 q
def Ug{f:Value->Sem Value}{g:Int->Int}
  (rule:∀(i:Int)(t:Tok)(s:Shared)(Q:Value->Shared->Prop)(E:Value->Shared->Prop),Q (.int (g i) s.toks) {s with toks:=s.toks+1}->wpAny (model X.prog X.w) X.A (f (.int i t)) Q E s):
  yL X f (rU λi=>.int (g i)):=by
 intro pins s σ H x v Q I rx h;obtain⟨i,rfl,q⟩:=h;obtain⟨t,rfl⟩:=rx;exact rule i t s _ _ ⟨.int (g i),H,I.tok _,⟨_,rfl⟩,q⟩
theorem z4y:yL X (unaryOp .USub) (rU λi=>.int (-i)):=Ug λ_ _ _ _ _ q=>neg_int q
end
section
variable{a b:Expr}{tb tc:TE}
def Pq{Q:VK}{k k':Bool}(I:Inv X pins σ H s)(q:Q (.bl k) H)(e:k=k'):EP X pins σ Q (.bool k') s:=by
 subst e;exact⟨.bl k,H,I,rfl,q⟩
theorem Qs:fj X (compareOp .Lt) (nQ λi j=>.bl (decide (i<j))):=tu λ_ _ _ _ _ _ _ q=>lt_int q
theorem Qt:fj X (compareOp .LtE) (nQ λi j=>.bl (decide (i<=j))):=tu λ_ _ _ _ _ _ _ q=>le_int q
theorem Qu:fj X (compareOp .Gt) (nQ λi j=>.bl (decide (j<i))):=tu λ_ _ _ _ _ _ _ q=>gt_int q
theorem QS:fj X (compareOp .GtE) (nQ λi j=>.bl (decide (j<=i))):=tu λ_ _ _ _ _ _ _ q=>ge_int q
def fj.or{r':R2}(h:fj X f r)(h':fj X f r'):fj X f (λx y H Q=>r x y H Q\/r' x y H Q):=by
 intro pins s σ H x y v u Q I rx ry q;rcases q with q|q
 .exact h pins s σ H x y v u Q I rx ry q
 .exact h' pins s σ H x y v u Q I rx ry q
def cJ(b:Expr)(h:autoParam (op≠.In) jK)(h2:autoParam (op≠.NotIn) jK):behindInMarks op b=false:=by
 have e1:(op==CmpOp.In)=false:=by grind
 have e2:(op==CmpOp.NotIn)=false:=by grind
 cases b<;>simp[behindInMarks,e1,e2]
def Zb(ho:fj X (compareOp op) r)(ha:PE X a ta)(hb:PE X b tb)(hm:behindInMarks op b=false):PE X (.Compare a [op] [b] pos) (BB r ta tb):=by
 intro pins s σ H Q I h;exact wpAny_Compare1 (vp ha hb I h λv u s2 x y H2 I2 rx ry q=>ho pins s2 σ H2 x y v u Q I2 rx ry q) hm
def BE(t:TE):TT:=λσ H Q=>t σ H λx H'=>∃k,x=.bl k/\Q k H'
def Zc(ho:fj X (compareOp op) r)(ha:PE X a ta)(hb:PE X b tb)(hm:behindInMarks op b=false):PT X (.Compare a [op] [b] pos) (BE (BB r ta tb)):=by
 intro pins s σ H Q I h
 refine wpAny_isTrue_Compare1 (bt (ha pins s σ H _ I h) λv s1 ⟨x,H1,I1,r1,q1⟩=>bt (hb pins s1 σ H1 _ I1 q1) λu s2 ⟨y,H2,I2,r2,q2⟩=>
  bt (ho pins s2 σ H2 x y v u _ I2 r1 r2 q2) λc s3 ⟨z,H3,I3,r3,k,e,q3⟩=>?_) hm
 subst e;cases r3;exact wpAny_truthy_bool ⟨H3,I3,q3⟩
def vm(K:Fg)(x:V)(H:Hp)(k:Bool):Prop:=
 match x with
 |.aE=>k=false
 |.bl b=>k=b
 |.int i=>k=(i != 0)
 |.str y=>y.length<=sizeLine/\k=((y.length:Int) != 0)
 |.ud y=>y.size<=sizeLine/\k=((y.size:Int) != 0)
 |.ref p=>(∃xs,bB K H p xs/\k=!xs.isEmpty)\/(∃xs,cZ K H p xs/\k=!xs.isEmpty)\/∃kvs,H p=some (.dK kvs)/\k=!kvs.isEmpty
 |_=>False
def VZ{κ:Type}{kvs:List (κ×V)}{vs:List (κ×Value)}(r:KV kvs vs):(!vs.isEmpty)=!kvs.isEmpty:=by
 cases r<;>rfl
def LR{aw:List Value}(r:Vals xs aw):(!aw.toArray.isEmpty)=!xs.isEmpty:=by
 cases r<;>simp
def gJ:(sizeLine:Nat)<2^63:=by rw[sizeLine_eq];decide
def z4z:yK X (λx H Q=>∃k,vm X.K x H k/\Q k H):=by
 intro pins s σ H x v Q I rx h;obtain⟨k,e,q⟩:=h;have hl:=gJ;have hs:sizeLine=16777216:=sizeLine_eq;cases x with
 |aE=>
  cases rx;have e':k=false:=e;subst e';exact truthy_none ⟨H,I,q⟩
 |bl b=>
  cases rx;have e':k=b:=e;subst e';exact wpAny_truthy_bool ⟨H,I,q⟩
 |int i=>
  obtain⟨t,rfl⟩:=rx;have e':k=(i != 0):=e;subst e';exact PySem.P.truthy_int ⟨H,I,q⟩
 |str y=>
  obtain⟨t,rfl⟩:=rx;obtain⟨hy,e'⟩:y.length<=sizeLine/\k=((y.length:Int) != 0):=e;subst e';exact PySem.P.truthy_str (by omega) ⟨H,I.tok _,q⟩
 |ud y=>
  obtain⟨t,rfl⟩:=rx;obtain⟨hy,e'⟩:y.size<=sizeLine/\k=((y.size:Int) != 0):=e;subst e';exact PySem.W.truthy_bytes (by omega) ⟨H,I.tok _,q⟩
 |ref p=>
  cases rx;have e':(∃xs,bB X.K H p xs/\k=!xs.isEmpty)\/(∃xs,cZ X.K H p xs/\k=!xs.isEmpty)\/∃kvs,H p=some (.dK kvs)/\k=!kvs.isEmpty:=e;rcases e' with⟨xs,hx,e'⟩|⟨xs,hx,e'⟩|⟨kvs,hx,e'⟩
  .subst e';obtain⟨aw,r,pl,hz⟩:=I.list hx;have hlen:=r.length;exact wpAny_truthy_list pl.isList (by simp only[w1c];omega) ⟨H,I.tok _,by rw[LR r];exact q⟩
  .subst e';obtain⟨aw,r,pl,hz⟩:=I.tuple hx;have hlen:=r.length;exact truthy_tuple pl (by simp only[w1c];omega) ⟨H,I.tok _,by rw[LR r];exact q⟩
  .subst e';obtain⟨hz,hS,vs,r,m⟩:kvs.length<=sizeLine/\(p==sysModules)=false/\∃vs,KV kvs vs/\s.heap.DictOf (cV X.prog X.w) p vs:=I.aG p _ hx;have hlen:kvs.length=vs.length:=Paired.length r;exact wpAny_truthy_dict hS m (by omega) ⟨H,I.tok _,by rw[VZ r];exact q⟩
 |_=>exact(show False from e).elim
def XS(ha:PE X a ta)(he:∀whole,isTrue a X.env whole=(do let v <- whole;standAt a.pos;holding [v] (truthy v))):
  PT X a (λσ H Q=>ta σ H λx H'=>∃k,vm X.K x H' k/\Q k H'):=by
 intro pins s σ H Q I h;exact isTrue_plain (bt (ha pins s σ H _ I h) λv s1 ⟨x,H1,I1,r1,q1⟩=>z4z pins s1 σ H1 x v Q I1 r1 q1) (he _)
def nK:fj X (binaryOp .Add) (λx y H Q=>∃i j,x=.str i/\y=.str j/\i.length+j.length<=sizeLine/\Q (.str (i++j)) H):=by
 intro pins s σ H x y v u Q I rx ry h;obtain⟨i,j,rfl,rfl,hz,q⟩:=h;obtain⟨t,rfl⟩:=rx;obtain⟨t',rfl⟩:=ry;exact add_str (λt' tk=>⟨.str (i++j),H,I.tok _,⟨_,rfl⟩,q⟩) hz
def vals1{x:V}(r:Vals [x] us):∃u,us=[u]/\RelV x u:=by
 cases r with
 |cons r1 r2=>cases r2;exact⟨_,rfl,r1⟩
def vals2{x y:V}(r:Vals [x,y] us):∃u w',us=[u,w']/\RelV x u/\RelV y w':=by
 cases r with
 |cons r1 r2=>
  cases r2 with
  |cons r3 r4=>cases r4;grind
def WB:cX X (.type "int") (λxs H Q=>(∃i,xs=[.int i]/\Q (.int i) H)\/∃k,xs=[.bl k]/\Q (.int (if k then 1 else 0)) H):=by
 intro pins s σ H xs us Q I r h;rcases h with⟨i,rfl,q⟩|⟨k,rfl,q⟩
 .obtain⟨u,rfl,t,rfl⟩:=vals1 r;exact call_int_int ⟨.int i,H,I,⟨_,rfl⟩,q⟩
 .obtain⟨u,rfl,r1⟩:=vals1 r;cases r1;exact call_int_bool ⟨.int (if k then 1 else 0),H,I.tok _,⟨_,rfl⟩,q⟩
def yF(K:Fg)(x:V)(H:Hp)(n:Nat):Prop:=
 match x with
 |.str y=>y.length<=sizeLine/\n=y.length
 |.ud y=>y.size<=sizeLine/\n=y.size
 |.ref p=>(∃xs,bB K H p xs/\n=xs.length)\/∃xs,cZ K H p xs/\n=xs.length
 |_=>False
def Nv:cX X (.builtin "len") (λxs H Q=>∃x n,xs=[x]/\yF X.K x H n/\Q (.int n) H):=by
 intro pins s σ H xs us Q I r h;obtain⟨x,n,rfl,e,q⟩:=h;obtain⟨u,rfl,rx⟩:=vals1 r;have hl:=gJ;have hs:sizeLine=16777216:=sizeLine_eq;cases x with
 |str y=>
  obtain⟨t,rfl⟩:=rx;obtain⟨hy,e'⟩:y.length<=sizeLine/\n=y.length:=e;subst e';exact len_str (by omega) ⟨.int _,H,I.tok _,⟨_,rfl⟩,q⟩
 |ud y=>
  obtain⟨t,rfl⟩:=rx;obtain⟨hy,e'⟩:y.size<=sizeLine/\n=y.size:=e;subst e';exact PySem.W.len_bytes (by omega) ⟨.int _,H,I.tok _,⟨_,rfl⟩,q⟩
 |ref p=>
  cases rx;have e':(∃xs,bB X.K H p xs/\n=xs.length)\/∃xs,cZ X.K H p xs/\n=xs.length:=e;rcases e' with⟨xs,hx,e'⟩|⟨xs,hx,e'⟩
  .subst e';obtain⟨aw,r',pl,hz⟩:=I.list hx;have hlen:=r'.length;exact Calls.call_len_list pl.isList (by grind) ⟨.int xs.length,H,I.tok _,⟨_,by simp only[w1c];rw[hlen]⟩,q⟩
  .subst e';obtain⟨aw,r',pl,hz⟩:=I.tuple hx;have hlen:=r'.length;exact len_tuple pl (by grind) ⟨.int xs.length,H,I.tok _,⟨_,by simp only[w1c];rw[hlen]⟩,q⟩
 |_=>exact(show False from e).elim
end
structure QN(h:Heap)(x dx C:Addr)(mA:Str->Option Value):Prop where
 obj:h.get? x=some (PySem.W.instObj C dx)
 ns:h.Ns1 dx mA
 ne:dx≠x
def nM(f:Str)(v:V):List (Str×V)->List (Str×V)
 |[]=>[(f,v)]
 |(g,x)::r=>if g=f then(g,v)::r else(g,x)::nM f v r
def jR.some_of{v:V}{o:Option Value}(r:jR (some v) o):∃u,o=some u/\RelV v u:=by
 cases o with
 |none=>exact(show False from r).elim
 |some u=>exact⟨u,rfl,r⟩
structure QG(K:Fg)(C:Addr):Prop where
 pg:PySem.W.plainGet K C Str.empty=true
 hd:PySem.W.hasDictIn K C=true
 po:PySem.W.plainOver K C=true
 sa:findIn K (.ref C) "__setattr__"=some (some (.builtin "object.__setattr__"))
structure Con(K:Fg)(C:Addr)(f:Str)(v:V)(u:Value):Prop where
 at_:findIn K (.ref C) f=some (some u)
 rel:RelV v u
 get:specialIn K u "__get__"=some none
 cp:PySem.W.copiedNames.contains f=false
structure Meth(K:Fg)(C:Addr)(m:Str)(f:Addr):Prop where
 at_:findIn K (.ref C) m=some (some (.ref f))
 fn:PySem.W.isFn K (.ref f)=true
 kp:keepIn K (.ref f)=true
section
variable{Q:Value->Shared->Prop}{c:Value}{b:Bool}
inductive jk(K:Fg)(H:Hp):V->Value->Prop where
 |aE:jk K H .aE (.type "NoneType")
 |bl (x:Bool):jk K H (.bl x) (.type "bool")
 |int (i:Int):jk K H (.int i) (.type "int")
 |str (x:Str):jk K H (.str x) (.type "str")
 |um (x:UInt64):jk K H (.um x) (.type "float")
 |lst {a:Addr} {xs:List V} (e:H a=some (.lst xs)):jk K H (.ref a) (.type "list")
 |cP {a:Addr} {o:Obj} {xs:List V} (e:H a=some (.cP o (.lst xs))):jk K H (.ref a) (.type "list")
 |tup {a:Addr} {xs:List V} (e:H a=some (.tup xs)):jk K H (.ref a) (.type "tuple")
 |dK {a:Addr} {kvs:List (Key×V)} (e:H a=some (.dK kvs)):jk K H (.ref a) (.type "dict")
 |dT {a:Addr} {sh:Sh} {kvs:List (Kx×V)} {bp:List Addr} (e:H a=some (.dT sh kvs bp)):jk K H (.ref a) (.type "dict")
 |ins {a C dx:Addr} {fs:List (Str×V)} (e:H a=some (.ins C dx fs)) (cl:QG K C) (ha:findIn K (.ref C) "__class__"=some (some (.builtin "object.__class__")))
   (hn:specialIn K (.builtin "object.__class__") "__get__"=some (some (.builtin "getset_descriptor.__get__"))) (htk:takesIn K (.builtin "object.__class__")=some true)
   (hm:PySem.W.mroIn K C (.type "object")=some true):jk K H (.ref a) (.ref C)
end
structure br(k:Nat)(A:Around):Prop where
 hd:A.handled=none
 dp:A.depth+3*k+5<recursionLimit
 un:A.units+16*k+200<cLine
 gd:A.guards=some []
theorem br.mono{j k:Nat}(r:br k A)(h:j<=k):br j A:=⟨r.hd,by have:=r.dp;omega,by have:=r.un;omega,r.gd⟩
theorem br.deeper{k:Nat}(r:br (k+1) A)(env:Env):br k (A.deeper env):=
 ⟨r.hd,by have:=r.dp;show A.depth+1+3*k+5<_;omega,by have:=r.un;show A.units+3+16*k+200<_;omega,r.gd⟩
theorem br.in1{k:Nat}(r:br (k+1) A):br k A.in1:=
 ⟨r.hd,by have:=r.dp;grind,by have:=r.un;grind,r.gd⟩
def br.depth{k:Nat}(r:br k A):A.depth<recursionLimit:=by have:=r.dp;omega
def Bz:TA:=λ_ H Q=>Q [] H
def rj(ta:TE)(tr:TA):TA:=λσ H Q=>ta σ H λx H1=>tr σ H1 λxs H2=>Q (x::xs) H2
section
variable{t:TA}
theorem Dt:PA X [] Bz:=λ_ _ _ _ H Q I h=>Calls.spliced_nil ⟨[],H,I,.nil,h⟩
def x9(ha:PE X e te)(hr:PA X es t)(hs:autoParam (starEach (e::es) X.env=(false,eval e X.env)::starEach es X.env) jJ):PA X (e::es) (rj te t):=by
 intro pos pins s σ H Q I h;rw[hs];show wpAny _ _ (spliced ((false,eval e X.env)::backTo pos (starEach es X.env))) _ _ s;refine Calls.spliced_cons (bt (ha pins s σ H _ I h) λu s1 ⟨x,H1,I1,r1,q1⟩=>?_)
 exact bt (hr pos pins s1 σ H1 _ I1 q1) λus s2 ⟨xs,H2,I2,r2,q2⟩=>⟨x::xs,H2,I2,.cons r1 r2,q2⟩
def IH(t:TA):TE:=λσ H Q=>t σ H λxs H1=>xs.length<=sizeLine/\∀p,H1 p=none->Q (.ref p) (upd H1 p (.tup xs))
def IC(t:TA):TE:=λσ H Q=>t σ H λxs H1=>xs.length<=sizeLine/\∀p,H1 p=none->Q (.ref p) (upd H1 p (.lst xs))
def z40{x1}(h:PA X es t):PE X (.Tuple es x1 pos) (IH t):=by
 intro pins s σ H Q I hq;refine wpAny_Tuple_spliced (bt (h pos pins s σ H _ I hq) λus s1 ⟨xs,H1,I1,r,z,q⟩=>⟨by rw[<- r.length];exact z,?_⟩)
 have hf:H1 s1.heap.objs.size=none:=I1.aG.fresh (w0c _);refine⟨.ref s1.heap.objs.size,upd H1 s1.heap.objs.size (.tup xs),I1.laid (t':=s1.toks) (λb u e=>Heap.get?_push_of_some _ e) (w0c _) ?_,rfl,q _ hf⟩
 exact⟨z,us,r,⟨_,Heap.get?_push_size _ rfl,rfl,_,rfl⟩,⟨_,Heap.get?_push_size _ rfl,rfl⟩⟩
def z41(h:PA X es t):PE X (.List es pos) (IC t):=by
 intro pins s σ H Q I hq;refine wpAny_List_spliced (bt (h pos pins s σ H _ I hq) λus s1 ⟨xs,H1,I1,r,z,q⟩=>⟨by rw[<- r.length];exact z,?_⟩)
 have hf:H1 s1.heap.objs.size=none:=I1.aG.fresh (w0c _);refine⟨.ref s1.heap.objs.size,upd H1 s1.heap.objs.size (.lst xs),I1.laid (t':=s1.toks) (λb u e=>Heap.get?_push_of_some _ e) (w0c _) ?_,rfl,q _ hf⟩
 exact⟨z,us,0,r,Heap.get?_push_size _ rfl⟩
end
abbrev Sp:=List V->Hp->VK->XK->Prop
variable{sp:Sp}
abbrev nY:=List Env->Hp->Shared->XK->Value->Shared->Prop
variable{CX:nY}
structure iU(P:Program)(w:World)(K:Fg)(mg:Str->Option Value)(base:Heap)(A:Around)(outer:List Env)(s:Shared)(H:Hp):Prop where
 frames:A.frames=some outer
 mod:Mod K mg base
 bs:∀b o,base.get? b=some o->s.heap.get? b=some o/\H b=none
 mM:base.objs.size<=s.heap.objs.size
 eM:s.heap.FunFrames base outer
 oo:∀b∈fk outer,H b=none
 aG:c9 P w H s.heap
 bare:AllBare s.gens
 tab:gb K H
def CE(outer:List Env)(P:Program)(w:World)(H:Hp)(s:Shared)(Q:VK)(u:Value)(s':Shared):Prop:=
 ∃v H',s'.os=s.os/\AllBare s'.gens/\Un (fk outer) [] H H' s.heap s'.heap/\c9 P w H' s'.heap/\RelV v u/\Q v H'
def CR(CX:nY)(outer:List Env)(P:Program)(w:World)(H:Hp)(s:Shared)(Q:VK)(E:XK)(r:Result)(s':Shared):Prop:=
 match r with
 |.ok (.ret u)=>CE outer P w H s Q u s'
 |.ok _=>False
 |.error e=>CX outer H s E e s'
structure eC(P:Program)(w:World)(K:Fg)(mg:Str->Option Value)(base:Heap)(CX:nY)(k:Nat)(f:Addr)(fd:FuncData)(ps:List Str)(sp:Sp):Prop where
 len:∀vs H Q E,sp vs H Q E->vs.length=ps.length
 run:∀(A:Around)(outer:List Env)(s:Shared)(H:Hp)(args:Args)(us:List Value)(vs:List V)(Q:VK)(E:XK),br k A->iU P w K mg base A outer s H->BindsTo s fd args (ps.zip us)->Vals vs us->sp vs H Q E ->
  codeAny (model P w) A (.call (.ref f) args) (CR CX outer P w H s Q E) s
theorem eC.imp{P:Program}{k:Nat}{f:Addr}{ps:List Str}{L4:Sp}(F:eC P w K mg base CX k f fd ps sp)
  (h:∀vs H Q E,L4 vs H Q E->sp vs H Q E):eC P w K mg base CX k f fd ps L4:=
 ⟨λvs H Q E q=>F.len vs H Q E (h _ _ _ _ q),λA outer s H args us vs Q E hr he hb hv hs=>F.run A outer s H args us vs Q E hr he hb hv (h _ _ _ _ hs)⟩
section
variable{s':Shared}
theorem Inv.pW(I:Inv X pins σ H s):iU X.prog X.w X.K X.mg X.base X.A X.stack s H:=
 ⟨I.ok.frames,I.ok.mod,I.bs,w0s I.ok.mM I.sz,I.stack,I.lD,I.aG,I.bare,I.ok.tab.un I.base⟩
def Inv.after{Q:VK}(I:Inv X pins σ H s)(h:CE X.stack X.prog X.w H s Q u s'):EP X pins σ Q u s':=by
 obtain⟨v,H',os,bare,un,aG,r,q⟩:=h;obtain⟨hh,g,d,t,Th⟩:=s';obtain rfl:Th=s.os:=os;exact⟨v,H',I.call (h':=hh) (g':=g) (d':=d) (t':=t) (ch:=[]) un aG bare (λb z=>absurd z (by simp)),r,q⟩
end
def Binds(K:Fg)(fd:FuncData)(ps:List Str)(ds:List Value):Prop:=
 ∀(s:Shared)(us:List Value),K.In s.heap->(us++ds).length=ps.length->BindsTo s fd ⟨us,[]⟩ (ps.zip (us++ds))
theorem Binds.all{ps:List Str}(h:∀us:List Value,us.length=ps.length->bindArgs fd ⟨us,[]⟩=pure (ps.zip us)):Binds K fd ps []:=λs us _ hl=>by
 grind [BindsTo.of_eq]
section
variable{k:Nat}{f:Addr}{ps:List Str}{sF:List V}{ds:List Value}{E:XK}{m:Str}{apos:Pos}{o:Expr}{t:TA}
structure Mk(K:Fg)(C f:Addr):Prop where
 makes:PySem.W.makesIn K C=true
 init:findIn K (.ref C) "__init__"=some (some (.ref f))
 fn:PySem.W.isFn K (.ref f)=true
 kp:keepIn K (.ref C)=true
end
section
variable{k:Nat}{f:Addr}{ps ks:List Str}{E:XK}{m:Str}{apos S5:Pos}{o:Expr}{kws:List Keyword}{t tk:TA}{nm:Option Str}
structure Eg(K:Fg)(fd:FuncData)(ps ks:List Str)(g:List Value->List Value->List Value)(gV:List V->List V->List V):Prop where
 to:∀(s:Shared)(us ws:List Value),K.In s.heap->(g us ws).length=ps.length->BindsTo s fd ⟨us,ks.zip ws⟩ (ps.zip (g us ws))
 rel:∀{vs:List V}{us:List Value}{zs:List V}{ws:List Value},Vals vs us->Vals zs ws->Vals (gV vs zs) (g us ws)
variable{g:List Value->List Value->List Value}{gV:List V->List V->List V}
end
structure fR(N P:List Str)(sc:Scope):Prop where
 kind:sc.kind=.function
 co:sc.isCoroutine=false
 gen:sc.isGenerator=false
 nd:N.Nodup
 pre:N.take P.length=P
 par:∀x∈P,sc.names.lookup x=some .local\/sc.names.lookup x=some .cell
 lj:∀y∈sc.names,y.2≠.free
theorem MG{kindOf:Str->Option NameKind}:∀{binds:List (Str×Value)}{m:Str->Option Value},(∀v,(x,v)∉binds)->bindL kindOf binds m x=m x
 |[],_,_=>rfl
 |(n,v)::r,m,h=>by
  unfold bindL;rw[MG λw hw=>h w (w0p _ hw)]
  split
  all_goals grind
theorem MH{kindOf:Str->Option NameKind}:∀{binds:List (Str×Value)}{m:Str->Option Value},(∀v,(x,v)∉binds)->bindC kindOf binds m x=m x
 |[],_,_=>rfl
 |(n,v)::r,m,h=>by
  unfold bindC;rw[MH λw hw=>h w (w0p _ hw)]
  split
  all_goals grind
theorem MI{kindOf:Str->Option NameKind}{x:Str}{v:Value}:∀{P:List Str}{vs:List Value}{i:Nat}{m:Str->Option Value},P.Nodup->P[i]?=some x->vs[i]?=some v->kindOf x=some .local ->
  bindL kindOf (P.zip vs) m x=some v
 |[],_,_,_,_,h,_,_=>by simp at h
 |_::_,[],_,_,_,_,h,_=>by simp at h
 |p::P,w::vs,0,m,nd,h1,h2,hk=>by
  simp at h1 h2;subst h1;subst h2;show bindL kindOf ((p,w)::P.zip vs) m p=_;unfold bindL;rw[MG λv hv=>(w2b.mp nd).1 (w2t hv).1,if_pos hk]
  simp
 |p::P,w::vs,i+1,m,nd,h1,h2,hk=>by
  show bindL kindOf ((p,w)::P.zip vs) m x=_;unfold bindL;exact MI (i:=i) (w2b.mp nd).2 (by simpa using h1) (by simpa using h2) hk
theorem MJ{kindOf:Str->Option NameKind}{x:Str}{v:Value}:∀{P:List Str}{vs:List Value}{i:Nat}{m:Str->Option Value},P.Nodup->P[i]?=some x->vs[i]?=some v->kindOf x≠some .local ->
  bindC kindOf (P.zip vs) m x=some v
 |[],_,_,_,_,h,_,_=>by simp at h
 |_::_,[],_,_,_,_,h,_=>by simp at h
 |p::P,w::vs,0,m,nd,h1,h2,hk=>by
  simp at h1 h2;subst h1;subst h2;show bindC kindOf ((p,w)::P.zip vs) m p=_;unfold bindC;rw[MH λv hv=>(w2b.mp nd).1 (w2t hv).1,if_neg hk]
  simp
 |p::P,w::vs,i+1,m,nd,h1,h2,hk=>by
  show bindC kindOf ((p,w)::P.zip vs) m x=_;unfold bindC;exact MJ (i:=i) (w2b.mp nd).2 (by simpa using h1) (by simpa using h2) hk
def start(N:List Str)(vs:List V):St:=vs.map some++List.replicate (N.length-vs.length) none
def gU(CX:nY)(P:Program)(w:World)(K:Fg)(mg:Str->Option Value)(base:Heap)(N:List Str)(qual:Str)(scope:Scope)(f:Addr)(cd:Value)(A:Around)(outer:List Env)(s:Shared)(H:Hp)(E:XK):Cx where
 prog:=P
 w:=w
 K:=K
 mg:=mg
 base:=base
 A:=A.deeper (envOfC qual scope s.heap.objs.size f cd)
 N:=N
 ax:=s
 aA:=H
 env:=envOfC qual scope s.heap.objs.size f cd
 outer:=outer
 stack:=envOfC qual scope s.heap.objs.size f cd::outer
 ex:=[]
 calm:=true
 fn:=λ_=>true
 pn:=[]
 xe:=λe s'=>wpAny (model P w) (A.deeper (envOfC qual scope s.heap.objs.size f cd)) (leaving (envOfC qual scope s.heap.objs.size f cd) e) (λ_ iE=>CX outer H s E e iE) (λe' iE=>CX outer H s E e' iE) s'
def Nw{sc:Scope}{n:Nat}(h:sc.names.lookup x=some .cell):∃c,(cellsFrom n sc.names []).lookup x=some c:=by
 have q:=PySem.W.cellsFrom_some sc.names n [] (.inl h);exact w1q.mp q
def WC{P:Program}{ps:List Str}{qual:Str}{scope:Scope}{f:Addr}{cd:Value}{outer:List Env}{s1:Shared}{E:XK}{vs:List V}
  (S:fR N ps scope)(hd:A.handled=none)(e0:iU P w K mg base A outer s H)(hl:vs.length=ps.length)(r:Vals vs us)
  (x:InCallC s s.heap.objs.size (bindL (envOfC qual scope s.heap.objs.size f cd).kindOf (ps.zip us) λ_=>none) (cellsFrom (s.heap.objs.size+1) scope.names []) (bindC (envOfC qual scope s.heap.objs.size f cd).kindOf (ps.zip us) λ_=>none) s1):
  Inv (gU CX P w K mg base N qual scope f cd A outer s H E) [] (start N vs) H s1:=by
 have du:ps.length<=N.length:=by have:=congrArg List.length S.pre;grind
 obtain⟨h1,tk,rfl,hk⟩:=x.done;have s_:∀b:Addr,b∉(gU CX P w K mg base N qual scope f cd A outer s H E).ex:=λb z=>absurd (show b∈([]:List Addr)from z) (by simp)
 refine⟨⟨e0.mod,S.kind,rfl,rfl,w0c _,λy z c h1 h2=>?_,λy hy=>?_,λy c _ h=>?_,λ_=>hd,Around.frames_deeper e0.frames,.inr ⟨rfl,rfl⟩,λb z=>absurd z (s_ b),e0.bs,e0.mM,λb _ _=>s_ b,λb z=>absurd z (s_ b),e0.eM,e0.oo,e0.tab⟩,
  rfl,e0.bare,Un.kept hk,⟨_,x.toInCall.ns,λi y v h1 h2 h3=>?_⟩,λy c h=>⟨_,x.cell y c h⟩,e0.aG.fresh (w0c _),λy c h=>?_,λp hp=>absurd (show p∈([]:List (Addr×Obj))from hp) (by simp),e0.aG.kept hk,?_⟩
 .exact name_of_addr x.apart (PySem.mem_of_lookup h1) (PySem.mem_of_lookup h2)
 .have hy:scope.names.lookup y=some .cell\/scope.names.lookup y=some .free:=hy;rcases hy with hy|hy
  .exact Nw hy
  .exact absurd rfl (S.lj _ (PySem.mem_of_lookup hy))
 .exact w4g (x.above y c (PySem.mem_of_lookup h))
 .have hi:i<vs.length:=by
   grind [start]
  have ha:vs[i]?=some v:=by
   grind [start]
  obtain⟨u,hu,rv⟩:=r.get ha
  have hp:ps[i]?=some y:=by
   rw[<- S.pre,List.getElem?_take_of_lt (by omega)];exact h1
  have K3:ps.Nodup:=by rw[<- S.pre];exact S.nd.sublist (List.take_sublist _ _)
  refine⟨u,rv,?_⟩;rcases S.par y (w0u hp)with k|k
  .exact .inl ⟨k,MI K3 hp hu k⟩
  .obtain⟨c,e⟩:=Nw (n:=s.heap.objs.size+1) k;refine .inr ⟨.inl k,c,e,?_⟩;have q:=x.cell y c e;rw[MJ K3 hp hu (by show scope.names.lookup y≠_;rw[k];decide)]at q;exact q
 .exact e0.aG.fresh (w4g (x.above y c (PySem.mem_of_lookup h)))
 .unfold start;show _=N.length
  grind
def QT{P:Program}{k:Nat}{f:Addr}{name qual:Str}{params:Arguments}{body:List Stmt}{scope:Scope}{dV kV doc pm eG ct oc:Value}{an od:Option Addr}
  {wt:Array (Option Value)}{ps:List Str}(lk:K.lookup f=some ⟨oc,od,.func (PySem.W.fnOf name qual params body scope dV kV doc pm an eG ct),wt⟩)(ei:PySem.W.codeIn K eG qual=true)(S:fR N ps scope)
  (len:∀vs H Q E,sp vs H Q E->vs.length=ps.length)
  (zr:∀(A:Around)(outer:List Env)(s:Shared)(H:Hp)(vs:List V)(Q:VK)(E:XK),br k (A.deeper (envOfC qual scope s.heap.objs.size f eG))->sp vs H Q E ->
   ∃t,lH (gU CX P w K mg base N qual scope f eG A outer s H E) body t/\t {nx:=λ_ H'=>Q .aE H',rt:=Q} (start N vs) H):
  eC P w K mg base CX (k+1) f (PySem.W.fnOf name qual params body scope dV kV doc pm an eG ct) ps sp:=by
 refine⟨len,λA outer s H args us vs Q E hr e0 hb r rN=>?_⟩
 have hl:=len _ _ _ _ rN;have KX:K.In s.heap:=e0.mod.uL.keeps λb o e=>(e0.bs b o e).1
 have lim:s.heap.NoLimit:=e0.mod.nolimit.keeps λb o e=>(e0.bs b o e).1
 have zI:∀y∈ps.zip us,scope.names.lookup y.1=some .local\/(scope.names.lookup y.1=some .cell/\((cellsFrom (s.heap.objs.size+1) scope.names []).lookup y.1).isSome=true):=fun⟨n,v⟩ hy=>by
  rcases S.par n (w2t hy).1 with q|q
  all_goals grind [W.cellsFrom_some]
 refine codeAny_call_function hr.depth (KX _ _ lk) rfl S.co S.gen rfl (PySem.W.codeRec_of KX ei) (hb _ _ _ _ ?_)
 refine wpAny_newFunctionEnv_cells S.kind zI λenv he s1 x=>?_
 subst he;refine⟨lim.keeps x.toInCall.keep,codeAny_func ?_⟩
 obtain⟨t,ht,hq⟩:=zr A outer s H vs Q E (hr.deeper _) rN;have I:Inv (gU CX P w K mg base N qual scope f eG A outer s H E) [] (start N vs) H s1:=WC S hr.hd e0 hl r x;refine wpAny_mono (ht [] s1 (start N vs) H _ I hq) (λfl s' hs=>?_) λe s' hs=>hs
 have fin:∀{aI:St}{H':Hp}{v:V}{u:Value},Inv (gU CX P w K mg base N qual scope f eG A outer s H E) [] aI H' s'->RelV v u->Q v H'->CE outer P w H s Q u s':=
  λ{aI H' v u} J rv q=>⟨v,H',J.os,J.bare,J.base,J.aG,rv,q⟩
 cases fl with
 |ret u=>
  obtain⟨v,aI,H',J,rv,q⟩:=hs;exact fin J rv q
 |next=>
  obtain⟨aI,H',J,q⟩:=hs;exact fin (v:=V.aE) (u:=Value.none) J rfl q
 |brk=>
  obtain⟨_,_,_,q⟩:=hs;exact False.elim q
 |cont=>
  obtain⟨_,_,_,q⟩:=hs;exact False.elim q
section
variable{t:TA}{id T:String}{r:List V->Hp->VK->Prop}
def IA(r:List V->Hp->VK->Prop)(t:TA):TE:=λσ H Q=>t σ H λvs H1=>r vs H1 Q
def HE(hc:cX X (.builtin id) r)(hg:Gl X x)(hm:X.mg x=none)(hv:bootBuiltins x=some (.builtin id))(ha:PA X (e::es) t)(hn:autoParam (x≠"__name__") jK)(ix:autoParam ((x==("__debug__":Str))=false) jK)
  (he:autoParam (starEach (e::es) X.env=(false,eval e X.env)::starEach es X.env) jJ)(du:autoParam ((backTo pos (starEach es X.env)).any (·.1)=false) jJ):PE X (.Call (.Name x p) (e::es) [] pos) (IA r t):=by
 intro pins s σ H Q I h;refine wpAny_Call_Name_kw (qJ I hg hm hv ?_ hn ix);exact PyProof.Rows.callWith_builtin1 (bt (ha pos pins s σ H _ I h) λus s1 ⟨vs,H1,I1,r1,q1⟩=>hc pins s1 σ H1 vs us Q I1 r1 q1) he du
def ML(hc:cX X (.type T) r)(hg:Gl X x)(hm:X.mg x=none)(hv:bootBuiltins x=some (.type T))(ha:PA X (e::es) t)(hn:autoParam (x≠"__name__") jK)(ix:autoParam ((x==("__debug__":Str))=false) jK)
  (he:autoParam (starEach (e::es) X.env=(false,eval e X.env)::starEach es X.env) jJ)(du:autoParam ((backTo pos (starEach es X.env)).any (·.1)=false) jJ):PE X (.Call (.Name x p) (e::es) [] pos) (IA r t):=by
 intro pins s σ H Q I h;refine wpAny_Call_Name_kw (qJ I hg hm hv ?_ hn ix);exact PyProof.Rows.callWith_type1 (bt (ha pos pins s σ H _ I h) λus s1 ⟨vs,H1,I1,r1,q1⟩=>hc pins s1 σ H1 vs us Q I1 r1 q1) he du
end
end L2
namespace HT
open PySem PyProof.Rows
section
variable{prog:Program}{w:World}{A:Around}{E:Value->Shared->Prop}{s:Shared}
def sD{t b:Addr}{vs ws:List Value}{Q:Value->Shared->Prop}(ht:IsTup s.heap t vs.toArray)(hb:IsTup s.heap b ws.toArray)(hv:vs≠[])
  (h1:ws=[]->Q (.ref t) s)(h2:ws≠[]->Q (.ref s.heap.objs.size) {s with heap:=s.heap.push {cls:=.type "tuple", data:=.seq (vs++ws).toArray}})
  (hsz:vs.length+ws.length<=sizeLine):wpAny (model prog w) A (binaryOp .Add (.ref t) (.ref b)) Q E s:=by
 obtain⟨⟨cls,dd,data,sl⟩,ho,hc,n,hd⟩:=id ht;obtain⟨⟨yR,uj,data2,yo⟩,rM,b_,n2,hd2⟩:=id hb;simp only at hc hd b_ hd2;subst hc hd b_ hd2;have e:vs.toArray++ws.toArray=(vs++ws).toArray:=by simp
 by_cases hw:ws=[]
 .exact concat_meets ⟨_,ho,rfl⟩ ⟨_,rM,rfl⟩ noFill_tuple_add seq_tuple_add PySem.F.slot_tuple_add PySem.F.entry_tuple_add (PySem.F.args_tuple_add_2 _ _)
   (tuple_addW1 t b vs.toArray ws.toArray n n2 dd uj sl yo (by simpa using hv) (by simp[hw])) ⟨ho,rM,h1 hw⟩
 .refine concat_meets ⟨_,ho,rfl⟩ ⟨_,rM,rfl⟩ noFill_tuple_add seq_tuple_add PySem.F.slot_tuple_add PySem.F.entry_tuple_add (PySem.F.args_tuple_add_2 _ _)
   (tuple_addW2 t b vs.toArray ws.toArray n n2 dd uj sl yo (by simpa using hv) (by simpa using hw) (by grind)) ⟨ho,rM,?_⟩
  rw[e];exact h2 hw
def cn(n d:Nat):Option Int->Nat
 |none=>d
 |some v=>if v<0 then(v+(n:Int)).toNat else min v.toNat n
theorem mz(n d:Nat):cn n d none=d:=rfl
def h_(n d k:Nat):cn n d (some (k:Int))=min k n:=by
 show(if(k:Int)<0 then((k:Int)+(n:Int)).toNat else min (k:Int).toNat n)=min k n;rw[if_neg (by omega),w1o]
def z42(n d:Nat)(hd:d<=n)(o:Option Int):cn n d o<=n:=by
 cases o with
 |none=>exact hd
 |some v=>
  show(if v<0 then(v+(n:Int)).toNat else min v.toNat n)<=n
  grind
def Ov(v:Int)(n d:Nat):(if v<0 then max (v+(n:Int)) 0 else min v (n:Int))=((cn n d (some v):Nat):Int):=by
 show(if v<0 then max (v+(n:Int)) 0 else min v (n:Int))=(((if v<0 then(v+(n:Int)).toNat else min v.toNat n):Nat):Int)
 grind
def V0(lo hi:Option Int)(n:Nat):Builtin.Slice.sliceAdjust lo hi 1 (n:Int)=(((cn n 0 lo:Nat):Int),((cn n n hi:Nat):Int)):=by
 have h1:¬((1:Int)<0):=by omega
 unfold Builtin.Slice.sliceAdjust;simp only[h1,if_false];refine Prod.ext ?_ ?_
 .cases lo with
  |none=>rfl
  |some v=>exact Ov v n 0
 .cases hi with
  |none=>rfl
  |some v=>exact Ov v n n
def V1(i j:Nat):Builtin.Slice.slicePlaces (i:Int) (j:Int) 1=j-i:=by
 unfold Builtin.Slice.slicePlaces
 grind
def V2{v:Value}{o:Option Int}{Q:Option Int->Shared->Prop}(p:IsPart v o)(h:Q o s):wpAny (model prog w) A (Builtin.Slice.slicePartIndex v) Q E s:=by
 cases p with
 |none=>exact slicePart_none h
 |int i t=>exact slicePart_int h
def Tt{sl:Addr}{vl vu:Value}{lo hi:Option Int}{n:Nat}{Q:Int×Int×Nat->Shared->Prop}(hs:s.heap.IsSliceOf sl vl vu .none)(pl:IsPart vl lo)(pu:IsPart vu hi)
  (h:Q (((cn n 0 lo:Nat):Int),1,cn n n hi-cn n 0 lo) s):wpAny (model prog w) A (Builtin.Slice.sliceApplied (.ref sl) (pure (n:Int))) Q E s:=by
 obtain⟨os,pf,sJ,B8⟩:=id hs;unfold Builtin.Slice.sliceApplied Builtin.Slice.sliceFields;refine wpAny_bind (wpAny_bind (wpAny_field pf B8 (x:=vl) rfl (wpAny_bind (wpAny_field pf B8 (x:=vu) rfl (wpAny_bind (wpAny_field pf B8 (x:=.none) rfl (wpAny_pure ?_)))))));refine wpAny_bind (slicePart_none ?_);show wpAny _ _ (if((1:Int)==0)=true then _ else _) _ _ s;rw[if_neg (by decide)]
 grind [wpAny_bind,V2,wpAny_pure,V0,V1]
def XT(xs:Array Value)(i k:Nat):((List.range k).filterMap fun(m:Nat)=>xs[((i:Int)+(m:Int)*1).toNat]?).toArray=((xs.toList.drop i).take k).toArray:=by
 have e:(fun(m:Nat)=>xs[((i:Int)+(m:Int)*1).toNat]?)=λm=>xs[i+m]?:=by
  grind
 rw[e];have:=pick_run xs i k;rw[List.filterMap_map]at this;have e2:((λx=>xs[x]?) ∘ λx=>i+x)=λm=>xs[i+m]?:=rfl
 grind
def g8{t sl:Addr}{items:Array Value}{vl vu:Value}{lo hi:Option Int}{Q:Value->Shared->Prop}(ht:IsTup s.heap t items)(hs:s.heap.IsSliceOf sl vl vu .none)(pl:IsPart vl lo)(pu:IsPart vu hi)
  (hw:¬(cn items.size 0 lo=0/\cn items.size items.size hi=items.size))
  (h:Q (.ref s.heap.objs.size) {s with heap:=s.heap.push {cls:=.type "tuple", data:=.seq ((items.toList.drop (cn items.size 0 lo)).take (cn items.size items.size hi-cn items.size 0 lo)).toArray}})
  (hsz:items.size<=sizeLine):wpAny (model prog w) A (getItem (.ref t) (.ref sl)) Q E s:=by
 have ow:sizeOk (.seq ((items.toList.drop (cn items.size 0 lo)).take (cn items.size items.size hi-cn items.size 0 lo)).toArray):=by
  show((items.toList.drop (cn items.size 0 lo)).take (cn items.size items.size hi-cn items.size 0 lo)).toArray.size<=sizeLine;rw[w1c,w3f,w4a,w3m];exact w0s (Nat.min_le_right _ _) (w0s (Nat.sub_le _ _) hsz)
 have hj:cn items.size items.size hi<=items.size:=z42 _ _ (w0c _) hi;obtain⟨os,pf,sJ,B8⟩:=id hs;have RW:s.TypeIs (.ref sl) "slice":=⟨os,pf,sJ⟩;unfold getItem;try with_reducible refine wpAny_holding ?_
 first|refine wpAny_bind (wpAny_pure ?_)|skip
 refine wpAny_bind (wpAny_sequenceKey ht.typeIs (by decide) ?_)
 refine wpAny_bind (wpAny_callSpecial?_slot (name:=Str.ofString "__getitem__") ht.typeIs PyProof.Rows.slot_tuple_getitem
  (wpAny_call_entry PyProof.Rows.slot_tuple_getitem ht.typeIs entry_tuple_getitem ?_ (args_tuple_getitem _ _)))
 show wpAny _ _ (Builtin.Tuple.tupleItemsOf (.ref t) >>= _) _ _ s;refine wpAny_bind (tupleItemsOf_ ht ?_);refine wpAny_bind (wpAny_typeOf RW ?_);rw[if_pos (by decide)];refine wpAny_bind (Tt hs pl pu ?_)
 have Cf:¬((((cn items.size 0 lo:Nat):Int)==0&&(1:Int)==1&&(cn items.size items.size hi-cn items.size 0 lo)==items.size)=true):=by
  intro q;rw[w0n,w0n]at q;have q1:((cn items.size 0 lo:Nat):Int)=0:=eq_of_beq q.1.1;have q2:cn items.size items.size hi-cn items.size 0 lo=items.size:=eq_of_beq q.2;exact hw ⟨by omega,by omega⟩
 show wpAny _ _ (if(((cn items.size 0 lo:Nat):Int)==0&&(1:Int)==1&&(cn items.size items.size hi-cn items.size 0 lo)==items.size)=true then _ else _) _ _ s;rw[if_neg Cf,XT]
 first
  |exact wpAny_bind (m:=Builtin.Tuple.tupleExact _) (wpAny_newObj_type (wpAny_pure ⟨_,rfl,wpAny_pure h⟩) ow)
  |exact wpAny_bind (m:=Builtin.Tuple.tupleExact _) (wpAny_newObj_type (wpAny_bind (wpAny_pure (wpAny_pure ⟨_,rfl,wpAny_pure h⟩))) ow)
  |exact wpAny_bind (wpAny_bind (m:=Builtin.Tuple.tupleExact _) (wpAny_newObj_type (wpAny_pure (wpAny_pure ⟨_,rfl,wpAny_pure h⟩)) ow))
  |exact wpAny_bind (wpAny_bind (m:=Builtin.Tuple.tupleExact _) (wpAny_newObj_type (wpAny_pure ⟨_,rfl,wpAny_pure h⟩) ow))
end
end HT
namespace L2
open PySem PySem.Spec PyProof.Rows
variable{A:Around}{X:Cx}{H:Hp}{pins:List (Addr×Obj)}{xs:List V}{aw us:List Value}{n:Nat}{s:Shared}{σ:St}{α:Type}{x:V}{v:Value}
abbrev TO:=St->Hp->(Option Int->Hp->Prop)->Prop
def PO(X:Cx)(e:Option Expr)(t:TO):Prop:=
 ∀(pins:List (Addr×Obj))(s:Shared)(σ:St)(H:Hp)(Q:Option Int->Hp->Prop),Inv X pins σ H s->t σ H Q ->
  wpAny (model X.prog X.w) X.A (evalPart e X.env) (λu s'=>∃o H',Inv X pins σ H' s'/\IsPart u o/\Q o H') X.xe s
def tS:TO:=λ_ H Q=>Q none H
def BC(t:TE):TO:=λσ H Q=>t σ H λx H1=>∃i,x=.int i/\Q (some i) H1
section
variable{e:Expr}{te:TE}{lo hi:Option Expr}{tl th:TO}{pos p2:Pos}
def Zd:PO X none tS:=by
 intro pins s σ H Q I h;rw[evalPart_none];exact wpAny_pure ⟨none,H,I,.none,h⟩
def Ze(h:PE X e te):PO X (some e) (BC te):=by
 intro pins s σ H Q I hw;rw[evalPart_some];refine bt (h pins s σ H _ I hw) λu s1 ⟨x,H1,I1,r1,q1⟩=>?_
 obtain⟨i,rfl,q⟩:=q1;obtain⟨t,rfl⟩:=r1;exact⟨some i,H1,I1,.int i t,q⟩
def t_(X:Cx)(r:V->Option Int->Option Int->Hp->VK->Prop):Prop:=
 ∀(pins:List (Addr×Obj))(s:Shared)(σ:St)(H:Hp)(x:V)(v vl vu:Value)(lo hi:Option Int)(sl:Addr)(Q:VK),Inv X pins σ H s->RelV x v->s.heap.IsSliceOf sl vl vu .none->IsPart vl lo->IsPart vu hi->r x lo hi H Q ->
  ∃T id,typeLookup (.type T) "__getitem__"=pure (some (.builtin id))/\s.TypeIs v T/\wpAny (model X.prog X.w) X.A (getItem v (.ref sl)) (EP X pins σ Q) X.xe s
def t_.or{r r':V->Option Int->Option Int->Hp->VK->Prop}(h:t_ X r)(h':t_ X r'):t_ X (λx lo hi H Q=>r x lo hi H Q\/r' x lo hi H Q):=by
 intro pins s σ H x v vl vu lo hi sl Q I rx hs pl pu q;rcases q with q|q
 .exact h pins s σ H x v vl vu lo hi sl Q I rx hs pl pu q
 .exact h' pins s σ H x v vl vu lo hi sl Q I rx hs pl pu q
def Ua(r:V->Option Int->Option Int->Hp->VK->Prop)(te:TE)(tl th:TO):TE:=λσ H Q=>te σ H λx H1=>tl σ H1 λl H2=>th σ H2 λu H3=>r x l u H3 Q
def XU{r:V->Option Int->Option Int->Hp->VK->Prop}(hr:t_ X r)(he:PE X e te)(hl:PO X lo tl)(hu:PO X hi th):PE X (.Subscript e (.Slice lo hi none p2) pos) (Ua r te tl th):=by
 intro pins s σ H Q I h;refine Subscript_ (bt (he pins s σ H _ I h) λv s1 ⟨x,H1,I1,r1,q1⟩=>?_)
 refine wpAny_Slice (bt (hl pins s1 σ H1 _ I1 q1) λvl s2 ⟨l,H2,I2,pl,q2⟩=>bt (hu pins s2 σ H2 _ I2 q2) λvu s3 ⟨u,H3,I3,pu,q3⟩=>?_)
 rw[evalPart_none];refine wpAny_pure ?_;have I4:Inv X pins σ H3 {s3 with heap:=s3.heap.push {cls:=.type "slice", data:=.fields #[vl,vu,.none]}}:=I3.kept (t':=s3.toks) λb ob q=>Heap.get?_push_of_some _ q
 obtain⟨T,id,hT,ht,hg⟩:=hr pins {s3 with heap:=s3.heap.push {cls:=.type "slice", data:=.fields #[vl,vu,.none]}} σ H3 x v vl vu l u s3.heap.objs.size Q I4 r1 (Heap.IsSliceOf.new ..) pl pu q3;show wpAny (model X.prog X.w) X.A (subscriptTail e (.Slice lo hi none p2) v (.ref s3.heap.objs.size)) (EP X pins σ Q) X.xe {s3 with heap:=s3.heap.push {cls:=.type "slice", data:=.fields #[vl,vu,.none]}};exact tail_any (ops:=[.ref s3.heap.objs.size,v]) ht hT hg (by with_unfolding_all rfl)
def jT(xs:List V)(lo hi:Option Int):List V:=(xs.drop (HT.cn xs.length 0 lo)).take (HT.cn xs.length xs.length hi-HT.cn xs.length 0 lo)
def LG(xs:List V)(lo hi:Option Int):(jT xs lo hi).length<=xs.length:=by
 unfold jT;rw[w3f,w4a];exact w0s (Nat.min_le_right _ _) (Nat.sub_le _ _)
def Ip(K:Fg):V->Option Int->Option Int->Hp->VK->Prop:=λx lo hi H Q=>∃a xs,x=.ref a/\cZ K H a xs /\
 ¬(HT.cn xs.length 0 lo=0/\HT.cn xs.length xs.length hi=xs.length)/\∀p,H p=none->Q (.ref p) (upd H p (.tup (jT xs lo hi)))
def z43:t_ X (Ip X.K):=by
 intro pins s σ H x v vl vu lo hi sl Q I rx hs pl pu h;obtain⟨a,xs,rfl,hx,hw,q⟩:=h;cases rx;obtain⟨aw,r,ht,hz⟩:=I.tuple hx;have hlen:aw.toArray.size=xs.length:=by rw[w1c];exact r.length.symm
 refine⟨"tuple", _,PyProof.Rows.slot_tuple_getitem.lookup,ht.typeIs,?_⟩;refine HT.g8 ht hs pl pu (by rw[hlen];exact hw) ?_ (by rw[hlen];exact hz);rw[hlen];refine⟨.ref s.heap.objs.size,_,I.laid (t':=s.toks) (o:=.tup (jT xs lo hi)) (λb ob q=>Heap.get?_push_of_some _ q) (w0c _) ?_,rfl,q _ (I.aG.fresh (w0c _))⟩
 exact⟨w0s (LG xs lo hi) hz,_,(r.drop (HT.cn xs.length 0 lo)).take (HT.cn xs.length xs.length hi-HT.cn xs.length 0 lo),IsTup.new _ _,_,Heap.get?_push_size _ rfl,rfl⟩
def qP(K:Fg):R2:=λx y H Q=>∃a b xs ys,x=.ref a/\y=.ref b/\cZ K H a xs/\cZ K H b ys/\xs≠[]/\xs.length+ys.length<=sizeLine /\
 (ys=[]->Q (.ref a) H)/\(ys≠[]->∀p,H p=none->Q (.ref p) (upd H p (.tup (xs++ys))))
def Vals.lh(r:Vals xs us):us=[]↔xs=[]:=by
 cases r with
 |nil=>simp
 |cons _ _=>simp
def tD:fj X (binaryOp .Add) (qP X.K):=by
 intro pins s σ H x y v u Q I rx ry h;obtain⟨a,b,xs,ys,rfl,rfl,ha,hb,hx,hz,q1,q2⟩:=h;cases rx;cases ry;obtain⟨aw,r1,p1,_⟩:=I.tuple ha;obtain⟨fH,r2,p2,_⟩:=I.tuple hb;refine HT.sD p1 p2 (λz=>hx (r1.lh.mp z)) (λz=>⟨.ref a,H,I,rfl,q1 (r2.lh.mp z)⟩) (λz=>?_) (by rw[<- r1.length,<- r2.length];exact hz)
 refine⟨.ref s.heap.objs.size,_,I.laid (t':=s.toks) (o:=.tup (xs++ys)) (λb ob q=>Heap.get?_push_of_some _ q) (w0c _) ?_,rfl,q2 (λw=>z (r2.lh.mpr w)) _ (I.aG.fresh (w0c _))⟩
 exact⟨by rw[w1x];exact hz,_,r1.append r2,IsTup.new _ _,_,Heap.get?_push_size _ rfl,rfl⟩
end
def gG(n:Nat)(i:Int):Option Nat:=if 0<=i then(if i<n then some i.toNat else none)else if -(n:Int)<=i then some (i+n).toNat else none
def bY(xs:List α)(i:Int):Option α:=(gG xs.length i).bind λj=>xs[j]?
def Ow{i:Int}{j:Nat}(h:gG n i=some j):seqIndex? i n=some j/\j<n/\-(n:Int)<=i/\i<n:=by
 unfold gG at h
 by_cases h0:0<=i
 .rw[if_pos h0]at h
  by_cases h1:i<n
  .rw[if_pos h1]at h
   grind [seqIndex_of]
  grind
 .rw[if_neg h0]at h
  by_cases h1:-(n:Int)<=i
  .rw[if_pos h1]at h
   grind [seqIndex_neg]
  grind
def Jd{xs:List α}{i:Int}{v:α}(h:bY xs i=some v):∃j,seqIndex? i xs.length=some j/\xs[j]?=some v/\j<xs.length/\-(xs.length:Int)<=i/\i<xs.length:=by
 unfold bY at h;cases e:gG xs.length i with
 |none=>rw[e]at h;cases h
 |some j=>
  rw[e]at h;obtain⟨h1,h2,h3,h4⟩:=Ow e;exact⟨j,h1,h,h2,h3,h4⟩
def tG{xs:List α}{j:Nat}{v:α}(h:xs[j]?=some v):bY xs (j:Int)=some v:=by
 have hj:j<xs.length:=(w0b.mp h).1
 simp_all [gG,bY]
def d7(b:Expr):Prop:=∀o i,subscripted b false o i=operate [o,i] (getItem o i)
def pL(X:Cx)(r:R2):Prop:=
 ∀(value slice:Expr)(pins:List (Addr×Obj))(s:Shared)(σ:St)(H:Hp)(x y:V)(v u:Value)(Q:VK),Inv X pins σ H s->RelV x v->RelV y u->r x y H Q ->
  subscripted slice false v u=operate [v,u] (getItem v u)->wpAny (model X.prog X.w) X.A (subscriptTail value slice v u) (EP X pins σ Q) X.xe s
def xA(X:Cx)(id:String)(r:V->List V->Hp->VK->Prop):Prop:=
 ∀(pins:List (Addr×Obj))(s:Shared)(σ:St)(H:Hp)(x:V)(xs:List V)(v:Value)(us:List Value)(Q:VK),Inv X pins σ H s->RelV x v->Vals xs us->r x xs H Q ->
  wpAny (model X.prog X.w) X.A (call (.builtin id) (v::us)) (EP X pins σ Q) X.xe s
section
variable{a b:Expr}{ta tb:TE}{pos:Pos}
def pL.or{r r':R2}(h:pL X r)(h':pL X r'):pL X (λx y H Q=>r x y H Q\/r' x y H Q):=by
 intro value slice pins s σ H x y v u Q I rx ry q hs;rcases q with q|q
 .exact h value slice pins s σ H x y v u Q I rx ry q hs
 .exact h' value slice pins s σ H x y v u Q I rx ry q hs
def wY{r:R2}(hr:pL X r)(ha:PE X a ta)(hb:PE X b tb)(hs:d7 b):PE X (.Subscript a b pos) (BB r ta tb):=by
 intro pins s σ H Q I h;exact Subscript_ (vp ha hb I h λv u s2 x y H2 I2 rx ry q=>hr a b pins s2 σ H2 x y v u Q I2 rx ry q (hs _ _))
def A6(K:Fg):R2:=λx y H Q=>∃p xs i v,x=.ref p/\y=.int i/\bB K H p xs/\bY xs i=some v/\Q v H
def A8(K:Fg):R2:=λx y H Q=>∃p xs i v,x=.ref p/\y=.int i/\cZ K H p xs/\bY xs i=some v/\Q v H
def A7:R2:=λx y H Q=>∃z i c,x=.str z/\y=.int i/\z.length<=sizeLine/\bY z.cps.toList i=some c/\Q (.str ⟨#[c]⟩) H
def g_:pL X (A6 X.K):=by
 intro value slice pins s σ H x y v u Q I rx ry h hs;obtain⟨p,xs,i,z,rfl,rfl,hq,he,q⟩:=h;cases rx;obtain⟨t,rfl⟩:=ry;obtain⟨aw,r,pl,hz⟩:=I.list hq;obtain⟨j,h1,h2,h3,h4,h5⟩:=Jd he;obtain⟨w,ew,tL⟩:=r.get h2;have hl:=r.length;have hn:=gJ;have fin:EP X pins σ Q w s:=⟨z,H,I,tL,q⟩
 by_cases h0:0<=i
 .have hj:i.toNat=j:=by
   grind [seqIndex_of]
  exact item_listR pl.isList h0 (by omega) (by rw[hj];simpa using ew) fin hs
 .have hj:(i+(aw.toArray.size:Int)).toNat=j:=by
   grind [seqIndex_neg]
  exact subscriptTail_builtinR (x:=w) pl.isList.typeIs slot_list_getitem.lookup
   (wpAny_getItem_list_neg (Q:=λr s'=>r=w/\EP X pins σ Q r s') pl.isList (by omega) (by grind) (by omega) (by rw[hj];simpa using ew) ⟨rfl,fin⟩) hs
def vZ:pL X (A8 X.K):=by
 intro value slice pins s σ H x y v u Q I rx ry h hs;obtain⟨p,xs,i,z,rfl,rfl,hq,he,q⟩:=h;cases rx;obtain⟨t,rfl⟩:=ry;obtain⟨aw,r,pl,hz⟩:=I.tuple hq;obtain⟨j,h1,h2,h3,h4,h5⟩:=Jd he;obtain⟨w,ew,tL⟩:=r.get h2;have hl:=r.length;have hn:=gJ;have fin:EP X pins σ Q w s:=⟨z,H,I,tL,q⟩
 exact subscriptTail_builtinR (x:=w) pl.typeIs slot_tuple_getitem.lookup
  (getItem_tuple (j:=j) (Q:=λr s'=>r=w/\EP X pins σ Q r s') pl (by omega) (by omega) (by grind) (by simpa using ew) ⟨rfl,fin⟩) hs
def z44:pL X A7:=by
 intro value slice pins s σ H x y v u Q I rx ry h hs;obtain⟨z,i,c,rfl,rfl,hz,he,q⟩:=h;obtain⟨t,rfl⟩:=rx;obtain⟨t',rfl⟩:=ry;obtain⟨j,h1,h2,h3,h4,h5⟩:=Jd he;have hl:z.cps.toList.length=z.length:=by simp[Str.length]
 rw[hl]at h1 h4 h5;have hn:=gJ
 exact tail_any (typeIs_str s z t) slot_str_getitem.lookup (getItem_str (c:=c) (by
  grind) (by rw[h1];simpa using h2) ⟨.str ⟨#[c]⟩,H,I.tok _,⟨_,rfl⟩,q⟩) hs
def LX(K:Fg):R2:=λx y H Q=>A6 K x y H Q\/A8 K x y H Q\/A7 x y H Q
theorem Pt:pL X (LX X.K):=g_.or (vZ.or z44)
def V3(aw:List Value)(n j:Nat)(u:Value):Obj.mapSeq (·.setIfInBounds j u) {cls:=.type "list", data:=.seq aw.toArray n}={cls:=.type "list", data:=.seq (aw.set j u).toArray n}:=by
 simp[Obj.mapSeq]
def Inv.lst{p:Addr}(I:Inv X pins σ H s)(h:H p=some (.lst xs)):
  ∃(aw:List Value)(n:Nat),Vals xs aw/\s.heap.get? p=some {cls:=.type "list", data:=.seq aw.toArray n}/\xs.length<=sizeLine:=by
 obtain⟨z,aw,n,r,e⟩:=I.aG p _ h;exact⟨aw,n,r,e,z⟩
def Inv.wb{p:Addr}{ys:List V}{its':List Value}{n':Nat}{f:Obj->Obj}(I:Inv X pins σ H s)(h:H p=some (.lst xs))
  (ho:s.heap.get? p=some {cls:=.type "list", data:=.seq aw.toArray n})(hf:f {cls:=.type "list", data:=.seq aw.toArray n}={cls:=.type "list", data:=.seq its'.toArray n'})(r:Vals ys its')(hz:ys.length<=sizeLine)(t:Nat):
  Inv X pins σ (upd H p (.lst ys)) {s with heap:=s.heap.update p f,toks:=t}:=by
 have e:(s.heap.update p f).get? p=some {cls:=.type "list", data:=.seq its'.toArray n'}:=by
  rw[Heap.get?_update_self f ho (by rw[hf]<;>rfl),hf]
 refine I.write (x:=p) (e:=p) (by rw[h];trivial) (.inl rfl) (λb u hb q=>(Heap.get?_update_other _ _ (Ne.symm hb)).trans q) ⟨_,e⟩ ?_
 exact⟨hz,its',n',r,e⟩
def u7:V->V->V->Hp->(Hp->Prop)->Prop:=λo i v H Q=>∃p xs k j,o=.ref p/\i=.int k/\H p=some (.lst xs)/\gG xs.length k=some j/\Q (upd H p (.lst (xs.set j v)))
def Nx:vi X u7:=by
 intro pins s σ H o i v ov iv u Q I ro ri rv h;obtain⟨p,xs,k,j,rfl,rfl,hp,hj,q⟩:=h;cases ro;obtain⟨t,rfl⟩:=ri;obtain⟨aw,n,r,ho,hz⟩:=I.lst hp;obtain⟨h1,h2,h3,h4⟩:=Ow hj;have hl:=r.length;have hn:=gJ
 have I':Inv X pins σ (upd H p (.lst (xs.set j v))) {s with heap:=s.heap.update p (Obj.mapSeq (·.setIfInBounds j u))}:=
  I.wb hp ho (V3 aw n j u) (r.set rv j) (by grind) s.toks
 grind [seqIndex_of,W.ki_setAt,seqIndex_neg,W.ki_setBack]
def U6(lo hi:Option Int)(n:Nat):(sliceBounds lo hi none n).1=((HT.cn n 0 lo:Nat):Int)/\(sliceBounds lo hi none n).2.1=((HT.cn n n hi:Nat):Int)/\(sliceBounds lo hi none n).2.2=1:=by
 refine⟨?_,?_,rfl⟩
 .cases lo with
  |none=>simp[sliceBounds,HT.cn]
  |some i=>
   simp only[sliceBounds,HT.cn,Option.getD_none,show(1:Int)>0 by decide,if_true]
   grind
 .cases hi with
  |none=>simp[sliceBounds,HT.cn]
  |some i=>
   simp only[sliceBounds,HT.cn,Option.getD_none,show(1:Int)>0 by decide,if_true]
   grind
def US(aw:List Value)(lo hi:Option Int):slicePick aw.toArray lo hi none=((aw.drop (HT.cn aw.length 0 lo)).take (HT.cn aw.length aw.length hi-HT.cn aw.length 0 lo)).toArray:=by
 obtain⟨h1,h2,h3⟩:=U6 lo hi aw.toArray.size;unfold slicePick;rw[h1,h2,h3];simp only[sliceRange_one,pick_run,w1c]<;>rfl
def Io(K:Fg):V->Option Int->Option Int->Hp->VK->Prop:=λx lo hi H Q=>∃a xs,x=.ref a/\bB K H a xs/\∀p,H p=none->Q (.ref p) (upd H p (.lst (jT xs lo hi)))
def tO:t_ X (Io X.K):=by
 intro pins s σ H x v vl vu lo hi sl Q I rx hs pl pu h;obtain⟨a,xs,rfl,hx,q⟩:=h;cases rx;obtain⟨aw,r,ht,hz⟩:=I.list hx;have hlen:=r.length;refine⟨"list", _,slot_list_getitem.lookup,ht.isList.typeIs,?_⟩;refine wpAny_getItem_list_slice ht.isList hs pl pu .none (by simp) ?_ (by grind);rw[US,<- hlen];refine⟨.ref s.heap.objs.size,_,I.laid (t':=s.toks) (o:=.lst (jT xs lo hi)) (λb ob q=>Heap.get?_push_of_some _ q) (w0c _) ?_,rfl,q _ (I.aG.fresh (w0c _))⟩
 exact⟨w0s (LG xs lo hi) hz,_,0,(r.drop (HT.cn xs.length 0 lo)).take (HT.cn xs.length xs.length hi-HT.cn xs.length 0 lo),Heap.get?_push_size _ rfl⟩
def gp:V->Bool
 |.aE=>true
 |.bl _=>true
 |.int _=>true
 |.str _=>true
 |_=>false
def rG:V->V->Bool
 |.aE,.aE=>true
 |.bl a,.bl b=>a==b
 |.bl a,.int b=>(if a then 1 else 0)==b
 |.int a,.bl b=>a==(if b then 1 else 0)
 |.int a,.int b=>a==b
 |.str a,.str b=>a==b
 |_,_=>false
def z45{y:V}{u:Value}(ry:RelV y u)(rx:RelV x v)(fy:gp y=true)(fx:gp x=true):SeqAt.EqAt A s u v (rG y x):=by
 cases y with
 |aE=>
  cases ry;cases x with
  |aE=>cases rx;exact SeqAt.EqAt.same _
  |bl b=>cases rx;exact SeqAt.EqAt.none_bool b
  |int b=>obtain⟨t,rfl⟩:=rx;exact SeqAt.EqAt.none_int b t
  |str b=>obtain⟨t,rfl⟩:=rx;exact SeqAt.EqAt.none_str b t
  |_=>exact absurd (show false=true from fx) w1f
 |bl a=>
  cases ry;cases x with
  |aE=>cases rx;exact SeqAt.EqAt.bool_none a
  |bl b=>cases rx;exact SeqAt.EqAt.bool_bool a b
  |int b=>obtain⟨t,rfl⟩:=rx;exact SeqAt.EqAt.bool_int a b t
  |str b=>obtain⟨t,rfl⟩:=rx;exact SeqAt.EqAt.bool_str a b t
  |_=>exact absurd (show false=true from fx) w1f
 |int a=>
  obtain⟨t',rfl⟩:=ry;cases x with
  |aE=>cases rx;exact SeqAt.EqAt.int_none a t'
  |bl b=>cases rx;exact SeqAt.EqAt.int_bool a t' b
  |int b=>obtain⟨t,rfl⟩:=rx;exact SeqAt.EqAt.int_int a t' b t
  |str b=>obtain⟨t,rfl⟩:=rx;exact SeqAt.EqAt.int_str a t' b t
  |_=>exact absurd (show false=true from fx) w1f
 |str a=>
  obtain⟨t',rfl⟩:=ry;cases x with
  |aE=>cases rx;exact SeqAt.EqAt.str_none a t'
  |bl b=>cases rx;exact SeqAt.EqAt.str_bool a t' b
  |int b=>obtain⟨t,rfl⟩:=rx;exact SeqAt.EqAt.str_int a t' b t
  |str b=>obtain⟨t,rfl⟩:=rx;exact SeqAt.EqAt.str_str a t' b t
  |_=>exact absurd (show false=true from fx) w1f
 |_=>exact absurd (show false=true from fy) w1f
def m8(x:V)(u:Value):Bool:=match u with
 |.none=>rG .aE x
 |.bool b=>rG (.bl b) x
 |.int i _=>rG (.int i) x
 |.str z _=>rG (.str z) x
 |_=>false
def Pu{y:V}{u:Value}(r:RelV y u)(f:gp y=true):m8 x u=rG y x:=by
 cases y with
 |aE=>cases r;rfl
 |bl b=>cases r;rfl
 |int i=>obtain⟨t,rfl⟩:=r;rfl
 |str z=>obtain⟨t,rfl⟩:=r;rfl
 |_=>exact absurd (show false=true from f) w1f
theorem AY:∀{xs:List V}{us:List Value},Vals xs us->xs.all gp=true->us.any (m8 x)=xs.any λy=>rG y x
 |_,_,.nil,_=>rfl
 |y::xs,u::us,.cons r t,f=>by
  rw[w2e,w0n]at f;rw[w2l,w2l,Pu r f.1,AY t f.2]
theorem AM(rx:RelV x v)(fx:gp x=true):∀{xs:List V}{us:List Value},Vals xs us->xs.all gp=true->∀u∈us,SeqAt.EqAt A s u v (m8 x u)
 |_,_,.nil,_=>λu hu=>by cases hu
 |y::xs,u::us,.cons r t,f=>λu' hu=>by
  rw[w2e,w0n]at f;rcases w0e.mp hu with rfl|hu
  .rw[Pu r f.1];exact z45 r rx f.1 fx
  .exact AM rx fx t f.2 u' hu
def Ck(x:V)(xs:List V):Bool:=xs.any λy=>rG y x
def Dv(K:Fg)(neg:Bool):R2:=λx y H Q=>∃p xs,y=.ref p/\(bB K H p xs\/cZ K H p xs)/\gp x=true/\xs.all gp=true/\Q (.bl (if neg then !Ck x xs else Ck x xs)) H
def WD:fj X (compareOp .In) (Dv X.K false):=by
 intro pins s σ H x y v u Q I rx ry h;obtain⟨p,xs,rfl,hq,fx,fs,q⟩:=h;cases ry;rcases hq with hq|hq
 .obtain⟨aw,r,pl,hz⟩:=I.list hq;refine SeqAt.in_listAt (m8 x) pl.isList (λw hw=>AM rx fx r fs w (by simpa using hw)) ⟨.bl _,H,I,rfl,?_⟩
  rw[show aw.toArray.any (m8 x)=aw.any (m8 x) by simp,AY r fs];exact q
 .obtain⟨aw,r,pl,hz⟩:=I.tuple hq;refine SeqAt.in_tupleAt (m8 x) pl (λw hw=>AM rx fx r fs w (by simpa using hw)) ⟨.bl _,H,I,rfl,?_⟩
  rw[show aw.toArray.any (m8 x)=aw.any (m8 x) by simp,AY r fs];exact q
def U7:fj X (compareOp .NotIn) (Dv X.K true):=by
 intro pins s σ H x y v u Q I rx ry h;obtain⟨p,xs,rfl,hq,fx,fs,q⟩:=h;cases ry;rcases hq with hq|hq
 .obtain⟨aw,r,pl,hz⟩:=I.list hq;refine SeqAt.notIn_listAt (m8 x) pl.isList (λw hw=>AM rx fx r fs w (by simpa using hw)) ⟨.bl _,H,I,rfl,?_⟩
  rw[show aw.toArray.any (m8 x)=aw.any (m8 x) by simp,AY r fs];exact q
 .obtain⟨aw,r,pl,hz⟩:=I.tuple hq;refine SeqAt.notIn_tupleAt (m8 x) pl (λw hw=>AM rx fx r fs w (by simpa using hw)) ⟨.bl _,H,I,rfl,?_⟩
  rw[show aw.toArray.any (m8 x)=aw.any (m8 x) by simp,AY r fs];exact q
def U8:cX X (.type "list") (λxs H Q=>∃p ys,xs=[.ref p]/\(bB X.K H p ys\/cZ X.K H p ys)/\∀l,H l=none->Q (.ref l) (upd H l (.lst ys))):=by
 intro pins s σ H xs us Q I r h;obtain⟨p,ys,rfl,hq,q⟩:=h;obtain⟨u,rfl,rx⟩:=vals1 r;cases rx
 have fin:∀(aw:List Value),Vals ys aw->ys.length<=sizeLine->∀(h':Heap)(c':Nat),(∀b o',s.heap.get? b=some o'->h'.get? b=some o') ->
   h'.get? s.heap.objs.size=some {cls:=.type "list", dict:=none,data:=.seq aw.toArray c',slots:=#[]}->EP X pins σ Q (.ref s.heap.objs.size) {s with heap:=h'}:=λaw r' hz h' c' kp e=>
  ⟨.ref s.heap.objs.size,_,I.laid (t':=s.toks) kp (w0c _) (show aN X.prog X.w _ h' _ (.lst ys)from⟨hz,aw,c',r',e⟩),rfl,q _ (I.aG.fresh (w0c _))⟩
 rcases hq with hq|hq
 .obtain⟨aw,r',pl,hz⟩:=I.list hq;have hlen:=r'.length;obtain⟨o,ho,hc,n,hd⟩:=pl.isList;exact call_list_seq p (.inl rfl) ho hc hd (λh' c' kp e=>fin aw r' hz h' c' kp e) (by simp only[w1c]<;>omega)
 .obtain⟨aw,r',pl,hz⟩:=I.tuple hq;have hlen:=r'.length;obtain⟨o,ho,hc,n,hd⟩:=pl;exact call_list_seq p (.inr rfl) ho hc hd (λh' c' kp e=>fin aw r' hz h' c' kp e) (by simp only[w1c]<;>omega)
def UT:cX X (.type "tuple") (λxs H Q=>∃p ys,xs=[.ref p]/\((bB X.K H p ys/\∀l,H l=none->Q (.ref l) (upd H l (.tup ys)))\/(cZ X.K H p ys/\Q (.ref p) H))):=by
 intro pins s σ H xs us Q I r h;obtain⟨p,ys,rfl,h⟩:=h;obtain⟨u,rfl,rx⟩:=vals1 r;cases rx;rcases h with⟨hq,q⟩|⟨hq,q⟩
 .obtain⟨aw,r',pl,hz⟩:=I.list hq;have hlen:=r'.length;refine call_tuple_list pl.isList (λh' kp=>?_) (by grind)
  have I1:Inv X pins σ H {s with heap:=h'}:=I.kept (t':=s.toks) kp
  have I2:Inv X pins σ (upd H h'.objs.size (.tup ys)) {s with heap:=h'.push {cls:=.type "tuple", data:=.seq aw.toArray}}:=
   I1.laid (t':=s.toks) (λb o e=>Heap.get?_push_of_some _ e) (w0c _) (show aN X.prog X.w _ _ _ (.tup ys)from⟨hz,aw,r',IsTup.new _ _,_,Heap.get?_push_size _ rfl,rfl⟩)
  exact⟨.ref h'.objs.size,_,I2,rfl,q _ (I1.aG.fresh (w0c _))⟩
 .obtain⟨aw,r',pl,hz⟩:=I.tuple hq;exact call_tuple_same pl ⟨.ref p,H,I,rfl,q⟩
def L_(K:Fg)(T:String)(x:V)(H:Hp):Prop:=match x with
 |.str _=>T="str"
 |.int _=>T="int"
 |.ref p=>(T="list" /\ ∃xs,bB K H p xs)\/(T="tuple" /\ ∃o,K.lookup p=some o/\o.cls=.type "tuple" /\ o.dict=none) \/
   (T="dict" /\ ((∃kvs,H p=some (.dK kvs))\/∃sh kvs bp,H p=some (.dT sh kvs bp)))\/(T="set" /\ ∃S n,H p=some (.set S n))
 |_=>False
def z46{T:String}(I:Inv X pins σ H s)(r:RelV x v)(ty:L_ X.K T x H):
  s.TypeIs v T/\∀a,v=.ref a->∃ob,s.heap.get? a=some ob/\ob.dict=none:=by
 cases x with
 |str z=>
  obtain⟨t,rfl⟩:=r;cases(show T="str" from ty)
  grind [typeIs_str]
 |int i=>
  obtain⟨t,rfl⟩:=r;cases(show T="int" from ty)
  grind [typeIs_int]
 |ref p=>
  cases r;rcases ty with⟨rfl,xs,hq⟩|⟨rfl,o,hk,hc,hd⟩|⟨rfl,hk⟩|⟨rfl,S,n,hk⟩
  .obtain⟨aw,_,pl,_⟩:=I.list hq;refine⟨pl.isList.typeIs,λa e=>?_⟩
   cases e;obtain⟨o,n,e,c,hd,_⟩:=pl;exact⟨o,e,hd⟩
  .refine⟨⟨o,I.ky p o hk,hc⟩,λa e=>?_⟩
   cases e;exact⟨o,I.ky _ o hk,hd⟩
  .have z:∃o,s.heap.get? p=some o/\o.ExactDict:=by
    rcases hk with⟨kvs,hk⟩|⟨sh,kvs,bp,hk⟩
    .obtain⟨_,_,_,_,o,_,_,e,ex,_⟩:=I.aG p _ hk;exact⟨o,e,ex⟩
    .obtain⟨_,_,_,_,_,o,_,_,e,ex,_⟩:=I.aG p _ hk;exact⟨o,e,ex⟩
   obtain⟨o,e,ex⟩:=z;refine⟨⟨o,e,ex.1⟩,λa e2=>?_⟩
   cases e2;exact⟨o,e,ex.2.1⟩
  .obtain⟨o,_,_,_,e,ex,_⟩:=I.aG p _ hk;refine⟨⟨o,e,ex.1⟩,λa e2=>?_⟩
   cases e2;exact⟨o,e,ex.2.1⟩
 |_=>exact False.elim ty
def L7(K:Fg)(T:String)(r:V->List V->Hp->VK->Prop)(to:TE)(t:TA):TE:=λσ H Q=>to σ H λx H1=>L_ K T x H1/\t σ H1 λxs H2=>r x xs H2 Q
variable{o e:Expr}{es:List Expr}{to:TE}{t:TA}{name:Str}{apos bc:Pos}{T id:String}{r:V->List V->Hp->VK->Prop}
def DU(pa:PlainAttrs T)(slot:Slot T name id)(zT:typeOf (.builtin id)=pure (.type "method_descriptor"))(hm:xA X id r)(ho:PE X o to)(ha:PA X (e::es) t)
  (dQ:autoParam (attributeBase o name X.env (eval o X.env)=eval o X.env) jJ)
  (gE:autoParam (((backTo bc (starEach (e::es) X.env)).all (λx=>!x.1)&&(backToKw bc (keywordEach [] X.env)).all (λx=>x.1.isSome)
   && decide ((e::es).length+([]:List Keyword).length+(if([]:List Keyword).isEmpty then 0 else 1)<30))=true) jJ)
  (dW:autoParam ((apos.endLine==bc.line)=true) jJ)(hs:autoParam (starEach (e::es) X.env=(false,eval e X.env)::starEach es X.env) jJ)(cI:autoParam ((backTo bc (starEach es X.env)).any (·.1)=false) jJ):
  PE X (.Call (.Attribute o name apos) (e::es) [] bc) (L7 X.K T r to t):=by
 intro pins s σ H Q I h;refine wpAny_Call_method_late dQ gE dW rfl (bt (ho pins s σ H _ I h) λv s1 ⟨x,H1,I1,r1,ty,q1⟩=>?_)
 obtain⟨h1,h2⟩:=z46 I1 r1 ty;refine⟨T,id,pa,slot,zT,h1,h2,?_⟩;have hA:=ha bc pins s1 σ H1 _ I1 q1;rw[hs]at hA |-
 refine Calls.callWith_builtin (by grind) (Calls.evalArgs_plain ?_);exact bt hA λus s2 ⟨vs,H2,I2,r2,q2⟩=>hm pins s2 σ H2 x vs v us Q I2 r1 r2 q2
/- xs.append(e),list.index on a Ak tuple .. are xA facts of 06m -/
end
def xy(X:Cx)(id:String)(r:V->List V->Hp->VK->Prop):Prop:=
 ∀(pins:List (Addr×Obj))(s:Shared)(σ:St)(H:Hp)(x:V)(xs:List V)(v:Value)(us:List Value)(Q:VK),Inv X pins σ H s->RelV x v->Vals xs us->r x xs H Q ->
  wpAny (model X.prog X.w) X.A (call (.builtin id) (v::us)) (EP X pins σ Q) X.xe s
theorem Vals.one(h:Vals [x] us):∃u,us=[u]/\RelV x u:=vals1 h
def Vals.reverse(h:Vals xs us):Vals xs.reverse us.reverse:=by
 induction h with
 |nil=>exact .nil
 |cons r t ih=>rw[w2m,w2m];exact Vals.append ih (.cons r .nil)
theorem Vals.rep(h:Vals xs us):∀k:Nat,Vals (List.replicate k xs).flatten (List.replicate k us).flatten
 |0=>.nil
 |k+1=>by
  rw[w1s,w1s,w2z,w2z];exact Vals.append h (Vals.rep h k)
theorem Hg(aw:List Value):∀(k:Nat)(acc:List Value),
  List.foldl (λx1 x2=>x1++x2) acc.toArray (List.replicate k aw.toArray)=(acc++(List.replicate k aw).flatten).toArray
 |0,acc=>by simp
 |k+1,acc=>by
  have e:acc.toArray++aw.toArray=(acc++aw).toArray:=by simp
  have e2:(acc++aw)++(List.replicate k aw).flatten=acc++(List.replicate (k+1) aw).flatten:=by
   grind
  rw[<- e2,<- Hg aw k (acc++aw),<- e,w1s,w2c]
section
variable{l b:Addr}{ys zs:List V}
def Inv.Ag{its':List Value}{f:Array Value->Array Value}{t':Nat}(I:Inv X pins σ H s)(hH:H l=some (.lst xs))
  (e:s.heap.get? l=some {cls:=.type "list", data:=.seq aw.toArray n})(hf:f aw.toArray=its'.toArray)(hv:Vals ys its')(hz:ys.length<=sizeLine):
  Inv X pins σ (upd H l (.lst ys)) {s with heap:=s.heap.update l (Obj.mapSeq f),toks:=t'}:=by
 have q:=PySem.IsL.update e f;rw[hf]at q;refine I.write (x:=l) (e:=l) (by rw[hH];exact trivial) (.inl rfl) (λb' u hb hu=>(Heap.get?_update_other s.heap (Obj.mapSeq f) (Ne.symm hb)).trans hu) ⟨_,q⟩ ?_
 exact⟨hz,its',_,hv,q⟩
theorem Inv.Ab{t':Nat}(I:Inv X pins σ H s)(hv:Vals ys aw)(hz:ys.length<=sizeLine):
  Inv X pins σ (upd H s.heap.objs.size (.lst ys)) {s with heap:=s.heap.push {cls:=.type "list", data:=.seq aw.toArray},toks:=t'}:=
 I.laid (λ_ _ q=>Heap.get?_push_of_some _ q) (w0c _) ⟨hz,aw,0,hv,Heap.get?_push_size _ rfl⟩
theorem Inv.fresh(I:Inv X pins σ H s):H s.heap.objs.size=none:=I.aG.fresh (w0c _)
def Inv.Ah(I:Inv X pins σ H s)(hH:H l=some (.lst xs)):xs.length<=sizeLine/\∃(aw:List Value)(n:Nat),Vals xs aw/\xs.length=aw.length/\s.heap.get? l=some {cls:=.type "list", data:=.seq aw.toArray n}:=by
 obtain⟨z,aw,n,r,e⟩:=I.aG l _ hH;exact⟨z,aw,n,r,r.length,e⟩
def mr(h:n<=sizeLine):Builtin.List.listTooLong n=false:=by
 grind [Builtin.List.listTooLong]
end
def lu:V->List V->Hp->VK->Prop:=λx vs H Q=>∃l xs y,x=.ref l/\vs=[y]/\H l=some (.lst xs)/\xs.length<sizeLine/\Q .aE (upd H l (.lst (xs++[y])))
def C5:xy X "list.append" lu:=by
 intro pins s σ H x vs v us Q I rx rv h;obtain⟨l,xs,y,rfl,rfl,hH,hz,q⟩:=h;cases rx;obtain⟨u,rfl,ru⟩:=rv.one;obtain⟨z,aw,n,r,hl,e⟩:=I.Ah hH;refine call_meets F.slot_list_append ⟨_,e,rfl⟩ F.entry_list_append (F.args_list_append_2 _ _) (PySem.list_append l aw.toArray n u (by grind)) ⟨e,?_⟩;refine⟨.aE,_,I.Ag (its':=aw++[u]) hH e (by simp) (r.append (.cons ru .nil)) ?_,rfl,q⟩
 grind
def Je(xs:List α)(k:Nat):(List.replicate k xs).flatten.length=k*xs.length:=by
 simp_all
end L2
namespace yu
open PySem PySem.W PySem.Calls PyProof.Rows
def TB{P:Params}{h:Heap}:∀(ns:List Int)(vs:List Value),WellAll P h vs (ns.map WData.int)->IntsAre vs ns:=by
 intro ns
 induction ns with
 |nil=>
  intro vs w;rw[w3q]at w;cases w;exact .nil
 |cons n ns ih=>
  intro vs w;rw[w0l]at w;cases w with
  |cons a b=>
   cases a;exact .cons _ _ (ih _ b)
def MM{l:OpenLaw}{n:Nat}(hn:l.most=some n){P:Params}{h:Heap}{args:List WData}{vals:List Value}
  (oZ:l.row.toRowW.claim.pre args=true)(rO:WellAll P h vals args):
  ∃a vs ns,vals=[Value.ref a]/\args=[WData.list (ns.map WData.int)]/\h.get? a=some {cls:=.type "list", data:=.seq vs.toArray}/\IntsAre vs ns/\ns.length<=n:=by
 have SE:WShape.hasAll [] args [.list .int]=true:=(pre_splitW oZ).1;have hc:l.pre.holds [] {args:=args}=true:=(pre_splitW oZ).2;obtain⟨d,r,rfl,h1,h2⟩:=hasAllW_cons SE;obtain rfl:=hasAllW_nil h2;obtain⟨xs,rfl,h3⟩:=hasW_list h1;obtain⟨ns,rfl⟩:=items_int h3
 have hlen:ns.length<=n:=by
  unfold OpenLaw.pre at hc
  have h4:(WTm.not (.lt (.lit (.int (n:Int))) (.len (.arg 0)))).holds [] {args:=[.list (ns.map .int)]}=true:=by
   have h4:=(holds_andW hc).1
   grind
  have h5:=condW_of h4 (w_not (w_lt w_lit (w_len_list (w_arg rfl))))
  grind
 cases rO with
 |cons w1 w2=>
  cases w2;cases w1 with
  |list ho vJ=>grind [TB]
theorem MN(l:OpenLaw)(args:List WData):l.row.toRowW.claim.post args (.bool true) args=true:=
 postW_of (r:=l.row.toRowW) (X:=(true==true))
  (show WShape.has [] (.bool true) .bool=true by first|rfl|decide|simp[WShape.has,WShape.arms,WShape.armsAll])
  (show(WTm.eq .res (.lit (.bool true))).value [] {args:=args,res:=some (.bool true),after:=args}=some (.bool (true==true))from w_eq_bool (w_res rfl) w_lit) rfl
def lQ{l:OpenLaw}{n:Nat}{q:Program}{loose:List Str}{XP:(Str->Option Value)->Heap->Prop}{YP:World->Heap->Prop}{d:DefRec}
  (hn:l.most=some n)(sL:d.params.defaults=[])
  (call:∀(w:World)(ax aD:Shared)(mg mb:Str->Option Value)(fa:Addr)(o:Obj)(pm cd doc:Value)(a:Addr)(vs:List Value)(ns:List Int),
   Ground q loose [] XP w ax mg mb aD.heap->YP w aD.heap ->
   aD.heap.get? fa=some o->o.data=.func (docDef d.name d.params d.body d.scope pm cd doc)->aD.heap.CodeRec cd d.name->mg d.name=some (.ref fa) ->
   aD.heap.get? a=some {cls:=.type "list", data:=.seq vs.toArray}->IntsAre vs ns->ns.length<=n->aD.gens=#[] ->
   codeAny (model l.prog w) callerA (.call (.ref fa) ⟨[.ref a],[]⟩) (λr s'=>r=.ok (.ret (.bool true))/\OldK aD.heap s'.heap/\s'.os=aD.os/\AllBare s'.gens) aD):
  WalkO q loose XP YP l.row.toRowW d [] (λf vs=>PySem.call f vs):=by
 intro w ax aD mg mb G Y fa o pm cd doc dV kV ho hd ei hD hmg hg args vals as oZ zL Sz rO Sm;obtain rfl:dV=.none:=Dflts.none hD sL;obtain rfl:kV=.none:=Dflts.noKw hD;obtain⟨a,vs,ns,rfl,rfl,nA,hints,hlen⟩:=MM hn oZ rO;refine enter_call (codeAny_mono (call w ax aD mg mb fa o pm cd doc a vs ns G Y ho (fd_plain hd) ei hmg nA hints hlen hg) λr s' hq=>?_)
 obtain⟨rfl,h2,h3,h4⟩:=hq;exact⟨.inl ⟨.bool true,.bool true,[],rfl,λ_=>rfl,.bool true,MN l _,λ_=>⟨List.Pairwise.nil,λ_ hm=>(nomatch hm)⟩⟩,h2,h3,h4⟩
section
variable{prog:Program}{w:World}{A:Around}{E:Value->Shared->Prop}{s:Shared}{K:Frag}
def ledger(h:Heap)(L d:Addr):List (Addr×Obj):=(List.range h.objs.size).filterMap λa=>if a=L\/a=d then none else(h.get? a).map λo=>(a,o)
end
end yu
namespace L2
open PySem PySem.Spec PyProof.Rows
theorem Hh:∀{vs:List Value}{ns:List Int},IntsAre vs ns->Vals (ns.map V.int) vs
 |_,_,.nil=>.nil
 |_,_,.cons n t h=>.cons ⟨t,rfl⟩ (Hh h)
def vh(H:Hp):Prop:=∀b,H b=none\/∃o xs,H b=some (.cP o (.lst xs))
def XW{P:Program}{w:World}{K:Fg}{mg mb:Str->Option Value}{CX:nY}{k:Nat}{fa a:Addr}{fd:FuncData}{x:Str}{sp:Sp}{aD:Shared}{vs:List Value}{ns:List Int}
  (KX:K.In aD.heap)(l9:aD.heap.Ns mainGlobals mg)(hb:aD.heap.Ns builtinsNs mb)(xH:∀x:Str,x≠"__name__"->mb x=bootBuiltins x)(vP:aD.heap.NoLimit)(hg:aD.gens=#[])
  (ha:aD.heap.get? a=some {cls:=.type "list", data:=.seq vs.toArray})(hi:IntsAre vs ns)(hl:ns.length<=sizeLine)(hr:br k callerA)
  (F:∀base:Heap,K.In base->base.Ns mainGlobals mg->eC P w K mg base CX k fa fd [x] sp)(l6:∀(s:Shared)(u:Value),BindsTo s fd ⟨[u],[]⟩ [(x,u)])
  (rN:∀H:Hp,vh H->bB K H a (ns.map V.int)->sp [.ref a] H (λv _=>v=.bl true) λ_ _ _=>False)
  (vI:∀H e s',CX [] H aD (λ_ _ _=>False) e s'->False)(zj:gL K=true):
  codeAny (model P w) callerA (.call (.ref fa) ⟨[.ref a],[]⟩) (λr s'=>r=.ok (.ret (.bool true))/\OldK aD.heap s'.heap/\s'.os=aD.os/\AllBare s'.gens) aD:=by
 have rv:=Hh hi;have FE:=hi.length
 have core:∀H:Hp,vh H->bB K H a (ns.map V.int)->c9 P w H aD.heap->(∀b,H b≠none->b=a)->(H a≠none->K.lookup a=none) ->
   codeAny (model P w) callerA (.call (.ref fa) ⟨[.ref a],[]⟩) (λr s'=>r=.ok (.ret (.bool true))/\OldK aD.heap s'.heap/\s'.os=aD.os/\AllBare s'.gens) aD:=by
  intro H hO hS aG hA hK;have fT:∀{b:Addr}{o:Obj},aD.heap.get? b=some o->H b=none->(gF aD.heap H).get? b=some o:=λe n=>Nt e n
  have s_:∀{b:Addr}{o:Obj}{es:Array DictEntry}{ep:Nat},aD.heap.get? b=some o->o.data=.dict es ep->H b=none:=λ{b o es ep} e d=>by
   grind
  have tf:∀{b:Addr}{m:Str->Option Value},aD.heap.Ns b m->(gF aD.heap H).Ns b m:=λ{b m} ⟨o,es,ep,e,d,r⟩=>⟨o,es,ep,fT e (s_ e d),d,r⟩
  have zi:K.In (gF aD.heap H):=λb o e=>fT (KX b o e) (by
   grind)
  have hM:Mod K mg (gF aD.heap H):=⟨zi,tf l9,⟨mb,tf hb,xH⟩,let ⟨mc,h1,h2⟩:=vP;⟨mc,tf h1,h2⟩⟩;have e0:iU P w K mg (gF aD.heap H) callerA [] aD H:=⟨rfl,hM,λb o e=>Ot e,Nat.le_of_eq (MF _ _),trivial,λb hb=>absurd (show b∈([]:List Addr)from hb) (by simp),aG,.of_eq hg,.Ui zj⟩
  refine codeAny_mono ((F _ zi (tf l9)).run callerA [] aD H ⟨[.ref a],[]⟩ [.ref a] [.ref a] _ _ hr e0 (l6 aD (.ref a)) (.cons rfl .nil) (rN H hO hS)) λr s' h=>?_
  cases r with
  |error e=>exact(vI H e s' h).elim
  |ok fl=>
   cases fl with
   |next=>exact False.elim h
   |brk=>exact False.elim h
   |cont=>exact False.elim h
   |ret u=>
    obtain⟨v,H',os,bare,un,sO,r',q⟩:=h;have q':v=.bl true:=q;subst q';obtain rfl:u=Value.bool true:=r';refine⟨rfl,OldK.of_keep λb o e=>?_,os,bare⟩
    cases q:H b with
    |none=>exact un.keep b o e q (by intro z;exact absurd (show b∈([]:List Addr)from z) (by simp)) (by simp)
    |some u=>
     rcases hO b with z|⟨ob,xs,z⟩
     .rw[q]at z;cases z
     .have z2:=un.aW b ob _ z;obtain⟨e1,_⟩:=aG b _ z;obtain⟨e2,_⟩:=sO b _ z2
      grind
 cases hk:K.lookup a with
 |some o=>
  have e:=KX a o hk;rw[ha]at e;cases e;refine core (λ_=>none) (λ_=>.inl rfl) (.inr ⟨_,vs.toArray,_,hk,rfl,rfl,rfl,by grind,by simpa using rv⟩) (λb u z=>by grind) (λb z=>absurd rfl z) λz=>absurd rfl z
 |none=>
  refine core (λb=>if b=a then some (.cP {cls:=.type "list", data:=.seq vs.toArray} (.lst (ns.map V.int)))else none) (λb=>?_) (.inl (.inr ⟨{cls:=.type "list", data:=.seq vs.toArray},if_pos rfl⟩)) (λb u z=>?_) (λb z=>?_) λ_=>hk
  .grind
  .by_cases hb:b=a
   .have z':=(if_pos hb).symm.trans z;cases z';subst hb;exact⟨ha,by grind,vs,_,rv,ha⟩
   grind
  grind
abbrev JQ{K:Fg}{h:Heap}(_:K.In h):Fg:=K
def Zf{l:PySem.W.OpenLaw}{n k:Nat}{q:Program}{loose:List Str}{XP:(Str->Option Value)->Heap->Prop}{YP:World->Heap->Prop}{d:DefRec}{K:Params->Fg}{CX:World->nY}{sp:World->Sp}{x:Str}
  (hn:l.most=some n)(ou:n<=sizeLine)(sL:d.params.defaults=[])(hr:br k callerA)
  (hY:∀(w:World)(h:Heap),YP w h->(K w.params).In h)
  (F:∀(w:World)(mg:Str->Option Value)(fa:Addr)(h:Heap),(K w.params).In h->h.Ns mainGlobals mg->mg d.name=some (.ref fa) ->
   ∃fd:FuncData,(∀(s:Shared)(u:Value),BindsTo s fd ⟨[u],[]⟩ [(x,u)]) /\
    ∀base:Heap,(K w.params).In base->base.Ns mainGlobals mg->eC l.prog w (K w.params) mg base (CX w) k fa fd [x] (sp w))
  (rN:∀(w:World)(H:Hp)(a:Addr)(ns:List Int),ns.length<=n->vh H->bB (K w.params) H a (ns.map V.int)->sp w [.ref a] H (λv _=>v=.bl true) λ_ _ _=>False)
  (vI:∀(w:World)(H:Hp)(s:Shared)(e:Value)(s':Shared),CX w [] H s (λ_ _ _=>False) e s'->False)(zj:∀w:World,gL (K w.params)=true):
  PySem.W.WalkO q loose XP YP l.row.toRowW d [] (λf vs=>PySem.call f vs):=by
 refine yu.lQ hn sL λw ax aD mg mb fa o pm cd doc a vs ns G Y ho hd ei hmg nA hints hlen hg=>?_
 have KX:=hY w _ Y;obtain⟨fd,hb,hF⟩:=F w mg fa _ KX G.T.g hmg;exact XW KX G.T.g G.T.b G.T.builtins G.T.nolimit hg nA hints (w0s hlen ou) hr hF hb (λH hO hS=>rN w H a ns hlen hO hS) (λH e s'=>vI w H aD e s') (zj w)
end L2
/- THE QM BX (shape; LID, My.* are QC):
   My.aP: a structure of BF addresses Ub Zr K1 names (classes, xG); My.Txt K t: a structure (Prop) of BF equations over K;
   My.xo : {K} {implicit addresses ..} (e1 : nsIn K mainGlobals "law" = some (some (.ref f))) (e2 : K.lookup f = some ⟨oc, od, .func (fnOf "law" "law" params body scope dV kV doc pm an eG ct), sl⟩) (e3 : codeIn K eG "law" = true) .. : ∃ t, My.Txt K t
set_option maxRecDepth 100000 in
set_option maxHeartbeats 0 in
def PySem.Challenge.sE : PySem.Challenge.w8.Holds := by
 w_on; o_law; k_head; (case hw => w_witness2)
 k_fill
 refine L2.Zf (l := PySem.Challenge.w8) (n := 63) (k := 40) (x := "script") (CX := λw => ..) (sp := λ_ => My.Iw) rfl (by decide) rfl ⟨rfl, by decide, by decide⟩ (λw h Y => PySem.W.kIn_of Y) ?F ?S ?C
 case F =>
  intro w mg fa h KX G hmg
  have T : ∃ t, My.Txt (L2.JQ KX) t := by
   dsimp only [L2.JQ]                          -- K Ta L5 as «<heap const> w.params» for k_is;refine' My.xo ?e1 ?e2 ?e3 ..
   (case e1 => PySem.W.k_is)                    -- in BF order: a name -> aw address -> aw object -> aw parts
   (case e2 => PySem.W.k_is)
   ..
  obtain ⟨t, T⟩ := T;have e0 := hmg.symm.trans (PySem.W.mg_of KX G T.law);cases e0                                       -- fa is BF K0 own address;exact ⟨_, λs u => .of_eq rfl, λbase kb nb => My.v_ T kb nb⟩     -- if «.of_eq rfl» comes too early: refine' ⟨_, ?b, λbase kb nb => My.v_ T kb nb⟩; exact λs u => .of_eq rfl
 case S => exact λw H a ns hl hO hS => ..
 case C => exact ..
(BF tactic k_is has no namespace: write k_is) -/
namespace L2
open PySem PySem.Spec PyProof.Rows
variable{f:Addr}{X:Cx}{elt:Expr}{fd:FuncData}{B h1:Heap}{H H':Hp}{es ifs:List Expr}{js:List Nat}{pos:Pos}{K:Fg}{s:Shared}{σ:St}{qual x:Str}{te:TE}{wi:TI}{tc:TT}{cls:Value}{w:World}
def ed(s:Stmt):Arguments:=match s with
 |.FunctionDef _ a _ _ _ _ _ _ _ _=>a
 |_=>{posonlyargs:=[],args:=[],vararg:=none,kwonlyargs:=[],kw_defaults:=[],kwarg:=none,defaults:=[]}
def cD(s:Stmt):List Stmt:=match s with
 |.FunctionDef _ _ b _ _ _ _ _ _ _=>b
 |_=>[]
def aZ(s:Stmt):Scope:=match s with
 |.FunctionDef _ _ _ _ _ _ sc _ _ _=>sc
 |_=>{kind:=.function,names:=[],isGenerator:=false,isCoroutine:=false}
abbrev QE:nY:=λ_ _ _ _ _ _=>False
abbrev E0:XK:=λ_ _ _=>False
structure yD(K:Fg)(x qual:Str)(st:Stmt)(f:Addr)(fd:FuncData):Prop where
 ex:∃(oc:Value)(od:Option Addr)(kV doc pm:Value)(an:Option Addr)(eG ct:Value)(wt:Array (Option Value)),
  fd=PySem.W.fnOf x qual (ed st) (cD st) (aZ st) .none kV doc pm an eG ct/\K.lookup f=some ⟨oc,od,.func fd,wt⟩/\PySem.W.codeIn K eG qual=true
 kp:keepIn K (.ref f)=true
section
variable{P:Program}{mg:Str->Option Value}{base:Heap}
def yD.binds{st:Stmt}{ps:List Str}(F:yD K x qual st f fd)
  (h:∀(kV doc pm:Value)(an:Option Addr)(eG ct:Value)(us:List Value),us.length=ps.length->bindArgs (PySem.W.fnOf x qual (ed st) (cD st) (aZ st) .none kV doc pm an eG ct) ⟨us,[]⟩=pure (ps.zip us)):Binds K fd ps []:=by
 grind [ex,Binds.all]
theorem Pw{st:Stmt}{oc:Value}{od an:Option Addr}{wt:Array (Option Value)}{kV doc pm eG ct:Value}(l:K.lookup f=some ⟨oc,od,.func (PySem.W.fnOf x qual (ed st) (cD st) (aZ st) .none kV doc pm an eG ct),wt⟩)
  (c:PySem.W.codeIn K eG qual=true)(k:keepIn K (.ref f)=true):yD K x qual st f (PySem.W.fnOf x qual (ed st) (cD st) (aZ st) .none kV doc pm an eG ct):=⟨⟨oc,od,kV,doc,pm,an,eG,ct,wt,rfl,l,c⟩,k⟩
end
theorem pv(i:Nat)(hN:autoParam (X.N[i]?=some x) jJ)(hv:autoParam (jI X.env.scope x) jN)(hd:autoParam ((x==("__debug__":Str))=false) jK)
  (ei:autoParam ((x==("__classdict__":Str))=false) jK):PE X (.Name x pos) (rn i):=z4k hN hv hd ei
def ak(H H':Hp):Prop:=∀b o,H b=some o->H' b=some o
theorem ak.refl(H:Hp):ak H H:=λ_ _ h=>h
theorem ak.trans{H1 H2:Hp}(a:ak H H1)(b:ak H1 H2):ak H H2:=λc o h=>b c o (a c o h)
def ak.free(e:ak H H'){l:Addr}(h:H' l=Option.none):H l=Option.none:=by
 cases q:H l with
 |none=>rfl
 |some o=>
  rw[e l o q]at h;cases h
def ak.seq{a:Addr}{xs:List V}(e:ak H H')(h:bB K H a xs):bB K H' a xs:=by
 rcases h with(h|⟨o,h⟩)|h
 .exact .inl (.inl (e _ _ h))
 .exact .inl (.inr ⟨o,e _ _ h⟩)
 .exact .inr h
set_option maxHeartbeats 4000000
structure t6(outer:List Env)(H H':Hp)(h h':Heap)(e:Addr)(cls:Value)(B:Heap):Prop where
 fl:∃a0,Heap.FlyingW B outer e cls a0 h'
 old:∀b o,h.get? b=some o->H b=none->b∉fk outer->B.get? b=some o
 nV:∀b u o,H' b=some u->h'.get? b=some o->B.get? b=some o
 all:∀b o,h.get? b=some o->b∈fk outer\/∃o',B.get? b=some o'
 new:h.get? e=none
def eA(P:Program)(w:World):nY:=λouter H s E ev s'=>∃(e:Addr)(cls:Value)(H':Hp)(B:Heap),
 ev=.ref e/\s'.os=s.os/\AllBare s'.gens/\Un (fk outer) [] H H' s.heap s'.heap/\c9 P w H' s'.heap/\t6 outer H H' s.heap s'.heap e cls B/\E cls none H'
def eF(CX:nY)(X:Cx)(EE:L2.St->XK):Prop:=∀(pins:List (Addr×Obj))(σ:St)(H:Hp)(s:Shared)(e:Value)(s':Shared),Inv X pins σ H s->CX X.stack H s (EE σ) e s'->X.xe e s'
def pN(X:Cx)(EE:L2.St->XK):Prop:=∀(pins:List (Addr×Obj))(σ:St)(H:Hp)(s:Shared)(e:Addr)(cls:Value)(vs:List Value)(h':Heap),Inv X pins σ H s->Heap.MadeExcOf s.heap h' e cls vs->EE σ cls none H->X.xe (.ref e) {s with heap:=h'}
def Ox
  (I:Inv (gU CX P w K mg base N qual scope f cd A outer ax aA E) pins σ H s)(J:Inv (gU CX P w K mg base N qual scope f cd A outer ax aA E) pins σ H' s')
  (old:∀b o,s.heap.get? b=some o->H b=none->b∉fk (envOfC qual scope ax.heap.objs.size f cd::outer)->B.get? b=some o)
  (nV:∀b u o,H' b=some u->s'.heap.get? b=some o->B.get? b=some o)
  (all:∀b o,s.heap.get? b=some o->b∈fk (envOfC qual scope ax.heap.objs.size f cd::outer)\/∃o',B.get? b=some o')
  (new:s.heap.get? e=none)
  (fl:Heap.FlyingW B outer e cls a0 qa)(up:s'.heap.UpToSlots qa)(hE:E cls none H'):
  eA P w outer aA ax E (.ref e) {s' with heap:=qa}:=by
 have Ao:∀b o,ax.heap.get? b=some o->b∉fk outer->b∉fk (envOfC qual scope ax.heap.objs.size f cd::outer):=λb o q nb hb=>by
  rcases w0e.mp (show b∈ax.heap.objs.size::fk outer from hb)with z|z
  .exact absurd (Heap.lt_size q) (by grind)
  .exact nb z
 have vz:∀b:Addr,b∉([]:List Addr):=λb z=>nomatch z
 have slot:∀b o,ax.heap.get? b=some o->b∈fk outer->∃sl,qa.get? b=some {o with slots:=sl}:=λb o q hb=>by
  obtain⟨sl,e1⟩:=J.base.slot b o q (J.ok.oo b hb) hb (vz b);obtain⟨_,o2,e2,nd⟩:=J.eM.mem hb
  rw[e1]at e2;cases e2;obtain⟨rZ,e3⟩:=up b _ e1 nd;exact⟨rZ,e3⟩
 refine⟨e,cls,H',B,rfl,J.os,J.bare,⟨λb o q n hb hx=>?_,λb o q n hb hx=>slot b o q hb,λb o q n hx=>J.base.free b o q n hx,λb o q hx=>?_,J.base.fO,J.base.aW,J.base.e9⟩,λa o q=>?_,⟨⟨a0,fl⟩,λb o q n hb=>?_,λb u o q z=>?_,λb o q=>?_,?_⟩,hE⟩
 .exact fl.1 b o (old b o (I.base.keep b o q n hb hx) (I.base.free b o q n hx) (Ao b o q hb))
 .by_cases hb:b∈fk outer
  .grind
  .obtain⟨o1,e1⟩:=I.base.there b o q hx;rcases all b o1 e1 with z|⟨o',z⟩
   .grind
   .exact⟨o',fl.1 b o' z⟩
 .refine(J.aG a o q).eQ (λb u hb z=>?_) (λ_ z=>z) λ_ _ _ z=>z
  rcases hb with rfl|hb
  .exact fl.1 _ _ (nV b o u q z)
  .exact fl.1 _ _ (nV b _ u hb z)
 .exact old b o (I.base.keep b o q n hb (vz b)) (I.base.free b o q n (vz b)) (Ao b o q hb)
 .obtain⟨o1,e1⟩:=(J.aG b u q).get;have e2:=nV b u o1 q e1;have e3:=fl.1 b o1 e2
  grind
 .obtain⟨o1,e1⟩:=I.base.there b o q (vz b)
  grind
 .cases q:ax.heap.get? e with
  |none=>rfl
  |some o=>
   obtain⟨o1,e1⟩:=I.base.there e o q (vz e)
   grind
def Ax:eF (eA P w) (gU (eA P w) P w K mg base N qual scope f cd A outer ax aA E) (λ_=>E):=by
 intro pins σ H s ev s' I hx;obtain⟨e,cls,H',B,rfl,pf,hg,un,aG,gq,hE⟩:=hx;have J:=I.n_ (ch:=[]) pf un aG hg (λb hb=>nomatch hb)
 obtain⟨a0,fl⟩:=gq.fl;refine wpAny_leaves_onW (base:=B) I.ok.frames rfl fl λqa RF up=>?_
 exact Ox I J gq.old gq.nV gq.all gq.new RF up hE
def LY:pN (gU (eA P w) P w K mg base N qual scope f cd A outer ax aA E) (λ_=>E):=by
 intro pins σ H s e cls vs h' I hx hE;have J:Inv (gU (eA P w) P w K mg base N qual scope f cd A outer ax aA E) pins σ H {s with heap:=h'}:=I.kept (t':=s.toks) hx.keeps;have lI:∀env∈(envOfC qual scope ax.heap.objs.size f cd::outer),∀b,env.frame=some b->b∈fk (envOfC qual scope ax.heap.objs.size f cd::outer):=λenv he b hb=>w2f.mpr ⟨env,he,hb⟩
 refine wpAny_leaves_madeW (base:=PySem.W.hideAll s.heap (fk (envOfC qual scope ax.heap.objs.size f cd::outer))) (h:=s.heap) I.ok.frames rfl (λb o q=>PySem.W.of_hideAll _ q) (PySem.W.funFrames_hide I.stack lI) hx λqa t fl _ _ up=>?_
 refine Ox I J (λb o q _ nb=>hideAll_get _ q nb) (λb u o q z=>?_) (λb o q=>?_) hx.new fl up hE
 .obtain⟨o1,e1⟩:=(I.aG b u q).get;have e2:=hx.keeps b o1 e1;have z':h'.get? b=some o:=z;rw[e2]at z';cases z';refine hideAll_get _ e1 λhb=>?_
  rw[I.lD b hb]at q;cases q
 grind [W.hideAll_get]
theorem Ay:eF (eA P w) X (λ_=>E0):=λ_ _ _ _ _ _ _ h=>by
 obtain⟨_,_,_,_,_,_,_,_,_,_,z⟩:=h;exact False.elim z
def rh(sp:Sp)(sF:List V)(EE:L2.St->XK)(t:TA):TE:=λσ H Q=>t σ H λvs H1=>sp (vs++sF) H1 Q (EE σ)
section
variable{CX:nY}{k:Nat}{C:Addr}{ps:List Str}{sp:Sp}{sF:List V}{ds:List Value}{EE:L2.St->XK}{m:Str}{p:Pos}{e o:Expr}{ta:TE}{t:TA}
def Zg(F:eC X.prog X.w X.K X.mg X.base CX k f fd ps sp)(hr:br k X.A)(hb:Binds X.K fd ps ds)(hd:Vals sF ds)(hx:eF CX X EE)
  (I:Inv X pins σ H s)(r:Vals vs us)(h:sp (vs++sF) H Q (EE σ)):wpAny (model X.prog X.w) X.A (call (.ref f) us) (EP X pins σ Q) X.xe s:=by
 have r2:Vals (vs++sF) (us++ds):=r.append hd;have hl:(us++ds).length=ps.length:=by rw[<- r2.length];exact F.len _ _ _ _ h
 refine wpAny_call (codeAny_mono (F.run X.A X.stack s H ⟨us,[]⟩ (us++ds) (vs++sF) Q (EE σ) hr I.pW (hb s us I.ky hl) r2 h) λr s' hq=>?_)
 cases r with
 |error e=>exact hx pins σ H s e s' I hq
 |ok fl=>
  cases fl with
  |ret u=>exact I.after hq
  |next=>exact False.elim hq
  |brk=>exact False.elim hq
  |cont=>exact False.elim hq
def XX(F:eC X.prog X.w X.K X.mg X.base CX k f fd ps sp)(hr:br k X.A)(hg:Gl X x)(hm:X.mg x=some (.ref f))(hk:keepIn X.K (.ref f)=true)(hb:Binds X.K fd ps ds)(hd:Vals sF ds)(hx:eF CX X EE)
  (ha:PA X (e::es) t)(ix:autoParam ((x==("__debug__":Str))=false) jK)(he:autoParam (starEach (e::es) X.env=(false,eval e X.env)::starEach es X.env) jJ)(du:autoParam ((backTo pos (starEach es X.env)).any (·.1)=false) jJ):
  PE X (.Call (.Name x p) (e::es) [] pos) (rh sp sF EE t):=by
 intro pins s σ H Q I h;refine wpAny_Call_Name_kw (x8 I hg hm ?_ ix);refine PySem.W.callWith_K (h₀:=X.base) I.ok.mod.uL hk (bt (ha pos pins s σ H _ I h) λus s1 ⟨vs,H1,I1,r,q⟩=>⟨I1.ky,?_⟩) he du
 exact Zg F hr hb hd hx I1 r q
end
def kE(K:Fg)(a:Addr):Bool:=match K.lookup a with
 |some ⟨_,_,.dict es _,_⟩=>es.toList.all λe=>match e.key with|.str _ _=>true|_=>false
 |_=>false
def hZ(K:Fg)(a:Addr):Bool:=kE K a&&PySem.W.nsIn K a "__init__"==some none
abbrev kG:List Value:=[.type "ValueError", .type "Exception", .type "BaseException", .type "object"]
def vt:Data->Option ClassData
 |.cls c=>some c
 |_=>none
def Oy{d:Data}{c:ClassData}(h:vt d=some c):d=.cls c:=by
 cases d with
 |cls x=>exact congrArg Data.cls (Option.some.inj h)
 |_=>exact nomatch (show none=some c from h)
def excIn(K:Fg)(C A:Addr):Bool:=(K.lookup C).any λo=>(K.lookup A).any λoa=>(vt o.data).any λcd=>(vt oa.data).any λca=>
 o.cls==.type "type"&&o.slots.toList==[o.slots.getD 0 none,o.slots.getD 1 none,o.slots.getD 2 none,o.slots.getD 3 none,some (.builtin "ValueError.__new__"),o.slots.getD 5 none]&&cd.mro==(.ref C::.ref A::kG)&&!cd.hasDel&&hZ K cd.ns&&hZ K ca.ns
def MO(X:K.In h)(q:hZ K a=true):∃m,h.Ns a m/\m "__init__"=none:=by
 unfold hZ at q;rw[w0n]at q;obtain⟨q1,q2⟩:=q;unfold kE at q1;split at q1
 .rename_i c d es n sl hl
  have hs:StrKeys es:=λe he=>by
   grind
  refine⟨nsFind es,⟨_,es,n,X _ _ hl,rfl,hs,λ_=>rfl⟩,?_⟩
  have q2:=beq_iff_eq.mp q2
  grind [W.nsIn,nsFind,findBy]
 .cases q1
inductive t5(h:Heap)(C A:Addr):Prop
 |mk (nm qn N bs hdct sn sub ab col dd k0 k1 k2 k3 k5 mN) (e:h.get? C=some (excClassObj nm qn C N bs (.ref A::kG) hdct sn sub ab col dd k0 k1 k2 k3 k5 "ValueError.__new__")) (n:h.Ns N mN) (i:mN "__init__"=none) (T:OwnTail h kG (.ref A::kG)):t5 h C A
def A1(X:K.In h)(q:excIn K C A=true):t5 h C A:=by
 unfold excIn at q;simp only[Option.any_eq_true,w0n,beq_iff_eq,Bool.not_eq_true']at q;obtain⟨⟨c,dd,d,sl⟩,hC,⟨c',d1,d',rZ⟩,hA,cd,h1,ca,h2,⟨⟨⟨⟨hc,xO⟩,hm⟩,EK⟩,hn⟩,Ss⟩:=q;cases Oy h1;cases Oy h2;cases hc;have xO:=congrArg List.toArray xO;rw[w3k]at xO;obtain⟨k0,k1,k2,k3,k5,xO⟩:∃k0 k1 k2 k3 k5,sl=#[k0,k1,k2,k3,some (.builtin "ValueError.__new__"),k5]:=⟨_,_,_,_,_,xO⟩;subst xO;obtain⟨nm,bs,mro,ns,qn,hd,sn,sub,ab,col,del⟩:=cd;cases hm;cases EK;obtain⟨mN,hN,hi⟩:=MO X hn;obtain⟨mA,RP,Sd⟩:=MO X Ss;exact⟨nm,qn,ns,bs,hd,sn,sub,ab,col,dd,k0,k1,k2,k3,k5,mN,X _ _ hC,hN,hi,.own (X _ _ hA) RP Sd .base⟩
def xk(C:Addr)(EE:L2.St->XK)(t:TA):TS:=λ_ σ H=>t σ H λvs H1=>vs.length<=sizeLine/\EE σ (.ref C) none H1
section
variable{C Ac:Addr}{EE:L2.St->XK}{np bc:Pos}{e:Expr}{t:TA}
def XY(hx:pN X EE)(hc:X.calm=true)(hg:Gl X x)(hm:X.mg x=some (.ref C))(hC:excIn X.K C Ac=true)(ha:PA X (e::es) t)
  (ix:autoParam ((x==("__debug__":Str))=false) jK)(he:autoParam (starEach (e::es) X.env=(false,eval e X.env)::starEach es X.env) jJ)(du:autoParam ((backTo bc (starEach es X.env)).any (·.1)=false) jJ):
  PS X (.Raise (some (.Call (.Name x np) (e::es) [] bc)) none pos) (xk C EE t):=by
 intro pins s σ H D I h;obtain⟨nm,qn,N,bs,hdct,sn,sub,ab,col,dd,k0,k1,k2,k3,k5,mN,Kf,hN,hi,T⟩:=A1 I.ky hC
 have Ff:(backTo bc (starEach (e::es) X.env)).any (·.1)=false:=by
  rw[he];show(false||(backTo bc (starEach es X.env)).any (·.1))=false;rw[du];rfl
 refine wpAny_Raise_call_subT (C:=C) (nm:=nm) (q:=qn) (N:=N) (bs:=bs) (bm:=.ref Ac::kG) (hdct:=hdct) (sn:=sn) (sub:=sub) (ab:=ab) (col:=col) (dd:=dd) (k0:=k0) (k1:=k1) (k2:=k2) (k3:=k3) (k5:=k5)
  PySem.F.excBase_ValueError (mN:=mN) (by rfl) (I.ok.hd hc) Ff hi (x8 I hg hm ⟨rfl,?_⟩ ix)
 have key:=ha bc pins s σ H _ I h;rw[he]at key |-
 refine Calls.evalArgs_plain (wpAny_mono key (λus s1 ⟨vs,H1,I1,r,hz,q⟩=>?_) λ_ _ y=>y)
 obtain⟨nm',qn',N',J0,Ku,sn',T7,ab',Rn,ui,k0',k1',k2',k3',k5',S',zc,hN',vN,T'⟩:=A1 I1.ky hC;have kk:∀b o,X.base.get? b=some o->s1.heap.get? b=some o:=I1.bk
 have hCb:X.base.get? C=s1.heap.get? C:=by
  obtain⟨_,_,_,_,_,_,_,_,_,_,_,_,_,_,_,_,z,_⟩:=A1 I.ok.mod.uL hC;rw[z];exact(kk _ _ z).symm
 have RL:s.heap.get? C=s1.heap.get? C:=by
  obtain⟨_,_,_,_,_,_,_,_,_,_,_,_,_,_,_,_,z,_⟩:=A1 I.ok.mod.uL hC;rw[I.bk _ _ z];exact(kk _ _ z).symm
 have Kg:s1.heap.get? C=some (excClassObj nm qn C N bs (.ref Ac::kG) hdct sn sub ab col dd k0 k1 k2 k3 k5 "ValueError.__new__"):=RL ▸ Kf;rw[Kg]at zc;cases zc;have em:S' "__init__"=none:=vN
 have RO:s1.heap.Ns N mN:=by
  obtain⟨o1,Ry,Rx,a1,a2,a3,a4⟩:=hN;obtain⟨_,_,N3,_,_,_,_,_,_,_,_,_,_,_,_,m3,z3,n3,_,_⟩:=A1 I.ok.mod.uL hC;have z4:=I.bk _ _ z3;rw[Kf]at z4;cases (z4);obtain⟨o5,Kb,Ka,b1,b2,b3,b4⟩:=n3;have c1:=I.bk _ _ b1;rw[a1]at c1;cases c1;exact⟨_,Ry,Rx,I1.bk _ _ b1,a2,a3,a4⟩
 exact⟨rfl,by rw[<- r.length];exact hz,Kg,RO,T',λh' ea So=>hx pins σ H1 s1 ea (.ref C) us h' I1 So q⟩
end
def m_(e:Addr)(cls:Value):HO:=.ext λh=>∃o vs,h.get? e=some o/\o.cls=cls/\o.data=.fields vs
def Zh{P:Program}{h:Heap}{e:Addr}(x:∃o vs,h.get? e=some o/\o.cls=cls/\o.data=.fields vs):aN P w H h e (m_ e cls):=by
 obtain⟨o,vs,h1,h2,h3⟩:=x;refine⟨⟨o,vs,h1,h2,h3⟩,⟨o,h1⟩,λg1 g2 ⟨o',Uj,q1,q2,q3⟩ k=>⟨o',Uj,k o' q1,q2,q3⟩⟩
abbrev Cx.tr(X:Cx)(pn:List (Addr×Obj))(xe:Value->Shared->Prop):Cx:={X with pn:=pn,xe:=xe}
abbrev Cx.hn(X:Cx)(e:Addr):Cx:={X with A:=X.A.mark (some (.ref e)),calm:=false,xe:=λ_ _=>False}
section
variable{pins pins':List (Addr×Obj)}{xe:Value->Shared->Prop}{e:Addr}
theorem Cx.Ok.tr(ok:X.Ok)(pn:List (Addr×Obj))(xe:Value->Shared->Prop):(X.tr pn xe).Ok:=
 ⟨ok.mod,ok.kind,ok.glob,ok.blt,ok.above,ok.inj,ok.has,ok.ue,ok.hd,ok.frames,ok.Bp,ok.vA,ok.bs,ok.mM,ok.o6,ok.ng,ok.eM,ok.oo,ok.tab⟩
theorem Cx.Ok.nW{pn:List (Addr×Obj)}(ok:(X.tr pn xe).Ok):X.Ok:=
 ⟨ok.mod,ok.kind,ok.glob,ok.blt,ok.above,ok.inj,ok.has,ok.ue,ok.hd,ok.frames,ok.Bp,ok.vA,ok.bs,ok.mM,ok.o6,ok.ng,ok.eM,ok.oo,ok.tab⟩
theorem Cx.Ok.hn(ok:X.Ok)(e:Addr):(X.hn e).Ok:=
 ⟨ok.mod,ok.kind,ok.glob,ok.blt,ok.above,ok.inj,ok.has,ok.ue,(λz=>nomatch z),ok.frames,ok.Bp,ok.vA,ok.bs,ok.mM,ok.o6,ok.ng,ok.eM,ok.oo,ok.tab⟩
theorem Inv.tr(I:Inv X pins σ H s)(xe:Value->Shared->Prop):Inv (X.tr (X.pn++pins) xe) [] σ H s:=
 ⟨I.ok.tr _ xe,I.os,I.bare,I.base,I.loc,I.cell,I.free,I.c7,λp hp=>I.pin p (by simpa using hp),I.aG,I.len⟩
theorem Inv.nW(I:Inv (X.tr (X.pn++pins) xe) pins' σ H s):Inv X pins σ H s:=
 ⟨I.ok.nW,I.os,I.bare,I.base,I.loc,I.cell,I.free,I.c7,λp hp=>I.pin p (w2a _ hp),I.aG,I.len⟩
theorem Inv.hn(I:Inv X pins σ H s)(e:Addr):Inv (X.hn e) pins σ H s:=
 ⟨I.ok.hn e,I.os,I.bare,I.base,I.loc,I.cell,I.free,I.c7,I.pin,I.aG,I.len⟩
theorem Inv.IK(ok:X.Ok)(I:Inv (X.hn e) pins σ H s):Inv X pins σ H s:=
 ⟨ok,I.os,I.bare,I.base,I.loc,I.cell,I.free,I.c7,I.pin,I.aG,I.len⟩
def Inv.forget{h':Heap}{m':Str->Option Value}{t:Nat}(I:Inv X pins σ H s)(hs:Heap.SameBut X.env.locals s.heap h')(vQ:h'.Ns X.env.locals m'):Inv X pins (List.replicate X.N.length none) H {s with heap:=h',toks:=t}:=by
 obtain⟨m,hn,hl⟩:=id I.loc;obtain⟨oL,_,_,KI,_⟩:=id hn
 have tracked:c9 X.prog X.w H h':=λb ob e=>by
  refine(I.aG b ob e).eQ (λc w' hc q=>(hs.2 c ?_).trans q) (λ_ q=>q) λ_ _ _ q=>q
  grind [free]
 refine⟨I.ok,I.os,I.bare,⟨λb o e n hb hx=>?_,λb o e n hb hx=>?_,I.base.free,λb o e hx=>?_,I.base.fO,I.base.aW,I.base.e9⟩,⟨m',vQ,λj y v' e1 e2 e3=>?_⟩,λy c e=>?_,I.free,I.c7,λp hp=>?_,tracked,by simp⟩
 .exact(hs.2 b (w0m (w0r (Heap.lt_size e) I.ok.above))).trans (I.base.keep b o e n hb hx)
 .obtain⟨sl,e1⟩:=I.base.slot b o e n hb hx;exact⟨sl,(hs.2 b (w0m (w0r (Heap.lt_size e) I.ok.above))).trans e1⟩
 .obtain⟨o',e1⟩:=I.base.there b o e hx;exact⟨o',(hs.2 b (w0m (w0r (Heap.lt_size e) I.ok.above))).trans e1⟩
 .grind
 .obtain⟨w',z⟩:=I.cell y c e;exact⟨w',z.sameBut hs (I.rE y c e)⟩
 .obtain⟨e,n,ne,nf,d⟩:=I.pin p hp;exact⟨(hs.2 p.1 ne).trans e,n,ne,nf,d⟩
def t6.un{l:List Env}{h2 h3:Heap}{a0:Value}(un:Un (fk l) [] H H' h1 h2)(gq:t6 l H H' h1 h2 e cls B)(fl:Heap.FlyingW B l e cls a0 h3)(up:h2.UpToSlots h3):Un (fk l) [] H H' h1 h3:=by
 obtain⟨a1,RE⟩:=gq.fl;have vz:∀b:Addr,b∉([]:List Addr):=λb z=>nomatch z
 have slot:∀b o,h1.get? b=some o->H b=none->b∈fk l->∃sl,h3.get? b=some {o with slots:=sl}:=λb o q n hb=>by
  obtain⟨sl,e1⟩:=un.slot b o q n hb (vz b);obtain⟨_,o2,e2,nd⟩:=RE.2.2.1.mem hb;rw[e1]at e2;cases e2;obtain⟨rZ,e3⟩:=up b _ e1 nd;exact⟨rZ,e3⟩
 refine⟨λb o q n hb hx=>fl.1 b o (gq.old b o q n hb),λb o q n hb hx=>slot b o q n hb,un.free,λb o q hx=>?_,un.fO,un.aW,un.e9⟩
 rcases gq.all b o q with hb|⟨o',z⟩
 .obtain⟨_,o2,e2,nd⟩:=fl.2.2.1.mem hb;exact⟨o2,e2⟩
 .exact⟨o',fl.1 b o' z⟩
theorem t6.aG{P:Program}{l:List Env}{h2 h3:Heap}{a0:Value}(aG:c9 P w H' h2)(gq:t6 l H H' h1 h2 e cls B)(fl:Heap.FlyingW B l e cls a0 h3):c9 P w H' h3:=λa o q=>by
 refine(aG a o q).eQ (λb u hb z=>?_) (λ_ z=>z) λ_ _ _ z=>z
 rcases hb with rfl|hb
 .exact fl.1 _ _ (gq.nV b o u q z)
 .exact fl.1 _ _ (gq.nV b _ u hb z)
def t6.free{P:Program}{l:List Env}{h2:Heap}(aG:c9 P w H' h2)(gq:t6 l H H' h1 h2 e cls B):H' e=none:=by
 obtain⟨a0,fl⟩:=gq.fl;cases q:H' e with
 |none=>rfl
 |some u=>
  obtain⟨o,z⟩:=(aG e u q).get;have:=gq.nV e u o q z;rw[fl.2.1]at this;cases this
def Un.taken{fs:List Addr}{h3:Heap}{o:HO}(un:Un fs [] H H' h1 h3)(new:h1.get? e=none)(fr:H' e=none):Un fs [] H (upd H' e o) h1 h3:=by
 refine⟨un.keep,un.slot,λb ob q n hx=>?_,un.there,λb xs q=>?_,λb ob u q=>?_,λb ps q=>?_⟩
 .have:b≠e:=λz=>by grind
  rw[aU this];exact un.free b ob q n hx
 .have z:=un.fO b xs q;rw[aU (gA z fr)];exact z
 .have z:=un.aW b ob u q;rw[aU (gA z fr)];exact z
 .obtain⟨more,z⟩:=un.e9 b ps q;exact⟨more,by rw[aU (gA z fr)];exact z⟩
theorem c9.taken{P:Program}{h:Heap}{o:HO}(aG:c9 P w H' h)(fr:H' e=none)(new:aN P w (upd H' e o) h e o):c9 P w (upd H' e o) h:=λb u q=>by
 by_cases hb:b=e
 .grind [bV]
 .rw[aU hb]at q;exact(aG b u q).eQ (λ_ _ _ z=>z) (λc z=>by rw[aU (gA z fr)];exact z) λc xs _ z=>by rw[aU (gA z fr)];exact z
end
def IG(K:Fg)(c:Addr)(i n:Nat)(tb:(St->XK)->TS)(th:TS):TS:=λD σ H=>
 tb (λaI cls _ H'=>exmOne K cls (.ref c)=some true/\∀e,H' e=none ->
  th {nx:=λ_ jh=>D.nx (List.replicate n none) jh,rt:=D.rt,bk:=λ_ jh=>D.bk (List.replicate n none) jh,ct:=λ_ jh=>D.ct (List.replicate n none) jh} (aI.set i (some (.ref e))) (upd H' e (m_ e cls))) D σ H
def z47{body mG:List Stmt}{pP:Stmt}{c n:Str}{i:Nat}{Cc:Addr}{np i3:Pos}{tb:(St->XK)->TS}{th:TS}
  (hg:Gl X c)(hm:X.mg c=some (.ref Cc))(hN:X.N.Nodup)(hi:X.N[i]?=some n)(hx:X.env.scope.names.lookup n=some .local)
  (hb:∀(EE:L2.St->XK)(pn:List (Addr×Obj))(xe:Value->Shared->Prop),eF (eA X.prog X.w) (X.tr pn xe) EE->lH (X.tr pn xe) body (tb EE))
  (hh:∀e:Addr,lH (X.hn e) (pP::mG) th)
  (hs:autoParam (X.stack=X.env::X.outer) jJ)(hf:autoParam (X.env.frame=some X.env.locals) jJ)(ix:autoParam ((c==("__debug__":Str))=false) jK):
  PS X (.Try body [.ExceptHandler (some (.Name c np)) (some n) (pP::mG) i3] [] [] pos) (IG X.K Cc i X.N.length tb th):=by
 intro pins s σ H D I h;refine wpAny_Try_except (wpAny_mono (hb _ (X.pn++pins) _ ?pass [] s σ H D (I.tr _) h) (λf s1 q=>?_) λ_ _ z=>z)
 case pass=>
  intro pins' aI H1 s1 ev s2 I1 zV;obtain⟨e,cls,H2,B,rfl,pf,Kz,un,aG,gq,Sq,hE⟩:=zV;have I0:Inv X pins aI H1 s1:=I1.nW;have un:Un (fk X.stack) [] H1 H2 s1.heap s2.heap:=un;have gq:t6 X.stack H1 H2 s1.heap s2.heap e cls B:=gq;have l7:=gq.free aG;obtain⟨a0,fl⟩:=gq.fl;have RD:Heap.FlyingW B (X.env::X.outer) e cls a0 s2.heap:=hs ▸ fl;have RH:X.A.frames=some (X.env::X.outer):=hs ▸ I0.ok.frames;have Ap:∀b∈([]:List Addr),(b∈X.ex\/X.ax.heap.objs.size<=b)/\b≠X.env.locals/\(∀x c,X.env.cells.lookup x=some c->c≠b)/\∀p∈X.pn++pins,p.1≠b:=λb z=>nomatch z
  have land:∀h5 tk,Heap.FlyingW B (X.env::X.outer) e cls a0 h5->s2.heap.UpToSlots h5->Inv X pins aI H2 {s2 with heap:=h5,toks:=tk}:=λh5 tk RG Uh=>by
   have yY:Heap.FlyingW B X.stack e cls a0 h5:=hs.symm ▸ RG;exact I0.n_ (s':={s2 with heap:=h5,toks:=tk}) (ch:=[]) pf (gq.un un yY Uh) (gq.aG aG yY) Kz Ap
  refine wpAny_looks_onW (base:=B) RH hf RD λSX held BI=>?_
  refine wpAny_landsW held λvU pX xp=>?_
  have vf:s2.heap.UpToSlots vU:=BI.trans xp;have I5:=land vU s2.toks pX vf;refine wpAny_handleBy_cons (codeAny_handlers_test ?_) (by intro q;cases q);refine x8 (X:=X.hn e) (I5.hn e) hg hm ?_ ix;obtain⟨ob,xM,uF⟩:=pX.there;have LT:PySem.W.Looks (model X.prog X.w) vU (typeOf (.ref e)) cls:=uF ▸ (PySem.W.Looks.ld xM).andThen .now;refine(PySem.W.exm_one (M:=model X.prog X.w) I5.ky LT Sq).at ?_;show codeAny _ _ _ _ _;refine codeAny_handlers_suite_as ?_;refine lands_againW pX λsS uo xq=>?_
  have BJ:s2.heap.UpToSlots sS:=vf.trans xq;obtain⟨oe,ws,zP,E7,E8,_⟩:=uo.first
  have yZ:Heap.FlyingW B X.stack e cls a0 sS:=hs.symm ▸ uo
  have I7:Inv X pins aI (upd H2 e (m_ e cls)) {s2 with heap:=sS}:=
   I0.n_ (s':={s2 with heap:=sS}) (ch:=[]) pf ((gq.un un yZ BJ).taken gq.new l7) ((gq.aG aG yZ).taken l7 (Zh ⟨oe,ws,zP,E7,E8⟩)) Kz Ap
  refine HD (X:=X.hn e) (I7.hn e) hN hi (.inl hx) (v:=.ref e) rfl (λs8 I8=>?_) (.inr hx)
  refine wpAny_mono (hh e pins s8 _ _ _ I8 (hE e l7)) (λf s9 q=>?_) λ_ _ z=>z.elim
  show wpAny _ _ _ _ _ _
  have go:∀{oN:St}{H9:Hp},Inv (X.hn e) pins oN H9 s9->∀R:Unit->Shared->Prop,(∀s',Inv X pins (List.replicate X.N.length none) H9 s'->R () s')->wpAny (model X.prog X.w) X.A (do bindName X.env n .none;unbindBehindTheSuite X.env n i3) R X.xe s9:=λ{oN H9} I9 R hR=>by
   obtain⟨m9,Sr,_⟩:=I9.loc;refine wpAny_nameGoes (env:=X.env) hx Sr (by rw[I0.ok.kind];rfl) λh' m' vQ Ci=>hR _ ?_
   exact(I9.IK I0.ok).forget Ci vQ
  cases f with
  |next=>obtain⟨oN,H9,I9,q⟩:=q;exact go I9 _ λs' I'=>⟨_,H9,I',q⟩
  |brk=>obtain⟨oN,H9,I9,q⟩:=q;exact go I9 _ λs' I'=>⟨_,H9,I',q⟩
  |cont=>obtain⟨oN,H9,I9,q⟩:=q;exact go I9 _ λs' I'=>⟨_,H9,I',q⟩
  |ret u=>obtain⟨v,oN,H9,I9,r,q⟩:=q;exact go I9 _ λs' I'=>⟨v,_,H9,I',r,q⟩
 .cases f with
  |next=>obtain⟨aI,H',I',q⟩:=q;exact wpAny_execs_nil ⟨aI,H',I'.nW,q⟩
  |brk=>obtain⟨aI,H',I',q⟩:=q;exact⟨aI,H',I'.nW,q⟩
  |cont=>obtain⟨aI,H',I',q⟩:=q;exact⟨aI,H',I'.nW,q⟩
  |ret u=>obtain⟨v,aI,H',I',r,q⟩:=q;exact⟨v,aI,H',I'.nW,r,q⟩
structure yJ(k:Nat)(A:Around):Prop where
 dp:A.depth+3*k+5<recursionLimit
 un:A.units+16*k+200<cLine
 gd:A.guards=some []
structure yC(P:Program)(w:World)(K:Fg)(mg:Str->Option Value)(base:Heap)(k:Nat)(f:Addr)(fd:FuncData)(ps:List Str)(sp:Sp):Prop where
 len:∀vs H Q E,sp vs H Q E->vs.length=ps.length
 run:∀(A:Around)(outer:List Env)(s:Shared)(H:Hp)(args:Args)(us:List Value)(vs:List V)(Q:VK),yJ k A->iU P w K mg base A outer s H->BindsTo s fd args (ps.zip us)->Vals vs us->sp vs H Q E0 ->
  codeAny (model P w) A (.call (.ref f) args) (CR QE outer P w H s Q E0) s
abbrev Cx.cp(X:Cx)(Nc:List Str)(scope:Scope)(cl:List (Str×Addr))(C:Addr)(ax:Shared)(aA:Hp)(ex:List Addr):Cx:=
 {X with N:=Nc,ax:=ax,aA:=aA,env:=compEnvC scope cl C X.env,outer:=X.stack,ex:=ex,fn:=λy=>scope.names.lookup y==some .cell,pn:=[],xe:=λ_ _=>False}
theorem Gr:∀(names:List (Str×NameKind))(acc:List (Str×Addr)),(∀x∈names,x.2=.free->∃c,env.cells.lookup x.1=some c) ->
  ∃cl,(forIn names acc fun(x:Str×NameKind) (r:List (Str×Addr))=>(if(x.2==NameKind.free)=true then(cellOf env x.1 >>= λa=>pure (ForInStep.yield ((x.1,a)::r)))else pure (ForInStep.yield r):Sem (ForInStep (List (Str×Addr)))))=pure cl /\
   (∀x c,cl.lookup x=some c->acc.lookup x=some c\/env.cells.lookup x=some c)/\(∀x,((x,NameKind.free)∈names\/(acc.lookup x).isSome=true)->(cl.lookup x).isSome=true)
 |[],acc,_=>⟨acc,rfl,λx c h=>.inl h,λx h=>h.elim (λz=>nomatch z) id⟩
 |(n,k)::r,acc,h=>by
  by_cases hk:k=.free
  .subst hk;obtain⟨c,hc⟩:=h (n,.free) w1b rfl;obtain⟨cl,e1,e2,e3⟩:=Gr r ((n,c)::acc) λx hx=>h x (w0p _ hx)
   refine⟨cl,?_,λx d hd=>?_,λx hx=>?_⟩
   .rw[w2s];have:cellOf env n=pure c:=by unfold cellOf;rw[hc]
    grind
   all_goals grind
  .obtain⟨cl,e1,e2,e3⟩:=Gr r acc λx hx=>h x (w0p _ hx)
   grind
def AG(h:∀x∈scope.names,x.2=.free->∃c,env.cells.lookup x.1=some c):
  ∃cl,closureFor scope env=pure cl/\(∀x c,cl.lookup x=some c->env.cells.lookup x=some c)/\∀x,(x,NameKind.free)∈scope.names->∃c,cl.lookup x=some c:=by
 obtain⟨cl,e1,e2,e3⟩:=Gr scope.names [] h
 grind [Option.isSome_iff_exists,closureFor]
theorem Gs{env : Env} : ∀ {names : List (Str × NameKind)} {x : Str}, (∀ y ∈ names, y.2 = .cell -> y.1 ≠ x) ->
    ((names.map λ(n, k) => if (k == NameKind.free && env.scope.kind == .function && env.kindOf n == some .cell) then (n, NameKind.cell) else (n, k)).lookup x = some .cell \/
     (names.map λ(n, k) => if (k == NameKind.free && env.scope.kind == .function && env.kindOf n == some .cell) then (n, NameKind.cell) else (n, k)).lookup x = some .free) -> (x, NameKind.free) ∈ names
  | [], x, _, h => by grind
  | (n, k) :: r, x, hc, h => by
    have ih := @Gs env r x λy hy => hc y (w0p _ hy)
    grind
def MQ{prog:Program}{A:Around}{R:Result->Shared->Prop}{target iter:Expr}{scope:Scope}{it acc:Value}{env:Env}(I:Nat->Shared->Prop)
  (turn:∀n s,I n s->wpAny (model prog w) A (pyNext it) (λr s1=>match r with
   |none=>R (.ok .next) s1
   |some v=>wpAny (model prog w) A (letOwnedTupleGo target it v) (λ_ s2=>wpAny (model prog w) A (assign target env v) (λ_ s3=>
     wpAny (model prog w) A (forIn ifs true λc r=>if r=true then do let ok <- isTrue c env (eval c env);pure (ForInStep.yield ok)else pure (ForInStep.yield r)) (λok s4=>
      if ok=true then wpAny (model prog w) A (eval elt env) (λx s5=>wpAny (model prog w) A (call (.builtin "list.append") [acc,x]) (λ_ s6=>∃m,m<n/\I m s6) (λ_ _=>False) s5) (λ_ _=>False) s4
      else ∃m,m<n/\I m s4) (λ_ _=>False) s3) (λ_ _=>False) s2) (λ_ _=>False) s1) (λ_ _=>False) s)
  (n:Nat)(h:I n s):codeAny (model prog w) A (.compLoop (.ListComp elt [⟨target,iter,ifs,0⟩] scope pos) 0 it acc env) R s:=by
 refine codeAny_loop rfl I (λn s hI=>?_) n h
 show wpAny _ A ((compTurn (.ListComp elt [⟨target,iter,ifs,0⟩] scope pos) 0 it acc env).onRaise (λx=>do noteFrame x env;theTreesLotGoes x)) _ _ s
 refine wpAny_noted ?_;rw[compTurn_list];refine wpAny_bind (wpAny_standAt (wpAny_bind (wpAny_mono (turn n s hI) (λr s1 h1=>?_) λ_ _ z=>z.elim)))
 cases r with
 |none=>exact wpAny_pure h1
 |some v=>
  refine wpAny_bind (wpAny_mono h1 (λ_ s2 h2=>?_) λ_ _ z=>z.elim)
  refine wpAny_bind (wpAny_mono h2 (λ_ s3 h3=>?_) λ_ _ z=>z.elim)
  refine wpAny_bind (wpAny_mono h3 (λok s4 h4=>?_) λ_ _ z=>z.elim)
  cases ok with
  |false=>exact wpAny_pure ⟨rfl,h4⟩
  |true=>exact wpAny_bind (wpAny_bind (wpAny_mono h4 (λx s5 h5=>wpAny_bind (wpAny_mono h5 (λ_ s6 h6=>wpAny_pure (wpAny_pure ⟨rfl,h6⟩)) λ_ _ z=>z.elim)) λ_ _ z=>z.elim))
def pj(js:List Nat)(σ:St):St:=js.map λj=>(σ[j]?).getD none
def z48{i:Nat}(h:(pj js σ)[i]?=some (some v)):∃j,js[i]?=some j/\σ[j]?=some (some v):=by
 grind [pj]
def rD(X:Cx)(ifs:List Expr)(t:TT):Prop:=
 ∀(pins:List (Addr×Obj))(s:Shared)(σ:St)(H:Hp)(Q:Bool->Hp->Prop),Inv X pins σ H s->t σ H Q ->
  wpAny (model X.prog X.w) X.A (forIn ifs true λc r=>if r=true then do let ok <- isTrue c X.env (eval c X.env);pure (ForInStep.yield ok)else pure (ForInStep.yield r)) (TP X pins σ Q) X.xe s
def II:TT:=λ_ H Q=>Q true H
theorem Zi:rD X [] II:=λpins s σ H Q I h=>wpAny_tests_nil ⟨H,I,h⟩
theorem Zj(h:PT X c t):rD X [c] t:=λpins s σ H Q I hq=>wpAny_tests_one (h pins s σ H Q I hq)
def Kp(σ aI:St):Prop:=∀(i:Nat) v,σ[i]?=some (some v)->aI[i]?=some (some v)
theorem Kp.one{v:V}:Kp (List.replicate 1 none++σ) (some v::σ):=λi u h=>by
 cases i with
 |zero=>cases h
 |succ i=>exact h
theorem Kp.two{v u:V}:Kp (List.replicate 2 none++σ) (some v::some u::σ):=λi w h=>by
 match i,h with
 |0,h=>cases h
 |1,h=>cases h
 |i+2,h=>exact h
def iS(wi:TI)(nl:Nat)(js:List Nat)(g:TG)(tc:TT)(te:TE):TE:=λσ H Q=>wi σ H λJ H1=>∀D,H1 D=none->∃W:Nat->Nat->Hp->Prop,(∃m,W 0 m (upd H1 D (.lst [])))/\∀i m H2,W i m H2 ->
 (J.stop i H2/\Q (.ref D) H2)\/(J.go i H2/\∀x H3,J.kI i H2 x H3->g x (List.replicate nl none++pj js σ) H3 λnX H4=>Kp (List.replicate nl none++pj js σ) nX/\tc nX H4 λb H5=>
  if b=true then te nX H5 λy H6=>∃ys,H6 D=some (.lst ys)/\ys.length<sizeLine/\∃m',m'<m/\W (i+1) m' (upd H6 D (.lst (ys++[y])))else ∃m',m'<m/\W (i+1) m' H5)
section
variable{target iter:Expr}{scope:Scope}{g:TG}
def MR{x0:Str}
  (I:Inv X pins σ H s)(pd:∀b∈fp,eD X pins H b)(xM:∀b∈fp,∃o,s.heap.get? b=some o/\∀v,o.data≠.cell v)
  (hk:scope.kind=.function)(ED:∀x,((relabel scope X.env).names.lookup x=some .cell\/(relabel scope X.env).names.lookup x=some .free)->∃c,cl.lookup x=some c)(f6:∀x c,cl.lookup x=some c->X.env.cells.lookup x=some c\/(x=x0/\c=s.heap.objs.size+2/\∃v,h1.IsCell c v))(mP:∀y∈Nf,∃c,cl.lookup y=some c/\X.env.cells.lookup y=some c)
  (EF:∀x c,scope.names.lookup x=some .cell->cl.lookup x=some c->s.heap.objs.size+1<=c)
  (hj:∀(i j:Nat) y,Nf[i]?=some y->js[i]?=some j->X.N[j]?=some y)(hlen:js.length=Nf.length)
  (nh:∀y∈Nf,(y,NameKind.free)∈scope.names/\jI X.env.scope y/\X.env.kindOf y≠some .local)
  (i4:∀y∈Nf,(relabel scope X.env).names.lookup y=some .cell\/(relabel scope X.env).names.lookup y=some .free)
  (hn:h1.Ns (s.heap.objs.size+1) mC)(IL:∀b u,(s.heap.push {cls:=.type "list", dict:=none,data:=.seq ([]:List Value).toArray}).get? b=some u->h1.get? b=some u):
  Inv (X.cp (Nl++Nf) scope cl (s.heap.objs.size+1) {s with heap:=s.heap.push {cls:=.type "list", dict:=none,data:=.seq ([]:List Value).toArray}} (upd H s.heap.objs.size (.lst [])) fp) [] (List.replicate Nl.length none++pj js σ) (upd H s.heap.objs.size (.lst [])) {s with heap:=h1,toks:=tk}:=by
 have fD:H s.heap.objs.size=none:=I.aG.fresh (w0c _);have up1:∀b u,s.heap.get? b=some u->(s.heap.push {cls:=.type "list", dict:=none,data:=.seq ([]:List Value).toArray}).get? b=some u:=λb u q=>Heap.get?_push_of_some _ q
 have vd:(s.heap.push {cls:=.type "list", dict:=none,data:=.seq ([]:List Value).toArray}).objs.size=s.heap.objs.size+1:=Heap.size_push ..;have up:∀b u,s.heap.get? b=some u->h1.get? b=some u:=λb u q=>IL b u (up1 b u q)
 have S9:∀b o,s.heap.get? b=some o->b≠s.heap.objs.size:=λb o q=>w0m (Heap.lt_size q)
 have xF:∀b o,s.heap.get? b=some o->H b=none->upd H s.heap.objs.size (.lst []) b=none:=λb o q n=>by grind [aU]
 have Fb:c9 X.prog X.w (upd H s.heap.objs.size (.lst [])) (s.heap.push {cls:=.type "list", dict:=none,data:=.seq ([]:List Value).toArray}):=
  I.aG.laid up1 (w0c _) ⟨w1a _,[],_,.nil,Heap.get?_push_size _ rfl⟩
 have pR:∀c v,s.heap.IsCell c v->h1.IsCell c v:=λc v ⟨o,q,r⟩=>⟨o,up _ _ q,r⟩
 have J4:∀x c,X.env.cells.lookup x=some c->c<s.heap.objs.size:=λx c e=>by
  obtain⟨v,o,q,_⟩:=I.cell x c e;exact Heap.lt_size q
 have EX:∀x y c,cl.lookup x=some c->cl.lookup y=some c->x=y:=λx y c e1 e2=>by
  rcases f6 x c e1 with z1|⟨a1,b1,_⟩<;>rcases f6 y c e2 with z2|⟨a2,b2,_⟩
  .exact I.ok.inj x y c z1 z2
  .exact absurd (b2 ▸ J4 x c z1) (w3a.mpr (w4b _ 2))
  .exact absurd (b1 ▸ J4 y c z2) (w3a.mpr (w4b _ 2))
  .rw[a1,a2]
 refine⟨⟨I.ok.mod,hk,I.ok.glob,I.ok.blt,(by show(s.heap.push _).objs.size<=_;rw[vd];exact w0c _),EX,λx hx=>ED x hx,(λx c z q=>by show(s.heap.push _).objs.size<=_;rw[vd];exact EF x c (by simpa using z) q),I.ok.hd,I.ok.frames,.inl rfl,λb hb=>⟨?_,λx c e=>?_⟩,λb o q=>?_,?_,λb o q hb=>?_,λb hb zp=>?_,?_,λb hb=>?_,(I.ok.tab.un I.base).laid fD⟩,
  rfl,I.bare,Un.kept IL,⟨mC,hn,λi y v e1 e2 e3=>?_⟩,λx c e=>?_,?_,λx c e=>?_,λp hp=>(by cases hp),Fb.kept IL,?_⟩
 .obtain⟨o,q,_⟩:=xM b hb;exact w0m (w1r (Heap.lt_size q))
 .rcases f6 x c e with z|⟨_,rfl,_⟩
  .exact(pd b hb).2.2.2.2.1 x c z
  .obtain⟨o,q,_⟩:=xM b hb;exact(w0m (w1r (w1r (Heap.lt_size q)))).symm
 .obtain⟨q1,q2⟩:=I.bs b o q
  grind
 .show X.base.objs.size<=(s.heap.push _).objs.size;rw[vd];exact Nat.le_succ_of_le (w0s I.ok.mM I.sz)
 .rcases(pd b hb).2.2.2.1 with z|z
  .exact I.ok.o6 b o q z
  .obtain⟨q1,_⟩:=I.ok.bs b o q;exact absurd (Heap.lt_size q1) (w3a.mpr z)
 .rcases w0e.mp (I.jG b zp)with z|z
  .exact(pd b hb).2.1 z
  .exact(pd b hb).2.2.1 z
 .exact I.stack.of_keeps λb o q _=>⟨o,up1 _ _ q,rfl⟩
 .obtain⟨_,o,q,_⟩:=I.stack.mem hb;exact xF b o q (I.lD b hb)
 ·-- BF names
  have Er:(List.replicate Nl.length none++pj js σ)[i]?=some (some v):=e2;have yV:(Nl++Nf)[i]?=some y:=e1
  by_cases hi:i<Nl.length
  .grind
  .have vN:Nl.length<=i:=w3a.mp hi;rw[w1w (by simpa using vN)]at Er;rw[w1w vN]at yV;rw[w2h]at Er;obtain⟨j,ej,RA⟩:=z48 Er;have RQ:=hj _ _ _ yV ej;obtain⟨l7,hv,Sw⟩:=nh y (w0u yV);obtain⟨m,hm,hl⟩:=I.loc;obtain⟨u,r,l⟩:=hl j y v RQ RA hv;refine⟨u,r,?_⟩;rcases l with⟨k,_⟩|⟨k,c,ec,z⟩
   .exact absurd k Sw
   .obtain⟨c',sH,this⟩:=mP y (w0u yV);rw[ec]at this;cases this;exact .inr ⟨i4 y (w0u yV),c,sH,pR _ _ z⟩
 .rcases f6 x c e with z|⟨_,_,z⟩
  .obtain⟨v,z⟩:=I.cell x c z;exact⟨v,pR _ _ z⟩
  .exact z
 .show upd H s.heap.objs.size (.lst []) (s.heap.objs.size+1)=none;rw[aU (w4c _)];exact I.aG.fresh (w4w _)
 .rcases f6 x c e with z|⟨_,rfl,_⟩
  .obtain⟨v,o,q,_⟩:=I.cell x c z;exact xF c o q (I.c7 x c z)
  .show upd H s.heap.objs.size (.lst []) (s.heap.objs.size+2)=none;rw[aU (w2g (Nat.lt_add_of_pos_right (by decide)))];exact I.aG.fresh (w4b _ 2)
 .grind [pj]
def Ny
  (I:Inv X pins σ H s)(pd:∀b∈fp,eD X pins H b)(xM:∀b∈fp,∃o,s.heap.get? b=some o/\∀v,o.data≠.cell v)
  (hk:scope.kind=.function)(dR:∀y∈scope.names,y.2≠.cell)(f6:∀x c,cl.lookup x=some c->X.env.cells.lookup x=some c)(mP:∀x,(x,NameKind.free)∈scope.names->∃c,cl.lookup x=some c)
  (hj:∀(i j:Nat) y,Nf[i]?=some y->js[i]?=some j->X.N[j]?=some y)(hlen:js.length=Nf.length)
  (nh:∀y∈Nf,(y,NameKind.free)∈scope.names/\jI X.env.scope y/\X.env.kindOf y≠some .local)
  (i4:∀y∈Nf,(relabel scope X.env).names.lookup y=some .cell\/(relabel scope X.env).names.lookup y=some .free)
  (hn:h1.Ns (s.heap.objs.size+1) mC)(hs:Heap.SameBut (s.heap.objs.size+1) ((s.heap.push {cls:=.type "list", dict:=none,data:=.seq ([]:List Value).toArray}).push {cls:=.type "dict", data:=.dict #[]}) h1):
  Inv (X.cp (Nl++Nf) scope cl (s.heap.objs.size+1) {s with heap:=s.heap.push {cls:=.type "list", dict:=none,data:=.seq ([]:List Value).toArray}} (upd H s.heap.objs.size (.lst [])) fp) [] (List.replicate Nl.length none++pj js σ) (upd H s.heap.objs.size (.lst [])) {s with heap:=h1,toks:=tk}:=by
 refine MR (x0:="") I pd xM hk (λx hx=>mP x (Gs (λy hy z=>absurd z (dR y hy)) hx)) (λx c e=>.inl (f6 x c e)) (λy hy=>?_) (λx c e=>absurd rfl (dR _ (PySem.mem_of_lookup e))) hj hlen nh i4 hn λb u q=>?_
 .obtain⟨c,e⟩:=mP y (nh y hy).1;exact⟨c,e,f6 y c e⟩
 .have cb:=Heap.lt_size q;rw[Heap.size_push]at cb;exact(hs.2 b (w0m cb)).trans (Heap.get?_push_of_some _ q)
def Px{aI:St}
  (I:Inv X pins σ H s)(pd:∀b∈fp,eD X pins H b)
  (J:Inv (X.cp Nc scope cl (s.heap.objs.size+1) {s with heap:=s.heap.push {cls:=.type "list", dict:=none,data:=.seq ([]:List Value).toArray}} (upd H s.heap.objs.size (.lst [])) fp) [] aI H' s')
  (hs:Heap.SameBut (s.heap.objs.size+1) s'.heap h'):Inv X pins σ H' {s' with heap:=h'}:=by
 have fD:H s.heap.objs.size=none:=I.aG.fresh (w0c _);have up1:∀b u,s.heap.get? b=some u->(s.heap.push {cls:=.type "list", dict:=none,data:=.seq ([]:List Value).toArray}).get? b=some u:=λb u q=>Heap.get?_push_of_some _ q
 have wk:∀b o,s.heap.get? b=some o->b≠s.heap.objs.size+1:=λb o q=>w0m (w1r (Heap.lt_size q))
 have xF:∀b o,s.heap.get? b=some o->H b=none->upd H s.heap.objs.size (.lst []) b=none:=λb o q n=>by rw[aU (w0m (Heap.lt_size q))];exact n
 have old:∀b u,H b=some u->upd H s.heap.objs.size (.lst []) b=some u:=λb u q=>by rw[aU (gA q fD)];exact q
 have B:Un (fk X.stack) fp (upd H s.heap.objs.size (.lst [])) H' (s.heap.push {cls:=.type "list", dict:=none,data:=.seq ([]:List Value).toArray}) s'.heap:=J.base;have hC:H' (s.heap.objs.size+1)=none:=J.free;refine I.n_ (s':={s' with heap:=h'}) (ch:=fp) (J.os.trans rfl) ⟨λb o q n hb hx=>?_,λb o q n hb hx=>?_,λb o q n hx=>B.free b o (up1 _ _ q) (xF b o q n) hx,λb o q hx=>?_,λb xs q=>B.fO b xs (old _ _ q),λb o u q=>B.aW b o u (old _ _ q),λb ps q=>B.e9 b ps (old _ _ q)⟩ (λa o q=>?_) J.bare λb hb=>?_
 .exact(hs.2 b (wk b o q)).trans (B.keep b o (up1 _ _ q) (xF b o q n) hb hx)
 .obtain⟨sl,z⟩:=B.slot b o (up1 _ _ q) (xF b o q n) hb hx;exact⟨sl,(hs.2 b (wk b o q)).trans z⟩
 .obtain⟨o',z⟩:=B.there b o (up1 _ _ q) hx;exact⟨o',(hs.2 b (wk b o q)).trans z⟩
 .refine(J.aG a o q).eQ (λc v hc z=>(hs.2 c ?_).trans z) (λ_ z=>z) λ_ _ _ z=>z
  grind
 .obtain⟨_,f1,f2,f3,f4,f5⟩:=pd b hb
  grind
structure i9(x:Str)(sc:Scope):Prop where
 par:sc.names.lookup x=some .cell
 one:∀n cl,cellsFrom n sc.names cl=(x,n)::cl
 Au:∀h:Heap,pushCells h sc.names=h.push {cls:=.type "cell", data:=.cell none}
 only:∀y∈sc.names,y.2=.cell->y.1=x
 Td:(x,NameKind.free)∉sc.names
def qz{E:Value->Shared->Prop}{M:Model}{A:Around}{code:Value}{Q:Env->Shared->Prop}{x0:Str}{env:Env}{globals builtins:Addr}{closure:List (Str×Addr)}{func:Option Addr}(S:i9 x0 scope)
  (hQ:∀h',h'.Ns s.heap.objs.size (λ_=>none)->h'.IsCell (s.heap.objs.size+1) none->(∀b o,s.heap.get? b=some o->h'.get? b=some o) ->
   Q (newEnv scope s.heap.objs.size globals ((x0,s.heap.objs.size+1)::closure) qual func code (some env) builtins) {s with heap:=h'}):
  wpAny M A (newFunctionEnv scope globals closure [] qual func code (some env) builtins) Q E s:=by
 simp only[newFunctionEnv,Option.isSome_some,if_true];refine wpAny_bind (wpAny_alloc ?_);refine wpAny_bind (wpAny_layCells _ (λname kind cells=>by grind) _ _ _ _ ?_)
 rw[show({s with heap:=s.heap.push {cls:=.type "dict", data:=.dict #[]}}:Shared).heap.objs.size=s.heap.objs.size+1 from Heap.size_push ..,S.one,S.Au]
 have ic:((s.heap.push {cls:=.type "dict", data:=.dict #[]}).push {cls:=.type "cell", data:=.cell none}).IsCell (s.heap.objs.size+1) none:=by
  have e:=Heap.get?_push_size (s.heap.push {cls:=.type "dict", data:=.dict #[]}) (o:={cls:=.type "cell", data:=.cell none}) rfl;rw[Heap.size_push]at e;exact⟨_,e,rfl⟩
 have kp:∀b o,(s.heap.push {cls:=.type "dict", data:=.dict #[]}).get? b=some o->((s.heap.push {cls:=.type "dict", data:=.dict #[]}).push {cls:=.type "cell", data:=.cell none}).get? b=some o:=λb o e=>Heap.get?_push_of_some _ e
 refine wpAny_bind ?_;rw[w3t];exact wpAny_pure (wpAny_pure (hQ _ ((Heap.Ns.new s.heap (.type "dict")).keeps kp) ic λb o e=>kp b o (Heap.get?_push_of_some _ e)))
def Zk{Nl Nf : List Str}(hc : X.calm = true)(hi : PI X target iter wi)
    (hk : scope.kind = .function)(dR : (∀ y ∈ scope.names, y.2 ≠ .cell) \/ ∃ x0, i9 x0 scope)(nv : ∀ x ∈ scope.names, x.2 = .local -> scope.names.lookup x.1 = some .local)
    (b7 : ∀ x ∈ scope.names, x.2 = .free -> X.env.kindOf x.1 = some .cell \/ X.env.kindOf x.1 = some .free)
    (hj : ∀ (i j : Nat) y, Nf[i]? = some y -> js[i]? = some j -> X.N[j]? = some y)(hlen : js.length = Nf.length)
    (nh : ∀ y ∈ Nf, (y, NameKind.free) ∈ scope.names /\ jI X.env.scope y /\ X.env.kindOf y ≠ some .local)
    (i4 : ∀ y ∈ Nf, (relabel scope X.env).names.lookup y = some .cell \/ (relabel scope X.env).names.lookup y = some .free)
    (hg : ∀ cl C ax aA ex, PG (X.cp (Nl ++ Nf) scope cl C ax aA ex) target g)(ht : ∀ cl C ax aA ex, rD (X.cp (Nl ++ Nf) scope cl C ax aA ex) ifs tc)(he : ∀ cl C ax aA ex, PE (X.cp (Nl ++ Nf) scope cl C ax aA ex) elt te)
    (hs : ∀ x, foldedSetIterable iter X.env x = pure x := by intro _; rfl) :
    PE X (.ListComp elt [⟨target, iter, ifs, 0⟩] scope pos) (iS wi Nl.length js g tc te) := by
  intro pins s σ H Q I h;obtain ⟨cl, eN, f6, mP⟩ := AG (scope := scope) (env := X.env) λx hx hf => I.ok.has x.1 (b7 x hx hf)
  rw [eval_ListComp];refine wpAny_comprehension_free (use := none) rfl hs eN hk nv (bt (hi pins s σ H _ I h) λv s1 h1 => bt h1 λCm s2 h2 => ?_)
  obtain ⟨it, fp, tn, J, H2, e, I2, T, iF, f2, rd⟩ := h2;subst e;have vd : (s2.heap.push { cls := .type "list", dict := none, data := .seq ([] : List Value).toArray }).objs.size = s2.heap.objs.size + 1 := Heap.size_push ..;have fD : H2 s2.heap.objs.size = none := I2.aG.fresh (w0c _);obtain ⟨W, ⟨m0, w0⟩, turn⟩ := rd s2.heap.objs.size fD;have o7 := T.obj 0 s2.heap iF
  have rest : ∀ (cl : List (Str × Addr)) (dY : Heap) (tk : Nat), Inv (X.cp (Nl ++ Nf) scope cl (s2.heap.objs.size + 1) { s2 with heap := s2.heap.push { cls := .type "list", dict := none, data := .seq ([] : List Value).toArray } } (upd H2 s2.heap.objs.size (.lst [])) fp) [] (List.replicate Nl.length none ++ pj js σ) (upd H2 s2.heap.objs.size (.lst [])) { s2 with heap := dY, toks := tk } ->
      (∀ b u, s2.heap.get? b = some u -> dY.get? b = some u) -> codeAny (model X.prog X.w) X.A (.compStart (.ListComp elt [⟨target, iter, ifs, 0⟩] scope pos) 0 (.ref it) (.ref s2.heap.objs.size) (compEnvC scope cl (s2.heap.objs.size + 1) X.env))
        (compPost (model X.prog X.w) X.A X.xe none (EP X pins σ Q) (.ref s2.heap.objs.size) (s2.heap.objs.size + 1)) { s2 with heap := dY, toks := tk } := by
   intro cl dY tk IS IM;have Bn : tn 0 dY := T.keep 0 s2.heap dY iF λb hb o q => IM b o q
   have FJ : ∀ b ∈ fp, upd H2 s2.heap.objs.size (.lst []) b = none := λb hb => by
     obtain ⟨o, q, _⟩ := o7 b hb;rw [aU (w0m (Heap.lt_size q))];exact (f2 b hb).1
   have jF : ∀ {H' : Hp}, (∀ b ∈ fp, H' b = none) -> ∀ b ∈ fp, eD (X.cp (Nl ++ Nf) scope cl (s2.heap.objs.size + 1) { s2 with heap := s2.heap.push { cls := .type "list", dict := none, data := .seq ([] : List Value).toArray } } (upd H2 s2.heap.objs.size (.lst [])) fp) [] H' b := λhn b hb => by
     refine ⟨hn b hb, (IS.ok.vA b hb).1, IS.ok.ng b hb, .inl hb, (IS.ok.vA b hb).2, λp hp => (by cases hp)⟩
   have loop : ∀ s4 : Shared, s4 = { s2 with heap := dY, toks := tk } ->
       codeAny (model X.prog X.w) X.A (.compLoop (.ListComp elt [⟨target, iter, ifs, 0⟩] scope pos) 0 (.ref it) (.ref s2.heap.objs.size) (compEnvC scope cl (s2.heap.objs.size + 1) X.env))
         (compPost (model X.prog X.w) X.A X.xe none (EP X pins σ Q) (.ref s2.heap.objs.size) (s2.heap.objs.size + 1)) s4 := by
     rintro s4 rfl;refine MQ (λn s' => ∃ i H', Inv (X.cp (Nl ++ Nf) scope cl (s2.heap.objs.size + 1) { s2 with heap := s2.heap.push { cls := .type "list", dict := none, data := .seq ([] : List Value).toArray } } (upd H2 s2.heap.objs.size (.lst [])) fp) [] (List.replicate Nl.length none ++ pj js σ) H' s' /\ tn i s'.heap /\ (∀ b ∈ fp, H' b = none) /\ W i n H') ?_ m0 ⟨0, _, IS, Bn, FJ, w0⟩
     rintro n s3 ⟨i, H3, I3, vc, uq, w3⟩;rcases turn i n H3 w3 with ⟨stop, qn⟩ | ⟨go, step⟩
     . refine bt (T.done (X.cp (Nl ++ Nf) scope cl (s2.heap.objs.size + 1) { s2 with heap := s2.heap.push { cls := .type "list", dict := none, data := .seq ([] : List Value).toArray } } (upd H2 s2.heap.objs.size (.lst [])) fp) rfl rfl rfl hc i [] s3 _ H3 _ I3 (jF uq) vc stop) λr s5 ⟨hr, I5⟩ => ?_
       subst hr;obtain ⟨m5, E5, _⟩ := I5.loc;refine ⟨m5, E5, λh' ph => ⟨.ref s2.heap.objs.size, H3, Px I2 f2 I5 ph, rfl, qn⟩⟩
     . refine bt (T.item (X.cp (Nl ++ Nf) scope cl (s2.heap.objs.size + 1) { s2 with heap := s2.heap.push { cls := .type "list", dict := none, data := .seq ([] : List Value).toArray } } (upd H2 s2.heap.objs.size (.lst [])) fp) rfl rfl rfl hc i [] s3 _ H3 _ I3 (jF uq) vc go) λr s5 ⟨u, hr, h5⟩ => ?_
       subst hr;refine bt h5 λ_ s6 ⟨x, H6, I6, r6, y6, xf, EA⟩ => ?_
       have Ec := I6.pinned (jF EA) (T.obj _ _ xf);refine bt (hg _ _ _ _ _ _ s6 _ H6 x u _ Ec r6 (step x H6 y6)) λ_ s7 ⟨lG, H7, I7, kp, q7⟩ => ?_
       refine bt (ht _ _ _ _ _ _ s7 lG H7 _ I7 q7) λok s8 ⟨H8, I8, q8⟩ => ?_
       have again : ∀ {oN : St} {H9 : Hp} {s9 : Shared}, Inv (X.cp (Nl ++ Nf) scope cl (s2.heap.objs.size + 1) { s2 with heap := s2.heap.push { cls := .type "list", dict := none, data := .seq ([] : List Value).toArray } } (upd H2 s2.heap.objs.size (.lst [])) fp) ([] ++ iC fp s6.heap) oN H9 s9 ->
           Kp (List.replicate Nl.length none ++ pj js σ) oN -> (∃ m', m' < n /\ W (i + 1) m' H9) -> ∃ m, m < n /\ ∃ i H', Inv (X.cp (Nl ++ Nf) scope cl (s2.heap.objs.size + 1) { s2 with heap := s2.heap.push { cls := .type "list", dict := none, data := .seq ([] : List Value).toArray } } (upd H2 s2.heap.objs.size (.lst [])) fp) [] (List.replicate Nl.length none ++ pj js σ) H' s9 /\ tn i s9.heap /\ (∀ b ∈ fp, H' b = none) /\ W i m H' := λ{oN H9 s9} I9 hw ⟨m', hm, w9⟩ => by
         refine ⟨m', hm, i + 1, H9, I9.eS.weak (by rw [I9.len, <- IS.len]) hw, T.keep _ _ _ xf λb hb o q => (I9.pin (b, o) (w0j _ (w0j _ (wD hb q)))).1, λb hb => ?_, w9⟩
         obtain ⟨o, q, d⟩ := T.obj _ _ xf b hb;exact (I9.pin (b, o) (w0j _ (w0j _ (wD hb q)))).2.1
       cases ok with
       | false => exact again I8 kp (by simpa using q8)
       | true =>
         have HB := by simpa only [if_true] using q8
         refine bt (he _ _ _ _ _ _ s8 lG H8 _ I8 HB) λy s9 ⟨yv, H9, I9, r9, ys, hD, hz, q9⟩ => ?_
         refine bt (C5 _ s9 lG H9 (.ref s2.heap.objs.size) [yv] (.ref s2.heap.objs.size) [y] (λv H' => v = .aE /\ H' = upd H9 s2.heap.objs.size (.lst (ys ++ [yv]))) I9 rfl (.cons r9 .nil) ⟨_, ys, yv, rfl, rfl, hD, hz, rfl, rfl⟩) λ_ TX ⟨_, QK, Eb, _, _, Ep⟩ => ?_
         subst Ep;exact again Eb kp q9
   exact codeAny_compStart_list (loop _ rfl) (T.self X.A 0 _ _ _ Bn (loop _ rfl))
  refine wpAny_newObj_type ?_;rcases dR with dR | ⟨x0, S⟩
  . refine wpAny_newFunctionEnv dR (by intro y hy; simp at hy) (λdY dX eZ => ?_) hk
    dsimp only at dX eZ |-
    rw [vd] at dX eZ |-
    exact rest cl dY _ (Ny I2 f2 o7 hk dR f6 mP hj hlen nh i4 dX eZ) λb u q => (eZ.2 b (w0m (w1r (Heap.lt_size q)))).trans (Heap.get?_push_of_some _ (Heap.get?_push_of_some _ q))
  . refine qz S λdY dX ic up => ?_
    dsimp only at dX ic up |-
    rw [vd] at dX ic |-
    have lk : ∀ y, y ≠ x0 -> ((x0, s2.heap.objs.size + 1 + 1) :: cl).lookup y = cl.lookup y := λy hy => by grind
    have l0 : ((x0, s2.heap.objs.size + 1 + 1) :: cl).lookup x0 = some (s2.heap.objs.size + 1 + 1) := by simp [List.lookup]
    refine rest _ dY _ (MR (x0 := x0) I2 f2 o7 hk (λy hy => ?_) (λy c e => ?_) (λy hy => ?_) (λy c e1 e2 => ?_) hj hlen nh i4 dX up) λb u q => up b u (Heap.get?_push_of_some _ q)
    . by_cases z : y = x0
      . exact ⟨_, by rw [z]; exact l0⟩
      . obtain ⟨c, q⟩ := mP y (Gs (λk hk hc => by rw [S.only k hk hc]; exact Ne.symm z) hy)
        exact ⟨c, (lk y z).trans q⟩
    . by_cases z : y = x0
      . subst z
        have : c = s2.heap.objs.size + 1 + 1 := Option.some.inj (e.symm.trans l0);exact .inr ⟨rfl, this, _, this ▸ ic⟩
      . exact .inl (f6 y c ((lk y z).symm.trans e))
    . have z : y ≠ x0 := λe => S.Td (e ▸ (nh y hy).1)
      obtain ⟨c, q⟩ := mP y (nh y hy).1;exact ⟨c, (lk y z).trans q, f6 y c q⟩
    . have z : y = x0 := S.only _ (PySem.mem_of_lookup e1) rfl
      subst z;have : c = s2.heap.objs.size + 1 + 1 := Option.some.inj (e2.symm.trans l0);exact this ▸ w4w _
end
theorem Gu{env:Env}:∀{names:List (Str×NameKind)}{x:Str},names.lookup x=some .free ->
  (names.map fun(n,k)=>if(k==NameKind.free&&env.scope.kind==.function&&env.kindOf n==some .cell)then(n,NameKind.cell)else(n,k)).lookup x=some .cell \/
  (names.map fun(n,k)=>if(k==NameKind.free&&env.scope.kind==.function&&env.kindOf n==some .cell)then(n,NameKind.cell)else(n,k)).lookup x=some .free
 |[],x,h=>by cases h
 |(n,k)::r,x,h=>by
  have ih:=@Gu env r x
  grind
def bX(sc scope:Scope)(N Nf:List Str)(js:List Nat):Bool:=
 scope.kind==.function&&scope.names.all (λy=>y.2 != .cell)&&scope.names.all (λy=>y.2 != .local||scope.names.lookup y.1==some .local) &&
 scope.names.all (λy=>y.2 != .free||sc.names.lookup y.1==some .cell||sc.names.lookup y.1==some .free)&&js.length==Nf.length &&
 (List.range js.length).all (λi=>match js[i]?,Nf[i]? with|some j,some y=>N[j]?==some y|_,_=>true) &&
 Nf.all (λy=>scope.names.lookup y==some .free&&(sc.names.lookup y==some .cell||sc.names.lookup y==some .free))
def fU(sc scope:Scope)(N Nf:List Str)(js:List Nat):Bool:=
 scope.kind==.function&&scope.names.all (λy=>y.2 != .local||scope.names.lookup y.1==some .local) &&
 scope.names.all (λy=>y.2 != .free||sc.names.lookup y.1==some .cell||sc.names.lookup y.1==some .free)&&js.length==Nf.length &&
 (List.range js.length).all (λi=>match js[i]?,Nf[i]? with|some j,some y=>N[j]?==some y|_,_=>true) &&
 Nf.all (λy=>scope.names.lookup y==some .free&&(sc.names.lookup y==some .cell||sc.names.lookup y==some .free))
def MS{target iter:Expr}{scope sc:Scope}{g:TG}{Nl Nf N:List Str}(hc:X.calm=true)(hi:PI X target iter wi)
  (dR:(∀y∈scope.names,y.2≠.cell)\/∃x0,i9 x0 scope)(ok:fU sc scope N Nf js=true)
  (hg:∀cl C ax aA ex,PG (X.cp (Nl++Nf) scope cl C ax aA ex) target g)(ht:∀cl C ax aA ex,rD (X.cp (Nl++Nf) scope cl C ax aA ex) ifs tc)(he:∀cl C ax aA ex,PE (X.cp (Nl++Nf) scope cl C ax aA ex) elt te)
  (hsc:autoParam (X.env.scope=sc) jJ)(hN:autoParam (X.N=N) jJ)(hs:∀x,foldedSetIterable iter X.env x=pure x:=by intro _;rfl):
  PE X (.ListComp elt [⟨target,iter,ifs,0⟩] scope pos) (iS wi Nl.length js g tc te):=by
 unfold fU at ok;simp only[w0n,w0w,beq_iff_eq,bne_iff_ne,w1l,w0z]at ok;obtain⟨⟨⟨⟨⟨k1,k3⟩,k4⟩,k5⟩,k6⟩,k7⟩:=ok;have kind:∀x,X.env.kindOf x=sc.names.lookup x:=λx=>by rw[<- hsc];rfl
 refine Zk hc hi k1 dR (λx hx hl=>(k3 x hx).resolve_left λz=>z hl) (λx hx hf=>?_) (λi j y e1 e2=>?_) k5 (λy hy=>?_) (λy hy=>?_) hg ht he hs
 .grind
 .grind
 .obtain⟨z1,z2⟩:=k7 y hy;refine⟨PySem.mem_of_lookup z1,?_,?_⟩
  .rw[hsc];rcases z2 with z|z
   .exact .inr (.inl z)
   .exact .inr (.inr z)
  grind
 .exact Gu (k7 y hy).1
def HF{target iter:Expr}{scope sc:Scope}{g:TG}{Nl Nf N:List Str}(hc:X.calm=true)(hi:PI X target iter wi)
  (ok:bX sc scope N Nf js=true)
  (hg:∀cl C ax aA ex,PG (X.cp (Nl++Nf) scope cl C ax aA ex) target g)(ht:∀cl C ax aA ex,rD (X.cp (Nl++Nf) scope cl C ax aA ex) ifs tc)(he:∀cl C ax aA ex,PE (X.cp (Nl++Nf) scope cl C ax aA ex) elt te)
  (hsc:autoParam (X.env.scope=sc) jJ)(hN:autoParam (X.N=N) jJ)(hs:∀x,foldedSetIterable iter X.env x=pure x:=by intro _;rfl):
  PE X (.ListComp elt [⟨target,iter,ifs,0⟩] scope pos) (iS wi Nl.length js g tc te):=by
 unfold bX at ok;simp only[w0n]at ok;obtain⟨⟨⟨⟨⟨⟨k1,k2⟩,k3⟩,k4⟩,k5⟩,k6⟩,k7⟩:=ok;exact MS hc hi (.inl (by simpa using k2)) (by unfold fU;simp only[w0n];exact⟨⟨⟨⟨⟨k1,k3⟩,k4⟩,k5⟩,k6⟩,k7⟩) hg ht he hsc hN hs
abbrev TF:=Str->St->Hp->(Str->Hp->Prop)->Prop
def PF(X:Cx)(es:List Expr)(t:TF):Prop:=∀(acc:Str)(pins:List (Addr×Obj))(s:Shared)(σ:St)(H:Hp)(Q:Str->Hp->Prop),Inv X pins σ H s->t acc σ H Q ->
 Joins (model X.prog X.w) X.A X.xe (evalEach es X.env) acc (λout s'=>out.length<=sizeLine/\∃H',Inv X pins σ H' s'/\Q out H') s
def XZ(hc:X.calm=true):cX X (.builtin "all") (λxs H Q=>∃p ys,xs=[.ref p]/\bB X.K H p ys/\(∀y∈ys,∃b,y=.bl b)/\Q (.bl (ys.all λy=>decide (y=.bl true))) H):=by
 intro pins s σ H xs us Q I r h;obtain⟨p,ys,rfl,hq,hb,q⟩:=h;obtain⟨u,rfl,rx⟩:=vals1 r;cases rx;obtain⟨aw,r',pl,hz⟩:=I.list hq;have hl:=pl.isList;have cb:p<s.heap.objs.size:=by obtain⟨_,e,_⟩:=hl;exact Heap.lt_size e
 have hh:X.A.in1.handled=none:=I.ok.hd hc;refine call_all_walk (wpAny_pyIter_list hl ⟨s.heap.objs.size,[s.heap.objs.size,p],[s.heap.objs.size],_,_,_,λi=>decide (ys[i]?=some (.bl true)),rfl,Walks.list hh s.heap.objs.size p (w0m cb) aw.toArray,⟨⟨_,Heap.get?_push_size _ rfl,rfl,rfl⟩,hl.push _⟩,?_,λh' tk kp=>?_⟩)
 .intro i v s1 Q1 E1 hv hQ;have sQ:aw[i]?=some v:=by simpa using hv
  have hi:i<ys.length:=by grind [Vals.length]
  obtain⟨u,hu,ru⟩:=r'.get (w0d hi);rw[sQ]at hu;cases hu;obtain⟨b,eb⟩:=hb ys[i] (w1n hi);rw[eb]at ru;cases ru;refine wpAny_truthy_bool ?_
  simp_all
 .have e:(List.range aw.toArray.size).all (λi=>decide (ys[i]?=some (V.bl true)))=ys.all λy=>decide (y=.bl true):=by
   rw[w1t,w0w,w0w];constructor
   .intro hA y hy;obtain⟨i,hi,rfl⟩:=w2r hy;have z:=hA i (by grind [Vals.length])
    grind
   grind [Vals.length,List.getElem_mem]
  refine⟨.bl _,H,I.kept (t':=tk) λb o qb=>kp b o (λz=>?_) (Heap.get?_push_of_some _ qb),rfl,e ▸ q⟩
  rw[w1g]at z;exact absurd (Heap.lt_size qb) (by grind)
namespace sv
variable{X:Cx}{e:Expr}{EE:L2.St->XK}{es:List Expr}{pos:Pos}{K:Fg}{x:Str}{te:TE}
def Aq:typeLookup (.type "list_reverseiterator") "__len__"=pure none:=by rw[typeLookup_type,builtinLookup_eq_fast];kernel_rfl
def hint:typeLookup (.type "list_reverseiterator") "__length_hint__"=pure (some (.builtin "list_reverseiterator.__length_hint__")):=by rw[typeLookup_type,builtinLookup_eq_fast];kernel_rfl
section
variable{St:Nat->Shared->Prop}
def Vv(W:WalksS prog w A.in1 I fp wr G n P St)(hT:∀i s,St i s->s.TypeIs (.ref I) "list_reverseiterator")(jY:St 0 s)(pd:∀b∈fp,b<s.heap.objs.size)(hI:I∈fp)
  (hQ:∀s' acc,Moved wr G s s'->ItemsOf P acc n->Q acc.toList s')(hn:n<=sizeLine):wpAny (model prog w) A (collect (.ref I)) Q E s:=by
 have Km:s.heap.objs.size∉fp:=λhm=>w2k _ (pd _ hm)
 have RV:s.heap.objs.size≠I:=λe=>Km (e ▸ hI)
 unfold collect;refine wpAny_bind (wpAny_runValue (codeAny_builtin F.entry_proto_collect ?_));rw[Around.under_plainId F.plain_proto_collect _];show wpAny _ A.in1 (newList [] >>= λl=>again (.builtin "list.__iadd__" ⟨[l,.ref I],[]⟩)) _ _ s
 refine wpAny_bind (wpAny_newObj_type ?_);refine wpAny_pure ⟨plainId_quiet F.plain_list_iadd _,codeAny_builtin F.entry_list_iadd ?_⟩;rw[Around.under_plainId F.plain_list_iadd _];have l_:=W.frame 0 s (s.heap.push {cls:=.type "list", data:=.seq ([]:List Value).toArray}) s.toks jY (w0c _) λb _ o e=>Heap.get?_push_of_some _ e
 have RT:(s.heap.push {cls:=.type "list", data:=.seq ([]:List Value).toArray}).get? s.heap.objs.size=some {cls:=.type "list", data:=.seq ([]:List Value).toArray}:=Heap.get?_push_size _ rfl;have h1:Builtin.List.listSameRef (.ref s.heap.objs.size) (.ref I)=false:=by simp[Builtin.List.listSameRef,RV]
 show wpAny _ A.in1 (Builtin.List.listExtendWith (.ref s.heap.objs.size) (.ref I) (.ref s.heap.objs.size)) _ _ _;unfold Builtin.List.listExtendWith;refine wpAny_bind (wpAny_typeOf (hT 0 _ l_) ?_);rw[if_neg (by rw[h1];decide)];refine wpAny_bind (W.self 0 _ _ _ l_ ?_);refine wpAny_bind (wpAny_holding ?_);unfold Builtin.List.listLengthHint;refine wpAny_bind (wpAny_specialOf (hT 0 _ l_) Aq ?_);show wpAny _ A.in1 (specialOf (Value.ref I) (Str.ofString "__length_hint__") >>= _) _ _ _;refine wpAny_bind (wpAny_specialOf (hT 0 _ l_) hint ?_)
 (generalize nu:("list_reverseiterator.__length_hint__":String)=KU;(fail_if_success (clear nu KU));wp_delta;rw[show splitId KU=some ("list_reverseiterator", "__length_hint__")from by subst nu;decide +kernel];subst nu)
 refine wpAny_bind (wpAny_isInstance (b:=true) (hT 0 _ l_) (by rw[isSubtype_type];kernel_rfl) ?_);refine wpAny_pure ?_;rw[if_neg (by decide)];refine wpAny_pure ⟨plainId_quiet F.plain_extend_loop _,codeAny_extend_loopS W hn _ Km _ n 0 _ _ _ rfl (w1a _) l_ RT (ItemsOf.nil P) λs' oS c' hm zo ni=>?_⟩
 show wpAny _ A (load s.heap.objs.size >>= _) _ _ s';refine wpAny_bind (wpAny_load zo ?_);exact wpAny_pure (hQ s' oS (Moved.drop_new (o:={cls:=.type "list", data:=.seq ([]:List Value).toArray}) (tk:=s.toks) hm (w0c _)) ni)
end
open AutoSeq1 (wpAny_loadPart')
def V4(hh:A.handled=none)(i0:l≠I)(hit:s.heap.IsRevIter I l ((items.size:Int)-1))(hl:s.heap.IsList l items)(hsz:items.size<=sizeLine)
  (hQ:∀s' acc,Moved [I] (λa b=>b=a) s s'->ItemsOf (λi v=>items[items.size-1-i]?=some v) acc items.size->Q acc.toList s'):wpAny (model prog w) A (collect (.ref I)) Q E s:=by
 have cb:∀b∈[I,l],b<s.heap.objs.size:=λb hb=>by
  rcases w0e.mp hb with z|z
  .rw[z];obtain⟨_,e,_⟩:=hit;exact Heap.lt_size e
  .rw[w1g.mp z];obtain⟨_,e,_⟩:=hl;exact Heap.lt_size e
 exact Vv (Walks.listRev (A:=A.in1) hh I l i0 items).toS (λ_ _ st=>st.2.1.typeIs) ⟨w1a _,by simpa using hit,hl⟩ cb w1b hQ hsz
theorem UU(I l)(items)(i0:l≠I)(hsz:items.size<=sizeLine):
  Meets (Builtin.«tuple.__new__» ⟨[.type "tuple", .ref I],[]⟩)
   (λA R s=>A.handled=none/\s.heap.IsRevIter I l ((items.size:Int)-1)/\s.heap.IsList l items/\∀(s':Shared)(acc:Array Value),Moved [I] (λa b=>b=a) s s'->ItemsOf (λi v=>items[items.size-1-i]?=some v) acc items.size ->
    R (.ok (.ret (.ref s'.heap.objs.size))) {s' with heap:=s'.heap.push {cls:=.type "tuple", data:=.seq acc}}):=
 .of_wp λprog w A R s h=>by
  obtain⟨hh,hit,hl,h⟩:=h;have qj:=sub_tuple_self;have KC:=init_tuple_lookup;have hmh:=madeHere_tuple;have hT:s.TypeIs (.ref I) "list_reverseiterator":=hit.typeIs;have Sb:A.in1.handled=none:=hh
  wp_walk using wpAny_typeOf hT,V4 Sb i0 hit hl hsz
  intro s' acc hm ni;show wpAny _ _ (Builtin.Tuple.tupleExact acc.toList.toArray >>= λv=>ret v) _ _ _
  unfold Builtin.Tuple.tupleExact;refine wpAny_bind (wpAny_newObj_type ?_ (show acc.toList.toArray.size<=sizeLine by simp only[w3k];rw[ni.1];exact hsz));refine wpAny_pure ⟨_,rfl,?_⟩
  simp_all
def pQ(hh:A.handled=none)(i0:l≠I)(hit:s.heap.IsRevIter I l ((items.size:Int)-1))(hl:s.heap.IsList l items)(hsz:items.size<=sizeLine)
  (h:∀(h':Heap)(tk:Nat)(acc:Array Value),(∀b o,b≠I->s.heap.get? b=some o->h'.get? b=some o)->ItemsOf (λi v=>items[items.size-1-i]?=some v) acc items.size->Q (.ref h'.objs.size) {s with heap:=h'.push {cls:=.type "tuple", data:=.seq acc},toks:=tk}):
  wpAny (model prog w) A (call (.type "tuple") [.ref I]) Q E s:=by
 refine callType_new F.called_tuple (by decide) (F.typeCall_tuple_1 _) (F.newCall_tuple_1 _) (λobj=>F.args_object_init_2 obj _) F.entry_tuple_new
  (UU I l items i0 hsz) ⟨hh,hit,hl,λs' acc hm ni=>⟨⟨_,Heap.get?_push_size _ rfl,rfl⟩,?_⟩⟩
 rw[Moved.eq_with hm];exact h s'.heap s'.toks acc (λb o hb e=>hm.heap b o (λz=>hb (w1g.mp z)) e) ni
end sv
def tT(K:Fg)(te:TE):TE:=λσ H Q=>te σ H λx H1=>∃p ys,x=.ref p/\bB K H1 p ys/\∀l,H1 l=none->Q (.ref l) (upd H1 l (.tup ys.reverse))
def WE{p1 p2 tE ll:Pos}(hc:X.calm=true)(E4:X.mg "tuple"=none)(zN:X.mg "reversed"=none)(he:PE X e te)(ER:autoParam (Gl X "tuple") jJ)(oq:autoParam (Gl X "reversed") jJ)
  (kS:autoParam (starEach [.Call (.Name "reversed" p2) [e] [] ll] X.env=(false,eval (.Call (.Name "reversed" p2) [e] [] ll) X.env)::starEach [] X.env) jJ)(iL:autoParam (starEach [e] X.env=(false,eval e X.env)::starEach [] X.env) jJ):
  PE X (.Call (.Name "tuple" p1) [.Call (.Name "reversed" p2) [e] [] ll] [] tE) (tT X.K te):=by
 intro pins s σ H Q I h;refine wpAny_Call_Name_kw (qJ I ER E4 PyProof.Rows.Boot.«tuple» ?_ (by decide));refine PyProof.Rows.callWith_type1 ?_ kS rfl;rw[kS];show wpAny _ _ (spliced ((false,eval (.Call (.Name "reversed" p2) [e] [] ll) X.env)::backTo tE (starEach [] X.env))) _ _ s;refine Calls.spliced_cons ?_;refine wpAny_Call_Name_kw (qJ I oq zN PyProof.Rows.Boot.«reversed» ?_ (by decide));refine PyProof.Rows.callWith_type1 ?_ iL rfl;rw[iL];show wpAny _ _ (spliced ((false,eval e X.env)::backTo ll (starEach [] X.env))) _ _ s;refine Calls.spliced_cons (bt (he pins s σ H _ I h) λv s1 ⟨x,H1,I1,rx,p,ys,ex,hq,q⟩=>Calls.spliced_nil ?_)
 subst ex;cases rx;obtain⟨aw,r',pl,hz⟩:=I1.list hq;have hl:=pl.isList;have cb:p<s1.heap.objs.size:=by obtain⟨_,e,_⟩:=hl;exact Heap.lt_size e
 refine call_reversed_list hl ?_;refine Calls.spliced_nil ?_;have hh:X.A.handled=none:=I1.ok.hd hc;refine sv.pQ (items:=aw.toArray) hh (w0m cb) ⟨_,Heap.get?_push_size _ rfl,rfl,rfl⟩ (hl.push _) (by grind [Vals.length]) λh' tk acc kp ni=>?_
 have up:∀b o,s1.heap.get? b=some o->h'.get? b=some o:=λb o qb=>kp b o (w0m (Heap.lt_size qb)) (Heap.get?_push_of_some _ qb)
 have I2:Inv X pins σ H1 {s1 with heap:=h',toks:=tk}:=I1.kept (t':=tk) up
 have ea:acc=aw.reverse.toArray:=by
  obtain⟨n1,n2⟩:=ni;apply Array.ext';apply w2y
  grind
 subst ea
 have I3:Inv X pins σ (upd H1 h'.objs.size (.tup ys.reverse)) {s1 with heap:=h'.push {cls:=.type "tuple", data:=.seq aw.reverse.toArray},toks:=tk}:=
  I2.laid (t':=tk) (λb o e=>Heap.get?_push_of_some _ e) (w0c _) (show aN X.prog X.w _ _ _ (.tup ys.reverse)from⟨by grind,aw.reverse,r'.reverse,IsTup.new _ _,_,Heap.get?_push_size _ rfl,rfl⟩)
 exact⟨.ref h'.objs.size,_,I3,rfl,q _ (I2.aG.fresh (w0c _))⟩
open PySem PySem.Spec PyProof.Rows
structure ip(K:Fg)(D:Addr):Prop where
 ga:findIn K (.ref D) "__getattribute__"=some (some (.builtin "BaseException.__getattribute__"))
 gt:findIn K (.ref D) "__getattr__"=some none
 cl:findIn K (.ref D) "__class__"=some (some (.builtin "object.__class__"))
 gs:specialIn K (.builtin "object.__class__") "__get__"=some (some (.builtin "getset_descriptor.__get__"))
 tk:takesIn K (.builtin "object.__class__")=some true
 mo:PySem.W.mroIn K D (.type "object")=some true
 mb:PySem.W.mroIn K D (.type "BaseException")=some true
 cd:(PySem.W.clsIn K D).isSome=true
def cH(K:Fg)(D:Addr):Bool:=
 findIn K (.ref D) "__getattribute__"==some (some (.builtin "BaseException.__getattribute__"))&&findIn K (.ref D) "__getattr__"==some none &&
 findIn K (.ref D) "__class__"==some (some (.builtin "object.__class__"))&&specialIn K (.builtin "object.__class__") "__get__"==some (some (.builtin "getset_descriptor.__get__")) &&
 takesIn K (.builtin "object.__class__")==some true&&PySem.W.mroIn K D (.type "object")==some true&&PySem.W.mroIn K D (.type "BaseException")==some true&&(PySem.W.clsIn K D).isSome
def ip.of(h:cH K D=true):ip K D:=by
 unfold cH at h;simp only[w0n,beq_iff_eq]at h;obtain⟨⟨⟨⟨⟨⟨⟨h1,h2⟩,h3⟩,h4⟩,h5⟩,h6⟩,h7⟩,h8⟩:=h;exact⟨h1,h2,h3,h4,h5,h6,h7,h8⟩
def ExcAt(e D:Addr)(h:Heap):Prop:=∃o vs,h.get? e=some o/\o.cls=.ref D/\o.data=.fields vs
section
variable{A:Around}{s:Shared}{e:Addr}
open PySem.W Builtin Builtin.ObjectAttr Builtin.Getset_descriptor
def Du(p:ExcAt e D h):Looks M h (typeOf (.ref e)) (.ref D):=by
 obtain⟨o,vs,h1,h2,h3⟩:=p;exact h2 ▸ (Looks.ld h1).andThen .now
def X0(X:K.In h)(C:ip K D):Looks M h (find (.ref e) (.ref D) "__class__") (.bind (.builtin "getset_descriptor.__get__") (.builtin "object.__class__")):=by
 have L1:=looks_findIn (M:=M) X C.cl;have L2:Looks M h (getOf (some (.builtin "object.__class__"))) (some (.builtin "getset_descriptor.__get__")):=looks_specialIn X C.gs;have L3:=looks_takesIn (M:=M) X C.tk;refine L1.andThen (L2.andThen ?_);exact(show Looks M h (dataDescriptor? (some (.builtin "object.__class__")) (some (.builtin "getset_descriptor.__get__"))) (some (.builtin "getset_descriptor.__get__", .builtin "object.__class__"))from L3.andThen .now).andThen (Looks.tag .now)
def Zl(X:K.In s.heap)(p:ExcAt e D s.heap)(hm:mroIn K D (.type "object")=some true)
  (h:R (.ok (.ret (.ref D))) s):codeAny (model prog w) A (.call (.builtin "getset_descriptor.__get__") ⟨[.builtin "object.__class__", .ref e,tp],[]⟩) R s:=by
 obtain⟨hh,g,dr,t,os⟩:=s;have L0:=Du (M:=model prog w) p;have L1:=looks_mroIn (M:=model prog w) X hm;refine codeAny_call_builtin KF.slot_gs.plain KF.entry_gs (KF.slot_gs.check _ _ _ _ _ _ _ _ KF.type_class (KF.args_gs _ _ _) ?_);unfold Builtin.«getset_descriptor.__get__» descrGet;rw[dga_obj];refine wpAny_bind (wpAny_pure ?_);unfold descrGetter descrCheckInstance descrNameAndClass isInstance;simp only[KF.owner_class]
 repeat lk
 refine⟨Code.quiet_builtin _ (by decide +kernel),codeAny_builtin KF.entry_class ?_⟩;unfold Builtin.«object.__class__» shownTypeOf
 repeat lk
 exact h
def WG{t:Nat}{os:OsState}(X:K.In h)(p:ExcAt e D h)(hm:mroIn K D (.type "BaseException")=some true)(hq:Q () ⟨h,g,d,t,os⟩):
  wpAny M A (checkBuiltinCall "BaseException.__getattribute__" ⟨[.ref e,Am],[]⟩) Q E ⟨h,g,d,t,os⟩:=by
 have hk:builtinKind "BaseException.__getattribute__"=some .slot:=by decide +kernel
 have vR:splitId "BaseException.__getattribute__"=some ("BaseException", "__getattribute__"):=by decide +kernel
 have L0:=Du (M:=M) p;have L1:=looks_mroIn (M:=M) X hm;have LI:Looks M h (isInstance (.ref e) (.type "BaseException")) true:=L0.andThen L1;have ha:=PySem.F.args_bexc_ga (.ref e) Am;simp only[checkBuiltinCall,hk,vR];refine wpAny_bind (LI.at ?_);rw[if_neg (by decide)];unfold argsOk at ha
 grind [wpAny_pure]
def WH(X:K.In s.heap)(p:ExcAt e D s.heap)(C:ip K D)(h:Q (some (.ref D)) {s with toks:=s.toks+1}):wpAny (model prog w) A (getAttr? (.ref e) "__class__") Q E s:=by
 obtain⟨hh,g,d,t,os⟩:=s;have L0:=Du (M:=model prog w) p;have L1:=looks_findIn (M:=model prog w) X C.ga;have L2:=looks_findIn (M:=model prog w) X C.gt;have L3:=X0 (M:=model prog w) (e:=e) X C;unfold getAttr? getAttrBy? getAttrBy;refine wpAny_bind (wpAny_mkText (wpAny_bind (wpAny_attempt (wpAny_holding (wpAny_bind (L0.at (wpAny_bind (L1.at ?_))))))));have SU:(Value.builtin "BaseException.__getattribute__"==Value.builtin "object.__getattribute__")=false:=by decide +kernel
 have zV:(onTheHeap (Value.ref D)&&Value.builtin "BaseException.__getattribute__"==Value.builtin "object.__getattribute__")=false:=by rw[SU];rfl
 dsimp only;rw[if_neg (by rw[zV];decide)];unfold getAttrByItsOwn hookBefore;rw[if_pos (by rfl)];refine wpAny_bind (L2.at ?_);refine wpAny_bind (wpAny_attempt (wpAny_holding ?_));unfold callGetattribute;rw[if_neg (by decide)];unfold boundAndCalled;have f3:=PySem.F.excAttr_ValueError.ga.bind (.ref e);refine wpAny_bind (wpAny_of_eq f3 ?_);refine wpAny_call (codeAny_call_builtin PySem.F.excAttr_ValueError.ga.plain F.entry_bexc_ga (WG (K:=K) (D:=D) X p C.mb ?_));unfold Builtin.«object.__getattribute__»;refine wpAny_bind (wpAny_of_eq (a:=(Value.ref e,[Value.str (Str.ofString "__class__") t])) (by rfl) ?_);dsimp only;refine wpAny_bind (wpAny_of_eq (a:=Str.ofString "__class__") (by rfl) ?_);refine wpAny_bind (L0.at (wpAny_bind (L3.at ?_)));dsimp only;unfold bindTo;refine wpAny_bind (wpAny_holding (wpAny_call (Zl (K:=K) (D:=D) X p C.mo ?_)));dsimp only;refine wpAny_pure ?_;dsimp only;refine wpAny_of_eq (a:=Value.ref D) (by rfl) ?_;exact wpAny_pure h
theorem X1(C:ip K D):KitX K (.ref e) (.ref D) (ExcAt e D) where
 ty:=λ_ _ _ p=>Du p
 it:=λM h X p=>by
  have vK:=C.cd;unfold clsIn at vK;split at vK
  .rename_i c' d' Rm rZ ho;intro A' Q' E' s' k q;unfold isType loadHead;exact wpAny_bind (wpAny_loadPart (k _ _ (X _ _ ho)) (wpAny_pure q))
  .cases vK
 ne:=λh tp dd aw n sl X SG=>by
  refine w2j.mpr λq=>?_
  have e1:D=tp:=Value.ref.inj (beq_iff_eq.mp q);subst e1;have vK:=C.cd;unfold clsIn at vK;split at vK
  .rename_i c' d' Rm rZ ho;have z:=(X _ _ ho).symm.trans SG;cases z
  .cases vK
 ca:=λX p k=>WH X p C k
end
def yz:V->Value->Prop
 |.ty n,c=>c=.type n
 |.ref a,c=>c=.ref a
 |_,_=>False
structure tY(P:Program)(w:World)(K:Fg)(mg:Str->Option Value)(base:Heap)(k:Nat)(x:Str)(ps:List Str)(sp:Sp):Prop where
 ex:∃f fd,eC P w K mg base (eA P w) k f fd ps sp/\mg x=some (.ref f)/\keepIn K (.ref f)=true/\Binds K fd ps []
structure QF(P:Program)(w:World)(K:Fg)(mg:Str->Option Value)(base:Heap)(k:Nat)(x:Str)(ps:List Str)(sp:Sp):Prop where
 ex:∃f fd,yC P w K mg base k f fd ps sp/\mg x=some (.ref f)/\keepIn K (.ref f)=true/\Binds K fd ps []
structure At(K:Fg)(mg:Str->Option Value)(x:Str)(st:Stmt)(ps:List Str):Prop where
 ex:∃f fd,yD K x x st f fd/\mg x=some (.ref f)/\Binds K fd ps []
section
variable{k:Nat}{ps:List Str}{sp:Sp}{p:Pos}{t:TA}
def z49(C:tY X.prog X.w X.K X.mg X.base k x ps sp)(hr:br k X.A)(hx:eF (eA X.prog X.w) X EE)(ha:PA X (e::es) t)(hg:autoParam (Gl X x) jJ)
  (ix:autoParam ((x==("__debug__":Str))=false) jK)(he:autoParam (starEach (e::es) X.env=(false,eval e X.env)::starEach es X.env) jJ)(du:autoParam ((backTo pos (starEach es X.env)).any (·.1)=false) jJ):
  PE X (.Call (.Name x p) (e::es) [] pos) (rh sp [] EE t):=by
 obtain⟨f,fd,F,m,kp,b⟩:=C.ex;exact XX F hr hg m kp b .nil hx ha ix he du
end
section
variable{t:TA}{pos' p:Pos}
theorem DV(i:Nat)(hN:X.N.Nodup)(he:PE X e te)(hi:autoParam (X.N[i]?=some x) jJ)(hx:autoParam (Loc X.env.scope x) jM)(hs:autoParam (swapsWith e (some (.Name x pos')) pos.line X.env=pure false) jJ)(hf:autoParam (X.fn x=true\/X.env.scope.names.lookup x=some .local) jL):
  PS X (.Assign [.Name x pos'] e pos) (q_ te (bx i)):=z4t hN hi hx he hs hf
theorem rX(i:Nat)(hN:X.N.Nodup)(hi:autoParam (X.N[i]?=some x) jJ)(hx:autoParam (Loc X.env.scope x) jM)(hf:autoParam (X.fn x=true\/X.env.scope.names.lookup x=some .local) jL):PG X (.Name x pos) (bx i):=Y_ hN hi hx hf
theorem z5a{o:Expr}{to:TE}{apos:Pos}(ho:PE X o to)(ha:PA X (e::es) t)(dQ:autoParam (attributeBase o "append" X.env (eval o X.env)=eval o X.env) jJ)
  (gE:autoParam (((backTo pos (starEach (e::es) X.env)).all (λx=>!x.1)&&(backToKw pos (keywordEach [] X.env)).all (λx=>x.1.isSome)&&decide ((e::es).length+([]:List Keyword).length+(if([]:List Keyword).isEmpty then 0 else 1)<30))=true) jJ)
  (dW:autoParam ((apos.endLine==pos.line)=true) jJ)(hs:autoParam (starEach (e::es) X.env=(false,eval e X.env)::starEach es X.env) jJ)(cI:autoParam ((backTo pos (starEach es X.env)).any (·.1)=false) jJ):
  PE X (.Call (.Attribute o "append" apos) (e::es) [] pos) (L7 X.K "list" lu to t):=DU PySem.F.plainAttrs_list PySem.F.slot_list_append PySem.F.type_list_append C5 ho ha dQ gE dW hs cI
end
theorem wJ(h:H p=none)(o):ak H (upd H p o):=λb u q=>by rw[aU (gA q h)];exact q
def ak.tup(e:ak H H')(h:cZ K H a xs):cZ K H' a xs:=by
 rcases h with(h|⟨o,h⟩)|h
 .exact .inl (.inl (e _ _ h))
 .exact .inl (.inr ⟨o,e _ _ h⟩)
 .exact .inr h
abbrev qQ(o:Obj):HO:=.cP o (.own 0)
abbrev lY(o:Obj)(q:Str)(c:Addr):HO:=.cP o (.nU #[.bool false,.str q 0,.ref c])
abbrev kO(o:Obj):HO:=.cP o (.ext λ_=>True)
abbrev Cs:=List (Addr×Obj)
def dg(H:Hp)(cs:Cs):Hp:=λb=>match cs.lookup b with
 |some _=>none
 |none=>H b
def bT(H:Hp)(cs:Cs):Hp:=λb=>match cs.lookup b with
 |some o=>some (kO o)
 |none=>H b
def wW(h:cs.lookup b=some o):dg H cs b=none:=by unfold dg;rw[h]
def mT(h:cs.lookup b=none):dg H cs b=H b:=by unfold dg;rw[h]
def o8(h:cs.lookup b=some o):bT H cs b=some (kO o):=by unfold bT;rw[h]
def h9(h:cs.lookup b=none):bT H cs b=H b:=by unfold bT;rw[h]
def AN(h:H b=none):dg H cs b=none:=by grind [dg]
def bu(H:Hp)(cs:Cs):Prop:=∀b o,cs.lookup b=some o->H b=some (kO o)
def bu.out(c:bu H cs)(h:H b=none):cs.lookup b=none:=by
 cases q:cs.lookup b with
 |none=>rfl
 |some o=>rw[c b o q]at h;cases h
def bu.wu(c:bu H cs)(h:H b=some u)(n:∀o,u≠kO o):cs.lookup b=none:=by
 cases q:cs.lookup b with
 |none=>rfl
 |some o=>rw[c b o q]at h;grind
def bu.cW(c:bu H cs)(h:H b=some u)(n:∀o,u≠kO o):dg H cs b=some u:=by rw[mT (c.wu h n)];exact h
def JG(h:dg H cs b=some u):H b=some u/\cs.lookup b=none:=by
 unfold dg at h;split at h
 .cases h
 .rename_i q;exact⟨h,q⟩
theorem LH(t:d8 u):∀o,u≠kO o:=λo z=>by subst z;exact t
theorem c9.rm(x:c9 P w H h)(c:bu H cs):c9 P w (dg H cs) h:=λa u e=>by
 obtain⟨e1,_⟩:=JG e;exact(x a u e1).eQ (λb v _ q=>q) (λb q=>c.cW q λo z=>nomatch z) λb v t q=>c.cW q (LH t)
theorem c9.add(x:c9 P w H h)(hc:∀b o,cs.lookup b=some o->H b=none/\h.get? b=some o):c9 P w (bT H cs) h:=λa u e=>by
 cases q:cs.lookup a with
 |some o=>
  rw[o8 q]at e;cases e;exact⟨(hc a o q).2,trivial,⟨o,(hc a o q).2⟩,λ_ _ _ _=>trivial⟩
 |none=>
  rw[h9 q]at e
  have out:∀b v,H b=some v->bT H cs b=some v:=λb v z=>by
   cases q2:cs.lookup b with
   |some o=>grind
   |none=>grind [h9]
  exact(x a u e).eQ (λb v _ q=>q) (λb q=>out b _ q) λb v t q=>out b v q
def Zm(x:c9 P w H h)(e:H f=some (lY o q c)):h.get? f=some o/\h.CodeRec (.ref c) q:=by
 obtain⟨h1,h2⟩:=(show h.get? f=some o/\aN P w H h f (.nU #[.bool false,.str q 0,.ref c])from x f _ e);refine⟨h1,?_⟩;rcases h2 with⟨_,_,p0,_⟩|⟨q',c',oc,ob,vs,t,_,p1,p2,h3,h4,h5,_⟩
 .cases p0
 .cases p1;cases p2;exact⟨c,oc,vs,t,rfl,(show h.get? c=some oc/\_ from x c _ h3).1,h4,h5⟩
theorem Un.cells(u:Un fs ex (dg H cs) H' h h')(c:bu H cs):Un fs ex H (bT H' cs) h h' where
 keep:=λb o q n hb hx=>u.keep b o q (AN n) hb hx
 slot:=λb o q n hb hx=>u.slot b o q (AN n) hb hx
 free:=λb o q n hx=>by rw[h9 (c.out n)];exact u.free b o q (AN n) hx
 there:=u.there
 fO:=λb xs q=>by
  have z:=c.wu q λo z=>nomatch z
  rw[h9 z];exact u.fO b xs (by rw[mT z];exact q)
 aW:=λb o v q=>by
  cases z:cs.lookup b with
  |some o'=>
   rw[o8 z];rw[c b o' z]at q;exact q
  |none=>rw[h9 z];exact u.aW b o v (by rw[mT z];exact q)
 e9:=λb ps q=>by
  have z:=c.wu q λo z=>nomatch z
  rw[h9 z];exact u.e9 b ps (by rw[mT z];exact q)
def Un.fW(u:Un fs ex (bT H cs) H' h h')(aG:c9 P w H' h')(hc:∀b o,cs.lookup b=some o->H b=none/\h.get? b=some o):Un fs ex H (dg H' cs) h h':=by
 have jQ:∀b o,cs.lookup b=some o->H' b=some (kO o)/\h'.get? b=some o:=λb o z=>by
  have q:=u.aW b o _ (o8 z);exact⟨q,(show h'.get? b=some o/\_ from aG b _ q).1⟩
 refine⟨λb o q n hb hx=>?_,λb o q n hb hx=>?_,λb o q n hx=>?_,u.there,λb xs q=>?_,λb o v q=>?_,λb ps q=>?_⟩
 .cases z:cs.lookup b with
  |some o'=>
   grind
  |none=>exact u.keep b o q (by rw[h9 z];exact n) hb hx
 .cases z:cs.lookup b with
  |some o'=>
   have:=(hc b o' z).2;rw[q]at this;cases this;exact⟨o.slots,(jQ b _ z).2⟩
  |none=>exact u.slot b o q (by rw[h9 z];exact n) hb hx
 .cases z:cs.lookup b with
  |some o'=>exact wW z
  |none=>rw[mT z];exact u.free b o q (by rw[h9 z];exact n) hx
 .have z:cs.lookup b=none:=by
   cases z:cs.lookup b with
   |some o'=>grind
   |none=>rfl
  rw[mT z];exact u.fO b xs (by rw[h9 z];exact q)
 .have z:cs.lookup b=none:=by
   cases z:cs.lookup b with
   |some o'=>grind
   |none=>rfl
  rw[mT z];exact u.aW b o v (by rw[h9 z];exact q)
 .have z:cs.lookup b=none:=by
   cases z:cs.lookup b with
   |some o'=>grind
   |none=>rfl
  rw[mT z];exact u.e9 b ps (by rw[h9 z];exact q)
abbrev er(qual:Str)(scope:Scope)(f:Addr)(cd:Value)(cl:List (Str×Addr))(s:Shared):Env:=PySem.W.envX qual scope s.heap.objs.size f cd cl
def j_(P:Program)(w:World)(K:Fg)(mg:Str->Option Value)(base:Heap)(N:List Str)(qual:Str)(scope:Scope)(f:Addr)(cd:Value)(cl:List (Str×Addr))(A:Around)(outer:List Env)(s:Shared)(H:Hp):Cx where
 prog:=P
 w:=w
 K:=K
 mg:=mg
 base:=base
 A:=A.deeper (er qual scope f cd cl s)
 N:=N
 ax:=s
 aA:=H
 env:=er qual scope f cd cl s
 outer:=outer
 stack:=er qual scope f cd cl s::outer
 ex:=[]
 calm:=true
 fn:=λ_=>false
 pn:=[]
 xe:=λ_ _=>False
structure gQ(ps Nf:List Str)(sc:Scope):Prop where
 kind:sc.kind=.function
 co:sc.isCoroutine=false
 gen:sc.isGenerator=false
 nd:ps.Nodup
 qB:∀y∈sc.names,y.2≠.cell
 par:∀x∈ps,sc.names.lookup x=some .local
 fr:∀y∈Nf,sc.names.lookup y=some .free
structure ji(cl:List (Str×Addr))(Nf:List Str)(sc:Scope)(zs:List V)(h:Heap)(cs:Cs):Prop where
 inj:∀x y c,cl.lookup x=some c->cl.lookup y=some c->x=y
 has:∀x,(x,NameKind.free)∈sc.names->∃c,cl.lookup x=some c
 all:∀x c,cl.lookup x=some c->∃o,cs.lookup c=some o
 oi:∀c o,cs.lookup c=some o->h.get? c=some o/\∃v,o.data=.cell v
 val:∀(i:Nat) y z,Nf[i]?=some y->zs[i]?=some z->∃c o u,cl.lookup y=some c/\cs.lookup c=some o/\o.data=.cell (some u)/\RelV z u
section
variable{P:Program}{w:World}{ps:List Str}{f:Addr}{cl:List (Str×Addr)}{s:Shared}{us:List Value}
def X2{v:Value}:∀{ps:List Str}{us:List Value}{i:Nat},ps.Nodup->ps[i]?=some x->us[i]?=some v->(ps.zip us).reverse.lookup x=some v:=by
 intro ps us i nd h1 h2;have hm:(x,v)∈(ps.zip us).reverse:=List.mem_reverse.mpr (w0u (i:=i) (by grind))
 have hn:((ps.zip us).reverse.map (·.1)).Nodup:=by
  rw[List.map_reverse];show List.Pairwise (·≠·) _;rw[List.pairwise_reverse];refine List.Pairwise.imp (λh=>Ne.symm h) (show((ps.zip us).map (·.1)).Nodup from ?_)
  exact nd.sublist (by
   clear hm h1 h2
   induction ps generalizing us with
   |nil=>simp
   |cons p ps ih=>cases us with
    |nil=>simp
    |cons u us=>simp_all)
 generalize (ps.zip us).reverse=l at hm hn
 induction l with
 |nil=>cases hm
 |cons p l ih=>
  grind
def Zn(S:gQ ps Nf scope)(C:ji cl Nf scope zs s.heap cs)(hd:A.handled=none)(e0:iU P w K mg base A outer s H)(hn:∀c o,cs.lookup c=some o->H c=none)
  (hl:vs.length=ps.length)(hz:zs.length=Nf.length)(r:Vals vs us)
  (ns:dY.Ns s.heap.objs.size (λx=>(ps.zip us).reverse.lookup x))(hs:Heap.SameBut s.heap.objs.size (s.heap.push {cls:=.type "frame", data:=.dict #[]}) dY):
  Inv (j_ P w K mg base (ps++Nf) qual scope f cd cl A outer s H) [] (vs.map some++zs.map some) H {s with heap:=dY,toks:=tk}:=by
 have hk:∀b o,s.heap.get? b=some o->dY.get? b=some o:=λb o e=>hs.extBut b o (w0m (Heap.lt_size e)) (Heap.get?_push_of_some _ e)
 have s_:∀b:Addr,b∉([]:List Addr):=λb z=>nomatch z
 have lj:∀x c,cl.lookup x=some c->H c=none/\∃o,s.heap.get? c=some o/\∃v,o.data=.cell v:=λx c e=>by
  obtain⟨o,q⟩:=C.all x c e;exact⟨hn c o q,o,C.oi c o q⟩
 refine⟨⟨e0.mod,S.kind,rfl,rfl,w0c _,C.inj,λy hy=>?_,(λx c z=>nomatch z),λ_=>hd,Around.frames_deeper e0.frames,.inr ⟨rfl,rfl⟩,λb z=>absurd z (s_ b),e0.bs,e0.mM,λb _ _=>s_ b,λb z=>absurd z (s_ b),e0.eM,e0.oo,e0.tab⟩,
  rfl,e0.bare,Un.kept hk,⟨_,ns,λi y v h1 h2 h3=>?_⟩,λy c h=>?_,e0.aG.fresh (w0c _),λy c h=>(lj y c h).1,λp hp=>absurd (show p∈([]:List (Addr×Obj))from hp) (by simp),e0.aG.kept hk,?_⟩
 .have hy:scope.names.lookup y=some .cell\/scope.names.lookup y=some .free:=hy;rcases hy with hy|hy
  .exact absurd rfl (S.qB _ (PySem.mem_of_lookup hy))
  .exact C.has y (PySem.mem_of_lookup hy)
 .have h1:(ps++Nf)[i]?=some y:=h1
  by_cases hi:i<ps.length
  .rw[w2o (by simpa [hl]using hi),w1i]at h2;rw[w2o hi]at h1
   have ha:vs[i]?=some v:=by
    grind
   obtain⟨u,hu,rv⟩:=r.get ha;exact⟨u,rv,.inl ⟨S.par y (w0u h1),X2 S.nd h1 hu⟩⟩
  .have vN:ps.length<=i:=w3a.mp hi;rw[w1w (by simpa [hl]using vN),w1i,w0a,hl]at h2;rw[w1w vN]at h1
   have ha:zs[i-ps.length]?=some v:=by
    grind
   obtain⟨c,o,u,e1,e2,e3,e4⟩:=C.val _ _ _ h1 ha;exact⟨u,e4,.inr ⟨.inr (S.fr y (w0u h1)),c,e1,o,hk _ _ (C.oi c o e2).1,e3⟩⟩
 .obtain⟨_,o,q,v,d⟩:=lj y c h;exact⟨v,o,hk _ _ q,d⟩
 .show _=(ps++Nf).length;simp[hl,hz]
def Zo
  (hr:br (k+1) A)(e0:iU P w K mg base A outer s H)(hf:H f=some (lY (kla_obj name qual params body scope cl pm c' eB) qual c'))
  (S:gQ ps Nf scope)(CI:bu H cs)(C:ji cl Nf scope zs s.heap cs)(l6:bindArgs (kla_fn name qual params body scope cl pm (.ref c') eB) ⟨us,[]⟩=pure (ps.zip us))
  (hl:vs.length=ps.length)(hz:zs.length=Nf.length)(r:Vals vs us)
  (hb:PE (j_ P w K mg base (ps++Nf) qual scope f (.ref c') cl A outer s (dg H cs)) body t)(hq:t (vs.map some++zs.map some) (dg H cs) λv H'=>(∀b o,cs.lookup b=some o->H' b=none)->Q v (bT H' cs)):
  codeAny (model P w) A (.call (.ref f) ⟨us,[]⟩) (CR CX outer P w H s Q E) s:=by
 have lim:s.heap.NoLimit:=e0.mod.nolimit.keeps λb o e=>(e0.bs b o e).1
 obtain⟨R_,ei⟩:=Zm e0.aG hf
 have e1:iU P w K mg base A outer s (dg H cs):=⟨e0.frames,e0.mod,λb o q=>⟨(e0.bs b o q).1,AN (e0.bs b o q).2⟩,e0.mM,e0.eM,λb hb=>AN (e0.oo b hb),e0.aG.rm CI,e0.bare,λa q P m=>by
  obtain⟨ps,e,p⟩:=e0.tab a q P m;exact⟨ps,CI.cW e (λo z=>nomatch z),p⟩⟩
 refine PySem.W.kla_callFunE hr.depth R_ rfl S.co S.gen rfl ei ?_;rw[l6];refine wpAny_pure (wpAny_newFunctionEnv S.qB (λy hy=>S.par y.1 (w2t hy).1) (λdY l9 Ci=>⟨lim.fresh _ Ci,?_⟩) S.kind)
 show codeAny _ _ (.expr body (er qual scope f (.ref c') cl s)) _ _;have I:=Zn (tk:=s.toks+(ps.zip us).length) (qual:=qual) (f:=f) (cd:=.ref c') S C hr.hd e1 (λc o q=>wW q) hl hz r l9 Ci
 refine PySem.W.kla_codeExpr (wpAny_mono (hb [] _ _ _ _ I hq) (λu s' ph=>?_) λe s' z=>False.elim z)
 obtain⟨v,H',J,rv,q⟩:=ph;have un:Un (fk outer) [] (dg H cs) H' s.heap s'.heap:=J.base;refine⟨v,bT H' cs,J.os,J.bare,un.cells CI,J.aG.add λb o z=>?_,rv,q λb o z=>un.free b o (C.oi b o z).1 (wW z) (by simp)⟩
 have nf:b∉fk outer:=λhb=>by
  have:=e0.oo b hb;rw[CI b o z]at this;cases this
 have g:=(C.oi b o z).1;exact⟨un.free b o g (wW z) (by simp),un.keep b o g (wW z) nf (by simp)⟩
end
def rC(P:Program)(w:World)(K:Fg)(mg:Str->Option Value)(base:Heap)(CX:nY)(k:Nat)(sp:V->List V->Hp->VK->XK->Prop):Prop:=∀(x:V)(vs:List V)(H:Hp)(Q:VK)(E:XK),sp x vs H Q E ->
 ∃f oc od fd sl u,x=.ref f/\H f=some (.cP ⟨oc,od,.func fd,sl⟩ u)/\∀(A:Around)(outer:List Env)(s:Shared)(us:List Value),br k A->iU P w K mg base A outer s H->Vals vs us ->
  codeAny (model P w) A (.call (.ref f) ⟨us,[]⟩) (CR CX outer P w H s Q E) s
def Ed(H:Hp)(x:V):Prop:=∃f oc od fd sl u,x=.ref f/\H f=some (.cP ⟨oc,od,.func fd,sl⟩ u)
def xi(sp:V->List V->Hp->VK->XK->Prop)(EE:L2.St->XK)(tv:TE)(t:TA):TE:=λσ H Q=>tv σ H λx H1=>Ed H1 x/\t σ H1 λvs H2=>sp x vs H2 Q (EE σ)
section
variable{CX:nY}{k:Nat}{sp:V->List V->Hp->VK->XK->Prop}{p:Pos}{tv:TE}{t:TA}
def X3(F:rC X.prog X.w X.K X.mg X.base CX k sp)(hr:br k X.A)(hv:PE X (.Name x p) tv)(hx:eF CX X EE)(ha:PA X (e::es) t)
  (he:autoParam (starEach (e::es) X.env=(false,eval e X.env)::starEach es X.env) jJ)(du:autoParam ((backTo pos (starEach es X.env)).any (·.1)=false) jJ):
  PE X (.Call (.Name x p) (e::es) [] pos) (xi sp EE tv t):=by
 intro pins s σ H Q I h;refine wpAny_Call_Name_kw (bt (hv pins s σ H _ I h) λu s1 ⟨y,H1,I1,ry,⟨f,oc,od,fd,sl,uu,ey,ef⟩,q⟩=>?_)
 subst ey;obtain rfl:u=Value.ref f:=ry;refine PySem.W.callWith_F ⟨oc,od,fd,sl,(show s1.heap.get? f=some _/\_ from I1.aG f _ ef).1⟩ (bt (ha pos pins s1 σ H1 _ I1 q) λus s2 ⟨vs,H2,I2,r,q2⟩=>?_) he du
 obtain⟨f',Tf,Tg,RC,rZ,u',Kd,Rr,run⟩:=F _ _ _ _ _ q2;cases Kd;refine⟨⟨Tf,Tg,RC,rZ,(show s2.heap.get? f=some _/\_ from I2.aG f _ Rr).1⟩,wpAny_call (codeAny_mono (run X.A X.stack s2 us hr I2.pW r) λr s' hq=>?_)⟩
 cases r with
 |error e=>exact hx pins σ H2 s2 e s' I2 hq
 |ok fl=>
  cases fl with
  |ret u=>exact I2.after hq
  |next=>exact False.elim hq
  |brk=>exact False.elim hq
  |cont=>exact False.elim hq
end
def V5(l)(h:TriplesOk l)(z:codeAmong pos' (l++[rawInt a,rawInt b,c])=some cv):codeAmong pos' l=some cv\/cv=c:=by
 fun_induction TriplesOk l with
 |case1=>
  grind [codeAmong,rawInt]
 |case2 x t y u v rest ih=>
  simp only[List.cons_append,codeAmong]at z |-
  grind
 |case3=>exact h.elim
def BMain(h:Heap)(mg:Str->Option Value):Prop:=∃bm ob,mg "__builtins__"=some (.ref bm)/\bm≠builtinsNs/\h.get? bm=some ob/\ob.cls=.type "module" /\ ob.dict=some builtinsNs/\ob.data=.plain
def nZ(X:Cx)(params:Arguments)(body:Expr)(scope:Scope)(aY:List (Str×Addr))(f:Addr)(H H':Hp):Prop:=closureFor scope X.env=pure aY/\∃(H1:Hp)(pm eB:Value)(c':Addr),(H1=H\/∃c oc,H c=none/\H1=upd H c (qQ oc))/\H1 f=none /\
 H'=upd H1 f (lY (kla_obj "<lambda>" (X.env.qual++"<lambda>") params body scope aY pm c' eB) (X.env.qual++"<lambda>") c')
def Bw(X:Cx)(params:Arguments)(body:Expr)(scope:Scope):TE:=λ_ H Q=>∀f aY H',nZ X params body scope aY f H H'->Q (.ref f) H'
structure Maker(X:Cx):Prop where
 ex:∃c P a,X.env.code=.ref c/\codeHdIn X.K c P=true/\(a,iN P (X.env.qual++"<lambda>"))∈X.K
 bm:BMain X.base X.mg
def Py(M:Maker X)(kR:defaultsOf params X.env=([],[]))(b7:∀x∈scope.names,x.2=.free->X.env.kindOf x.1=some .cell\/X.env.kindOf x.1=some .free):
  PE X (.Lambda params body scope et) (Bw X params body scope):=by
 intro pins s σ H Q I h;obtain⟨aY,eN,_,_⟩:=AG (scope:=scope) (env:=X.env) λx hx hf=>I.ok.has x.1 (b7 x hx hf)
 obtain⟨c,P,a,uA,rK,zO⟩:=M.ex;have KA:=PySem.W.codeHd_of_K I.mod.uL rK;obtain⟨ps,hP,p0,p1⟩:=I.ok.tab a _ P zO;obtain⟨more,eP⟩:=I.base.e9 P ps hP
 have q0:(ps++more)[0]?=some (.bool true):=by
  grind
 have q1:(ps++more)[1]?=some (.str (X.env.qual++"<lambda>") 0):=by
  grind
 have oP:aN X.prog X.w H s.heap P (.nU (ps++more)):=I.aG P _ eP;rcases oP with⟨q,qs,r0,r1,g1,tr,cd⟩|⟨_,_,_,_,_,_,r0,_⟩
 case inr=>rw[q0]at r0;cases r0
 rw[q1]at r1;cases r1;have nP:∀b,H b=none->b≠P:=λb n z=>by rw[z,eP]at n;cases n
 have Sa:mainGlobals≠P:=by
  obtain⟨o,es,ep,e,_⟩:=I.mod.glob;exact nP _ (I.bs _ o e).2
 have hB:s.heap.BuiltinsAt X.mg P:=by
  obtain⟨bm,ob,b1,b2,b3,b4,b5,b6⟩:=M.bm;refine⟨bm,ob,b1,b2,λz=>?_,nP _ (I.bs bm ob b3).2,(I.bs bm ob b3).1,b4,b5,b6⟩
  obtain⟨o,es,ep,e,d,_⟩:=I.mod.glob
  grind
 have l9:=I.mod.glob.keeps I.bk;refine PySem.W.kla_eval kR ?_;cases hc:codeAmong et qs.toList with
 |some cv=>
  obtain⟨c',oc,vs,t,rfl,k1,k2,k3⟩:=cd et cv hc;refine PySem.W.kla_makeFunctionHit (mg:=X.mg) eN I.ok.glob l9 uA (KA.keeps I.bk) g1 tr hc hB λeB h' tk hk hsz=>?_
  have fr:H h'.objs.size=none:=I.aG.fresh hsz;refine⟨.ref h'.objs.size,_,I.laid (t':=tk) (λb u e=>Heap.get?_push_of_some _ (hk b u e)) hsz ?_,rfl,h _ aY _ ⟨eN,H,(X.mg "__name__").getD .none,eB,c',.inl rfl,fr,rfl⟩⟩
  exact⟨Heap.get?_push_size _ rfl,.inr ⟨_,c',oc,_,vs,t,rfl,rfl,rfl,by rw[aU (gA k1 fr)];exact k1,k2,k3,Heap.get?_push_size _ rfl⟩⟩
 |none=>
  refine PySem.W.kla_makeFunction (mg:=X.mg) eN I.ok.glob l9 uA (KA.keeps I.bk) g1 tr hc Sa hB λc' eB h' tk hx Ky cb Fh SF=>?_
  obtain⟨c2,oc,vs,t,ec,uF,hd,hv⟩:=Fh;cases ec;have fc:H c'=none:=I.aG.fresh Ky;have i0:∀b u,H b=some u->b≠c':=λb u z=>gA z fc
  have kp:∀b o,H b=none->s.heap.get? b=some o->h'.get? b=some o:=λb o n e=>hx b o (nP b n) e
  have E_:c9 X.prog X.w (upd H c' (qQ oc)) h':=λa u e=>by
   by_cases ha:a=c'
   .subst ha;rw[bV]at e;cases e;exact⟨uF,oc,uF⟩
   .rw[aU ha]at e
    by_cases RX:a=P
    .subst RX;rw[eP]at e;cases e;refine .inl ⟨_,_,q0,q1,SF,?_,λpos cv z=>?_⟩
     .grind [TriplesOk_snoc]
     .rw[Array.toList_append]at z;rcases V5 _ tr z with z|z
      .grind [aU]
      grind [bV]
    .refine(I.aG a u e).eQ (λb v hb q=>hx b v ?_ q) (λb q=>by grind [aU]) λb v _ q=>by grind [aU]
     grind
  have un:Un X.fs [] H (upd H c' (qQ oc)) s.heap h':=by
   refine⟨λb o q n _ _=>kp b o n q,λb o q n _ _=>⟨o.slots,kp b o n q⟩,λb o q n _=>?_,λb o q _=>?_,λb xs q=>by grind [aU],λb o u q=>by grind [aU],λb qs q=>⟨#[],by grind [aU]⟩⟩
   .rw[aU (w0m (w0r (Heap.lt_size q) Ky))];exact n
   .by_cases hb:b=P
    .grind
    .exact⟨o,hx b o hb q⟩
  have I1:Inv X pins σ (upd H c' (qQ oc)) {s with heap:=h',toks:=tk}:=I.un un E_;have f1:upd H c' (qQ oc) h'.objs.size=none:=I1.aG.fresh (w0c _);refine⟨.ref h'.objs.size,_,I1.laid (t':=tk) (λb u e=>Heap.get?_push_of_some _ e) (w0c _) ?_,rfl,h _ aY _ ⟨eN,_,(X.mg "__name__").getD .none,eB,c',.inr ⟨c',oc,fc,rfl⟩,f1,rfl⟩⟩
  exact⟨Heap.get?_push_size _ rfl,.inr ⟨_,c',oc,_,vs,t,rfl,rfl,rfl,by rw[aU (gA bV f1)];exact bV,hd,hv,Heap.get?_push_size _ rfl⟩⟩
theorem LJ{α:Type}{v:α}:∀{l:List (Addr×α)},(k,v)∈l->∃v',l.lookup k=some v'
 |[],h=>nomatch h
 |(a,b)::l,h=>by
  rw[List.lookup_cons]
  by_cases e:(k==a)=true
  .simp_all
  .rw[w2j.mpr e];rcases w0e.mp h with z|z
   .cases z;simp at e
   .exact LJ z
def dD(aY:List (Str×Addr))(h:Heap):Cs:=(aY.map (·.1)).filterMap λx=>(aY.lookup x).bind λc=>(h.get? c).map λo=>(c,o)
def GA(e:(dD aY h).lookup c=some o):∃x,aY.lookup x=some c/\h.get? c=some o:=by
 obtain⟨x,_,hx⟩:=w2f.mp (PySem.W.mem_of_lookupK e)
 grind [Option.bind_eq_some_iff,Option.map_eq_some_iff]
def CQ(e:aY.lookup x=some c)(g:h.get? c=some o):(dD aY h).lookup c=some o:=by
 have hm:(c,o)∈dD aY h:=w2f.mpr ⟨x,w0q.mpr ⟨(x,c),PySem.mem_of_lookup e,rfl⟩,by grind⟩;obtain⟨o',e'⟩:=LJ hm
 grind [GA]
structure kJ(aY:List (Str×Addr))(Nf:List Str)(scope:Scope)(js:List Nat)(σ:St)(H:Hp)(cs:Cs):Prop where
 inj:∀x y c,aY.lookup x=some c->aY.lookup y=some c->x=y
 has:∀x,(x,NameKind.free)∈scope.names->∃c,aY.lookup x=some c
 all:∀x c,aY.lookup x=some c->∃o,cs.lookup c=some o
 oi:∀c o,cs.lookup c=some o->H c=none/\∃v,o.data=.cell v
 val:∀(i:Nat) y j z,Nf[i]?=some y->js[i]?=some j->σ[j]?=some (some z)->∃c o u,aY.lookup y=some c/\cs.lookup c=some o/\o.data=.cell (some u)/\RelV z u
def Vw{e:Value}(hc:∀b o,cs.lookup b=some o->H b=none/\s.heap.get? b=some o)
  (x:eA P w outer (bT H cs) s (λc o H'=>E c o (dg H' cs)) e s'):eA P w outer H s E e s':=by
 obtain⟨e,cls,H',B,rfl,pf,hg,un,aG,gq,hE⟩:=x;have CI:bu H' cs:=λb o z=>un.aW b o _ (o8 z)
 refine⟨e,cls,dg H' cs,B,rfl,pf,hg,un.fW aG hc,aG.rm CI,⟨gq.fl,λb o q n nb=>?_,λb u o q z=>gq.nV b u o (JG q).1 z,gq.all,gq.new⟩,hE⟩
 cases z:cs.lookup b with
 |some o'=>
  have:=(hc b o' z).2;rw[q]at this;cases this;exact gq.nV b _ o (CI b o z) ((show s'.heap.get? b=some o/\_ from aG b _ (CI b o z)).1)
 |none=>exact gq.old b o q (by rw[h9 z];exact n) nb
def jB(h:(pure a:Sem α)=pure b):a=b:=by
 first
  |exact PySem.Sem.jB h
  |(injection h)
  |(cases h;rfl)
section
variable{k:Nat}{f:Addr}{fd:FuncData}{ps:List Str}{sp:Sp}
def Zp{σ:St}(F:eC X.prog X.w X.K X.mg X.base (eA X.prog X.w) k f fd ps sp)(hr:br k X.A)(hb:Binds X.K fd ps [])(hx:eF (eA X.prog X.w) X EE)
  (I:Inv X pins σ H s)(hc:∀b o,cs.lookup b=some o->H b=none/\s.heap.get? b=some o)(hv:∀b o,cs.lookup b=some o->b∉fk X.stack)(hn:∀b o,cs.lookup b=some o->X.base.get? b=none)(r:Vals vs us)
  (h:sp vs (bT H cs) (λv H'=>Q v (dg H' cs)) λc o H'=>EE σ c o (dg H' cs)):wpAny (model X.prog X.w) X.A (call (.ref f) us) (EP X pins σ Q) X.xe s:=by
 have hl:us.length=ps.length:=by rw[<- r.length];exact F.len _ _ _ _ h
 have e0:=I.pW
 have out:∀b,H b=none->(∀o,cs.lookup b≠some o)->bT H cs b=none:=λb n z=>by
  cases q:cs.lookup b with
  |some o=>exact absurd q (z o)
  |none=>rw[h9 q];exact n
 have e1:iU X.prog X.w X.K X.mg X.base X.A X.stack s (bT H cs):=by
  refine⟨e0.frames,e0.mod,λb o q=>⟨(e0.bs b o q).1,out b (e0.bs b o q).2 λo' z=>?_⟩,e0.mM,e0.eM,λb hb=>out b (e0.oo b hb) λo z=>?_,e0.aG.add hc,e0.bare,λa q P m=>?_⟩
  .grind
  .exact hv b o z hb
  .obtain⟨ps,e,p⟩:=e0.tab a q P m;refine⟨ps,?_,p⟩;cases z:cs.lookup P with
   |some o=>grind
   |none=>rw[h9 z];exact e
 have xH:=hb s us I.ky (by grind);rw[w2d]at xH;refine wpAny_call (codeAny_mono (F.run X.A X.stack s (bT H cs) ⟨us,[]⟩ us vs _ _ hr e1 xH r h) λr s' hq=>?_)
 cases r with
 |error e=>exact hx pins σ H s e s' I (Vw hc hq)
 |ok fl=>
  cases fl with
  |ret u=>
   obtain⟨v,H',os,bare,un,aG,rv,q⟩:=hq;have CI:bu H' cs:=λb o z=>un.aW b o _ (o8 z)
   exact I.after ⟨v,dg H' cs,os,bare,un.fW aG hc,aG.rm CI,rv,q⟩
  |next=>exact False.elim hq
  |brk=>exact False.elim hq
  |cont=>exact False.elim hq
def yE(sp:Sp)(X:Cx)(scope:Scope)(Nf:List Str)(js:List Nat)(E:XK)(σ:St)(Q:VK)(vs:List V)(H2:Hp):Prop:=∃aY,closureFor scope X.env=pure aY/\∀cs,kJ aY Nf scope js σ H2 cs ->
 sp vs (bT H2 cs) (λv H'=>Q v (dg H' cs)) λc o H'=>E c o (dg H' cs)
def rl(sp:Sp)(X:Cx)(params:Arguments)(body:Expr)(scope:Scope)(Nf:List Str)(js:List Nat)(EE:L2.St->XK)(te:TE):TE:=λσ H Q=>te σ H λv1 H1=>∀f aY H2,nZ X params body scope aY f H1 H2->yE sp X scope Nf js (EE σ) σ Q [v1,.ref f] H2
def V6{params:Arguments}{body:Expr}{scope:Scope}{et p:Pos}{Nf:List Str}{js:List Nat}(F:eC X.prog X.w X.K X.mg X.base (eA X.prog X.w) k f fd ps sp)(hr:br k X.A)(hg:Gl X x)(hm:X.mg x=some (.ref f))(hk:keepIn X.K (.ref f)=true)
  (hb:Binds X.K fd ps [])(hx:eF (eA X.prog X.w) X EE)(M:Maker X)(qg:∀y,X.fn y=true)(he:PE X e te)(kR:defaultsOf params X.env=([],[]))
  (b7:∀x∈scope.names,x.2=.free->X.env.kindOf x.1=some .cell\/X.env.kindOf x.1=some .free)
  (nh:∀(i j:Nat) y,Nf[i]?=some y->js[i]?=some j->X.N[j]?=some y/\(y,NameKind.free)∈scope.names/\jI X.env.scope y/\X.env.kindOf y≠some .local)
  (ix:autoParam ((x==("__debug__":Str))=false) jK)(jY:autoParam (starEach [e,.Lambda params body scope et] X.env=(false,eval e X.env)::starEach [.Lambda params body scope et] X.env) jJ)
  (vS:autoParam (starEach [.Lambda params body scope et] X.env=(false,eval (.Lambda params body scope et) X.env)::starEach [] X.env) jJ)(du:autoParam ((backTo pos (starEach [.Lambda params body scope et] X.env)).any (·.1)=false) jJ):
  PE X (.Call (.Name x p) [e,.Lambda params body scope et] [] pos) (rl sp X params body scope Nf js EE te):=by
 intro pins s σ H Q I h;have ha:PA X [e,.Lambda params body scope et] (rj te (rj (Bw X params body scope) Bz)):=x9 he (x9 (Py M kR b7) Dt vS) jY;refine wpAny_Call_Name_kw (x8 I hg hm ?_ ix);refine PySem.W.callWith_K (h₀:=X.base) I.ok.mod.uL hk (bt (ha pos pins s σ H (yE sp X scope Nf js (EE σ) σ Q) I h) λus s1 ⟨vs,H2,I2,r,aY,eN,q⟩=>⟨I2.ky,?_⟩) jY du
 obtain⟨eI,nq,f6,mP⟩:=AG (scope:=scope) (env:=X.env) λx hx hf=>I.ok.has x.1 (b7 x hx hf)
 obtain rfl:eI=aY:=jB (nq.symm.trans eN)
 have look:∀b o,(dD eI s1.heap).lookup b=some o->∃x,X.env.cells.lookup x=some b/\s1.heap.get? b=some o:=λb o z=>by
  obtain⟨x,h1,h2⟩:=GA z;exact⟨x,f6 x b h1,h2⟩
 have kn:∀b o,(dD eI s1.heap).lookup b=some o->H2 b=none/\s1.heap.get? b=some o:=λb o z=>by
  obtain⟨x,h1,h2⟩:=look b o z;exact⟨I2.c7 x b h1,h2⟩
 have ur:∀b o,(dD eI s1.heap).lookup b=some o->X.ax.heap.objs.size<=b:=λb o z=>by
  obtain⟨x,h1,h2⟩:=look b o z;exact I2.ok.ue x b (qg x) h1
 refine Zp (cs:=dD eI s1.heap) F hr hb hx I2 kn (λb o z hb=>?_) (λb o z=>Heap.get?_none_of_le (w0s I2.ok.mM (ur b o z))) r (q _ ⟨λx y c e1 e2=>I2.ok.inj x y c (f6 x c e1) (f6 y c e2),mP,λx c e=>?_,λc o e=>⟨(kn c o e).1,?_⟩,λi y j z e1 e2 e3=>?_⟩)
 .rcases w0e.mp (I2.jG b hb)with e|zp
  .obtain⟨x,h1,_⟩:=look b o z;exact I2.rE x b h1 e
  .obtain⟨_,o',q',_⟩:=I2.ok.eM.mem zp
   exact absurd (Heap.lt_size q') (w3a.mpr (ur b o z))
 .obtain⟨v,o,g,_⟩:=I2.cell x c (f6 x c e);exact⟨o,CQ e g⟩
 .obtain⟨x,h1,h2⟩:=look c o e;obtain⟨v,o',g,d⟩:=I2.cell x c h1;rw[h2]at g;cases g;exact⟨v,d⟩
 .obtain⟨n1,n2,n3,n4⟩:=nh i j y e1 e2;obtain⟨m,hm,hl⟩:=I2.loc;obtain⟨u,ru,l⟩:=hl j y z n1 e3 n3;rcases l with⟨k1,_⟩|⟨k1,c,ec,o,g,d⟩
  .exact absurd k1 n4
  .obtain⟨c',sH⟩:=mP y n2;have e4:=f6 y c' sH;rw[ec]at e4;cases e4;exact⟨c,o,u,sH,CQ sH g,d,ru⟩
end
set_option maxHeartbeats 1000000
def Sh.Fv:Sh->Bool
 |.many .int=>true
 |_=>false
def Sh.rP:Sh->Bool
 |.int=>true
 |.str=>true
 |_=>false
end L2
namespace D
open PySem L2
variable{G H:Hp}{EE:L2.St->XK}{es:List Expr}{i:Nat}{p pos pos':Pos}{K:Fg}{σ:St}{x:Str}
abbrev Sv:=Int ⊕ Bool
inductive Dd where
 |k (kvs:List (Key×Sv))
structure Lm where
 qual:Str
 params:Arguments
 body:Expr
 scope:Scope
 nf:List Str
set_option genInjectivity true in
inductive W where
 |aE|bl (b:Bool)|int (i:Int)|str (x:Str)|tup (xs:List W)|lst (xs:List W)|exc (c:Value)|a8 (kvs:Dd)|dw (fz:Bool) (sh:Sh) (ks:List Kx) (ws:List W)|fn (i:Nat) (l:Lm) (ws:List W)
variable{ws:List W}
inductive S where
 |no|fr (w:W)|own (io:Option Nat) (ws:List W)|a8 (kvs:Dd)|nest (bo:List (List W))|dw (sh:Sh) (ks:List Kx) (ws:List W)
def sV:Sv->V
 |.inl i=>.int i
 |.inr b=>.bl b
def v8{κ:Type}(kvs:List (κ×Sv)):List (κ×V):=kvs.map λp=>(p.1,sV p.2)
def dO:Dd->HO
 |.k kvs=>.dK (v8 kvs)
def zZ:HO->Bool
 |.dK _=>true
 |_=>false
theorem tJ(h:zZ u=false):dO d≠u:=λz=>by
 subst z;cases d<;>cases h
def cY(G:Hp):List Kx->List Addr->Prop
 |[],[]=>True
 |k::ks,b::bs=>cx G k (.ref b)/\cY G ks bs
 |[],_::_=>False
 |_::_,[]=>False
theorem cY.mono(e:ak G G'):∀{ks:List Kx}{bs:List Addr},cY G ks bs->cY G' ks bs
 |[],[],_=>trivial
 |k::ks,b::bs,h=>⟨cx.keeps (λ_ _ _ z=>e _ _ z) k h.1,cY.mono e h.2⟩
 |[],_::_,h=>h.elim
 |_::_,[],h=>h.elim
def KZ:Kx->Key
 |.int i=>.inl i
 |.str x=>.inr x
 |_=>.inl 0
def FA:Sh->Kx->Prop
 |.int,k=>∃i,k=.int i
 |.str,k=>∃x,k=.str x
 |_,_=>False
def oj(sh:Sh)(kvs:List (Kx×V))(bp:List Addr):HO:=if sh.rP=true then .dK (kvs.map λp=>(KZ p.1,p.2))else .dT sh kvs bp
def Fu:HO->Bool
 |.dK _=>true
 |.dT _ _ _=>true
 |_=>false
theorem tH(h:Fu u=false):oj sh kvs bp≠u:=λz=>by
 subst z;unfold oj at h;split at h<;>cases h
theorem yi(h:sh.rP=false):oj sh kvs bp=.dT sh kvs bp:=if_neg (by grind)
def cf(sh:Sh)(G:Hp)(ks:List Kx)(bp:List Addr):Prop:=if sh.rP=true then ∀k∈ks,FA sh k else cY G ks bp
def cf.mono(e:ak G G')(h:cf sh G ks bs):cf sh G' ks bs:=by
 unfold cf at h |-
 split at h
 .grind
 .rename_i hi;rw[if_neg hi];exact h.mono e
def cf.g(h:cf sh G ks bs)(hi:sh.rP=false):cY G ks bs:=by
 simp_all [cf]
def cf.of(h:cY G ks bs)(hi:sh.rP=false):cf sh G ks bs:=by
 simp_all [cf]
def sq(fz:Bool)(G:Hp)(a:Addr)(sh:Sh)(kvs:List (Kx×V))(bp:List Addr):Prop:=if fz=true then ∃o,G a=some (.cP o (oj sh kvs bp))else G a=some (oj sh kvs bp)
def sq.ex(h:sq fz G a sh kvs bp):∃o,G a=some o:=by
 grind [sq]
def sq.mono(e:ak G G')(h:sq fz G a sh kvs bp):sq fz G' a sh kvs bp:=by
 cases fz with
 |true=>obtain⟨o,h⟩:=h;exact⟨o,e _ _ h⟩
 |false=>exact e _ _ h
structure fQ(G:Hp)(cl:List (Str×Addr))(l:Lm)(zs:List V)(cs:Cs):Prop where
 inj:∀x y c,cl.lookup x=some c->cl.lookup y=some c->x=y
 has:∀x,(x,NameKind.free)∈l.scope.names->∃c,cl.lookup x=some c
 all:∀x c,cl.lookup x=some c->∃o,cs.lookup c=some o
 oi:∀c o,cs.lookup c=some o->G c=some (kO o)/\∃v,o.data=.cell v
 val:∀(i:Nat) y z,l.nf[i]?=some y->zs[i]?=some z->∃c o u,cl.lookup y=some c/\cs.lookup c=some o/\o.data=.cell (some u)/\RelV z u
 len:zs.length=l.nf.length
theorem fQ.mono(e:ak G G')(h:fQ G cl l zs cs):fQ G' cl l zs cs:=⟨h.inj,h.has,h.all,λc o q=>⟨e _ _ (h.oi c o q).1,(h.oi c o q).2⟩,h.val,h.len⟩
def yB(G:Hp)(l:Lm)(cl:List (Str×Addr))(f:Addr):Prop:=∃pm c' eB,G f=some (lY (kla_obj "<lambda>" l.qual l.params l.body l.scope cl pm c' eB) l.qual c')
inductive pO(v:V)(P Q:Addr->List V->Prop):Prop where
 |mk (a:Addr) (xs:List V) (h:v=.ref a) (p:P a xs) (q:Q a xs):pO v P Q
inductive pH(xs:List V)(P:V->Prop)(Q:List V->Prop):Prop where
 |mk (x:V) (r:List V) (h:xs=x::r) (p:P x) (q:Q r):pH xs P Q
mutual
noncomputable def Rep(K:Fg)(G:Hp):W->V->Prop
 |.aE,v=>v=.aE
 |.bl b,v=>v=.bl b
 |.int i,v=>v=.int i
 |.str x,v=>v=.str x
 |.tup ws,v=>pO v (cZ K G) λ_ xs=>ao K G ws xs
 |.lst ws,v=>pO v (bB K G) λ_ xs=>ao K G ws xs
 |.exc c,v=>∃e,v=.ref e/\G e=some (m_ e c)
 |.a8 kvs,v=>∃e,v=.ref e/\G e=some (dO kvs)
 |.dw fz sh ks ws,v=>∃a kvs bp,v=.ref a/\sq fz G a sh kvs bp/\kvs.map (·.1)=ks/\cf sh G ks bp/\ao K G ws (kvs.map (·.2))
 |.fn _ l ws,v=>∃f cl zs cs,v=.ref f/\yB G l cl f/\fQ G cl l zs cs/\ao K G ws zs
noncomputable def ao(K:Fg)(G:Hp):List W->List V->Prop
 |[],xs=>xs=[]
 |w::ws,xs=>pH xs (Rep K G w) (ao K G ws)
end
mutual
theorem Rep.mono{K:Fg}{G G':Hp}(e:ak G G'):∀(w:W){v:V},Rep K G w v->Rep K G' w v
 |.aE,v,h=>h
 |.bl b,v,h=>h
 |.int i,v,h=>h
 |.str x,v,h=>h
 |.tup ws,v,h=>by
  obtain⟨a,xs,rfl,q,r⟩:=h;exact⟨a,xs,rfl,e.tup q,ao.mono e ws r⟩
 |.lst ws,v,h=>by
  obtain⟨a,xs,rfl,q,r⟩:=h;exact⟨a,xs,rfl,e.seq q,ao.mono e ws r⟩
 |.exc c,v,h=>by
  obtain⟨a,rfl,q⟩:=h;exact⟨a,rfl,e _ _ q⟩
 |.a8 kvs,v,h=>by
  obtain⟨a,rfl,q⟩:=h;exact⟨a,rfl,e _ _ q⟩
 |.dw fz sh ks ws,v,h=>by
  obtain⟨a,kvs,bp,rfl,h1,h2,h3,h4⟩:=h;exact⟨a,kvs,bp,rfl,h1.mono e,h2,h3.mono e,ao.mono e ws h4⟩
 |.fn i l ws,v,h=>by
  obtain⟨f,cl,zs,cs,rfl,⟨pm,c',eB,h1⟩,h2,h3⟩:=h;exact⟨f,cl,zs,cs,rfl,⟨pm,c',eB,e _ _ h1⟩,h2.mono e,ao.mono e ws h3⟩
theorem ao.mono{K:Fg}{G G':Hp}(e:ak G G'):∀(ws:List W){xs:List V},ao K G ws xs->ao K G' ws xs
 |[],xs,h=>h
 |w::ws,xs,h=>by
  obtain⟨x,r,rfl,h1,h2⟩:=h;exact⟨x,r,rfl,Rep.mono e w h1,ao.mono e ws h2⟩
end
theorem ao.length:∀{ws:List W}{xs:List V},ao K G ws xs->xs.length=ws.length
 |[],xs,h=>by cases h;rfl
 |w::ws,xs,h=>by
  obtain⟨x,r,rfl,_,h2⟩:=h;simp[ao.length h2]
theorem ao.get:∀{ws:List W}{xs:List V}{i:Nat}{w:W},ao K G ws xs->ws[i]?=some w->∃x,xs[i]?=some x/\Rep K G w x
 |[],xs,i,w,h,e=>by simp at e
 |w'::ws,xs,0,w,h,e=>by
  obtain⟨x,r,rfl,h1,h2⟩:=h;simp at e;subst e;exact⟨x,rfl,h1⟩
 |w'::ws,xs,i+1,w,h,e=>by
  obtain⟨x,r,rfl,h1,h2⟩:=h;obtain⟨y,e1,e2⟩:=ao.get (i:=i) h2 (by simpa using e);exact⟨y,by simpa using e1,e2⟩
theorem ao.iZ:∀{ws:List W}{xs:List V}{i:Nat}{x:V},ao K G ws xs->xs[i]?=some x->∃w,ws[i]?=some w/\Rep K G w x:=λ{ws xs i x} h e=>by
 have hl:=h.length;have hi:i<xs.length:=(w0b.mp e).1;have e2:ws[i]?=some ws[i]:=w0d (by omega);obtain⟨y,e3,r⟩:=h.get e2
 grind
theorem ao.append:∀{ws ws':List W}{xs i8:List V},ao K G ws xs->ao K G ws' i8->ao K G (ws++ws') (xs++i8)
 |[],ws',xs,i8,h,h'=>by cases h;exact h'
 |w::ws,ws',xs,i8,h,h'=>by
  obtain⟨x,r,rfl,h1,h2⟩:=h;exact⟨x,r++i8,rfl,h1,ao.append h2 h'⟩
theorem ao.one{x:L2.V}(h:Rep K G w x):ao K G [w] [x]:=⟨x,[],rfl,h,rfl⟩
theorem ao.take:∀(n:Nat){ws:List W}{xs:List V},ao K G ws xs->ao K G (ws.take n) (xs.take n)
 |0,_,_,_=>rfl
 |n+1,[],_,h=>by cases h;rfl
 |n+1,w::ws,_,h=>by
  obtain⟨x,r,rfl,h1,h2⟩:=h;exact⟨x,r.take n,rfl,h1,ao.take n h2⟩
theorem ao.drop:∀(n:Nat){ws:List W}{xs:List V},ao K G ws xs->ao K G (ws.drop n) (xs.drop n)
 |0,_,_,h=>h
 |n+1,[],_,h=>by cases h;rfl
 |n+1,w::ws,_,h=>by
  obtain⟨x,r,rfl,h1,h2⟩:=h;exact ao.drop n h2
theorem ao.reverse:∀{ws:List W}{xs:List V},ao K G ws xs->ao K G ws.reverse xs.reverse
 |[],_,h=>by cases h;rfl
 |w::ws,_,h=>by
  obtain⟨x,r,rfl,h1,h2⟩:=h;rw[w2m,w2m];exact(ao.reverse h2).append (.one h1)
theorem ao.set:∀(i:Nat){ws:List W}{xs:List V}{w:W}{x:V},ao K G ws xs->Rep K G w x->ao K G (ws.set i w) (xs.set i x)
 |_,[],_,_,_,h,_=>by cases h;rfl
 |0,w'::ws,_,w,x,h,q=>by
  obtain⟨y,r,rfl,h1,h2⟩:=h;exact⟨x,r,rfl,q,h2⟩
 |i+1,w'::ws,_,w,x,h,q=>by
  obtain⟨y,r,rfl,h1,h2⟩:=h;exact⟨y,r.set i x,rfl,h1,ao.set i h2 q⟩
structure Zt where
 H:Hp
 G:Hp
 io:List Addr
variable{Z:Zt}
def oQ(Z:Zt)(G H:Hp)(l:Addr)(o:Obj)(ys:List V):Prop:=H l=some (.cP o (.lst ys))/\G l=none/\Z.H l=none
def aX(K:Fg)(Z:Zt)(G H:Hp):List Addr->List (List W)->Prop
 |[],[]=>True
 |l::ls,ws::bo=>(∃o ys,oQ Z G H l o ys/\ao K G ws ys)/\aX K Z G H ls bo
 |[],_::_=>False
 |_::_,[]=>False
inductive cy(K:Fg)(Z:Zt)(G H:Hp)(bo:List (List W))(v:Option V):Prop where
 |mk (a:Addr) (ls:List Addr) (h1:v=some (.ref a)) (h2:G a=some (.lst (ls.map V.ref))) (h3:ls.Nodup) (h4:aX K Z G H ls bo):cy K Z G H bo v
theorem aX.move(sg:ak G G')(hf:∀l o ys,H l=some (.cP o (.lst ys))->G l=none->Z.H l=none->H' l=some (.cP o (.lst ys))/\G' l=none/\Z'.H l=none):∀{ls:List Addr}{bo:List (List W)},aX K Z G H ls bo->aX K Z' G' H' ls bo
 |[],[],_=>trivial
 |l::ls,ws::bo,⟨⟨o,ys,⟨h1,h2,h3⟩,h4⟩,h⟩=>⟨⟨o,ys,hf l o ys h1 h2 h3,ao.mono sg ws h4⟩,h.move sg hf⟩
 |[],_::_,h=>h.elim
 |_::_,[],h=>h.elim
def cy.move(q:cy K Z G H bo v)(sg:ak G G')(hf:∀l o ys,H l=some (.cP o (.lst ys))->G l=none->Z.H l=none->H' l=some (.cP o (.lst ys))/\G' l=none/\Z'.H l=none):cy K Z' G' H' bo v:=by
 obtain⟨a,ls,h1,h2,h3,h4⟩:=q;exact⟨a,ls,h1,sg _ _ h2,h3,h4.move sg hf⟩
def fb(K:Fg)(Z:Zt)(G:Hp)(sh:Sh)(ws:List W)(vs:List V):Prop:=ao K G ws vs
theorem fb.mw(h:fb K Z G sh ws vs):ao K G ws vs:=h
theorem fb.of(hs:sh.Fv=false)(h:ao K G ws vs):fb K Z G sh ws vs:=h
theorem fb.nil:fb K Z G sh [] []:=rfl
theorem fb.move(h:fb K Z G sh ws vs)(sg:ak G G')(hz:∀a o,G a=some o->Z.H a=none->Z'.H a=none):fb K Z' G' sh ws vs:=ao.mono sg ws h
inductive iT(K:Fg)(Z:Zt)(G H:Hp)(sh:Sh)(ks:List Kx)(ws:List W)(v:Option V):Prop where
 |mk (a:Addr) (kvs:List (Kx×V)) (bp:List Addr) (h1:v=some (.ref a)) (h2:H a=some (oj sh kvs bp)) (h3:G a=none) (h4:Z.H a=none) (h5:kvs.map (·.1)=ks) (h6:cf sh G ks bp) (h7:fb K Z G sh ws (kvs.map (·.2))):iT K Z G H sh ks ws v
def iT.move{Z':Zt}{G' H':Hp}{sh:Sh}{ks:List Kx}{v:Option V}(q:iT K Z G H sh ks ws v)(sg:ak G G')(hf:∀a kvs bp,H a=some (oj sh kvs bp)->G a=none->Z.H a=none->H' a=some (oj sh kvs bp)/\G' a=none/\Z'.H a=none)(hz:∀a o,G a=some o->Z.H a=none->Z'.H a=none:=by intro _ _ _ z;exact z):iT K Z' G' H' sh ks ws v:=by
 obtain⟨a,kvs,bp,h1,h2,h3,h4,h5,h6,h7⟩:=q;obtain⟨k1,k2,k3⟩:=hf a kvs bp h2 h3 h4;exact⟨a,kvs,bp,h1,k1,k2,k3,h5,h6.mono sg,h7.move sg hz⟩
def pJ(Z:Zt):Option Nat->Addr->Prop
 |none,a=>Z.H a=none
 |some j,a=>Z.io[j]?=some a
def pJ.io(h:pJ Z b a):a∈Z.io\/Z.H a=none:=by
 cases b with
 |none=>exact .inr h
 |some j=>exact .inl (w0u h)
inductive t7(K:Fg)(Z:Zt)(G H:Hp)(b:Option Nat)(ws:List W)(v:Option V):Prop where
 |mk (a:Addr) (xs:List V) (h1:v=some (.ref a)) (h2:H a=some (.lst xs)) (h3:G a=none) (h4:pJ Z b a) (h5:ao K G ws xs):t7 K Z G H b ws v
inductive tZ(Z:Zt)(G H:Hp)(kvs:Dd)(v:Option V):Prop where
 |mk (a:Addr) (h1:v=some (.ref a)) (h2:H a=some (dO kvs)) (h3:G a=none) (h4:Z.H a=none):tZ Z G H kvs v
def ft(K:Fg)(Z:Zt)(G H:Hp):S->Option V->Prop
 |.no,_=>True
 |.fr w,v=>∃u,v=some u/\Rep K G w u
 |.own b ws,v=>t7 K Z G H b ws v
 |.a8 kvs,v=>tZ Z G H kvs v
 |.nest bo,v=>cy K Z G H bo v
 |.dw sh ks ws,v=>iT K Z G H sh ks ws v
structure Rel(K:Fg)(Z:Zt)(G:Hp)(σ:St)(H:Hp)(e:List S):Prop where
 sub:ak G H
 slot:∀(i:Nat)(s:S),e[i]?=some s->ft K Z G H s (σ[i]?.getD none)
 len:e.length=σ.length
 lW:∀(i j:Nat)(b b':Option Nat)(ws ws':List W)(a:Addr),e[i]?=some (.own b ws)->e[j]?=some (.own b' ws')->σ[i]?=some (some (.ref a))->σ[j]?=some (some (.ref a))->i=j
 ent:∀a o,Z.H a=some o->a∉Z.io->H a=some o
 ko:∀a∈Z.io,H a≠none
 gen:∀a,Z.H a≠none->G a=Z.G a
inductive sj(K:Fg)(Z:Zt)(σ:St)(H:Hp)(P:Hp->List S->Prop):Prop where
 |mk (G:Hp) (e:List S) (r:Rel K Z G σ H e) (h:P G e):sj K Z σ H P
structure aM(G H G' H':Hp):Prop where
 hh:ak H H'
 gg:ak G G'
 sub:ak G' H'
 new:∀a,H a≠none->G' a=G a
theorem aM.refl(s:ak G H):aM G H G H:=⟨.refl _,.refl _,s,λ_ _=>rfl⟩
theorem aM.trans(x:aM G H G1 H1)(y:aM G1 H1 G2 H2):aM G H G2 H2:=
 ⟨x.hh.trans y.hh,x.gg.trans y.gg,y.sub,λa h=>by
  rw[y.new a,x.new a h];cases q:H a with
  |none=>exact absurd q h
  |some o=>rw[x.hh a o q];simp⟩
def WI(e:ak H H')(h:H a≠none):H' a≠none:=by
 cases q:H a with
 |none=>exact absurd q h
 |some o=>rw[e a o q];simp
theorem aM.laid(s:ak G H)(h:H D=none)(o):aM G H (upd G D o) (upd H D o) where
 hh:=wJ h o
 gg:=wJ (s.free h) o
 sub:=λb u e=>by
  by_cases hb:b=D
  .grind [bV]
  .rw[aU hb]at e |-;exact s b u e
 new:=λa ha=>by grind [aU]
theorem aM.nu(s:ak G H)(h:H D=none)(o):aM G H G (upd H D o) where
 hh:=wJ h o
 gg:=.refl _
 sub:=λb u e=>by
  have:=s b u e;rw[aU (gA this h)];exact this
 new:=λa ha=>rfl
theorem Rel.grow(r:Rel K Z G σ H e)(g:aM G H G' H'):Rel K Z G' σ H' e where
 sub:=g.sub
 slot:=λi s h=>by
  have q:=r.slot i s h;cases s with
  |no=>trivial
  |fr w=>
   obtain⟨u,h1,h2⟩:=q;exact⟨u,h1,Rep.mono g.gg w h2⟩
  |own b ws=>
   obtain⟨a,xs,h1,h2,h3,h4,h5⟩:=q;exact⟨a,xs,h1,g.hh _ _ h2,by rw[g.new a (by rw[h2];simp)];exact h3,h4,ao.mono g.gg ws h5⟩
  |a8 kvs=>
   obtain⟨a,h1,h2,h3,h4⟩:=q;exact⟨a,h1,g.hh _ _ h2,by rw[g.new a (by rw[h2];simp)];exact h3,h4⟩
  |nest bo=>exact cy.move q g.gg λl o ys h1 h2 h3=>⟨g.hh _ _ h1,by rw[g.new l (by rw[h1];simp)];exact h2,h3⟩
  |dw sh ks ws=>exact iT.move q g.gg λl o ys h1 h2 h3=>⟨g.hh _ _ h1,by rw[g.new l (by rw[h1];simp)];exact h2,h3⟩
 len:=r.len
 lW:=r.lW
 ent:=λa o h n=>g.hh _ _ (r.ent a o h n)
 ko:=λa h=>WI g.hh (r.ko a h)
 gen:=λa h=>by
  have:H a≠none:=by
   cases q:Z.H a with
   |none=>exact absurd q h
   |some o=>
    by_cases hi:a∈Z.io
    .exact r.ko a hi
    .rw[r.ent a o q hi];simp
  rw[g.new a this];exact r.gen a h
def Rel.own(r:Rel K Z G σ H e)(h:e[i]?=some (.own b ws)):∃a xs,σ[i]?=some (some (.ref a))/\H a=some (.lst xs)/\G a=none/\(pJ Z b a)/\ao K G ws xs:=by
 obtain⟨a,xs,h1,h2,h3,h4,h5⟩:=r.slot i _ h
 grind
def Rel.fr(r:Rel K Z G σ H e)(h:e[i]?=some (.fr w)):∃v,σ[i]?=some (some v)/\Rep K G w v:=by
 obtain⟨v,h1,h2⟩:=r.slot i _ h
 grind
def Rel.at(r:Rel K Z G σ H e)(h:e[i]?=some s)(hs:ft K Z G H s (σ[i]?.getD none)->σ[i]?.getD none=some v):σ[i]?=some (some v):=by
 have h1:=hs (r.slot i _ h)
 grind
def Rel.mut(r:Rel K Z G σ H e)(h:e[i]?=some (.own b ws))(ha:σ[i]?=some (some (.ref a)))(q:ao K G ws' i8):Rel K Z G σ (upd H a (.lst i8)) (e.set i (.own b ws')):=by
 obtain⟨a',xs,h1,h2,h3,h4,h5⟩:=r.own h;rw[ha]at h1;cases h1;have hi:i<e.length:=(w0b.mp h).1;refine⟨λc o z=>?_,λj s z=>?_,by simpa using r.len,λj k b1 b2 w1 w2 c z1 z2 z3 z4=>?_,λc o z n=>?_,λc z=>?_,r.gen⟩
 .rw[aU (gA z h3)];exact r.sub c o z
 .by_cases hj:j=i
  .subst hj;rw[w0i hi]at z;cases z;exact⟨a,i8,by rw[ha];rfl,bV,h3,h4,q⟩
  .rw[w0g (λz=>hj z.symm)]at z
   have y:=r.slot j s z;cases s with
   |no=>trivial
   |fr w=>exact y
   |own b2 w2=>
    obtain⟨c,ys,y1,y2,y3,y4,y5⟩:=y;refine⟨c,ys,y1,?_,y3,y4,y5⟩;rw[aU];exact y2;rintro rfl;obtain⟨c',_,z1,_⟩:=r.own z;rw[z1]at y1;cases y1;exact hj (r.lW j i _ _ _ _ _ z h z1 ha)
   |a8 kvs=>
    obtain⟨c,y1,y2,y3,y4⟩:=y;refine⟨c,y1,?_,y3,y4⟩;rw[aU (iD y2 h2 (tJ rfl))];exact y2
   |nest bo=>exact cy.move y (.refl _) λl o ys k1 k2 k3=>⟨by rw[aU (iD k1 h2 (λz=>nomatch z))];exact k1,k2,k3⟩
   |dw sh ks ws=>exact iT.move y (.refl _) λl o ys k1 k2 k3=>⟨by rw[aU (iD k1 h2 (tH rfl))];exact k1,k2,k3⟩
 .have old:∀(k:Nat)(bb:Option Nat)(ww:List W),(e.set i (S.own b ws'))[k]?=some (.own bb ww)->∃b' w',e[k]?=some (.own b' w'):=λk bb ww z=>by
   grind
  obtain⟨_,_,q1⟩:=old _ _ _ z1;obtain⟨_,_,q2⟩:=old _ _ _ z2;exact r.lW _ _ _ _ _ _ _ q1 q2 z3 z4
 .by_cases hc:c=a
  .grind [pJ.io]
  .rw[aU hc];exact r.ent c o z n
 .by_cases hc:c=a
  .grind [bV]
  .rw[aU hc];exact r.ko c z
def Rel.freeze(r:Rel K Z G σ H e)(h:e[i]?=some (.own none ws)):∃v G',σ[i]?=some (some v)/\ak G G'/\Rep K G' (.lst ws) v/\Rel K Z G' σ H (e.set i (.fr (.lst ws))):=by
 obtain⟨a,xs,h1,h2,h3,h4,h5⟩:=r.own h;have h4:Z.H a=none:=h4;have sg:ak G (upd G a (.lst xs)):=wJ h3 _;have hi:i<e.length:=(w0b.mp h).1;have rp:Rep K (upd G a (.lst xs)) (.lst ws) (.ref a):=⟨a,xs,rfl,bB.of bV,ao.mono sg ws h5⟩;refine⟨.ref a,upd G a (.lst xs),h1,sg,rp,⟨λc o z=>?_,λj s z=>?_,by simpa using r.len,λj k b1 b2 w1 w2 c z1 z2 z3 z4=>?_,r.ent,r.ko,λc z=>?_⟩⟩
 .by_cases hc:c=a
  .grind [bV]
  .rw[aU hc]at z;exact r.sub c o z
 .by_cases hj:j=i
  .subst hj;rw[w0i hi]at z;cases z;exact⟨.ref a,by rw[h1];rfl,rp⟩
  .rw[w0g (λz=>hj z.symm)]at z
   have y:=r.slot j s z;cases s with
   |no=>trivial
   |fr w=>
    obtain⟨u,y1,y2⟩:=y;exact⟨u,y1,Rep.mono sg w y2⟩
   |own b2 w2=>
    obtain⟨c,ys,y1,y2,y3,y4,y5⟩:=y;refine⟨c,ys,y1,y2,?_,y4,ao.mono sg w2 y5⟩;rw[aU];exact y3;rintro rfl;obtain⟨c',_,z1,_⟩:=r.own z;rw[z1]at y1;cases y1;exact hj (r.lW j i _ _ _ _ _ z h z1 h1)
   |a8 kvs=>
    obtain⟨c,y1,y2,y3,y4⟩:=y;refine⟨c,y1,y2,?_,y4⟩;rw[aU (iD y2 h2 (tJ rfl))];exact y3
   |nest bo=>exact cy.move y sg λl o ys k1 k2 k3=>⟨k1,by rw[aU (iD k1 h2 (λz=>nomatch z))];exact k2,k3⟩
   |dw sh ks ws=>exact iT.move y sg λl o ys k1 k2 k3=>⟨k1,by rw[aU (iD k1 h2 (tH rfl))];exact k2,k3⟩
 .have old:∀(k:Nat)(bb:Option Nat)(ww:List W),(e.set i (S.fr (W.lst ws)))[k]?=some (.own bb ww)->e[k]?=some (.own bb ww):=λk bb ww z=>by
   grind
  exact r.lW _ _ _ _ _ _ _ (old _ _ _ z1) (old _ _ _ z2) z3 z4
 .by_cases hc:c=a
  .grind
  .rw[aU hc];exact r.gen c z
def iq(σ:St)(e:List S)(a:Addr):Prop:=∀(j:Nat)(b:Option Nat)(ws:List W),e[j]?=some (.own b ws)->σ[j]?≠some (some (.ref a))
def Rel.set(r:Rel K Z G σ H e)(q:Rep K G w v):Rel K Z G (σ.set i (some v)) H (e.set i (.fr w)):=by
 refine⟨r.sub,λj s z=>?_,by simpa using r.len,λj k b1 b2 w1 w2 c z1 z2 z3 z4=>?_,r.ent,r.ko,r.gen⟩
 .by_cases hj:j=i
  .subst hj
   have hi:j<e.length:=by
    grind
   rw[w0i hi]at z;cases z;rw[w0i (by rw[<- r.len];exact hi)];exact⟨v,rfl,q⟩
  .rw[w0g (λz=>hj z.symm)]at z |-
   exact r.slot j s z
 .have old:∀(k:Nat)(bb:Option Nat)(ww:List W),(e.set i (S.fr w))[k]?=some (.own bb ww)->k≠i/\e[k]?=some (.own bb ww):=λk bb ww z=>by
   grind
  obtain⟨n1,q1⟩:=old _ _ _ z1;obtain⟨n2,q2⟩:=old _ _ _ z2;rw[w0g (λz=>n1 z.symm)]at z3
  rw[w0g (λz=>n2 z.symm)]at z4
  exact r.lW _ _ _ _ _ _ _ q1 q2 z3 z4
def Rel.qV(r:Rel K Z G σ H e){a:Addr}{xs:List V}(h2:H a=some (.lst xs))(h3:G a=none)(h4:Z.H a=none)(hf:iq σ e a)(q:ao K G ws xs):Rel K Z G (σ.set i (some (.ref a))) H (e.set i (.own none ws)):=by
 refine⟨r.sub,λj s z=>?_,by simpa using r.len,λj k b1 b2 w1 w2 c z1 z2 z3 z4=>?_,r.ent,r.ko,r.gen⟩
 .by_cases hj:j=i
  .subst hj
   have hi:j<e.length:=by
    have:=(w0b.mp z).1;simpa using this
   rw[w0i hi]at z;cases z;rw[w0i (by rw[<- r.len];exact hi)];exact⟨a,xs,rfl,h2,h3,h4,q⟩
  .rw[w0g (λz=>hj z.symm)]at z |-
   exact r.slot j s z
 .have both:∀(k:Nat)(bb:Option Nat)(ww:List W),(e.set i (S.own none ws))[k]?=some (.own bb ww)->(σ.set i (some (.ref a)))[k]?=some (some (.ref c))->(k=i/\c=a)\/(k≠i/\e[k]?=some (.own bb ww)/\σ[k]?=some (some (.ref c))/\c≠a):=λk bb ww z y=>by
   by_cases hk:k=i
   .subst hk
    have hi:k<e.length:=by
     have:=(w0b.mp z).1;simpa using this
    rw[w0i (by rw[<- r.len];exact hi)]at y;cases y;exact .inl ⟨rfl,rfl⟩
   .rw[w0g (λz=>hk z.symm)]at z y
    exact .inr ⟨hk,z,y,λe=>hf k bb ww z (by rw[y,e])⟩
  rcases both _ _ _ z1 z3 with⟨e1,c1⟩|⟨n1,q1,p1,c1⟩<;>rcases both _ _ _ z2 z4 with⟨e2,c2⟩|⟨n2,q2,p2,c2⟩
  .rw[e1,e2]
  .exact absurd c1 c2
  .exact absurd c2 c1
  .exact r.lW _ _ _ _ _ _ _ q1 q2 p1 p2
set_option genInjectivity true in
inductive R(α:Type) where
 |ok (a:α) (e:List S)|ex (c:Value) (e:List S)|no
abbrev Den(α:Type):=List S->R α
variable{dA:Den (List W)}
def R.bind{α β:Type}:R α->(α->List S->R β)->R β
 |.ok a e,k=>k a e
 |.ex c e,_=>.ex c e
 |.no,_=>.no
def R.holds(r:R α)(P:α->List S->Prop)(E:Value->List S->Prop):Prop:=match r with
 |.ok a e=>P a e
 |.ex c e=>E c e
 |.no=>False
def R.au{r:R α}{P:β->List S->Prop}:(r.bind k).holds P E↔r.holds (λa e=>(k a e).holds P E) E:=by
 cases r<;>rfl
def R.holds.imp{r:R α}(h:r.holds P E)(p:∀a e,P a e->P' a e)(x:∀c e,E c e->E' c e):r.holds P' E':=by
 cases r with
 |ok a e=>exact p a e h
 |ex c e=>exact x c e h
 |no=>exact h
def ba(o:Option α)(e:List S):R α:=match o with
 |some a=>.ok a e
 |none=>.no
def aS{P:α->List S->Prop}:(ba o e).holds P E↔∃a,o=some a/\P a e:=by
 cases o with
 |none=>exact⟨λh=>h.elim,fun⟨_,h,_⟩=>nomatch h⟩
 |some a=>exact⟨λh=>⟨a,rfl,h⟩,fun⟨_,h,q⟩=>by cases h;exact q⟩
set_option genInjectivity true in
inductive SR where
 |nx (e:List S)|rt (s:S) (e:List S)|bk (e:List S)|ct (e:List S)|ex (c:Value) (e:List S)|no
section
variable(K:Fg)(Z:Zt)(EE:L2.St->XK)
abbrev XH(σ:St)(G:Hp):Value->List S->Prop:=λc e'=>∀G' H',Rel K Z G' σ H' e'->ak G G'->EE σ c none H'
def gv(d:Den W):TE:=λσ H Q=>sj K Z σ H λG e=>(d e).holds (λw e'=>∀G' v H',Rel K Z G' σ H' e'->ak G G'->Rep K G' w v->Q v H') (XH K Z EE σ G)
def qq(d:Den (List W)):TA:=λσ H Q=>sj K Z σ H λG e=>(d e).holds (λws e'=>∀G' vs H',Rel K Z G' σ H' e'->ak G G'->ao K G' ws vs->Q vs H') (XH K Z EE σ G)
def liftT(d:Den Bool):TT:=λσ H Q=>sj K Z σ H λG e=>(d e).holds (λb e'=>∀G' H',Rel K Z G' σ H' e'->ak G G'->Q b H') (XH K Z EE σ G)
def mh(d:Den (List W)):TE:=λσ H Q=>sj K Z σ H λG e=>(d e).holds (λws e'=>∀G' a xs H',Rel K Z G' σ H' e'->ak G G'->H' a=some (.lst xs)->G' a=none->Z.H a=none->iq σ e' a->ao K G' ws xs->Q (.ref a) H') (XH K Z EE σ G)
def bw(D:Ends)(G:Hp):SR->Prop
 |.nx e'=>∀G' aI H',Rel K Z G' aI H' e'->ak G G'->D.nx aI H'
 |.bk e'=>∀G' aI H',Rel K Z G' aI H' e'->ak G G'->D.bk aI H'
 |.ct e'=>∀G' aI H',Rel K Z G' aI H' e'->ak G G'->D.ct aI H'
 |.rt s e'=>∀G' aI v H',Rel K Z G' aI H' e'->ak G G'->ft K Z G' H' s (some v)->D.rt v H'
 |.ex c e'=>∀G' aI H',Rel K Z G' aI H' e'->ak G G'->EE aI c none H'
 |.no=>False
def eg(d:List S->SR):TS:=λD σ H=>sj K Z σ H λG e=>bw K Z EE D G (d e)
end
section
variable(Z:Zt)(X:Cx)(EE:L2.St->XK)
def DE(e:Expr)(d:Den W):Prop:=PE X e (gv X.K Z EE d)
def DF(e:Expr)(d:Den (List W)):Prop:=PE X e (mh X.K Z EE d)
def DT(e:Expr)(d:Den Bool):Prop:=PT X e (liftT X.K Z EE d)
def DW(e:Expr)(d:Den Bool):Prop:=PW X e (liftT X.K Z EE d)
def DA(es:List Expr)(d:Den (List W)):Prop:=PA X es (qq X.K Z EE d)
def DS(st:Stmt)(d:List S->SR):Prop:=PS X st (eg X.K Z EE d)
def mK(bF:List Stmt)(d:List S->SR):Prop:=lH X bF (eg X.K Z EE d)
end
theorem PE.mono{e:PySem.Expr}(h:PE X e t)(i:∀σ H Q,t' σ H Q->t σ H Q):PE X e t':=λpins s σ H Q I q=>h pins s σ H Q I (i σ H Q q)
theorem PT.mono{e:PySem.Expr}(h:PT X e t)(i:∀σ H Q,t' σ H Q->t σ H Q):PT X e t':=λpins s σ H Q I q=>h pins s σ H Q I (i σ H Q q)
theorem PW.mono{e:PySem.Expr}(h:PW X e t)(i:∀σ H Q,t' σ H Q->t σ H Q):PW X e t':=λwh pins s σ H Q I q=>h wh pins s σ H Q I (i σ H Q q)
theorem PA.mono(h:PA X es t)(i:∀σ H Q,t' σ H Q->t σ H Q):PA X es t':=λp pins s σ H Q I q=>h p pins s σ H Q I (i σ H Q q)
theorem PS.mono(h:PS X st t)(i:∀D σ H,t' D σ H->t D σ H):PS X st t':=λpins s σ H D I q=>h pins s σ H D I (i D σ H q)
theorem lH.mono(h:lH X st t)(i:∀D σ H,t' D σ H->t D σ H):lH X st t':=λpins s σ H D I q=>h pins s σ H D I (i D σ H q)
section
variable(K:Fg)
def ik(r:R2)(f:W->W->Option W):Prop:=∀(G H:Hp)(x y:V)(wx wy w:W)(Q:VK),ak G H->Rep K G wx x->Rep K G wy y->f wx wy=some w->(∀G' v H',aM G H G' H'->Rep K G' w v->Q v H')->r x y H Q
def BV(r:V->Hp->VK->Prop)(f:W->Option W):Prop:=∀(G H:Hp)(x:V)(wx w:W)(Q:VK),ak G H->Rep K G wx x->f wx=some w->(∀G' v H',aM G H G' H'->Rep K G' w v->Q v H')->r x H Q
def pM(r:List V->Hp->VK->Prop)(f:List W->Option W):Prop:=∀(G H:Hp)(xs:List V)(ws:List W)(w:W)(Q:VK),ak G H->ao K G ws xs->f ws=some w->(∀G' v H',aM G H G' H'->Rep K G' w v->Q v H')->r xs H Q
end
def dC(w:W):Den W:=λe=>.ok w e
def af(i:Nat):Den W:=λe=>match e[i]? with
 |some (.fr w)=>.ok w e
 |some (.own none ws)=>.ok (.lst ws) (e.set i (.fr (.lst ws)))
 |_=>.no
def av(f:W->W->Option W)(da db:Den W):Den W:=λe=>(da e).bind λx e1=>(db e1).bind λy e2=>ba (f x y) e2
def gm(f:W->Option W)(da:Den W):Den W:=λe=>(da e).bind λx e1=>ba (f x) e1
def ay(da:Den W):Den Bool:=λe=>(da e).bind λx e1=>match x with
 |.bl k=>.ok k e1
 |_=>.no
def lE:W->Option Bool
 |.aE=>some false
 |.bl b=>some b
 |.int i=>some (i != 0)
 |.str x=>if x.length<=16777216 then some ((x.length:Int) != 0)else none
 |.tup xs=>some (!xs.isEmpty)
 |.lst xs=>some (!xs.isEmpty)
 |.exc _=>none
 |.a8 _=>none
 |.dw _ _ _ _=>none
 |.fn _ _ _=>none
def eY(da:Den W):Den Bool:=λe=>(da e).bind λx e1=>ba (lE x) e1
def jU(a b:Den Bool):Den Bool:=λe=>(a e).bind λx e1=>if x=true then b e1 else .ok false e1
def vw(a b:Den Bool):Den Bool:=λe=>(a e).bind λx e1=>if x=true then .ok true e1 else b e1
def jV(a:Den Bool):Den Bool:=λe=>(a e).bind λx e1=>.ok (!x) e1
def gW(a b:Den W):Den W:=λe=>(a e).bind λx e1=>match x with
 |.bl true=>b e1
 |.bl false=>.ok (.bl false) e1
 |_=>.no
def jW(a b:Den W):Den W:=λe=>(a e).bind λx e1=>match x with
 |.bl true=>.ok (.bl true) e1
 |.bl false=>b e1
 |_=>.no
def gY(a:Den W):Den W:=λe=>(a e).bind λx e1=>match x with
 |.bl k=>.ok (.bl (!k)) e1
 |_=>.no
def ug(c:Den Bool)(a b:Den W):Den W:=λe=>(c e).bind λx e1=>if x=true then a e1 else b e1
def ah:Den (List W):=λe=>.ok [] e
def ae(a:Den W)(r:Den (List W)):Den (List W):=λe=>(a e).bind λx e1=>(r e1).bind λxs e2=>.ok (x::xs) e2
def aV(a:Den (List W)):Den W:=λe=>(a e).bind λxs e1=>if xs.length<=16777216 then .ok (.tup xs) e1 else .no
def cA(a:Den (List W)):Den (List W):=λe=>(a e).bind λxs e1=>if xs.length<=16777216 then .ok xs e1 else .no
def gN(a:Den (List W)):Den W:=λe=>(a e).bind λxs e1=>.ok (.lst xs) e1
def cU(f:List W->Option W)(a:Den (List W)):Den W:=λe=>(a e).bind λxs e1=>ba (f xs) e1
section
variable{X:Cx}{a b c e:Expr}{da db:Den W}{ta:Den Bool}
theorem XH.trans{G1:Hp}(s:ak G G1){c:Value}{e:List S}(h:XH K Z EE σ G c e):XH K Z EE σ G1 c e:=λG' H' r q=>h G' H' r (s.trans q)
theorem z5b{i:Int}{j pos}:DE Z X EE (.Constant (.int i) j pos) (dC (.int i)):=PE.mono Ph λσ H Q ⟨G,e,r,h⟩=>h G (.int i) H r (.refl _) rfl
theorem Q0g{i:Bool}{j pos}:DE Z X EE (.Constant (.bool i) j pos) (dC (.bl i)):=PE.mono z99 λσ H Q ⟨G,e,r,h⟩=>h G (.bl i) H r (.refl _) rfl
theorem z5c{j pos}:DE Z X EE (.Constant .none j pos) (dC .aE):=PE.mono z4l λσ H Q ⟨G,e,r,h⟩=>h G .aE H r (.refl _) rfl
theorem z5d{i:Str}{j pos}:DE Z X EE (.Constant (.str i) j pos) (dC (.str i)):=PE.mono z4m λσ H Q ⟨G,e,r,h⟩=>h G (.str i) H r (.refl _) rfl
def X4:∀σ H Q,gv K Z EE (af i) σ H Q->rn i σ H Q:=by
 rintro σ H Q ⟨G,e,r,h⟩;unfold af at h;split at h
 .rename_i w hw;obtain⟨v,h1,h2⟩:=r.fr hw;exact⟨v,h1,h G v H r (.refl _) h2⟩
 .rename_i ws hw;obtain⟨v,G',h1,h2,h3,h4⟩:=r.freeze hw;exact⟨v,h1,h G' v H h4 h2 h3⟩
 .exact h.elim
theorem dv(i:Nat)(hN:autoParam (X.N[i]?=some x) jJ)(hv:autoParam (jI X.env.scope x) jN)(hd:autoParam ((x==("__debug__":Str))=false) jK)
  (ei:autoParam ((x==("__classdict__":Str))=false) jK):DE Z X EE (.Name x pos) (af i):=PE.mono (pv i hN hv hd ei) X4
def uV(hf:ik K r f):∀σ H Q,gv K Z EE (av f da db) σ H Q->BB r (gv K Z EE da) (gv K Z EE db) σ H Q:=by
 rintro σ H Q ⟨G,e,rel,h⟩;simp only[av,R.au,aS]at h;refine⟨G,e,rel,h.imp (λx e1 h G1 v1 H1 r1 s1 p1=>?_) λ_ _ h=>h⟩
 refine⟨G1,e1,r1,h.imp (λy e2 h G2 v2 H2 r2 s2 p2=>?_) λ_ _ h=>XH.trans s1 h⟩
 obtain⟨w,hw,h⟩:=h;exact hf G2 H2 v1 v2 x y w Q r2.sub (Rep.mono s2 x p1) p2 hw λG' v H' g p=>h G' v H' (r2.grow g) ((s1.trans s2).trans g.gg) p
theorem uY(ho:fj X (binaryOp op) r)(hf:ik X.K r f)(ha:DE Z X EE a da)(hb:DE Z X EE b db):DE Z X EE (.BinOp a op b pos) (av f da db):=PE.mono (Qr ho ha hb) (uV hf)
theorem yg(ho:fj X (compareOp op) r)(hf:ik X.K r f)(ha:DE Z X EE a da)(hb:DE Z X EE b db)(hm:behindInMarks op b=false):DE Z X EE (.Compare a [op] [b] pos) (av f da db):=PE.mono (Zb ho ha hb hm) (uV hf)
def Hi(h:liftT K Z EE (ay da) σ H Q):gv K Z EE da σ H (λx H'=>∃k,x=.bl k/\Q k H'):=by
 obtain⟨G,e,rel,h⟩:=h;simp only[ay,R.au]at h;refine⟨G,e,rel,h.imp (λx e1 h G1 v1 H1 r1 s1 p1=>?_) λ_ _ h=>h⟩
 cases x with
 |bl k=>
  cases(show v1=V.bl k from p1);exact⟨k,rfl,h G1 H1 r1 s1⟩
 |_=>exact h.elim
theorem rV(ho:fj X (compareOp op) r)(hf:ik X.K r f)(ha:DE Z X EE a da)(hb:DE Z X EE b db)(hm:behindInMarks op b=false):DT Z X EE (.Compare a [op] [b] pos) (ay (av f da db)):=
 PT.mono (Zc ho ha hb hm) λσ H Q h=>uV hf σ H _ (Hi h)
def OA(hf:BV K r f):∀σ H Q,gv K Z EE (gm f da) σ H Q->L9 r (gv K Z EE da) σ H Q:=by
 rintro σ H Q ⟨G,e,rel,h⟩;simp only[gm,R.au,aS]at h;refine⟨G,e,rel,h.imp (λx e1 h G1 v1 H1 r1 s1 p1=>?_) λ_ _ h=>h⟩
 obtain⟨w,hw,h⟩:=h;exact hf G1 H1 v1 x w Q r1.sub p1 hw λG' v H' g p=>h G' v H' (r1.grow g) (s1.trans g.gg) p
theorem QU(ho:yL X (unaryOp op) r)(hf:BV X.K r f)(ha:DE Z X EE a da):DE Z X EE (.UnaryOp op a pos) (gm f da):=PE.mono (QR ho ha) (OA hf)
def z5e(s:ak G H)(h:Rep K G w v)(e:lE w=some k):vm K v H k:=by
 cases w with
 |aE=>cases(show v=.aE from h);cases e;rfl
 |bl b=>cases(show v=.bl b from h);cases e;rfl
 |int i=>cases(show v=.int i from h);cases e;rfl
 |str x=>
  cases(show v=.str x from h);simp only[lE]at e;split at e
  .cases e;exact⟨by grind [sizeLine_eq],rfl⟩
  .cases e
 |tup ws=>
  obtain⟨p,xs,rfl,q,r⟩:=h;cases e;refine .inr (.inl ⟨xs,s.tup q,?_⟩);have:=r.length
  grind
 |lst ws=>
  obtain⟨p,xs,rfl,q,r⟩:=h;cases e;refine .inl ⟨xs,s.seq q,?_⟩;have:=r.length
  grind
 |exc _=>cases e
 |a8 _=>cases e
 |dw _ _ _ _=>cases e
 |fn _ _ _=>cases e
def z5f(ha:DE Z X EE a da)(he:∀whole,isTrue a X.env whole=(do let v <- whole;standAt a.pos;holding [v] (truthy v)):=by intro _;rfl):DT Z X EE a (eY da):=by
 refine PT.mono (XS ha he) ?_;rintro σ H Q ⟨G,e,rel,h⟩;simp only[eY,R.au,aS]at h;refine⟨G,e,rel,h.imp (λx e1 h G1 v1 H1 r1 s1 p1=>?_) λ_ _ h=>h⟩
 obtain⟨k,hk,h⟩:=h;exact⟨k,z5e r1.sub p1 hk,h G1 H1 r1 s1⟩
def X5:∀σ H Q,liftT K Z EE (jU ta tb) σ H Q->Br (liftT K Z EE ta) (liftT K Z EE tb) σ H Q:=by
 rintro σ H Q ⟨G,e,rel,h⟩;simp only[jU,R.au]at h;refine⟨G,e,rel,h.imp (λx e1 h G1 H1 r1 s1=>?_) λ_ _ h=>h⟩
 cases x with
 |true=>exact⟨G1,e1,r1,R.holds.imp (show(tb e1).holds _ _ from h) (λy e2 h G2 H2 r2 s2=>h G2 H2 r2 (s1.trans s2)) λ_ _ h=>XH.trans s1 h⟩
 |false=>exact(show ∀G' H',_->_->Q false H' from h) G1 H1 r1 s1
def Zq:∀σ H Q,liftT K Z EE (vw ta tb) σ H Q->L8 (liftT K Z EE ta) (liftT K Z EE tb) σ H Q:=by
 rintro σ H Q ⟨G,e,rel,h⟩;simp only[vw,R.au]at h;refine⟨G,e,rel,h.imp (λx e1 h G1 H1 r1 s1=>?_) λ_ _ h=>h⟩
 cases x with
 |false=>exact⟨G1,e1,r1,R.holds.imp (show(tb e1).holds _ _ from h) (λy e2 h G2 H2 r2 s2=>h G2 H2 r2 (s1.trans s2)) λ_ _ h=>XH.trans s1 h⟩
 |true=>exact(show ∀G' H',_->_->Q true H' from h) G1 H1 r1 s1
theorem y9v(ha:DT Z X EE a ta):DW Z X EE (.BoolOp .And [a] pos) ta:=YN ha
theorem z5g(ha:DT Z X EE a ta):DW Z X EE (.BoolOp .Or [a] pos) ta:=z4n ha
theorem z5h{rest:List Expr}(ha:DT Z X EE a ta)(hb:DW Z X EE (.BoolOp .And (b::rest) pos) tb):DW Z X EE (.BoolOp .And (a::b::rest) pos) (jU ta tb):=PW.mono (z4o ha hb) X5
theorem Q0i{rest:List Expr}(ha:DT Z X EE a ta)(hb:DW Z X EE (.BoolOp .Or (b::rest) pos) tb):DW Z X EE (.BoolOp .Or (a::b::rest) pos) (vw ta tb):=PW.mono (QO ha hb) Zq
theorem Rp(h:DW Z X EE a ta):DT Z X EE a ta:=PW.pt h
def z5i(ha:DT Z X EE a ta):DT Z X EE (.UnaryOp .Not a pos) (jV ta):=by
 refine PT.mono (z4p ha) ?_;rintro σ H Q ⟨G,e,rel,h⟩;simp only[jV,R.au]at h;exact⟨G,e,rel,h.imp (λx e1 h G1 H1 r1 s1=>h G1 H1 r1 s1) λ_ _ h=>h⟩
theorem z5j{op}(h:DE Z X EE a da):DE Z X EE (.BoolOp op [a] pos) da:=z4q h
def z5k{rest:List Expr}(ha:DE Z X EE a da)(hb:DE Z X EE (.BoolOp .And (b::rest) pos) db):DE Z X EE (.BoolOp .And (a::b::rest) pos) (gW da db):=by
 refine PE.mono (z4r ha hb) ?_;rintro σ H Q ⟨G,e,rel,h⟩;simp only[gW,R.au]at h;refine⟨G,e,rel,h.imp (λx e1 h G1 v1 H1 r1 s1 p1=>?_) λ_ _ h=>h⟩
 cases x with
 |bl k=>
  cases(show v1=V.bl k from p1);cases k with
  |true=>exact⟨true,rfl,⟨G1,e1,r1,R.holds.imp (show(db e1).holds _ _ from h) (λy e2 h G2 v2 H2 r2 s2 p2=>h G2 v2 H2 r2 (s1.trans s2) p2) λ_ _ h=>XH.trans s1 h⟩⟩
  |false=>exact⟨false,rfl,(show ∀G' v H',_->_->v=V.bl false->Q v H' from h) G1 _ H1 r1 s1 rfl⟩
 |_=>exact h.elim
def Q0j{rest:List Expr}(ha:DE Z X EE a da)(hb:DE Z X EE (.BoolOp .Or (b::rest) pos) db):DE Z X EE (.BoolOp .Or (a::b::rest) pos) (jW da db):=by
 refine PE.mono (QP ha hb) ?_;rintro σ H Q ⟨G,e,rel,h⟩;simp only[jW,R.au]at h;refine⟨G,e,rel,h.imp (λx e1 h G1 v1 H1 r1 s1 p1=>?_) λ_ _ h=>h⟩
 cases x with
 |bl k=>
  cases(show v1=V.bl k from p1);cases k with
  |false=>exact⟨false,rfl,⟨G1,e1,r1,R.holds.imp (show(db e1).holds _ _ from h) (λy e2 h G2 v2 H2 r2 s2 p2=>h G2 v2 H2 r2 (s1.trans s2) p2) λ_ _ h=>XH.trans s1 h⟩⟩
  |true=>exact⟨true,rfl,(show ∀G' v H',_->_->v=V.bl true->Q v H' from h) G1 _ H1 r1 s1 rfl⟩
 |_=>exact h.elim
def z5l(ha:DE Z X EE a da):DE Z X EE (.UnaryOp .Not a pos) (gY da):=by
 refine PE.mono (z4s ha) ?_;rintro σ H Q ⟨G,e,rel,h⟩;simp only[gY,R.au]at h;refine⟨G,e,rel,h.imp (λx e1 h G1 v1 H1 r1 s1 p1=>?_) λ_ _ h=>h⟩
 cases x with
 |bl k=>
  cases(show v1=V.bl k from p1);exact⟨k,rfl,(show ∀G' v H',_->_->v=V.bl (!k)->Q v H' from h) G1 _ H1 r1 s1 rfl⟩
 |_=>exact h.elim
def Q0k(hc:DT Z X EE c dc)(ha:DE Z X EE a da)(hb:DE Z X EE b db):DE Z X EE (.IfExp c a b pos) (ug dc da db):=by
 refine PE.mono (Xw hc ha hb) ?_;rintro σ H Q ⟨G,e,rel,h⟩;simp only[ug,R.au]at h;refine⟨G,e,rel,h.imp (λx e1 h G1 H1 r1 s1=>?_) λ_ _ h=>h⟩
 cases x with
 |true=>exact⟨G1,e1,r1,R.holds.imp (show(da e1).holds _ _ from h) (λy e2 h G2 v2 H2 r2 s2 p2=>h G2 v2 H2 r2 (s1.trans s2) p2) λ_ _ h=>XH.trans s1 h⟩
 |false=>exact⟨G1,e1,r1,R.holds.imp (show(db e1).holds _ _ from h) (λy e2 h G2 v2 H2 r2 s2 p2=>h G2 v2 H2 r2 (s1.trans s2) p2) λ_ _ h=>XH.trans s1 h⟩
theorem z5m:DA Z X EE [] ah:=PA.mono Dt λσ H Q ⟨G,e,r,h⟩=>h G [] H r (.refl _) rfl
def y9w(ha:DE Z X EE e da)(hr:DA Z X EE es dA)(hs:autoParam (starEach (e::es) X.env=(false,eval e X.env)::starEach es X.env) jJ):DA Z X EE (e::es) (ae da dA):=by
 refine PA.mono (x9 ha hr hs) ?_;rintro σ H Q ⟨G,e,rel,h⟩;simp only[ae,R.au]at h;refine⟨G,e,rel,h.imp (λx e1 h G1 v1 H1 r1 s1 p1=>?_) λ_ _ h=>h⟩
 refine⟨G1,e1,r1,h.imp (λxs e2 h G2 vs H2 r2 s2 p2=>?_) λ_ _ h=>XH.trans s1 h⟩
 exact h G2 (v1::vs) H2 r2 (s1.trans s2) ⟨v1,vs,rfl,Rep.mono s2 x p1,p2⟩
def z5n{x1}(h:DA Z X EE es dA):DE Z X EE (.Tuple es x1 pos) (aV dA):=by
 refine PE.mono (z40 h) ?_;rintro σ H Q ⟨G,e,rel,h⟩;simp only[aV,R.au]at h;refine⟨G,e,rel,h.imp (λws e1 h G1 vs H1 r1 s1 p1=>?_) λ_ _ h=>h⟩
 split at h
 .rename_i hl;refine⟨by rw[p1.length,sizeLine_eq];exact hl,λp hp=>?_⟩
  have g:=aM.laid r1.sub hp (.tup vs);exact(show ∀G' v H',_->_->Rep X.K G' (.tup ws) v->Q v H' from h) _ (.ref p) _ (r1.grow g) (s1.trans g.gg) ⟨p,vs,rfl,cZ.of bV,ao.mono g.gg ws p1⟩
 .exact h.elim
theorem wO{e:List S}(r:Rel K Z G σ H e){p:Addr}(hp:H p=none):iq σ e p:=λj b ws h q=>by
 obtain⟨a,xs,h1,h2,_⟩:=r.own h;rw[q]at h1;cases h1;rw[hp]at h2;cases h2
def qK{e:List S}(r:Rel K Z G σ H e){p:Addr}(hp:H p=none):Z.H p=none:=by
 cases q:Z.H p with
 |none=>rfl
 |some o=>
  by_cases hi:p∈Z.io
  .exact absurd hp (r.ko p hi)
  .rw[r.ent p o q hi]at hp;cases hp
theorem Df{e:List S}{vs:List V}{Q:VK}{G0:Hp}(r:Rel K Z G σ H e)(s:ak G0 G)(p1:ao K G ws vs)
  (h:∀G' a xs H',Rel K Z G' σ H' e->ak G0 G'->H' a=some (.lst xs)->G' a=none->Z.H a=none->iq σ e a->ao K G' ws xs->Q (.ref a) H'):∀p,H p=none->Q (.ref p) (upd H p (.lst vs)):=λp hp=>by
 have g:=aM.nu r.sub hp (.lst vs);exact h G p vs _ (r.grow g) s bV (r.sub.free hp) (qK r hp) (wO r hp) p1
def z5o(h:DA Z X EE es dA):DF Z X EE (.List es pos) (cA dA):=by
 refine PE.mono (z41 h) ?_;rintro σ H Q ⟨G,e,rel,h⟩;simp only[cA,R.au]at h;refine⟨G,e,rel,h.imp (λws e1 h G1 vs H1 r1 s1 p1=>?_) λ_ _ h=>h⟩
 split at h
 .rename_i hl;exact⟨by rw[p1.length,sizeLine_eq];exact hl,Df r1 s1 p1 h⟩
 .exact h.elim
def Rel.seen{e:List S}(r:Rel K Z G σ H e){a:Addr}{xs:List V}(h:H a=some (.lst xs))(hg:G a=none)(hz:Z.H a=none)(hf:iq σ e a):ak G (upd G a (.lst xs))/\Rel K Z (upd G a (.lst xs)) σ H e:=by
 have sg:ak G (upd G a (.lst xs)):=wJ hg _;refine⟨sg,⟨λc o z=>?_,λj s z=>?_,r.len,r.lW,r.ent,r.ko,λc z=>?_⟩⟩
 .by_cases hc:c=a
  .subst hc;rw[bV]at z;cases z;exact h
  .rw[aU hc]at z;exact r.sub c o z
 .have y:=r.slot j s z;cases s with
  |no=>trivial
  |fr w=>
   obtain⟨u,y1,y2⟩:=y;exact⟨u,y1,Rep.mono sg w y2⟩
  |own b2 w2=>
   obtain⟨c,ys,y1,y2,y3,y4,y5⟩:=y;refine⟨c,ys,y1,y2,?_,y4,ao.mono sg w2 y5⟩;rw[aU];exact y3;rintro rfl;obtain⟨c',_,z1,_⟩:=r.own z;rw[z1]at y1;cases y1;exact hf j b2 w2 z z1
  |a8 kvs=>
   obtain⟨c,y1,y2,y3,y4⟩:=y;refine⟨c,y1,y2,?_,y4⟩;rw[aU (iD y2 h (tJ rfl))];exact y3
  |nest bo=>exact cy.move y sg λl o ys k1 k2 k3=>⟨k1,by rw[aU (iD k1 h (λz=>nomatch z))];exact k2,k3⟩
  |dw sh ks ws=>exact iT.move y sg λl o ys k1 k2 k3=>⟨k1,by rw[aU (iD k1 h (tH rfl))];exact k2,k3⟩
 .by_cases hc:c=a
  .subst hc;exact absurd hz z
  .rw[aU hc];exact r.gen c z
def Q0l(h:DF Z X EE e dA):DE Z X EE e (gN dA):=by
 refine PE.mono h ?_;rintro σ H Q ⟨G,e,rel,h⟩;simp only[gN,R.au]at h;refine⟨G,e,rel,h.imp (λws e1 h G1 a xs H1 r1 s1 q1 q2 q3 q4 p1=>?_) λ_ _ h=>h⟩
 obtain⟨sg,rg⟩:=r1.seen q1 q2 q3 q4;exact(show ∀G' v H',_->_->Rep X.K G' (.lst ws) v->Q v H' from h) _ (.ref a) _ rg (s1.trans sg) ⟨a,xs,rfl,bB.of bV,ao.mono sg ws p1⟩
def OB(hf:pM K r f):∀σ H Q,gv K Z EE (cU f dA) σ H Q->IA r (qq K Z EE dA) σ H Q:=by
 rintro σ H Q ⟨G,e,rel,h⟩;simp only[cU,R.au,aS]at h;refine⟨G,e,rel,h.imp (λws e1 h G1 vs H1 r1 s1 p1=>?_) λ_ _ h=>h⟩
 obtain⟨w,hw,h⟩:=h;exact hf G1 H1 vs ws w Q r1.sub p1 hw λG' v H' g p=>h G' v H' (r1.grow g) (s1.trans g.gg) p
theorem A2{id:String}{r:List V->Hp->VK->Prop}{f:List W->Option W}(hc:cX X (.builtin id) r)(hf:pM X.K r f)(hv:bootBuiltins x=some (.builtin id))(hm:X.mg x=none)(ha:DA Z X EE (e::es) dA)(hg:autoParam (Gl X x) jJ)(hn:autoParam (x≠"__name__") jK)(ix:autoParam ((x==("__debug__":Str))=false) jK)
  (he:autoParam (starEach (e::es) X.env=(false,eval e X.env)::starEach es X.env) jJ)(du:autoParam ((backTo pos (starEach es X.env)).any (·.1)=false) jJ):DE Z X EE (.Call (.Name x p) (e::es) [] pos) (cU f dA):=
 PE.mono (HE hc hg hm hv ha hn ix he du) (OB hf)
theorem Pz{T:String}{r:List V->Hp->VK->Prop}{f:List W->Option W}(hc:cX X (.type T) r)(hf:pM X.K r f)(hv:bootBuiltins x=some (.type T))(hm:X.mg x=none)(ha:DA Z X EE (e::es) dA)(hg:autoParam (Gl X x) jJ)(hn:autoParam (x≠"__name__") jK)(ix:autoParam ((x==("__debug__":Str))=false) jK)
  (he:autoParam (starEach (e::es) X.env=(false,eval e X.env)::starEach es X.env) jJ)(du:autoParam ((backTo pos (starEach es X.env)).any (·.1)=false) jJ):DE Z X EE (.Call (.Name x p) (e::es) [] pos) (cU f dA):=
 PE.mono (ML hc hg hm hv ha hn ix he du) (OB hf)
end
def cB:List S->SR:=λe=>.nx e
def aq(a b:List S->SR):List S->SR:=λe=>match a e with
 |.nx e'=>b e'
 |r=>r
def R.cq(r:R α)(k:α->List S->SR):SR:=match r with
 |.ok a e=>k a e
 |.ex c e=>.ex c e
 |.no=>.no
def gX(d:Den W):List S->SR:=λe=>(d e).cq λ_ e'=>.nx e'
def aL(d:Den W):List S->SR:=λe=>(d e).cq λw e'=>.rt (.fr w) e'
def dM(d:Den (List W)):List S->SR:=λe=>(d e).cq λws e'=>.rt (.own none ws) e'
def iK(i:Nat):List S->SR:=λe=>match e[i]? with
 |some (.own none ws)=>.rt (.own none ws) e
 |some (.fr w)=>.rt (.fr w) e
 |_=>.no
def aQ(c:Den Bool)(a b:List S->SR):List S->SR:=λe=>(c e).cq λx e1=>if x=true then a e1 else b e1
def aF(i:Nat)(d:Den W):List S->SR:=λe=>(d e).cq λw e'=>.nx (e'.set i (.fr w))
def bN(i:Nat)(d:Den (List W)):List S->SR:=λe=>(d e).cq λws e'=>.nx (e'.set i (.own none ws))
def cK(i:Nat)(b:List S->SR):List W->List S->SR
 |[],e=>.nx e
 |w::ws,e=>match b (e.set i (.fr w))with
  |.nx e'=>cK i b ws e'
  |.ct e'=>cK i b ws e'
  |.bk e'=>.nx e'
  |.rt s e'=>.rt s e'
  |.ex c e'=>.ex c e'
  |.no=>.no
def bI(c:Den Bool)(b:List S->SR):Nat->List S->SR
 |0,_=>.no
 |n+1,e=>(c e).cq λx e1=>if x=true then(match b e1 with
  |.nx e'=>bI c b n e'
  |.ct e'=>bI c b n e'
  |.bk e'=>.nx e'
  |.rt s e'=>.rt s e'
  |.ex c e'=>.ex c e'
  |.no=>.no)else .nx e1
def eu:W->Option (List W)
 |.tup ws=>some ws
 |.lst ws=>some ws
 |_=>none
def iV(i:Nat)(d:Den W)(b:List S->SR):List S->SR:=λe=>(d e).cq λw e1=>match eu w with
 |some ws=>cK i b ws e1
 |none=>.no
def bM(lo hi:Int):List W:=(List.range (hi-lo).toNat).map λk=>.int (lo+(k:Nat))
def pk(j:Int):Bool:=Nat.ble j.natAbs 4611686018427387903
def wX(h:pk j=true):-(2^62)<=j/\j<2^62:=by
 have z:j.natAbs<=4611686018427387903:=w3d h
 grind
theorem pq{j:Int}(h1:-1000000000<=j)(h2:j<=1000000000):pk j=true:=Nat.ble_eq_true_of_le (by omega)
def f9:List W->Option (List W)
 |[.int j]=>if pk j=true then some (bM 0 j)else none
 |_=>none
def TQ:List W->Option (List W)
 |[.int i,.int j]=>if pk i=true/\pk j=true then some (bM i j)else none
 |_=>none
def gc(i:Nat)(g:List W->Option (List W))(d:Den (List W))(b:List S->SR):List S->SR:=λe=>(d e).cq λw e1=>match g w with
 |some ws=>cK i b ws e1
 |none=>.no
section
variable{X:Cx}{a c e:Expr}{st:Stmt}{rest body:List Stmt}{d:Den W}{s1 s2:List S->SR}
theorem bw.trans(s:ak G G1):∀{r:SR},bw K Z EE D G r->bw K Z EE D G1 r
 |.nx e',h=>λG' aI H' r q=>h G' aI H' r (s.trans q)
 |.bk e',h=>λG' aI H' r q=>h G' aI H' r (s.trans q)
 |.ct e',h=>λG' aI H' r q=>h G' aI H' r (s.trans q)
 |.rt w e',h=>λG' aI v H' r q=>h G' aI v H' r (s.trans q)
 |.ex c e',h=>λG' aI H' r q=>h G' aI H' r (s.trans q)
 |.no,h=>h
def iQ{r:R α}(h:bw K Z EE D G (r.cq k)):r.holds (λa e'=>bw K Z EE D G (k a e')) (XH K Z EE σ G):=by
 cases r with
 |ok a e=>exact h
 |ex c e=>exact λG' H' r q=>h G' σ H' r q
 |no=>exact h
theorem y9x:mK Z X EE [] cB:=lH.mono Y8 λD σ H ⟨G,e,r,h⟩=>h G σ H r (.refl _)
def X6:∀D σ H,eg K Z EE (aq s1 s2) D σ H->BD (eg K Z EE s1) (eg K Z EE s2) D σ H:=by
 rintro D σ H ⟨G,e,rel,h⟩;refine⟨G,e,rel,?_⟩;unfold aq at h;cases q:s1 e with
 |nx e'=>rw[q]at h;exact λG' aI H' r s=>⟨G',e',r,bw.trans s h⟩
 |bk e'=>rw[q]at h;exact h
 |ct e'=>rw[q]at h;exact h
 |rt w e'=>rw[q]at h;exact h
 |ex c e'=>rw[q]at h;exact h
 |no=>rw[q]at h;exact h
theorem y5o(h1:DS Z X EE st s1)(h2:mK Z X EE rest s2):mK Z X EE (st::rest) (aq s1 s2):=lH.mono (Xx h1 h2) X6
theorem y9y(h1:DS Z X EE st s1):mK Z X EE [st] s1:=Y9 h1
def y9z(he:DE Z X EE e d)(hs:autoParam (swapsWith e none pos.line X.env=pure false) jJ):DS Z X EE (.Expr e pos) (gX d):=by
 refine PS.mono (Dn he hs) ?_;rintro D σ H ⟨G,e,rel,h⟩;exact⟨G,e,rel,(iQ h).imp (λw e1 h G1 v1 H1 r1 s1 p1=>h G1 σ H1 r1 s1) λ_ _ h=>h⟩
def z5p(he:DE Z X EE e d):DS Z X EE (.Return (some e) pos) (aL d):=by
 refine PS.mono (Ju he) ?_;rintro D σ H ⟨G,e,rel,h⟩;exact⟨G,e,rel,(iQ h).imp (λw e1 h G1 v1 H1 r1 s1 p1=>h G1 σ v1 H1 r1 s1 ⟨v1,rfl,p1⟩) λ_ _ h=>h⟩
def y90(he:DF Z X EE e dA):DS Z X EE (.Return (some e) pos) (dM dA):=by
 refine PS.mono (Ju he) ?_;rintro D σ H ⟨G,e,rel,h⟩;exact⟨G,e,rel,(iQ h).imp (λw e1 h G1 a xs H1 r1 s1 q1 q2 q3 q4 p1=>h G1 σ (.ref a) H1 r1 s1 ⟨a,xs,rfl,q1,q2,q3,p1⟩) λ_ _ h=>h⟩
def y91(i:Nat)(hN:autoParam (X.N[i]?=some x) jJ)(hv:autoParam (jI X.env.scope x) jN)(hd:autoParam ((x==("__debug__":Str))=false) jK)
  (ei:autoParam ((x==("__classdict__":Str))=false) jK):DS Z X EE (.Return (some (.Name x p)) pos) (iK i):=by
 refine PS.mono (Ju (pv i hN hv hd ei)) ?_;rintro D σ H ⟨G,e,rel,h⟩;unfold iK at h;split at h
 .rename_i ws hw;obtain⟨a,xs,h1,h2,h3,h4,h5⟩:=rel.own hw;exact⟨.ref a,h1,h G σ _ H rel (.refl _) ⟨a,xs,rfl,h2,h3,h4,h5⟩⟩
 .rename_i w hw;obtain⟨v,h1,h2⟩:=rel.fr hw;exact⟨v,h1,h G σ _ H rel (.refl _) ⟨v,rfl,h2⟩⟩
 .exact h.elim
def X7:∀D σ H,eg K Z EE (aQ dc s1 s2) D σ H->Bv (liftT K Z EE dc) (eg K Z EE s1) (eg K Z EE s2) D σ H:=by
 rintro D σ H ⟨G,e,rel,h⟩;refine⟨G,e,rel,(iQ h).imp (λx e1 h G1 H1 r1 q1=>?_) λ_ _ h=>h⟩
 cases x with
 |true=>exact⟨G1,e1,r1,bw.trans q1 h⟩
 |false=>exact⟨G1,e1,r1,bw.trans q1 h⟩
theorem Q0m{p:List Stmt}(hc:DT Z X EE c dc)(ha:mK Z X EE p s1)(hb:mK Z X EE q s2):DS Z X EE (.If c p q pos) (aQ dc s1 s2):=PS.mono (QQ hc ha hb) X7
def z5q(i:Nat)(hN:X.N.Nodup)(he:DE Z X EE e d)(hi:autoParam (X.N[i]?=some x) jJ)(hx:autoParam (Loc X.env.scope x) jM)(hs:autoParam (swapsWith e (some (.Name x pos')) pos.line X.env=pure false) jJ)(hf:autoParam (X.fn x=true\/X.env.scope.names.lookup x=some .local) jL):
  DS Z X EE (.Assign [.Name x pos'] e pos) (aF i d):=by
 refine PS.mono (DV i hN he hi hx hs hf) ?_;rintro D σ H ⟨G,e,rel,h⟩;exact⟨G,e,rel,(iQ h).imp (λw e1 h G1 v1 H1 r1 q1 p1=>h G1 _ H1 (r1.set p1) q1) λ_ _ h=>h⟩
def z5r(i:Nat)(hN:X.N.Nodup)(he:DF Z X EE e dA)(hi:autoParam (X.N[i]?=some x) jJ)(hx:autoParam (Loc X.env.scope x) jM)(hs:autoParam (swapsWith e (some (.Name x pos')) pos.line X.env=pure false) jJ)(hf:autoParam (X.fn x=true\/X.env.scope.names.lookup x=some .local) jL):
  DS Z X EE (.Assign [.Name x pos'] e pos) (bN i dA):=by
 refine PS.mono (DV i hN he hi hx hs hf) ?_;rintro D σ H ⟨G,e,rel,h⟩;exact⟨G,e,rel,(iQ h).imp (λw e1 h G1 a xs H1 r1 s1 q1 q2 q3 q4 p1=>h G1 _ H1 (r1.qV q1 q2 q3 q4 p1) s1) λ_ _ h=>h⟩
def y5q(n)(hp:PassesOwn (model X.prog X.w) X.A X.env X.xe)(hc:DT Z X EE c dc)(hb:mK Z X EE body s1):DS Z X EE (.While c body [] pos) (bI dc s1 n):=by
 refine PS.mono (Xy hp hc hb) ?_;rintro D σ H ⟨G,e,rel,h⟩;refine⟨λm aI H'=>∃G' e',Rel X.K Z G' aI H' e'/\ak G G'/\bw X.K Z EE D G (bI dc s1 m e'),⟨n,G,e,rel,.refl _,h⟩,?_⟩
 rintro m si H1 ⟨G1,e1,r1,q1,h⟩;cases m with
 |zero=>exact h.elim
 |succ m=>
  refine⟨G1,e1,r1,(iQ (σ:=si) h).imp (λx e2 h G2 H2 r2 q2=>?_) λ_ _ h=>XH.trans q1 h⟩
  cases x with
  |false=>exact h G2 si H2 r2 (q1.trans q2)
  |true=>
   refine⟨λaI H'=>∃G' e',Rel X.K Z G' aI H' e'/\ak G G'/\bw X.K Z EE D G (bI dc s1 m e'),λaI H' q=>⟨m,Nat.lt_succ_self _,q⟩,⟨G2,e2,r2,?_⟩⟩
   have sg:=q1.trans q2;have h:bw X.K Z EE D G (match s1 e2 with|.nx e'=>bI dc s1 m e'|.ct e'=>bI dc s1 m e'|.bk e'=>.nx e'|.rt s e'=>.rt s e'|.ex c e'=>.ex c e'|.no=>.no):=h;cases q:s1 e2 with
   |nx e'=>rw[q]at h;exact λG' aI H' r s=>⟨G',e',r,sg.trans s,h⟩
   |ct e'=>rw[q]at h;exact λG' aI H' r s=>⟨G',e',r,sg.trans s,h⟩
   |bk e'=>rw[q]at h;exact λG' aI H' r s=>h G' aI H' r (sg.trans s)
   |rt w e'=>rw[q]at h;exact λG' aI v H' r s=>h G' aI v H' r (sg.trans s)
   |ex c e'=>rw[q]at h;exact λG' aI H' r s=>h G' aI H' r (sg.trans s)
   |no=>rw[q]at h;exact h
def X8{x:L2.V}(r1:Rel K Z G1 σ H e1)(q1:ak G G1)(p:Rep K G1 w x)(h:bw K Z EE D G (cK i s1 (w::ws) e1))
  (hN:∀G' aI H' e',Rel K Z G' aI H' e'->ak G G'->bw K Z EE D G (cK i s1 ws e')->N aI H'):bx i x σ H λjg H2=>eg K Z EE s1 {D with nx:=N,ct:=N,bk:=D.nx} jg H2:=by
 refine⟨G1,e1.set i (.fr w),r1.set p,?_⟩;unfold cK at h;cases q:s1 (e1.set i (.fr w))with
 |nx e'=>rw[q]at h;exact λG' aI H' r s=>hN G' aI H' e' r (q1.trans s) h
 |ct e'=>rw[q]at h;exact λG' aI H' r s=>hN G' aI H' e' r (q1.trans s) h
 |bk e'=>rw[q]at h;exact λG' aI H' r s=>h G' aI H' r (q1.trans s)
 |rt w e'=>rw[q]at h;exact λG' aI v H' r s=>h G' aI v H' r (q1.trans s)
 |ex c e'=>rw[q]at h;exact λG' aI H' r s=>h G' aI H' r (q1.trans s)
 |no=>rw[q]at h;exact h
def zY(K:Fg)(tl:TE):TI:=λσ H R=>tl σ H λx H1=>∃a,x=.ref a/\(((∃xs,bB K H1 a xs)/\R (xw K a) H1)\/((∃xs,cZ K H1 a xs)/\R (xx K a) H1))
def yh(hl:PE X l tl):PI X tg l (zY X.K tl):=by
 intro pins s σ H R I h;refine bt (hl pins s σ H _ I h) λv s1 ⟨x,H1,I1,r1,q1⟩=>?_
 obtain⟨a,e,q⟩:=q1;subst e;cases r1;rcases q with⟨⟨xs,hq⟩,q⟩|⟨⟨xs,hq⟩,q⟩
 .obtain⟨aw,rv,p,hz⟩:=I1.list hq;refine wpAny_pyIter_list p.isList ?_;refine⟨s1.heap.objs.size,[s1.heap.objs.size],_,_,H1,rfl,I1.kept (t':=s1.toks) λb o e=>Heap.get?_push_of_some _ e,Wy a _,⟨_,Heap.get?_push_size _ rfl,rfl,rfl⟩,λb hb=>?_,q⟩
  have e:b=s1.heap.objs.size:=by simpa using hb
  subst e;exact I1.jr (w0c _) (I1.aG.fresh (w0c _))
 .obtain⟨aw,rv,p,hz⟩:=I1.tuple hq;refine wpAny_pyIter_tuple (show s1.heap.IsTuple a aw.toArray from p) ?_;refine⟨s1.heap.objs.size,[s1.heap.objs.size],_,_,H1,rfl,I1.kept (t':=s1.toks) λb o e=>Heap.get?_push_of_some _ e,VX a _,⟨_,Heap.get?_push_size _ rfl,rfl,rfl⟩,λb hb=>?_,q⟩
  have e:b=s1.heap.objs.size:=by simpa using hb
  subst e;exact I1.jr (w0c _) (I1.aG.fresh (w0c _))
def Hj{α:Type}{ws:List α}{k:Nat}{w:α}(h:ws[k]?=some w):ws.drop k=w::ws.drop (k+1):=by
 obtain⟨hk,rfl⟩:=w0b.mp h;exact w3u hk
def OC(r1:Rel K Z G1 σ H1 e1)(rp:ao K G1 ws xs)(h:bw K Z EE D G1 (cK i s1 ws e1))(SQ:Hp->Prop)(oX:∀G' H',ak G1 G'->ak G' H'->SQ H'):
  ∃Pv:Nat->St->Hp->Prop,Pv 0 σ H1/\(∀j σ H,j<=xs.length->Pv j σ H->SQ H)/\(∀(j:Nat) x σ H,xs[j]?=some x->Pv j σ H->bx i x σ H λjg H2=>eg K Z EE s1 {D with nx:=Pv (j+1),ct:=Pv (j+1),bk:=D.nx} jg H2)/\∀σ H,Pv xs.length σ H->D.nx σ H:=by
 refine⟨λj aI H'=>∃G' e',Rel K Z G' aI H' e'/\ak G1 G'/\bw K Z EE D G1 (cK i s1 (ws.drop j) e'),⟨G1,e1,r1,.refl _,h⟩,?_,?_,?_⟩
 .rintro j aI H' _ ⟨G',e',r',s',_⟩;exact oX G' H' s' r'.sub
 .rintro j x aI H' hx ⟨G',e',r',s',h⟩;obtain⟨w,hw,pw⟩:=rp.iZ hx;rw[Hj hw]at h;exact X8 r' s' (Rep.mono s' w pw) h λf_ fP jh rF nO iE qa=>⟨f_,rF,nO,iE,qa⟩
 .rintro aI H' ⟨G',e',r',s',h⟩;rw[rp.length,w2q]at h;exact h G' aI H' r' s'
def z5s(i:Nat)(hN:X.N.Nodup)(hp:PassesOwn (model X.prog X.w) X.A X.env X.xe)(hc:X.calm=true)(hl:DE Z X EE e d)(hb:mK Z X EE body s1)
  (hi:autoParam (X.N[i]?=some x) jJ)(hx:autoParam (Loc X.env.scope x) jM)(hf:autoParam (X.fn x=true\/X.env.scope.names.lookup x=some .local) jL)(hs:∀x,foldedSetIterable e X.env x=pure x:=by intro _;rfl):
  DS Z X EE (.For (.Name x pos') e body [] pos) (iV i d s1):=by
 refine PS.mono (Jv hp hc (yh hl) (rX i hN hi hx hf) hb hs) ?_;rintro D σ H ⟨G,e,rel,h⟩;refine⟨G,e,rel,(iQ h).imp (λw e1 h G1 v1 H1 r1 q1 p1=>?_) λ_ _ h=>h⟩
 have key:=λws xs (rp:ao X.K G1 ws xs) (h:bw X.K Z EE D G (cK i s1 ws e1))=>OC (i:=i) (D:=D) r1 rp (bw.trans q1 h)
 cases w with
 |tup ws=>
  obtain⟨a,xs,rfl,hq,rp⟩:=p1;refine⟨a,rfl,.inr ⟨⟨xs,r1.sub.tup hq⟩,?_⟩⟩;obtain⟨Pv,h0,h1,h2,h3⟩:=key ws xs rp h (λH'=>cZ X.K H' a xs) (λG' H' s s'=>ak.tup s' (ak.tup s hq))
  exact Y' Pv h0 h1 h2 h3
 |lst ws=>
  obtain⟨a,xs,rfl,hq,rp⟩:=p1;refine⟨a,rfl,.inl ⟨⟨xs,r1.sub.seq hq⟩,?_⟩⟩;obtain⟨Pv,h0,h1,h2,h3⟩:=key ws xs rp h (λH'=>bB X.K H' a xs) (λG' H' s s'=>ak.seq s' (ak.seq s hq))
  exact XA Pv h0 h1 h2 h3
 |_=>exact h.elim
def LS:ao K G (bM lo hi) ((List.range (hi-lo).toNat).map λk=>V.int (lo+(k:Nat))):=by
 unfold bM;generalize List.range (hi-lo).toNat=l
 induction l with
 |nil=>rfl
 |cons k l ih=>exact⟨_,_,rfl,rfl,ih⟩
def Y3(r1:Rel K Z G1 σ H1 e1)(h:bw K Z EE D G1 (cK i s1 (bM lo hi) e1)):
  ∃W:Nat->Nat->St->Hp->Prop,(∃m,W 0 m σ H1)/\∀j m σ H,W j m σ H ->
   ((pK lo (hi-lo).toNat).stop j H/\D.nx σ H)\/((pK lo (hi-lo).toNat).go j H/\∃N:St->Hp->Prop,(∀aI H',N aI H'->∃m',m'<m/\W (j+1) m' aI H')/\∀x H',(pK lo (hi-lo).toNat).kI j H x H'->bx i x σ H' λjg H2=>eg K Z EE s1 {D with nx:=N,ct:=N,bk:=D.nx} jg H2):=by
 obtain⟨Pv,h0,h1,h2,h3⟩:=OC (i:=i) (D:=D) r1 (LS (lo:=lo) (hi:=hi)) h (λ_=>True) (λ_ _ _ _=>trivial)
 refine WA Pv h0 (λj aI H' hj p=>h2 j _ aI H' ?_ p) (λaI H' p=>h3 aI H' (by simpa using p))
 simp[hj]
def y93(i:Nat){p1 p2:Pos}(hN:X.N.Nodup)(hp:PassesOwn (model X.prog X.w) X.A X.env X.xe)(hc:X.calm=true)(hm:X.mg "range"=none)(ha:DA Z X EE [a] dA)(hb:mK Z X EE body s1)
  (hi:autoParam (X.N[i]?=some x) jJ)(hx:autoParam (Loc X.env.scope x) jM)(hf:autoParam (X.fn x=true\/X.env.scope.names.lookup x=some .local) jL)(hg:autoParam (Gl X "range") jJ)(kS:autoParam (starEach [a] X.env=[(false,eval a X.env)]) jJ)(hs:∀x,foldedSetIterable (.Call (.Name "range" p1) [a] [] p2) X.env x=pure x:=by intro _;rfl):
  DS Z X EE (.For (.Name x p) (.Call (.Name "range" p1) [a] [] p2) body [] pos) (gc i f9 dA s1):=by
 refine PS.mono (Jv hp hc (Hf hg hm ha kS) (rX i hN hi hx hf) hb hs) ?_;rintro D σ H ⟨G,e,rel,h⟩;refine⟨G,e,rel,(iQ h).imp (λws e1 h G1 vs H1 r1 q1 p1=>?_) λ_ _ h=>h⟩
 unfold f9 at h;split at h
 .rename_i hh;split at hh
  .rename_i j;split at hh
   .rename_i hj;cases hh;obtain⟨y,r,rfl,e1,e2⟩:=p1;cases(show y=V.int j from e1);cases(show r=[]from e2);refine⟨j,rfl,(wX hj).1,(wX hj).2,?_⟩;have z:=Y3 (i:=i) (D:=D) r1 (bw.trans q1 h)
    rwa [Int.sub_zero]at z
   .cases hh
  .cases hh
 .exact h.elim
end
open PyProof.Rows (envOfC)
inductive FR where
 |ok (s:S)|ex (c:Value)|no
def pB(K:Fg)(F:List W->FR):Sp:=λvs H Q E=>∃G ws,ak G H/\ao K G ws vs/\match F ws with
 |.ok s=>∀G' H' v,aM G H G' H'->ft K ⟨H,G,[]⟩ G' H' s (some v)->Q v H'
 |.ex c=>∀H',ak H H'->E c none H'
 |.no=>False
def SR.fn:SR->FR
 |.nx _=>.ok (.fr .aE)
 |.rt s _=>.ok s
 |.ex c _=>.ex c
 |_=>.no
def init(n:Nat)(ws:List W):List S:=ws.map .fr++List.replicate (n-ws.length) .no
def Nz{N:List Str}{vs:List V}(s:ak G H)(r:ao K G ws vs):Rel K ⟨H,G,[]⟩ G (L2.start N vs) H (init N.length ws):=by
 have hl:=r.length
 have l7:∀(i:Nat)(s:S),(init N.length ws)[i]?=some s->(s=.no)\/∃w,s=.fr w/\ws[i]?=some w:=λi s h=>by
  unfold init at h;rw[List.getElem?_append]at h;split at h
  .rw[w1i]at h;obtain⟨w,h1,rfl⟩:=w0h.mp h;exact .inr ⟨w,rfl,h1⟩
  .rw[w3y]at h;split at h
   .cases h;exact .inl rfl
   .cases h
 refine⟨s,λi t h=>?_,?_,λi j b b' w1 w2 a h1 h2 _ _=>?_,λa o h _=>h,(λa h=>nomatch h),λa _=>rfl⟩
 .rcases l7 i t h with rfl|⟨w,rfl,h1⟩
  .trivial
  .obtain⟨v,h2,h3⟩:=r.get h1;refine⟨v,?_,h3⟩;have hi:i<vs.length:=(w0b.mp h2).1;unfold L2.start;rw[w2o (by simpa using hi),w1i,h2];rfl
 .unfold init L2.start;simp[hl]
 .rcases l7 i _ h1 with z|⟨w,z,_⟩<;>cases z
theorem Rel.fN(r:Rel K ⟨H,G,[]⟩ G' σ H' e)(s:ak G G'):aM G H G' H':=
 ⟨λa o h=>r.ent a o h (by simp),s,r.sub,λa h=>r.gen a h⟩
def PB(h:pB K F vs H Q E):∃G ws,F ws≠.no/\ao K G ws vs:=by
 obtain⟨G,ws,_,r,h⟩:=h
 grind
def Y4{F:List W->FR}(he:r.fn=F ws)(h:match F ws with
  |.ok s=>∀G' H' v,aM G H G' H'->ft K ⟨H,G,[]⟩ G' H' s (some v)->Q v H'
  |.ex c=>∀H',ak H H'->E c none H'
  |.no=>False):bw K ⟨H,G,[]⟩ (λ_=>E) {nx:=λ_ H'=>Q .aE H',rt:=Q} G r:=by
 rw[<- he]at h;cases r with
 |nx e=>exact λG' aI H' r s=>h G' H' .aE (r.fN s) ⟨.aE,rfl,rfl⟩
 |rt s e=>exact λG' aI v H' r q p=>h G' H' v (r.fN q) p
 |ex c e=>exact λG' aI H' r s=>h H' (r.fN s).hh
 |bk e=>exact h.elim
 |ct e=>exact h.elim
 |no=>exact h.elim
def ar(F:List W->FR)(dA:Den (List W)):Den W:=λe=>(dA e).bind λws e1=>match F ws with
 |.ok (.fr w)=>.ok w e1
 |.ok (.own none ws')=>.ok (.lst ws') e1
 |.ok (.a8 kvs)=>.ok (.a8 kvs) e1
 |.ex c=>.ex c e1
 |_=>.no
section
variable{X:Cx}{e:Expr}{k:Nat}{ps:List Str}{F:List W->FR}
def NA(r1:Rel K Z G1 σ H1 e1)(g:aM G1 H1 G' H')(q:ft K ⟨H1,G1,[]⟩ G' H' s (some v))(hs:s=.fr w\/∃ws,s=.own none ws/\w=.lst ws):
  ∃f_,Rel K Z f_ σ H' e1/\ak G1 f_/\Rep K f_ w v:=by
 rcases hs with rfl|⟨ws,rfl,rfl⟩
 .obtain⟨u,h1,h2⟩:=q;cases h1;exact⟨G',r1.grow g,g.gg,h2⟩
 .obtain⟨a,xs,h1,h2,h3,h4,h5⟩:=q;cases h1;have hn:H1 a=none:=h4;obtain⟨sg,rg⟩:=(r1.grow g).seen h2 h3 (qK r1 hn) (wO r1 hn);exact⟨_,rg,g.gg.trans sg,⟨a,xs,rfl,bB.of bV,ao.mono sg ws h5⟩⟩
def WJ(r1:Rel K Z G1 σ H1 e1)(g:aM G1 H1 G' H')(q:ft K ⟨H1,G1,[]⟩ G' H' (.a8 kvs) (some v)):
  ∃f_,Rel K Z f_ σ H' e1/\ak G1 f_/\Rep K f_ (.a8 kvs) v:=by
 obtain⟨a,h1,h2,h3,h4⟩:=q;cases h1;have hn:H1 a=none:=h4;have r:=r1.grow g;have sg:ak G' (upd G' a (dO kvs)):=wJ h3 _;refine⟨upd G' a (dO kvs),⟨λc o z=>?_,λj s z=>?_,r.len,r.lW,r.ent,r.ko,λc z=>?_⟩,g.gg.trans sg,⟨a,rfl,bV⟩⟩
 .by_cases hc:c=a
  .grind [bV]
  .rw[aU hc]at z;exact r.sub c o z
 .have y:=r.slot j s z;have y1:=r1.slot j s z;cases s with
  |no=>trivial
  |fr w=>
   obtain⟨u,y1,y2⟩:=y;exact⟨u,y1,Rep.mono sg w y2⟩
  |own b2 w2=>
   obtain⟨c,ys,x1,x2,x3,x4,x5⟩:=y;refine⟨c,ys,x1,x2,?_,x4,ao.mono sg w2 x5⟩;rw[aU (iD x2 h2 (λz=>tJ rfl z.symm))];exact x3
  |a8 kv=>
   obtain⟨c,x1,x2,x3,x4⟩:=y;obtain⟨c',w1,w2,_⟩:=y1;rw[x1]at w1;cases w1;refine⟨c,x1,x2,?_,x4⟩;rw[aU (gA w2 hn)];exact x3
  |nest bo=>exact cy.move y sg λl o ys k1 k2 k3=>⟨k1,by rw[aU (iD k1 h2 (λz=>tJ rfl z.symm))];exact k2,k3⟩
  |dw sh ks ws=>
   obtain⟨c,kv,ka,x1,x2,x3,x4,x5,x6,x7⟩:=y;obtain⟨c',kv',ka',w1,w2,_⟩:=y1;rw[x1]at w1;cases w1;refine⟨c,kv,ka,x1,x2,?_,x4,x5,x6.mono sg,x7.move sg λ_ _ _ z=>z⟩
   rw[aU (gA w2 hn)];exact x3
 .by_cases hc:c=a
  .grind [qK]
  .rw[aU hc];exact r.gen c z
theorem Qv(r1:Rel K Z G1 σ H1 e1)(s1:ak G G1)(h:XH K Z EE σ G c e1):∀H',ak H1 H'->EE σ c none H':=λH' sh=>
 h G1 H' (r1.grow ⟨sh,.refl _,r1.sub.trans sh,λ_ _=>rfl⟩) s1
def z5t(C:tY X.prog X.w X.K X.mg X.base k x ps (pB X.K F))(hr:br k X.A)(hx:eF (eA X.prog X.w) X EE)(ha:DA Z X EE (e::es) dA)(hg:autoParam (Gl X x) jJ)
  (ix:autoParam ((x==("__debug__":Str))=false) jK)(he:autoParam (starEach (e::es) X.env=(false,eval e X.env)::starEach es X.env) jJ)(du:autoParam ((backTo pos (starEach es X.env)).any (·.1)=false) jJ):
  DE Z X EE (.Call (.Name x p) (e::es) [] pos) (ar F dA):=by
 refine PE.mono (z49 C hr hx ha hg ix he du) ?_;rintro σ H Q ⟨G,e,rel,h⟩;simp only[ar,R.au]at h;refine⟨G,e,rel,h.imp (λws e1 h G1 vs H1 r1 s1 p1=>?_) λ_ _ h=>h⟩
 refine⟨G1,ws,r1.sub,by grind,?_⟩;cases q:F ws with
 |ok s=>
  rw[q]at h;intro G' H' v g sl;cases s with
  |no=>exact h.elim
  |fr w=>
   obtain⟨f_,r2,s2,p2⟩:=NA r1 g sl (.inl rfl);exact(show ∀G' v H',_->_->Rep X.K G' w v->Q v H' from h) f_ v H' r2 (s1.trans s2) p2
  |own b ws'=>
   cases b with
   |some _=>exact h.elim
   |none=>
    obtain⟨f_,r2,s2,p2⟩:=NA r1 g sl (.inr ⟨ws',rfl,rfl⟩);exact(show ∀G' v H',_->_->Rep X.K G' (.lst ws') v->Q v H' from h) f_ v H' r2 (s1.trans s2) p2
  |a8 kvs=>
   obtain⟨f_,r2,s2,p2⟩:=WJ r1 g sl;exact(show ∀G' v H',_->_->Rep X.K G' (.a8 kvs) v->Q v H' from h) f_ v H' r2 (s1.trans s2) p2
  |nest _=>exact h.elim
  |dw _ _ _=>exact h.elim
 |ex c=>
  rw[q]at h;exact Qv r1 s1 h
 |no=>rw[q]at h;exact h.elim
def cC(C:Addr)(d:Den (List W)):List S->SR:=λe=>(d e).cq λws e1=>if ws.length<=16777216 then .ex (.ref C) e1 else .no
def q6d{C Ac:Addr}{np bc:Pos}(hx:pN X EE)(hC:excIn X.K C Ac=true)(hm:X.mg x=some (.ref C))(hc:X.calm=true)(ha:DA Z X EE (e::es) dA)(hg:autoParam (Gl X x) jJ)
  (ix:autoParam ((x==("__debug__":Str))=false) jK)(he:autoParam (starEach (e::es) X.env=(false,eval e X.env)::starEach es X.env) jJ)(du:autoParam ((backTo bc (starEach es X.env)).any (·.1)=false) jJ):
  DS Z X EE (.Raise (some (.Call (.Name x np) (e::es) [] bc)) none pos) (cC C dA):=by
 refine PS.mono (XY hx hc hg hm hC ha ix he du) ?_;rintro D σ H ⟨G,e,rel,h⟩;refine⟨G,e,rel,(iQ h).imp (λws e1 h G1 vs H1 r1 s1 p1=>?_) λ_ _ h=>h⟩
 split at h
 .rename_i hl;exact⟨by rw[p1.length,sizeLine_eq];exact hl,h G1 σ H1 r1 s1⟩
 .exact h.elim
def m7(K:Fg)(c:Addr)(i n:Nat)(b h:List S->SR):List S->SR:=λe=>match b e with
 |.ex cls e'=>if exmOne K cls (.ref c)=some true then(match h (e'.set i (.fr (.exc cls)))with
  |.nx _=>.nx (List.replicate n .no)
  |.bk _=>.bk (List.replicate n .no)
  |.ct _=>.ct (List.replicate n .no)
  |.rt s rF=>.rt s rF
  |_=>.no)else .no
 |r=>r
def Rel.blank{e:List S}(r:Rel K Z G σ H e)(n:Nat):Rel K Z G (List.replicate n none) H (List.replicate n .no):=by
 have Cf:∀(i:Nat)(s:S),(List.replicate n S.no)[i]?=some s->s=.no:=λi s h=>by
  rw[w3y]at h;split at h
  .cases h;rfl
  .cases h
 refine⟨r.sub,λi s h=>?_,by simp,λi j b b' w1 w2 a h1 h2 _ _=>?_,r.ent,r.ko,r.gen⟩
 .rw[Cf i s h];trivial
 .cases Cf _ _ h1
def z5u{body mG:List Stmt}{pP:Stmt}{c n:Str}{Cc:Addr}{np i3:Pos}{dB dH:List S->SR}
  (hm:X.mg c=some (.ref Cc))(hN:X.N.Nodup)(hi:X.N[i]?=some n)(hx:X.env.scope.names.lookup n=some .local)
  (hb:∀(EE:L2.St->XK)(pn:List (Addr×Obj))(xe:Value->Shared->Prop),eF (eA X.prog X.w) (X.tr pn xe) EE->mK Z (X.tr pn xe) EE body dB)
  (hh:∀e:Addr,mK Z (X.hn e) (λ_=>E0) (pP::mG) dH)(hg:autoParam (Gl X c) jJ)
  (hs:autoParam (X.stack=X.env::X.outer) jJ)(hf:autoParam (X.env.frame=some X.env.locals) jJ)(ix:autoParam ((c==("__debug__":Str))=false) jK):
  DS Z X EE (.Try body [.ExceptHandler (some (.Name c np)) (some n) (pP::mG) i3] [] [] pos) (m7 X.K Cc i X.N.length dB dH):=by
 refine PS.mono (z47 (tb:=λEE=>eg X.K Z EE dB) (th:=eg X.K Z (λ_=>E0) dH) hg hm hN hi hx hb hh hs hf ix) ?_
 rintro D σ H ⟨G,e,rel,h⟩;refine⟨G,e,rel,?_⟩;unfold m7 at h;cases q:dB e with
 |nx e'=>rw[q]at h;exact h
 |bk e'=>rw[q]at h;exact h
 |ct e'=>rw[q]at h;exact h
 |rt w e'=>rw[q]at h;exact h
 |no=>rw[q]at h;exact h
 |ex cls e'=>
  rw[q]at h;intro G1 si H1 r1 s1;dsimp only at h;split at h
  .rename_i hq;refine⟨hq,λex hex=>?_⟩
   have g:=aM.laid r1.sub hex (m_ ex cls);refine⟨_,e'.set i (.fr (.exc cls)),(r1.grow g).set (v:=.ref ex) ⟨ex,rfl,bV⟩,?_⟩;have sg:=s1.trans g.gg;cases q2:dH (e'.set i (.fr (.exc cls)))with
   |nx e2=>rw[q2]at h;exact λG2 jg H2 r2 s2=>h G2 _ H2 (r2.blank _) (sg.trans s2)
   |bk e2=>rw[q2]at h;exact λG2 jg H2 r2 s2=>h G2 _ H2 (r2.blank _) (sg.trans s2)
   |ct e2=>rw[q2]at h;exact λG2 jg H2 r2 s2=>h G2 _ H2 (r2.blank _) (sg.trans s2)
   |rt w e2=>rw[q2]at h;exact λG2 jg v H2 r2 s2 p2=>h G2 jg v H2 r2 (sg.trans s2) p2
   |ex c2 e2=>rw[q2]at h;exact h.elim
   |no=>rw[q2]at h;exact h.elim
  .exact h.elim
end
end D
namespace L2
open PySem PySem.Spec PyProof.Rows
section
variable{X:Cx}{elt target iter:Expr}{ifs:List Expr}{scope:Scope}{pos:Pos}{wi:TI}{g:TG}{tc:TT}{te:TE}
def X9{Nl Nf:List Str}{js:List Nat}{y:Str}{py cL:Pos}{gy:TG}(hc:X.calm=true)(hi:PI X target iter wi)
  (hk:scope.kind=.function)(dR:∀y∈scope.names,y.2≠.cell)(nv:∀x∈scope.names,x.2=.local->scope.names.lookup x.1=some .local)
  (b7:∀x∈scope.names,x.2=.free->X.env.kindOf x.1=some .cell\/X.env.kindOf x.1=some .free)
  (hj:∀(i j:Nat) y,Nf[i]?=some y->js[i]?=some j->X.N[j]?=some y)(hlen:js.length=Nf.length)
  (nh:∀y∈Nf,(y,NameKind.free)∈scope.names/\jI X.env.scope y/\X.env.kindOf y≠some .local)
  (i4:∀y∈Nf,(relabel scope X.env).names.lookup y=some .cell\/(relabel scope X.env).names.lookup y=some .free)
  (hg:∀cl C ax aA ex,PG (X.cp (Nl++Nf) scope cl C ax aA ex) target g)(ht:∀cl C ax aA ex,rD (X.cp (Nl++Nf) scope cl C ax aA ex) ifs tc)(he:∀cl C ax aA ex,PE (X.cp (Nl++Nf) scope cl C ax aA ex) elt te)
  (EV:PG X (.Name y py) gy)(nB:swapsWith (.ListComp elt [⟨target,iter,ifs,0⟩] scope pos) (some (.Name y py)) cL.line X.env=pure true)
  (hs:∀x,foldedSetIterable iter X.env x=pure x:=by intro _;rfl):
  PS X (.Assign [.Name y py] (.ListComp elt [⟨target,iter,ifs,0⟩] scope pos) cL) (q_ (iS wi Nl.length js g tc te) gy):=by
 intro pins s σ H D I h;obtain⟨cl,eN,f6,mP⟩:=AG (scope:=scope) (env:=X.env) λx hx hf=>I.ok.has x.1 (b7 x hx hf)
 rw[exec_Assign_Name_used _ _ _ _ nB];refine wpAny_bind (wpAny_standAt (wpAny_bind ?_));show wpAny _ _ (do let _ <- comprehension _ _ _ _ _ _ _ _) _ _ _;refine wpAny_bind (wpAny_comprehension_free (Q:=λ_ iE=>wpAny (model X.prog X.w) X.A (pure ()) (λ_ s3=>wpAny (model X.prog X.w) X.A (pure Flow.next) (SP X pins D) X.xe s3) X.xe iE) (use:=some (assign (.Name y py) X.env)) rfl hs eN hk nv (bt (hi pins s σ H _ I h) λv s1 h1=>bt h1 λCm s2 h2=>?_))
 obtain⟨it,fp,tn,J,H2,e,I2,T,iF,f2,rd⟩:=h2;subst e;refine wpAny_newObj_type (wpAny_newFunctionEnv dR (by intro y hy;simp at hy) (λdY dX eZ=>?_) hk)
 dsimp only at dX eZ |-
 have vd:(s2.heap.push {cls:=.type "list", dict:=none,data:=.seq ([]:List Value).toArray}).objs.size=s2.heap.objs.size+1:=Heap.size_push ..;rw[vd]at dX eZ |-
 have fD:H2 s2.heap.objs.size=none:=I2.aG.fresh (w0c _);obtain⟨W,⟨m0,w0⟩,turn⟩:=rd s2.heap.objs.size fD;have o7:=T.obj 0 s2.heap iF;have IS:=Ny (Nl:=Nl) (Nf:=Nf) (js:=js) (cl:=cl) (tk:=s2.toks+([]:List (Str×Value)).length) I2 f2 o7 hk dR f6 mP hj hlen nh i4 dX eZ
 have IM:∀b u,s2.heap.get? b=some u->dY.get? b=some u:=λb u q=>by
  have cb:=Heap.lt_size q;exact(eZ.2 b (w0m (w1r cb))).trans (Heap.get?_push_of_some _ (Heap.get?_push_of_some _ q))
 have Bn:tn 0 dY:=T.keep 0 s2.heap dY iF λb hb o q=>IM b o q
 have FJ:∀b∈fp,upd H2 s2.heap.objs.size (.lst []) b=none:=λb hb=>by
  obtain⟨o,q,_⟩:=o7 b hb;rw[aU (w0m (Heap.lt_size q))];exact(f2 b hb).1
 have jF:∀{H':Hp},(∀b∈fp,H' b=none)->∀b∈fp,eD (X.cp (Nl++Nf) scope cl (s2.heap.objs.size+1) {s2 with heap:=s2.heap.push {cls:=.type "list", dict:=none,data:=.seq ([]:List Value).toArray}} (upd H2 s2.heap.objs.size (.lst [])) fp) [] H' b:=λhn b hb=>by
  refine⟨hn b hb,(IS.ok.vA b hb).1,IS.ok.ng b hb,.inl hb,(IS.ok.vA b hb).2,λp hp=>(by cases hp)⟩
 have loop:∀s4:Shared,s4={s2 with heap:=dY,toks:=s2.toks+([]:List (Str×Value)).length} ->
   codeAny (model X.prog X.w) X.A (.compLoop (.ListComp elt [⟨target,iter,ifs,0⟩] scope pos) 0 (.ref it) (.ref s2.heap.objs.size) (compEnvC scope cl (s2.heap.objs.size+1) X.env))
    (compPost (model X.prog X.w) X.A X.xe (some (assign (.Name y py) X.env)) (λ_ iE=>wpAny (model X.prog X.w) X.A (pure ()) (λ_ s3=>wpAny (model X.prog X.w) X.A (pure Flow.next) (SP X pins D) X.xe s3) X.xe iE) (.ref s2.heap.objs.size) (s2.heap.objs.size+1)) s4:=by
  rintro s4 rfl;refine MQ (λn s'=>∃i H',Inv (X.cp (Nl++Nf) scope cl (s2.heap.objs.size+1) {s2 with heap:=s2.heap.push {cls:=.type "list", dict:=none,data:=.seq ([]:List Value).toArray}} (upd H2 s2.heap.objs.size (.lst [])) fp) [] (List.replicate Nl.length none++pj js σ) H' s'/\tn i s'.heap/\(∀b∈fp,H' b=none)/\W i n H') ?_ m0 ⟨0,_,IS,Bn,FJ,w0⟩
  rintro n s3 ⟨i,H3,I3,vc,uq,w3⟩;rcases turn i n H3 w3 with⟨stop,qn⟩|⟨go,step⟩
  .refine bt (T.done (X.cp (Nl++Nf) scope cl (s2.heap.objs.size+1) {s2 with heap:=s2.heap.push {cls:=.type "list", dict:=none,data:=.seq ([]:List Value).toArray}} (upd H2 s2.heap.objs.size (.lst [])) fp) rfl rfl rfl hc i [] s3 _ H3 _ I3 (jF uq) vc stop) λr s5 ⟨hr,I5⟩=>?_
   subst hr;obtain⟨m5,E5,_⟩:=I5.loc;obtain⟨o5,Kb,Ka,KH,Ks,Sf,Kw⟩:=id E5;have J5:Inv X pins σ H3 s5:=Px I2 f2 I5 (h':=s5.heap) ⟨rfl,λ_ _=>rfl⟩
   have fC:eD X pins H3 (s2.heap.objs.size+1):=I2.jr (w4w _) I5.free;have f1:∀b∈[s2.heap.objs.size+1],eD X pins H3 b:=λb hb=>by grind
   have J6:=J5.pinned f1 (λb hb=>by rw[w1g.mp hb];exact⟨o5,KH,λv z=>by rw[Ks]at z;cases z⟩)
   refine bt (EV _ s5 σ H3 (.ref s2.heap.objs.size) _ _ J6 rfl qn) λ_ s6 ⟨JP,H6,I6,q6⟩=>?_
   have pC:=I6.pin (s2.heap.objs.size+1,o5) (w0j _ (w0j _ (wD (w1g.mpr rfl) KH)));refine⟨m5,⟨o5,Kb,Ka,pC.1,Ks,Sf,Kw⟩,λh' ph=>wpAny_pure (wpAny_pure ⟨JP,H6,?_,q6⟩)⟩
   obtain⟨g0,g1,g2,g3,g4,g5⟩:=fC;exact I6.eS.turned (t':=s6.toks) (λb o hb e=>(ph.2 b hb).trans e) pC.2.1 g1 g3 g4 g5
  .refine bt (T.item (X.cp (Nl++Nf) scope cl (s2.heap.objs.size+1) {s2 with heap:=s2.heap.push {cls:=.type "list", dict:=none,data:=.seq ([]:List Value).toArray}} (upd H2 s2.heap.objs.size (.lst [])) fp) rfl rfl rfl hc i [] s3 _ H3 _ I3 (jF uq) vc go) λr s5 ⟨u,hr,h5⟩=>?_
   subst hr;refine bt h5 λ_ s6 ⟨x,H6,I6,r6,y6,xf,EA⟩=>?_
   have Ec:=I6.pinned (jF EA) (T.obj _ _ xf);refine bt (hg _ _ _ _ _ _ s6 _ H6 x u _ Ec r6 (step x H6 y6)) λ_ s7 ⟨lG,H7,I7,kp,q7⟩=>?_
   refine bt (ht _ _ _ _ _ _ s7 lG H7 _ I7 q7) λok s8 ⟨H8,I8,q8⟩=>?_
   have again:∀{oN:St}{H9:Hp}{s9:Shared},Inv (X.cp (Nl++Nf) scope cl (s2.heap.objs.size+1) {s2 with heap:=s2.heap.push {cls:=.type "list", dict:=none,data:=.seq ([]:List Value).toArray}} (upd H2 s2.heap.objs.size (.lst [])) fp) ([]++iC fp s6.heap) oN H9 s9 ->
     Kp (List.replicate Nl.length none++pj js σ) oN->(∃m',m'<n/\W (i+1) m' H9)->∃m,m<n/\∃i H',Inv (X.cp (Nl++Nf) scope cl (s2.heap.objs.size+1) {s2 with heap:=s2.heap.push {cls:=.type "list", dict:=none,data:=.seq ([]:List Value).toArray}} (upd H2 s2.heap.objs.size (.lst [])) fp) [] (List.replicate Nl.length none++pj js σ) H' s9/\tn i s9.heap/\(∀b∈fp,H' b=none)/\W i m H':=λ{oN H9 s9} I9 hw ⟨m',hm,w9⟩=>by
    refine⟨m',hm,i+1,H9,I9.eS.weak (by rw[I9.len,<- IS.len]) hw,T.keep _ _ _ xf λb hb o q=>(I9.pin (b,o) (w0j _ (w0j _ (wD hb q)))).1,λb hb=>?_,w9⟩
    obtain⟨o,q,d⟩:=T.obj _ _ xf b hb;exact(I9.pin (b,o) (w0j _ (w0j _ (wD hb q)))).2.1
   cases ok with
   |false=>exact again I8 kp (by simpa using q8)
   |true=>
    have HB:=by simpa only[if_true]using q8
    refine bt (he _ _ _ _ _ _ s8 lG H8 _ I8 HB) λy s9 ⟨yv,H9,I9,r9,ys,hD,hz,q9⟩=>?_
    refine bt (C5 _ s9 lG H9 (.ref s2.heap.objs.size) [yv] (.ref s2.heap.objs.size) [y] (λv H'=>v=.aE/\H'=upd H9 s2.heap.objs.size (.lst (ys++[yv]))) I9 rfl (.cons r9 .nil) ⟨_,ys,yv,rfl,rfl,hD,hz,rfl,rfl⟩) λ_ TX ⟨_,QK,Eb,_,_,Ep⟩=>?_
    subst Ep;exact again Eb kp q9
 exact codeAny_compStart_list (loop _ rfl) (T.self X.A 0 _ _ _ Bn (loop _ rfl))
end
def Hk{X:Cx}{y:Str}{py cL:Pos}{gy:TG}{elt target iter:Expr}{ifs:List Expr}{scope sc:Scope}{pos:Pos}{wi:TI}{g:TG}{tc:TT}{te:TE}{Nl Nf N:List Str}{js:List Nat}(hc:X.calm=true)(hi:PI X target iter wi)
  (ok:bX sc scope N Nf js=true)
  (hg:∀cl C ax aA ex,PG (X.cp (Nl++Nf) scope cl C ax aA ex) target g)(ht:∀cl C ax aA ex,rD (X.cp (Nl++Nf) scope cl C ax aA ex) ifs tc)(he:∀cl C ax aA ex,PE (X.cp (Nl++Nf) scope cl C ax aA ex) elt te)
  (EV:PG X (.Name y py) gy)(nB:swapsWith (.ListComp elt [⟨target,iter,ifs,0⟩] scope pos) (some (.Name y py)) cL.line X.env=pure true)
  (hsc:autoParam (X.env.scope=sc) jJ)(hN:autoParam (X.N=N) jJ)(hs:∀x,foldedSetIterable iter X.env x=pure x:=by intro _;rfl):
  PS X (.Assign [.Name y py] (.ListComp elt [⟨target,iter,ifs,0⟩] scope pos) cL) (q_ (iS wi Nl.length js g tc te) gy):=by
 unfold bX at ok;simp only[w0n,w0w,beq_iff_eq,bne_iff_ne,w1l,w0z]at ok;obtain⟨⟨⟨⟨⟨⟨k1,k2⟩,k3⟩,k4⟩,k5⟩,k6⟩,k7⟩:=ok;have kind:∀x,X.env.kindOf x=sc.names.lookup x:=λx=>by rw[<- hsc];rfl
 refine X9 hc hi k1 k2 (λx hx hl=>(k3 x hx).resolve_left λz=>z hl) (λx hx hf=>?_) (λi j y e1 e2=>?_) k5 (λy hy=>?_) (λy hy=>?_) hg ht he EV nB hs
 .rw[kind];rcases k4 x hx with(z|z)|z
  .exact absurd hf z
  .exact .inl z
  .exact .inr z
 .have cb:i<js.length:=(w0b.mp e2).1;have z:=k6 i cb;rw[e1,e2]at z;rw[hN]
  simpa using z
 .obtain⟨z1,z2⟩:=k7 y hy;refine⟨PySem.mem_of_lookup z1,?_,?_⟩
  .rw[hsc];rcases z2 with z|z
   .exact .inr (.inl z)
   .exact .inr (.inr z)
  .rw[kind];rcases z2 with z|z<;>(rw[z];decide)
 .exact Gu (k7 y hy).1
def qO(K:Fg):R2:=λx y H Q=>∃l b xs zs,x=.ref l/\y=.ref b/\bB K H l xs/\bB K H b zs/\xs.length+zs.length<=sizeLine/\∀p,H p=none->Q (.ref p) (upd H p (.lst (xs++zs)))
def Y5:fj X (binaryOp .Add) (qO X.K):=by
 intro pins s σ H x y v u Q I rx ry h;obtain⟨l,b,xs,zs,rfl,rfl,h1,h2,hz,q⟩:=h;cases rx;cases ry;obtain⟨aw,r1,p1,_⟩:=I.list h1;obtain⟨fH,r2,p2,_⟩:=I.list h2;obtain⟨⟨cls,dd,data,sl⟩,ho,hc,n,hd⟩:=id p1.isList;obtain⟨⟨yR,uj,data2,yo⟩,rM,b_,n2,hd2⟩:=id p2.isList;simp only at hc hd b_ hd2;subst hc hd b_ hd2;have l1:=r1.length;have l2:=r2.length;refine concat_meets ⟨_,ho,rfl⟩ ⟨_,rM,rfl⟩ noFill_list_add seq_list_add PySem.F.slot_list_add PySem.F.entry_list_add (PySem.F.args_list_add_2 _ _) (list_addW l b aw.toArray fH.toArray n n2 dd uj sl yo (by grind)) ⟨ho,rM,?_⟩;have ea:aw.toArray++fH.toArray=(aw++fH).toArray:=by simp
 rw[ea];exact⟨.ref _,_,I.Ab (t':=s.toks) (r1.append r2) (by grind),rfl,q _ I.fresh⟩
end L2
namespace D
open PySem L2
variable{A:Around}{X:Cx}{dA:Den (List W)}{c:Den Bool}{d da db:Den W}{G H:Hp}{EE:L2.St->XK}{elts es:List Expr}{js:List Nat}{e pe:List S}{ws:List W}{i kt n:Nat}{apos bc p1 p2 pn pos:Pos}{K:Fg}{s:Shared}{σ:St}{α:Type}{cv:Value}{Z:Zt}
def addW:W->W->Option W
 |.int i,.int j=>some (.int (i+j))
 |.str x,.str y=>if x.length+y.length<=16777216 then some (.str (x++y))else none
 |.tup xs,.tup ys=>if xs≠[]/\xs.length+ys.length<=16777216 then some (.tup (xs++ys))else none
 |.lst xs,.lst ys=>if xs.length+ys.length<=16777216 then some (.lst (xs++ys))else none
 |_,_=>none
def mF:W->W->Option W
 |.int i,.int j=>some (.int (i-j))
 |_,_=>none
def i7:W->W->Option W
 |.int i,.int j=>if(-(2^64)<i/\i<2^64)\/(-(2^64)<j/\j<2^64)then some (.int (i*j))else none
 |_,_=>none
def dj:W->W->Option W
 |.int i,.int j=>if 0<j/\j<1073741824 then some (.int (i / j))else none
 |_,_=>none
def bU:W->W->Option W
 |.int i,.int j=>if 0<j then some (.int (i%j))else none
 |_,_=>none
def qD:W->W->Option W
 |.int i,.int j=>if 0<=j/\j<=1000000/\i.natAbs<2^64 then some (.int (i^j.toNat))else none
 |_,_=>none
def rQ:W->W->Option W
 |.int i,.int j=>some (.bl (decide (i<j)))
 |_,_=>none
def wa:W->W->Option W
 |.int i,.int j=>some (.bl (decide (i<=j)))
 |_,_=>none
def l4:W->W->Option W
 |.int i,.int j=>some (.bl (decide (j<i)))
 |_,_=>none
def y0:W->W->Option W
 |.int i,.int j=>some (.bl (decide (j<=i)))
 |_,_=>none
def dq:W->Option W
 |.int i=>some (.int (-i))
 |_=>none
def PD:ik K (λx y H Q=>nQ (λi j=>.int (i+j)) x y H Q\/((∃i j,x=.str i/\y=.str j/\i.length+j.length<=sizeLine/\Q (.str (i++j)) H)\/(qP K x y H Q\/qO K x y H Q))) addW:=by
 intro G H x y wx wy w Q s px py hf h;unfold addW at hf;split at hf
 .cases hf;cases px;cases py;exact .inl ⟨_,_,rfl,rfl,h G _ H (.refl s) rfl⟩
 .split at hf
  .rename_i hl;cases hf;cases px;cases py;exact .inr (.inl ⟨_,_,rfl,rfl,by grind [sizeLine_eq],h G _ H (.refl s) rfl⟩)
  .cases hf
 .rename_i us ws;split at hf
  .rename_i hl;cases hf;obtain⟨a,xs,rfl,ha,ra⟩:=px;obtain⟨b,ys,rfl,hb,rb⟩:=py;have l1:=ra.length;have l2:=rb.length;refine .inr (.inr (.inl ⟨a,b,xs,ys,rfl,rfl,s.tup ha,s.tup hb,λz=>hl.1 ?_,by rw[l1,l2,sizeLine_eq];exact hl.2,λz=>?_,λz p hp=>?_⟩))
   .grind
   .subst z;have:ws=[]:=by grind
    subst this;exact h G _ H (.refl s) ⟨a,xs,rfl,ha,by simpa using ra⟩
   .have g:=aM.laid s hp (.tup (xs++ys));exact h _ _ _ g ⟨p,_,rfl,cZ.of bV,ao.append (ao.mono g.gg _ ra) (ao.mono g.gg _ rb)⟩
  .cases hf
 .split at hf
  .rename_i hl;cases hf;obtain⟨a,xs,rfl,ha,ra⟩:=px;obtain⟨b,ys,rfl,hb,rb⟩:=py;have l1:=ra.length;have l2:=rb.length;refine .inr (.inr (.inr ⟨a,b,xs,ys,rfl,rfl,s.seq ha,s.seq hb,by grind [sizeLine_eq],λp hp=>?_⟩))
   have g:=aM.laid s hp (.lst (xs++ys));exact h _ _ _ g ⟨p,_,rfl,bB.of bV,ao.append (ao.mono g.gg _ ra) (ao.mono g.gg _ rb)⟩
  .cases hf
 .cases hf
def z5v:ik K (nQ λi j=>.int (i-j)) mF:=by
 intro G H x y wx wy w Q s px py hf h;unfold mF at hf;split at hf
 .cases hf;cases px;cases py;exact⟨_,_,rfl,rfl,h G _ H (.refl s) rfl⟩
 .cases hf
def z5w:ik K (rI sm λi j=>.int (i*j)) i7:=by
 intro G H x y wx wy w Q s px py hf h;unfold i7 at hf;split at hf
 .split at hf
  .rename_i hc;cases hf;cases px;cases py;exact⟨_,_,rfl,rfl,hc,h G _ H (.refl s) rfl⟩
  .cases hf
 .cases hf
def Y6:ik K (rI yx λi j=>.int (i / j)) dj:=by
 intro G H x y wx wy w Q s px py hf h;unfold dj at hf;split at hf
 .split at hf
  .rename_i hc;cases hf;cases px;cases py;exact⟨_,_,rfl,rfl,hc,h G _ H (.refl s) rfl⟩
  .cases hf
 .cases hf
def z5x:ik K (rI (λ_ j=>0<j) λi j=>.int (i%j)) bU:=by
 intro G H x y wx wy w Q s px py hf h;unfold bU at hf;split at hf
 .split at hf
  .rename_i hc;cases hf;cases px;cases py;exact⟨_,_,rfl,rfl,hc,h G _ H (.refl s) rfl⟩
  .cases hf
 .cases hf
def z5y:ik K (rI yy λi j=>.int (i^j.toNat)) qD:=by
 intro G H x y wx wy w Q s px py hf h;unfold qD at hf;split at hf
 .split at hf
  .rename_i hc;cases hf;cases px;cases py;exact⟨_,_,rfl,rfl,hc,h G _ H (.refl s) rfl⟩
  .cases hf
 .cases hf
def Qw:ik K (nQ λi j=>.bl (decide (i<j))) rQ:=by
 intro G H x y wx wy w Q s px py hf h;unfold rQ at hf;split at hf
 .cases hf;cases px;cases py;exact⟨_,_,rfl,rfl,h G _ H (.refl s) rfl⟩
 .cases hf
def Qx:ik K (nQ λi j=>.bl (decide (i<=j))) wa:=by
 intro G H x y wx wy w Q s px py hf h;unfold wa at hf;split at hf
 .cases hf;cases px;cases py;exact⟨_,_,rfl,rfl,h G _ H (.refl s) rfl⟩
 .cases hf
def Qy:ik K (nQ λi j=>.bl (decide (j<i))) l4:=by
 intro G H x y wx wy w Q s px py hf h;unfold l4 at hf;split at hf
 .cases hf;cases px;cases py;exact⟨_,_,rfl,rfl,h G _ H (.refl s) rfl⟩
 .cases hf
def QV:ik K (nQ λi j=>.bl (decide (j<=i))) y0:=by
 intro G H x y wx wy w Q s px py hf h;unfold y0 at hf;split at hf
 .cases hf;cases px;cases py;exact⟨_,_,rfl,rfl,h G _ H (.refl s) rfl⟩
 .cases hf
def z5z:BV K (rU λi=>.int (-i)) dq:=by
 intro G H x wx w Q s px hf h;unfold dq at hf;split at hf
 .cases hf;cases px;exact⟨_,rfl,h G _ H (.refl s) rfl⟩
 .cases hf
mutual
noncomputable def iY:W->W->Option Bool
 |.aE,.aE=>some true
 |.aE,.bl _=>some false|.aE,.int _=>some false|.aE,.str _=>some false|.aE,.tup _=>some false|.aE,.lst _=>some false
 |.bl a,.bl b=>some (a==b)
 |.bl a,.int b=>some ((if a then 1 else 0)==b)
 |.bl _,.aE=>some false|.bl _,.str _=>some false|.bl _,.tup _=>some false|.bl _,.lst _=>some false
 |.int a,.int b=>some (a==b)
 |.int a,.bl b=>some (a==(if b then 1 else 0))
 |.int _,.aE=>some false|.int _,.str _=>some false|.int _,.tup _=>some false|.int _,.lst _=>some false
 |.str a,.str b=>some (a==b)
 |.str _,.aE=>some false|.str _,.bl _=>some false|.str _,.int _=>some false|.str _,.tup _=>some false|.str _,.lst _=>some false
 |.tup _,.aE=>some false|.tup _,.bl _=>some false|.tup _,.int _=>some false|.tup _,.str _=>some false|.tup _,.lst _=>some false
 |.lst _,.aE=>some false|.lst _,.bl _=>some false|.lst _,.int _=>some false|.lst _,.str _=>some false|.lst _,.tup _=>some false
 |.tup xs,.tup ys=>eL xs ys
 |.lst xs,.lst ys=>eL xs ys
 |.exc _,_=>none
 |_,.exc _=>none
 |.a8 _,_=>none
 |_,.a8 _=>none
 |.dw _ _ _ _,_=>none
 |.fn _ _ _,_=>none
 |_,.dw _ _ _ _=>none
 |_,.fn _ _ _=>none
noncomputable def eL:List W->List W->Option Bool
 |[],[]=>some true
 |[],_::_=>some false
 |_::_,[]=>some false
 |x::xs,y::ys=>match iY x y,eL xs ys with
  |some a,some b=>some (a&&b)
  |_,_=>none
end
def bh:W->W->Option W
 |.tup ws,.int i=>bY ws i
 |.lst ws,.int i=>bY ws i
 |.str z,.int i=>if z.length<=16777216 then(bY z.cps.toList i).map λc=>.str ⟨#[c]⟩else none
 |_,_=>none
def ao.bY{i:Int}(r:ao K G ws xs)(h:L2.bY ws i=some w):∃x,L2.bY xs i=some x/\Rep K G w x:=by
 unfold L2.bY at h |-
 rw[r.length];cases q:gG ws.length i with
 |none=>rw[q]at h;cases h
 |some j=>
  rw[q]at h;exact r.get h
def Qz:ik K (LX K) bh:=by
 intro G H x y wx wy w Q s px py hf h;unfold bh at hf;split at hf
 .obtain⟨a,xs,rfl,ha,ra⟩:=px;cases py;obtain⟨v,hv,rv⟩:=ra.bY hf;exact .inr (.inl ⟨a,xs,_,v,rfl,rfl,s.tup ha,hv,h G v H (.refl s) rv⟩)
 .obtain⟨a,xs,rfl,ha,ra⟩:=px;cases py;obtain⟨v,hv,rv⟩:=ra.bY hf;exact .inl ⟨a,xs,_,v,rfl,rfl,s.seq ha,hv,h G v H (.refl s) rv⟩
 .cases px;cases py;split at hf
  .rename_i hl;obtain⟨c,hc,rfl⟩:=w0h.mp hf;exact .inr (.inr ⟨_,_,c,rfl,rfl,by grind [sizeLine_eq],hc,h G _ H (.refl s) rfl⟩)
  .cases hf
 .cases hf
def S.look:S->Option W
 |.fr w=>some w
 |.own _ ws=>some (.lst ws)
 |.no=>none
 |.a8 _=>none
 |.nest _=>none
 |.dw _ _ _=>none
def eX(i:Nat)(d:Den W):Den W:=λe=>match e[i]?.bind S.look with
 |none=>.no
 |some _=>(d e).bind λk e1=>match e1[i]?.bind S.look with
  |none=>.no
  |some w=>ba (bh w k) e1
def Aa:W->Option W
 |.str z=>if z.length<=16777216 then some (.int z.length)else none
 |.tup ws=>some (.int ws.length)
 |.lst ws=>some (.int ws.length)
 |_=>none
def bS:List W->Option W
 |[w]=>Aa w
 |_=>none
def PH:pM K (λxs H Q=>∃x n,xs=[x]/\yF K x H n/\Q (.int n) H) bS:=by
 intro G H xs ws w Q s pr hf h;unfold bS at hf;split at hf
 .obtain⟨x,r,rfl,px,pr⟩:=pr;cases(show r=[]from pr);unfold Aa at hf;split at hf
  .split at hf
   .rename_i hl;cases hf;cases px;exact⟨_,_,rfl,⟨by grind [sizeLine_eq],rfl⟩,h G _ H (.refl s) rfl⟩
   .cases hf
  .cases hf;obtain⟨a,xs,rfl,ha,ra⟩:=px;exact⟨_,_,rfl,.inr ⟨xs,s.tup ha,rfl⟩,h G _ H (.refl s) (by rw[ra.length];rfl)⟩
  .cases hf;obtain⟨a,xs,rfl,ha,ra⟩:=px;exact⟨_,_,rfl,.inl ⟨xs,s.seq ha,rfl⟩,h G _ H (.refl s) (by rw[ra.length];rfl)⟩
  .cases hf
 .cases hf
def a_:W->Bool
 |.aE=>true|.bl _=>true|.int _=>true|.str _=>true|_=>false
def X_(h:a_ w=true)(p:Rep K G w v):Rep K G' w v:=by
 cases w with
 |aE=>exact p
 |bl b=>exact p
 |int i=>exact p
 |str x=>exact p
 |_=>cases h
def fB(i:Nat)(f:List W->Option W):Den W:=λe=>match e[i]?.bind S.look with
 |none=>.no
 |some w=>match f [w]with
  |none=>.no
  |some v=>match e[i]? with
   |some (.fr _)=>.ok v e
   |_=>if a_ v=true then .ok v e else .no
section
variable{a b e:Expr}{p:Pos}{x:Str}
theorem Q0o(ha:DE Z X EE a d)(hb:DE Z X EE b db)(hs:d7 b:=by intro _ _;rfl):DE Z X EE (.Subscript a b pos) (av bh d db):=PE.mono (wY Pt ha hb hs) (uV Qz)
def Rel.look{e:List S}(r:Rel K Z G σ H e){w:W}(h:e[i]?.bind S.look=some w):∃v,σ[i]?=some (some v) /\
  (Rep K G w v\/∃ws a xs u,(∀z,e[i]?≠some (.fr z))/\w=.lst ws/\v=.ref a/\H a=some u/\(u=.lst xs\/∃o,u=.cP o (.lst xs))/\G a=none/\ao K G ws xs):=by
 obtain⟨s,h1,h2⟩:=w1d.mp h;cases s with
 |no=>cases h2
 |a8 _=>cases h2
 |nest _=>cases h2
 |dw _ _ _=>cases h2
 |fr w'=>
  cases h2;obtain⟨v,h3,h4⟩:=r.fr h1;exact⟨v,h3,.inl h4⟩
 |own b ws=>
  cases h2;obtain⟨a,xs,h3,h4,h5,h6,h7⟩:=r.own h1;exact⟨.ref a,h3,.inr ⟨ws,a,xs,_,(λz y=>by rw[h1]at y;cases y),rfl,rfl,h4,.inl rfl,h5,h7⟩⟩
theorem WK{K:Fg}{a:Addr}{u:HO}(s:ak G H)(h:H a=some u)(hg:G a=none):ak G (upd G a u)/\ak (upd G a u) H:=
 ⟨wJ hg _,λc o z=>by
  by_cases hc:c=a
  .subst hc;rw[bV]at z;cases z;exact h
  .rw[aU hc]at z;exact s c o z⟩
def z50(i:Nat)(hb:DE Z X EE b d)(hN:autoParam (X.N[i]?=some x) jJ)(hv:autoParam (jI X.env.scope x) jN)(hd:autoParam ((x==("__debug__":Str))=false) jK)
  (ei:autoParam ((x==("__classdict__":Str))=false) jK)(hs:d7 b:=by intro _ _;rfl):DE Z X EE (.Subscript (.Name x p) b pos) (eX i d):=by
 refine PE.mono (wY Pt (pv i hN hv hd ei) hb hs) ?_;rintro σ H Q ⟨G,e,rel,h⟩;unfold eX at h;split at h
 .exact h.elim
 .rename_i w0 SS;obtain⟨v,hv,_⟩:=rel.look SS;refine⟨v,hv,G,e,rel,(R.au.mp h).imp (λk e1 h G1 u H1 r1 s1 p1=>?_) λ_ _ h=>h⟩
  split at h
  .exact h.elim
  .rename_i w hw;obtain⟨w',hf,h2⟩:=aS.mp h;obtain⟨v',sQ,q⟩:=r1.look hw;rw[hv]at sQ;cases sQ;rcases q with q|⟨ws,a,xs,u,he,rfl,rfl,q1,qu,q2,q3⟩
   .exact Qz G1 H1 v u w k w' Q r1.sub q p1 hf λG' v H' g p=>h2 G' v H' (r1.grow g) (s1.trans g.gg) p
   ·-- an item of K5 own list
    unfold bh at hf;split at hf
    .rename_i heq;cases heq
    .rename_i heq;cases heq;cases p1;obtain⟨y,hy,ry⟩:=q3.bY hf;refine .inl ⟨a,xs,_,y,rfl,rfl,?_,hy,h2 G1 y H1 r1 s1 ry⟩;rcases qu with rfl|⟨o,rfl⟩
     .exact bB.of q1
     .exact .inl (.inr ⟨o,q1⟩)
    all_goals grind
def z51{r:List V->Hp->VK->Prop}{f:List W->Option W}(i:Nat){id:String}{fn:Str}(hc:cX X (.builtin id) r)(hf:pM X.K r f)(hv:bootBuiltins fn=some (.builtin id))(hm:X.mg fn=none)
  (hN:autoParam (X.N[i]?=some x) jJ)(i4:autoParam (jI X.env.scope x) jN)(hd:autoParam ((x==("__debug__":Str))=false) jK)(ei:autoParam ((x==("__classdict__":Str))=false) jK)
  (hg:autoParam (Gl X fn) jJ)(hn:autoParam (fn≠"__name__") jK)(ix:autoParam ((fn==("__debug__":Str))=false) jK)(hs:autoParam (starEach [.Name x p] X.env=(false,eval (.Name x p) X.env)::starEach [] X.env) jJ)(du:autoParam ((backTo pos (starEach [] X.env)).any (·.1)=false) jJ):
  DE Z X EE (.Call (.Name fn pn) [.Name x p] [] pos) (fB i f):=by
 refine PE.mono (HE hc hg hm hv (x9 (pv i hN i4 hd ei) Dt hs) hn ix hs du) ?_;rintro σ H Q ⟨G,e,rel,h⟩;unfold fB at h;split at h
 .exact h.elim
 .rename_i w hw;split at h
  .exact h.elim
  .rename_i y hy;obtain⟨v,hv,q⟩:=rel.look hw;refine⟨v,hv,?_⟩;rcases q with q|⟨ws,a,xs,u,he,rfl,rfl,q1,qu,q2,q3⟩
   .refine hf G H [v] [w] y Q rel.sub (.one q) hy λG' v H' g p=>?_
    split at h
    .exact h G' v H' (rel.grow g) g.gg p
    .split at h
     .exact h G' v H' (rel.grow g) g.gg p
     .exact h.elim
   .split at h
    .rename_i hz;exact absurd hz (he _)
    split at h
    .rename_i hsc;obtain⟨s1,s2⟩:=WK (K:=X.K) rel.sub q1 q2
     have Fi:bB X.K (upd G a u) a xs:=by
      rcases qu with rfl|⟨o,rfl⟩
      .exact bB.of bV
      .exact .inl (.inr ⟨o,bV⟩)
     refine hf (upd G a u) H [.ref a] [.lst ws] y Q s2 (.one ⟨a,xs,rfl,Fi,ao.mono s1 ws q3⟩) hy λG' v H' g p=>?_
     have g':aM G H G H':=⟨g.hh,.refl _,rel.sub.trans g.hh,λ_ _=>rfl⟩
     exact(show ∀G' v H',_->_->Rep X.K G' y v->Q v H' from h) G v H' (rel.grow g') (.refl _) (X_ hsc p)
    .exact h.elim
def fZ(i:Nat)(d:Den (List W)):List S->SR:=λe=>match e[i]? with
 |some (.own _ _)=>(d e).cq λws e1=>match ws,e1[i]? with
  |[w],some (.own b xs)=>if xs.length<16777216 then .nx (e1.set i (.own b (xs++[w])))else .no
  |_,_=>.no
 |_=>.no
def z52(i:Nat)(ha:DA Z X EE (e::es) dA)(hN:autoParam (X.N[i]?=some x) jJ)(hv:autoParam (jI X.env.scope x) jN)(hd:autoParam ((x==("__debug__":Str))=false) jK)(ei:autoParam ((x==("__classdict__":Str))=false) jK)
  (dQ:autoParam (attributeBase (.Name x p) "append" X.env (eval (.Name x p) X.env)=eval (.Name x p) X.env) jJ)
  (gE:autoParam (((backTo bc (starEach (e::es) X.env)).all (λx=>!x.1)&&(backToKw bc (keywordEach [] X.env)).all (λx=>x.1.isSome)&&decide ((e::es).length+([]:List Keyword).length+(if([]:List Keyword).isEmpty then 0 else 1)<30))=true) jJ)
  (dW:autoParam ((apos.endLine==bc.line)=true) jJ)(hs:autoParam (starEach (e::es) X.env=(false,eval e X.env)::starEach es X.env) jJ)(cI:autoParam ((backTo bc (starEach es X.env)).any (·.1)=false) jJ)
  (nB:autoParam (swapsWith (.Call (.Attribute (.Name x p) "append" apos) (e::es) [] bc) none pos.line X.env=pure false) jJ):
  DS Z X EE (.Expr (.Call (.Attribute (.Name x p) "append" apos) (e::es) [] bc) pos) (fZ i dA):=by
 refine PS.mono (Dn (z5a (pv i hN hv hd ei) ha dQ gE dW hs cI) nB) ?_;rintro D σ H ⟨G,e,rel,h⟩;unfold fZ at h;split at h
 .rename_i b0 IQ nr;obtain⟨a,xs,h1,h2,h3,h4,h5⟩:=rel.own nr;refine⟨.ref a,h1,.inl ⟨rfl,xs,bB.of h2⟩,G,e,rel,(iQ h).imp (λws e1 h G1 vs H1 r1 s1 p1=>?_) λ_ _ h=>h⟩
  split at h
  .rename_i w b ys qe;obtain⟨a',zs,g1,g2,g3,g4,g5⟩:=r1.own qe;rw[h1]at g1;cases g1;obtain⟨y,r,rfl,py,pr⟩:=p1;cases(show r=[]from pr);split at h
   .rename_i hl;refine⟨a,zs,y,rfl,rfl,g2,by rw[g5.length,sizeLine_eq];exact hl,?_⟩;exact h G1 σ _ (r1.mut qe h1 (g5.append (.one py))) s1
   .exact h.elim
  .exact h.elim
 .exact h.elim
end
def cz(c:Den Bool)(d:Den W)(pe:List S):List W->Option (List W)
 |[]=>some []
 |w::ws=>match c (.fr w::pe)with
  |.ok true e1=>match d e1 with
   |.ok y _=>(cz c d pe ws).map (y::·)
   |_=>none
  |.ok false _=>cz c d pe ws
  |_=>none
def d5(e:List S)(j:Nat):List S:=match e[j]? with
 |some (.own none ws)=>e.set j (.fr (.lst ws))
 |_=>e
def aW(js:List Nat)(e:List S):List S:=js.foldl d5 e
def j6(e:List S)(j:Nat):S:=match e[j]? with
 |some (.fr w)=>.fr w
 |_=>.no
def fM(js:List Nat)(e:List S):List S:=js.map (j6 e)
def iH(js:List Nat)(c:Den Bool)(d:Den W)(ws:List W)(e1:List S):R (List W):=
 if ws.length<=16777216 then(match cz c d (fM js (aW js e1)) ws with
  |some out=>.ok out (aW js e1)
  |none=>.no)else .no
def bG(js:List Nat)(di:Den W)(c:Den Bool)(d:Den W):Den (List W):=λe=>(di e).bind λw e1=>match eu w with
 |some ws=>iH js c d ws e1
 |none=>.no
def cQ(g:List W->Option (List W))(js:List Nat)(di:Den (List W))(c:Den Bool)(d:Den W):Den (List W):=λe=>(di e).bind λw e1=>match g w with
 |some ws=>iH js c d ws e1
 |none=>.no
def bK:Den Bool:=λe=>.ok true e
def Rel.aW(r:Rel K Z G σ H e):∀(js:List Nat),∃G',ak G G'/\Rel K Z G' σ H (aW js e):=by
 intro js
 induction js generalizing G e with
 |nil=>exact⟨G,.refl _,r⟩
 |cons j js ih=>
  have one:∃G',ak G G'/\Rel K Z G' σ H (d5 e j):=by
   unfold d5;split
   .rename_i ws hw;obtain⟨v,G',_,s,_,r'⟩:=r.freeze hw;exact⟨G',s,r'⟩
   .exact⟨G,.refl _,r⟩
  obtain⟨G1,s1,r1⟩:=one;obtain⟨G2,s2,r2⟩:=ih r1;exact⟨G2,s1.trans s2,r2⟩
def Rel.block(r:Rel K Z G σ H e)(js:List Nat){w:W}{x:V}(p:Rep K G w x):Rel K ⟨H,G,[]⟩ G (some x::pj js σ) H (.fr w::fM js e):=by
 have l7:∀(i:Nat)(s:S),(S.fr w::fM js e)[i]?=some s->s=.no\/∃u,s=.fr u/\((i=0/\u=w)\/∃k j,i=k+1/\js[k]?=some j/\e[j]?=some (.fr u)):=λi s h=>by
  cases i with
  |zero=>cases h;exact .inr ⟨w,rfl,.inl ⟨rfl,rfl⟩⟩
  |succ k=>
   rw[w0f]at h;unfold fM at h;rw[w1i]at h;obtain⟨j,h1,h2⟩:=w0h.mp h;unfold j6 at h2;split at h2
   .rename_i u hu;subst h2;exact .inr ⟨u,rfl,.inr ⟨k,j,rfl,h1,hu⟩⟩
   .subst h2;exact .inl rfl
 refine⟨r.sub,λi s h=>?_,?_,λi j b b' w1 w2 a h1 h2 _ _=>?_,λa o h _=>h,(λa h=>nomatch h),λa _=>rfl⟩
 .rcases l7 i s h with rfl|⟨u,rfl,⟨rfl,rfl⟩|⟨k,j,rfl,h1,h2⟩⟩
  .trivial
  .exact⟨x,rfl,p⟩
  .obtain⟨v,h3,h4⟩:=r.fr h2;refine⟨v,?_,h4⟩;rw[w0f];unfold pj;rw[w1i,h1];simp[h3]
 .simp[fM,pj]
 .rcases l7 i _ h1 with z|⟨u,z,_⟩<;>cases z
def Rel.ja(r:Rel K Z G σ H e)(hg:G a=none)(hz:Z.H a=none)(hi:a∉Z.io)(hf:iq σ e a)(sN:H a=some (.lst ls)):Rel K Z G σ (upd H a o) e:=by
 refine⟨λc u z=>?_,λj s z=>?_,r.len,r.lW,λc u z n=>?_,λc z=>?_,r.gen⟩
 .rw[aU (gA z hg)];exact r.sub c u z
 .have y:=r.slot j s z;cases s with
  |no=>trivial
  |fr w=>exact y
  |own b2 w2=>
   obtain⟨c,ys,y1,y2,y3,y4,y5⟩:=y;refine⟨c,ys,y1,?_,y3,y4,y5⟩;rw[aU];exact y2;rintro rfl;obtain⟨c',_,z1,_⟩:=r.own z;rw[z1]at y1;cases y1;exact hf j b2 w2 z z1
  |a8 kvs=>
   obtain⟨c,y1,y2,y3,y4⟩:=y;refine⟨c,y1,?_,y3,y4⟩;rw[aU (iD y2 sN (tJ rfl))];exact y2
  |nest bo=>exact cy.move y (.refl _) λl o ys k1 k2 k3=>⟨by rw[aU (iD k1 sN (λz=>nomatch z))];exact k1,k2,k3⟩
  |dw sh ks ws=>exact iT.move y (.refl _) λl o ys k1 k2 k3=>⟨by rw[aU (iD k1 sN (tH rfl))];exact k1,k2,k3⟩
 .rw[aU (gA z hz)];exact r.ent c u z n
 .by_cases hc:c=a
  .grind
  .rw[aU hc];exact r.ko c z
structure Walk(J:It)(xs:List V)(SQ:Hp->Prop):Prop where
 go:∀i H,SQ H->i<xs.length->J.go i H
 kI:∀i H x H',SQ H->J.kI i H x H'->i<xs.length->H'=H/\xs[i]?=some x
 stop:∀i H,SQ H->xs.length<=i->J.stop i H
theorem Jw:Walk (xw K a) xs (λH=>bB K H a xs):=
 ⟨λi H q h=>⟨xs,xs[i],q,by simp[h]⟩,λi H x H' q ⟨e,y⟩ h=>⟨e,y xs q⟩,λi H q h=>⟨xs,q,h⟩⟩
theorem Jq:Walk (xx K a) xs (λH=>cZ K H a xs):=
 ⟨λi H q h=>⟨xs,xs[i],q,by simp[h]⟩,λi H x H' q ⟨e,y⟩ h=>⟨e,y xs q⟩,λi H q h=>⟨xs,q,h⟩⟩
theorem z53:Walk (pK lo n) ((List.range n).map λk=>V.int (lo+(k:Nat))) (λ_=>True):=
 ⟨λi H q h=>show i<n by simpa using h,λi H x H' q ⟨e,y⟩ h=>⟨e,by simp at h;simp[h,y]⟩,λi H q h=>show n<=i by simpa using h⟩
def Jf{J:It}{xs:List V}{SQ:Hp->Prop}{out:List W}{Q:VK}{G0:Hp}(W0:Walk J xs SQ)(r1:Rel K Z G1 σ H1 e1)(s1:ak G0 G1)(rp:ao K G1 ws xs)(oX:∀G' H',ak G1 G'->ak G' H'->SQ H')(hl:ws.length<=16777216)
  (hz:∀p,H1 p=none->p∉Z.io)(hc:cz c d (fM js e1) ws=some out)
  (h:∀G' a xs H',Rel K Z G' σ H' e1->ak G0 G'->H' a=some (.lst xs)->G' a=none->Z.H a=none->iq σ e1 a->ao K G' out xs->Q (.ref a) H'):
  ∀D,H1 D=none->∃W:Nat->Nat->Hp->Prop,(∃m,W 0 m (upd H1 D (.lst [])))/\∀i m H2,W i m H2 ->
   (J.stop i H2/\Q (.ref D) H2)\/(J.go i H2/\∀x H3,J.kI i H2 x H3->bx 0 x (List.replicate 1 none++pj js σ) H3 λnX H4=>Kp (List.replicate 1 none++pj js σ) nX/\(λσ H Q=>∃Z',liftT K Z' (λ_=>E0) c σ H Q) nX H4 λb H5=>
    if b=true then(λσ H Q=>∃Z',sj K Z' σ H λG e=>(d e).holds (λw e'=>∀G' v H',Rel K Z' G' σ H' e'->ak G G'->Rep K G' w v->Q v H') (XH K Z' (λ_=>E0) σ G)) nX H5 λy H6=>∃ys,H6 D=some (.lst ys)/\ys.length<sizeLine/\∃m',m'<m/\W (i+1) m' (upd H6 D (.lst (ys++[y])))else ∃m',m'<m/\W (i+1) m' H5):=by
 intro D hD;have hlen:=rp.length
 refine⟨λi m H2=>m=ws.length-i/\i<=ws.length/\∃G2 ys done rest,Rel K Z G2 σ H2 e1/\ak G1 G2/\H2 D=some (.lst ys)/\G2 D=none/\ao K G2 done ys/\done.length<=i/\cz c d (fM js e1) (ws.drop i)=some rest/\done++rest=out,
  ⟨ws.length,by omega,w1a _,G1,[],[],out,r1.grow (aM.nu r1.sub hD _),.refl _,bV,r1.sub.free hD,rfl,w0c _,hc,rfl⟩,?_⟩
 rintro i m H2 ⟨rfl,hi,G2,ys,done,rest,r2,s2,hd2,oq,qT,Kv,b_,ho⟩;have b7:iq σ e1 D:=wO r1 hD;have uI:Z.H D=none:=qK r1 hD
 by_cases cb:i<ws.length
 .refine .inr ⟨W0.go i H2 (oX G2 H2 s2 r2.sub) (by omega),λx H3 hy=>?_⟩
  obtain⟨rfl,hx⟩:=W0.kI i H2 x H3 (oX G2 H2 s2 r2.sub) hy (by omega);obtain⟨w,hw,pw⟩:=rp.iZ hx;rw[Hj hw]at b_;refine⟨Kp.one,⟨H3,G2,[]⟩,G2,.fr w::fM js e1,r2.block js (Rep.mono s2 w pw),?_⟩;unfold cz at b_;cases qc:c (.fr w::fM js e1)with
  |no=>rw[qc]at b_;cases b_
  |ex _ _=>rw[qc]at b_;cases b_
  |ok k e2=>
   rw[qc]at b_;intro G3 H5 r3 s3;have g3:=r3.fN s3;cases k with
   |false=>
    exact⟨ws.length-(i+1),by omega,rfl,cb,G3,ys,done,rest,r2.grow g3,s2.trans s3,g3.hh _ _ hd2,by rw[g3.new D (by rw[hd2];simp)];exact oq,ao.mono s3 _ qT,by omega,b_,ho⟩
   |true=>
    refine⟨⟨H3,G2,[]⟩,G3,e2,r3,?_⟩;dsimp only at b_;cases qd:d e2 with
    |no=>rw[qd]at b_;cases b_
    |ex _ _=>rw[qd]at b_;cases b_
    |ok y e3=>
     rw[qd]at b_;intro G4 v H6 r4 s4 p4;have g4:=r4.fN (s3.trans s4);obtain⟨my,hr,rfl⟩:=w0h.mp b_;have vL:H6 D=some (.lst ys):=g4.hh _ _ hd2;have uB:G4 D=none:=by rw[g4.new D (by rw[hd2];simp)];exact oq
     refine⟨ys,vL,?_,ws.length-(i+1),by omega,rfl,cb,G4,ys++[v],done++[y],my,(r2.grow g4).ja uB uI (hz D hD) b7 vL,s2.trans (s3.trans s4),bV,uB,(ao.mono (s3.trans s4) _ qT).append (.one p4),by simp;omega,hr,by rw[w3b];exact ho⟩;rw[qT.length,sizeLine_eq];omega
 .have:i=ws.length:=by omega
  subst this;rw[w2q]at b_;cases b_;rw[w2d]at ho;subst ho;exact .inl ⟨W0.stop _ H2 (oX G2 H2 s2 r2.sub) (by omega),h G2 D ys H2 r2 (s1.trans s2) hd2 oq uI b7 qT⟩
section
variable{elt iter a b:Expr}{ifs:List Expr}{scope sc:Scope}{pt:Pos}{x:Str}{Nf N:List Str}{di:Den W}
def rB(Z:Zt)(X:Cx)(EE:L2.St->XK)(ifs:List Expr)(c:Den Bool):Prop:=rD X ifs (liftT X.K Z EE c)
theorem VO:rB Z X EE [] bK:=λpins s σ H Q I ⟨G,e,r,h⟩=>Zi pins s σ H Q I (h G H r (.refl _))
theorem y97(h:DT Z X EE a c):rB Z X EE [a] c:=Zj h
def cT(K:Fg)(c:Den Bool):TT:=λσ H Q=>∃Z',liftT K Z' (λ_=>E0) c σ H Q
def cE(K:Fg)(d:Den W):TE:=λσ H Q=>∃Z',sj K Z' σ H λG e=>(d e).holds (λw e'=>∀G' v H',Rel K Z' G' σ H' e'->ak G G'->Rep K G' w v->Q v H') (XH K Z' (λ_=>E0) σ G)
def WL{D:Ends}{r:R (List W)}{k:W->List S->SR}(h:bw K Z EE D G ((r.bind λws e'=>.ok (.lst ws) e').cq k)):r.holds (λws e'=>bw K Z EE D G (k (.lst ws) e')) (XH K Z EE σ G):=by
 cases r with
 |ok a e=>exact h
 |ex c e=>exact λG' H' r q=>h G' σ H' r q
 |no=>exact h
theorem wZ(ht:∀Z' cl C ax aA ex,rB Z' (X.cp Y scope cl C ax aA ex) (λ_=>E0) ifs c):∀cl C ax aA ex,rD (X.cp Y scope cl C ax aA ex) ifs (cT X.K c):=λcl C ax aA ex pins s σ H Q I ⟨Z',h⟩=>ht Z' cl C ax aA ex pins s σ H Q I h
theorem yj(he:∀Z' cl C ax aA ex,DE Z' (X.cp Y scope cl C ax aA ex) (λ_=>E0) elt d):∀cl C ax aA ex,PE (X.cp Y scope cl C ax aA ex) elt (cE X.K d):=λcl C ax aA ex pins s σ H Q I ⟨Z',h⟩=>he Z' cl C ax aA ex pins s σ H Q I h
theorem ju(r:Rel K Z G σ H e):∀p,H p=none->p∉Z.io:=λp hp hi=>r.ko p hi hp
def Hl:∀σ H Q,mh K Z EE (bG js di c d) σ H Q->iS (zY K (gv K Z EE di)) 1 js (bx 0) (cT K c) (cE K d) σ H Q:=by
 rintro σ H Q ⟨G,e,rel,h⟩;simp only[bG,R.au]at h;refine⟨G,e,rel,h.imp (λw e1 h G1 v1 H1 r1 s1 p1=>?_) λ_ _ h=>h⟩
 split at h
 .rename_i ws hw;unfold iH at h;split at h
  .rename_i hl;split at h
   .rename_i out ho;obtain⟨G2,s2,r2⟩:=r1.aW js;have p2:=Rep.mono s2 w p1;have io:=ju r2;cases w with
    |tup us=>
     cases hw;obtain⟨a,xs,rfl,hq,rp⟩:=p2;exact⟨a,rfl,.inr ⟨⟨xs,r2.sub.tup hq⟩,Jf Jq r2 (s1.trans s2) rp (λG' H' s s'=>ak.tup s' (ak.tup s hq)) hl io ho h⟩⟩
    |lst us=>
     cases hw;obtain⟨a,xs,rfl,hq,rp⟩:=p2;exact⟨a,rfl,.inl ⟨⟨xs,r2.sub.seq hq⟩,Jf Jw r2 (s1.trans s2) rp (λG' H' s s'=>ak.seq s' (ak.seq s hq)) hl io ho h⟩⟩
    |_=>cases hw
   .exact h.elim
  .exact h.elim
 .exact h.elim
def y98(hc:X.calm=true)(hi:DE Z X EE iter di)(ok:bX sc scope N Nf js=true)
  (ht:∀Z' cl C ax aA ex,rB Z' (X.cp ([x]++Nf) scope cl C ax aA ex) (λ_=>E0) ifs c)(he:∀Z' cl C ax aA ex,DE Z' (X.cp ([x]++Nf) scope cl C ax aA ex) (λ_=>E0) elt d)
  (hg:∀cl C ax aA ex,PG (X.cp ([x]++Nf) scope cl C ax aA ex) (.Name x pt) (bx 0))
  (hsc:autoParam (X.env.scope=sc) jJ)(hN:autoParam (X.N=N) jJ)(hs:∀x,foldedSetIterable iter X.env x=pure x:=by intro _;rfl):
  DF Z X EE (.ListComp elt [⟨.Name x pt,iter,ifs,0⟩] scope pos) (bG js di c d):=by
 exact PE.mono (HF (Nl:=[x]) (tc:=cT X.K c) (te:=cE X.K d) hc (yh hi) ok hg (wZ ht) (yj he) hsc hN hs) Hl
def x9m(i:Nat){y:Str}{py cL:Pos}(zm:X.N.Nodup)(hc:X.calm=true)(hi:DE Z X EE iter di)(ok:bX sc scope N Nf js=true)
  (ht:∀Z' cl C ax aA ex,rB Z' (X.cp ([x]++Nf) scope cl C ax aA ex) (λ_=>E0) ifs c)(he:∀Z' cl C ax aA ex,DE Z' (X.cp ([x]++Nf) scope cl C ax aA ex) (λ_=>E0) elt d)
  (hg:∀cl C ax aA ex,PG (X.cp ([x]++Nf) scope cl C ax aA ex) (.Name x pt) (bx 0))
  (hsc:autoParam (X.env.scope=sc) jJ)(hN:autoParam (X.N=N) jJ)(hs:∀x,foldedSetIterable iter X.env x=pure x:=by intro _;rfl)(zF:autoParam (X.N[i]?=some y) jJ)(zW:autoParam (Loc X.env.scope y) jM)(zD:autoParam (X.fn y=true\/X.env.scope.names.lookup y=some .local) jL)(nB:autoParam (swapsWith (.ListComp elt [⟨.Name x pt,iter,ifs,0⟩] scope pos) (some (.Name y py)) cL.line X.env=pure true) jJ):
  DS Z X EE (.Assign [.Name y py] (.ListComp elt [⟨.Name x pt,iter,ifs,0⟩] scope pos) cL) (aF i (gN (bG js di c d))):=by
 refine PS.mono (Hk (Nl:=[x]) (tc:=cT X.K c) (te:=cE X.K d) hc (yh hi) ok hg (wZ ht) (yj he) (rX i zm zF zW zD) nB hsc hN hs) ?_;rintro D σ H ⟨G,e,rel,h⟩;refine Hl σ H _ ⟨G,e,rel,?_⟩;refine(WL h).imp (λw e1 h G1 a xs H1 r1 s1 q1 q2 q3 q4 p1=>?_) λ_ _ h=>h
 obtain⟨sg,rg⟩:=r1.seen q1 q2 q3 q4;exact h _ _ H1 (rg.set (v:=.ref a) ⟨a,xs,rfl,bB.of bV,ao.mono sg w p1⟩) (s1.trans sg)
def x9n(i:Nat){y:Str}{py cL:Pos}(zm:X.N.Nodup)(hc:X.calm=true)(hi:DE Z X EE iter di)(ok:bX sc scope N Nf js=true)
  (ht:∀Z' cl C ax aA ex,rB Z' (X.cp ([x]++Nf) scope cl C ax aA ex) (λ_=>E0) ifs c)(he:∀Z' cl C ax aA ex,DE Z' (X.cp ([x]++Nf) scope cl C ax aA ex) (λ_=>E0) elt d)
  (hg:∀cl C ax aA ex,PG (X.cp ([x]++Nf) scope cl C ax aA ex) (.Name x pt) (bx 0))
  (hsc:autoParam (X.env.scope=sc) jJ)(hN:autoParam (X.N=N) jJ)(hs:∀x,foldedSetIterable iter X.env x=pure x:=by intro _;rfl)(zF:autoParam (X.N[i]?=some y) jJ)(zW:autoParam (Loc X.env.scope y) jM)(zD:autoParam (X.fn y=true\/X.env.scope.names.lookup y=some .local) jL)(nB:autoParam (swapsWith (.ListComp elt [⟨.Name x pt,iter,ifs,0⟩] scope pos) (some (.Name y py)) cL.line X.env=pure true) jJ):
  DS Z X EE (.Assign [.Name y py] (.ListComp elt [⟨.Name x pt,iter,ifs,0⟩] scope pos) cL) (bN i (bG js di c d)):=by
 refine PS.mono (Hk (Nl:=[x]) (tc:=cT X.K c) (te:=cE X.K d) hc (yh hi) ok hg (wZ ht) (yj he) (rX i zm zF zW zD) nB hsc hN hs) ?_;rintro D σ H ⟨G,e,rel,h⟩;refine Hl σ H _ ⟨G,e,rel,?_⟩;exact(iQ h).imp (λw e1 h G1 a xs H1 r1 s1 q1 q2 q3 q4 p1=>h G1 _ H1 (r1.qV q1 q2 q3 q4 p1) s1) λ_ _ h=>h
def LU:∀σ H Q,mh K Z EE (cQ f9 js dA c d) σ H Q->iS (uJ (qq K Z EE dA)) 1 js (bx 0) (cT K c) (cE K d) σ H Q:=by
 rintro σ H Q ⟨G,e,rel,h⟩;simp only[cQ,R.au]at h;refine⟨G,e,rel,h.imp (λws e1 h G1 vs H1 r1 s1 p1=>?_) λ_ _ h=>h⟩
 unfold f9 at h;split at h
 .rename_i us hh;split at hh
  .rename_i j;split at hh
   .rename_i hj;cases hh;obtain⟨y,r,rfl,e1,e2⟩:=p1;cases(show y=V.int j from e1);cases(show r=[]from e2);refine⟨j,rfl,(wX hj).1,(wX hj).2,?_⟩;unfold iH at h;split at h
    .rename_i hl;split at h
     .rename_i out ho;obtain⟨G2,s2,r2⟩:=r1.aW js;have z:=Jf (J:=pK 0 (j-0).toNat) z53 r2 (s1.trans s2) (LS (lo:=0) (hi:=j)) (λ_ _ _ _=>trivial) hl (ju r2) ho h
      rwa [Int.sub_zero]at z
     .exact h.elim
    .exact h.elim
   .cases hh
  .cases hh
 .exact h.elim
def y5u(hc:X.calm=true)(hm:X.mg "range"=none)(ha:DA Z X EE [a] dA)(ok:bX sc scope N Nf js=true)
  (ht:∀Z' cl C ax aA ex,rB Z' (X.cp ([x]++Nf) scope cl C ax aA ex) (λ_=>E0) ifs c)(he:∀Z' cl C ax aA ex,DE Z' (X.cp ([x]++Nf) scope cl C ax aA ex) (λ_=>E0) elt d)
  (hg:∀cl C ax aA ex,PG (X.cp ([x]++Nf) scope cl C ax aA ex) (.Name x pt) (bx 0))
  (ET:autoParam (Gl X "range") jJ)(kS:autoParam (starEach [a] X.env=[(false,eval a X.env)]) jJ)(hsc:autoParam (X.env.scope=sc) jJ)(hN:autoParam (X.N=N) jJ)(hs:∀x,foldedSetIterable (.Call (.Name "range" p1) [a] [] p2) X.env x=pure x:=by intro _;rfl):
  DF Z X EE (.ListComp elt [⟨.Name x pt,.Call (.Name "range" p1) [a] [] p2,ifs,0⟩] scope pos) (cQ f9 js dA c d):=by
 exact PE.mono (HF (Nl:=[x]) (tc:=cT X.K c) (te:=cE X.K d) hc (Hf ET hm ha kS) ok hg (wZ ht) (yj he) hsc hN hs) LU
end
mutual
noncomputable def cj:W->Nat
 |.tup ws=>c5 ws+1
 |.lst ws=>c5 ws+1
 |_=>0
noncomputable def c5:List W->Nat
 |[]=>0
 |w::ws=>max (cj w) (c5 ws)
end
section
variable{pins:List (Addr×Obj)}
mutual
theorem Jg(I:Inv X pins σ H s)(sg:ak G H):∀(w:W){w':W}{v:V}{k:Bool},Rep X.K G w v->Rep X.K G w' v->iY w w'=some k->k=true
 |.aE,w',v,k,h,h',e=>by
  cases(show v=.aE from h);cases w'<;>first|(cases e;done)|(cases h';cases e;rfl)|(exfalso;obtain⟨_,_,z,_⟩:=h';first|done|cases z)|(exfalso;obtain⟨_,z,_⟩:=h';first|done|cases z)
 |.bl b,w',v,k,h,h',e=>by
  cases(show v=.bl b from h);cases w'<;>first|(cases e;done)|(cases h';cases e;exact beq_self_eq_true _)|(exfalso;obtain⟨_,_,z,_⟩:=h';first|done|cases z)|(exfalso;obtain⟨_,z,_⟩:=h';first|done|cases z)
 |.int b,w',v,k,h,h',e=>by
  cases(show v=.int b from h);cases w'<;>first|(cases e;done)|(cases h';cases e;exact beq_self_eq_true _)|(exfalso;obtain⟨_,_,z,_⟩:=h';first|done|cases z)|(exfalso;obtain⟨_,z,_⟩:=h';first|done|cases z)
 |.str b,w',v,k,h,h',e=>by
  cases(show v=.str b from h);cases w'<;>first|(cases e;done)|(cases h';cases e;exact beq_self_eq_true _)|(exfalso;obtain⟨_,_,z,_⟩:=h';first|done|cases z)|(exfalso;obtain⟨_,z,_⟩:=h';first|done|cases z)
 |.tup ws,w',v,k,h,h',e=>by
  obtain⟨a,xs,rfl,q,r⟩:=h;cases w' with
  |tup ws'=>
   obtain⟨a',i8,z,q',r'⟩:=h';cases z;have:=I.fX (sg.tup q) (sg.tup q');subst this;exact HG I sg ws r r' (e)
  |lst ws'=>
   obtain⟨a',i8,z,q',r'⟩:=h';cases z;obtain⟨aw,_,p1,_⟩:=I.tuple (sg.tup q);obtain⟨fH,_,p2,_⟩:=I.list (sg.seq q');exact absurd rfl (SeqAt.ne_of_list_tuple p2.isList (show s.heap.IsTuple a _ from p1))
  |aE=>cases h'
  |bl _=>cases h'
  |int _=>cases h'
  |str _=>cases h'
  |exc _=>cases e
  |a8 _=>cases e
  |dw _ _ _ _=>cases e
  |fn _ _ _=>cases e
 |.lst ws,w',v,k,h,h',e=>by
  obtain⟨a,xs,rfl,q,r⟩:=h;cases w' with
  |lst ws'=>
   obtain⟨a',i8,z,q',r'⟩:=h';cases z;have:=I.hX (sg.seq q) (sg.seq q');subst this;exact HG I sg ws r r' (e)
  |tup ws'=>
   obtain⟨a',i8,z,q',r'⟩:=h';cases z;obtain⟨aw,_,p1,_⟩:=I.tuple (sg.tup q');obtain⟨fH,_,p2,_⟩:=I.list (sg.seq q);exact absurd rfl (SeqAt.ne_of_list_tuple p2.isList (show s.heap.IsTuple a _ from p1))
  |aE=>cases h'
  |bl _=>cases h'
  |int _=>cases h'
  |str _=>cases h'
  |exc _=>cases e
  |a8 _=>cases e
  |dw _ _ _ _=>cases e
  |fn _ _ _=>cases e
 |.exc c,w',v,k,h,h',e=>by cases w'<;>cases e
 |.a8 c,w',v,k,h,h',e=>by cases w'<;>cases e
 |.dw _ _ _ _,w',v,k,h,h',e=>by cases w'<;>cases e
 |.fn _ _ _,w',v,k,h,h',e=>by cases w'<;>cases e
theorem HG(I:Inv X pins σ H s)(sg:ak G H):∀(ws:List W){ws':List W}{vs:List V}{k:Bool},ao X.K G ws vs->ao X.K G ws' vs->eL ws ws'=some k->k=true
 |[],ws',vs,k,h,h',e=>by
  cases h;cases ws' with
  |nil=>cases e;rfl
  |cons _ _=>obtain⟨_,_,z,_⟩:=h';cases z
 |w::ws,ws',vs,k,h,h',e=>by
  obtain⟨x,r,rfl,h1,h2⟩:=h;cases ws' with
  |nil=>cases h'
  |cons w' ws'=>
   obtain⟨x',r',z,RI,B3⟩:=h';cases z;have e:(match iY w w',eL ws ws' with|some a,some b=>some (a&&b)|_,_=>none)=some k:=e;cases q1:iY w w' with
   |none=>rw[q1]at e;cases e
   |some b1=>
    cases q2:eL ws ws' with
    |none=>rw[q1,q2]at e;cases e
    |some b2=>
     rw[q1,q2]at e;rw[Jg I sg w h1 RI q1,HG I sg ws h2 B3 q2]at e;cases e;rfl
end
def xY:∀{xs ys:List W}{b:Bool},eL xs ys=some b->(∀(j:Nat) x y,xs[j]?=some x->ys[j]?=some y->∃k,iY x y=some k)/\b=((List.range (min xs.length ys.length)).all (λj=>((iY (xs.getD j .aE) (ys.getD j .aE)).getD false))&&xs.length==ys.length):=by
 intro xs
 induction xs with
 |nil=>
  intro ys b h;refine⟨λj x y hx=>by simp at hx,?_⟩
  cases ys<;>(cases h;simp)
 |cons x xs ih=>
  intro ys b h;cases ys with
  |nil=>refine⟨λj x y hx hy=>by simp at hy,?_⟩;cases h;simp
  |cons y ys=>
   have h:(match iY x y,eL xs ys with|some a,some b=>some (a&&b)|_,_=>none)=some b:=h;cases q1:iY x y with
   |none=>rw[q1]at h;cases h
   |some b1=>
    cases q2:eL xs ys with
    |none=>grind
    |some b2=>
     rw[q1,q2]at h;cases h;obtain⟨h1,h2⟩:=ih q2;refine⟨λj x' y' hx hy=>?_,?_⟩
     .cases j with
      |zero=>grind
      |succ j=>exact h1 j x' y' (by simpa using hx) (by simpa using hy)
     .rw[h2];simp only[w1e,Nat.succ_min_succ,List.range_succ_eq_map,w2e,w4h]
      have e0:(iY ((x::xs).getD 0 .aE) ((y::ys).getD 0 .aE)).getD false=b1:=by
       grind
      rw[e0,Bool.and_assoc];congr 1;congr 1;simp
theorem Hn:∀{xs:List W}{j:Nat}{x:W},xs[j]?=some x->cj x<=c5 xs
 |[],_,_,h=>by simp at h
 |y::ys,0,x,h=>by grind [c5]
 |y::ys,j+1,x,h=>by
  have:=Hn (xs:=ys) (j:=j) (by simpa using h);simp only[c5];omega
def Dp{xs:List α}{x d:α}(h:xs[j]?=some x):xs.getD j d=x:=by
 simp[List.getD,h]
def Jr(I:Inv X pins σ H s)(sg:ak G H)(hu:A.units<cLine)(n1:∀ws,w=.tup ws->∀ws',w'≠.tup ws')(n2:∀ws,w=.lst ws->∀ws',w'≠.lst ws')(h:Rep X.K G w v)(h':Rep X.K G w' v')(r:RelV v u)(r':RelV v' u')(e:iY w w'=some b):SeqAt.RcAt A s u u' b:=by
 have tl:∀{ws:List W}{v:V}{u:Value},Rep X.K G (.lst ws) v->RelV v u->∃l items,u=.ref l/\s.heap.IsList l items:=λh r=>by
  obtain⟨a,xs,rfl,q,_⟩:=h;cases r;obtain⟨aw,_,p,_⟩:=I.list (sg.seq q);exact⟨a,_,rfl,p.isList⟩
 have tt:∀{ws:List W}{v:V}{u:Value},Rep X.K G (.tup ws) v->RelV v u->∃l items,u=.ref l/\s.heap.IsTuple l items:=λh r=>by
  obtain⟨a,xs,rfl,q,_⟩:=h;cases r;obtain⟨aw,_,p,_⟩:=I.tuple (sg.tup q);exact⟨a,_,rfl,p⟩
 have tn:∀{v:V}{u:Value},Rep X.K G .aE v->RelV v u->u=.none:=λh r=>by cases h;exact r
 have tb:∀{k:Bool}{v:V}{u:Value},Rep X.K G (.bl k) v->RelV v u->u=.bool k:=λh r=>by cases h;exact r
 have ti:∀{k:Int}{v:V}{u:Value},Rep X.K G (.int k) v->RelV v u->∃t,u=.int k t:=λh r=>by cases h;exact r
 have ts:∀{k:Str}{v:V}{u:Value},Rep X.K G (.str k) v->RelV v u->∃t,u=.str k t:=λh r=>by cases h;exact r
 cases w with
 |aE=>
  obtain rfl:=tn h r;cases w' with
  |aE=>obtain rfl:=tn h' r';cases e;exact .none_none
  |bl k=>obtain rfl:=tb h' r';cases e;exact .none_bool k
  |int k=>obtain⟨t,rfl⟩:=ti h' r';cases e;exact .none_int k t
  |str k=>obtain⟨t,rfl⟩:=ts h' r';cases e;exact .none_str k t
  |tup k=>obtain⟨l,it,rfl,p⟩:=tt h' r';cases e;exact .none_tuple p hu
  |lst k=>obtain⟨l,it,rfl,p⟩:=tl h' r';cases e;exact .none_list p hu
  |exc k=>cases e
  |a8 k=>cases e
  |dw _ _ _ _=>cases e
  |fn _ _ _=>cases e
 |bl j=>
  obtain rfl:=tb h r;cases w' with
  |aE=>obtain rfl:=tn h' r';cases e;exact .bool_none j
  |bl k=>obtain rfl:=tb h' r';cases e;exact .bool_bool j k
  |int k=>obtain⟨t,rfl⟩:=ti h' r';cases e;exact .bool_int j k t
  |str k=>obtain⟨t,rfl⟩:=ts h' r';cases e;exact .bool_str j k t
  |tup k=>obtain⟨l,it,rfl,p⟩:=tt h' r';cases e;exact .bool_tuple j p hu
  |lst k=>obtain⟨l,it,rfl,p⟩:=tl h' r';cases e;exact .bool_list j p hu
  |exc k=>cases e
  |a8 k=>cases e
  |dw _ _ _ _=>cases e
  |fn _ _ _=>cases e
 |int j=>
  obtain⟨t1,rfl⟩:=ti h r;cases w' with
  |aE=>obtain rfl:=tn h' r';cases e;exact .int_none j t1
  |bl k=>obtain rfl:=tb h' r';cases e;exact .int_bool j t1 k
  |int k=>obtain⟨t,rfl⟩:=ti h' r';cases e;exact .int_int j t1 k t
  |str k=>obtain⟨t,rfl⟩:=ts h' r';cases e;exact .int_str j t1 k t
  |tup k=>obtain⟨l,it,rfl,p⟩:=tt h' r';cases e;exact .int_tuple j t1 p hu
  |lst k=>obtain⟨l,it,rfl,p⟩:=tl h' r';cases e;exact .int_list j t1 p hu
  |exc k=>cases e
  |a8 k=>cases e
  |dw _ _ _ _=>cases e
  |fn _ _ _=>cases e
 |str j=>
  obtain⟨t1,rfl⟩:=ts h r;cases w' with
  |aE=>obtain rfl:=tn h' r';cases e;exact .str_none j t1
  |bl k=>obtain rfl:=tb h' r';cases e;exact .str_bool j t1 k
  |int k=>obtain⟨t,rfl⟩:=ti h' r';cases e;exact .str_int j t1 k t
  |str k=>obtain⟨t,rfl⟩:=ts h' r';cases e;exact .str_str j t1 k t
  |tup k=>obtain⟨l,it,rfl,p⟩:=tt h' r';cases e;exact .str_tuple j t1 p hu
  |lst k=>obtain⟨l,it,rfl,p⟩:=tl h' r';cases e;exact .str_list j t1 p hu
  |exc k=>cases e
  |a8 k=>cases e
  |dw _ _ _ _=>cases e
  |fn _ _ _=>cases e
 |tup j=>
  obtain⟨l1,Fx,rfl,p1⟩:=tt h r;cases w' with
  |aE=>obtain rfl:=tn h' r';cases e;exact .tuple_none p1 hu
  |bl k=>obtain rfl:=tb h' r';cases e;exact .tuple_bool k p1 hu
  |int k=>obtain⟨t,rfl⟩:=ti h' r';cases e;exact .tuple_int k t p1 hu
  |str k=>obtain⟨t,rfl⟩:=ts h' r';cases e;exact .tuple_str k t p1 hu
  |tup k=>grind
  |lst k=>obtain⟨l,it,rfl,p⟩:=tl h' r';cases e;exact .tuple_list p1 p hu
  |exc k=>cases e
  |a8 k=>cases e
  |dw _ _ _ _=>cases e
  |fn _ _ _=>cases e
 |lst j=>
  obtain⟨l1,Fx,rfl,p1⟩:=tl h r;cases w' with
  |aE=>obtain rfl:=tn h' r';cases e;exact .list_none p1 hu
  |bl k=>obtain rfl:=tb h' r';cases e;exact .list_bool k p1 hu
  |int k=>obtain⟨t,rfl⟩:=ti h' r';cases e;exact .list_int k t p1 hu
  |str k=>obtain⟨t,rfl⟩:=ts h' r';cases e;exact .list_str k t p1 hu
  |lst k=>grind
  |tup k=>obtain⟨l,it,rfl,p⟩:=tt h' r';cases e;exact .list_tuple p1 p hu
  |exc k=>cases e
  |a8 k=>cases e
  |dw _ _ _ _=>cases e
  |fn _ _ _=>cases e
 |exc j=>cases w'<;>cases e
 |a8 j=>cases w'<;>cases e
 |dw _ _ _ _=>cases w'<;>cases e
 |fn _ _ _=>cases w'<;>cases e
theorem OD(I:Inv X pins σ H s)(sg:ak G H)(hd:cj w<=0)(hu:A.units<cLine)(h:Rep X.K G w v)(h':Rep X.K G w' v')(r:RelV v u)(r':RelV v' u')(e:iY w w'=some b):SeqAt.RcAt A s u u' b:=
 Jr I sg hu (λws z=>by grind [cj]) (λws z=>by grind [cj]) h h' r r' e
theorem Nm(h:Rep K G w v):∀x,v≠.um x:=λx z=>by
 subst z;cases w with
 |tup ws=>obtain⟨_,_,z,_⟩:=h;cases z
 |lst ws=>obtain⟨_,_,z,_⟩:=h;cases z
 |exc c=>obtain⟨_,z,_⟩:=h;cases z
 |a8 c=>obtain⟨_,z,_⟩:=h;cases z
 |dw _ _ _ _=>obtain⟨_,_,_,z,_⟩:=h;cases z
 |fn _ _ _=>obtain⟨_,_,_,_,z,_⟩:=h;cases z
 |_=>cases h
theorem Nn(rv:RelV v u)(hf:∀x,v≠.um x)(h:SeqAt.RcAt A s u u' b)(hs:u=u'->b=true):SeqAt.EqAt A s u u' b:=λprog w E Q hq=>by
 unfold eqBool;refine wpAny_holding ?_;refine wpAny_ite_split (λur=>?_) (λ_=>?_)
 .have hb:=hs (eq_of_beq ur)
  grind [wpAny_bind,wpAny_rule,wpAny_pure]
 .have z:=wpAny_bind (h prog w E (λa s'=>wpAny (model prog w) A (truthOfDropped a) Q E s') (wpAny_truthy_bool hq))
  cases v with
  |um x=>exact absurd rfl (hf x)
  |aE=>cases rv;exact z
  |bl _=>cases rv;exact z
  |int _=>obtain⟨t,rfl⟩:=rv;exact z
  |str _=>obtain⟨t,rfl⟩:=rv;exact z
  |ud _=>obtain⟨t,rfl⟩:=rv;exact z
  |ref _=>cases rv;exact z
  |ty _=>cases rv;exact z
def QA(I:Inv X pins σ H s)(sg:ak G H):∀(n:Nat){w w':W}{v v':V}{u u':Value}{b:Bool}{A:Around},cj w<=n->A.units+n<cLine->Rep X.K G w v->Rep X.K G w' v'->RelV v u->RelV v' u'->iY w w'=some b->SeqAt.RcAt A s u u' b:=by
 intro n
 induction n with
 |zero=>
  grind [OD]
 |succ n ih=>
  intro w w' v v' u u' b A hd hu h h' r r' e
  have items:∀{ws ws':List W}{xs i8:List V}{aw its':List Value}{k:Bool},c5 ws<=n->ao X.K G ws xs->ao X.K G ws' i8->Vals xs aw->Vals i8 its'->eL ws ws'=some k ->
    ∀j (h1:j<aw.toArray.size) (h2:j<its'.toArray.size),SeqAt.EqAt A.in1 s aw.toArray[j] its'.toArray[j] ((iY (ws.getD j .aE) (ws'.getD j .aE)).getD false):=by
   intro ws ws' xs i8 aw its' k hd r1 r2 v1 v2 he j h1 h2;have l1:=r1.length;have l2:=r2.length;have m1:=v1.length;have m2:=v2.length;have i1:j<xs.length:=by rw[m1];simpa using h1
   have i2:j<i8.length:=by rw[m2];simpa using h2
   obtain⟨u1,e1,w6⟩:=v1.get (w0d i1);obtain⟨u2,e2,Be⟩:=v2.get (w0d i2);obtain⟨w1,f1,p1⟩:=r1.iZ (w0d i1);obtain⟨w2,f2,p2⟩:=r2.iZ (w0d i2);obtain⟨b',l5⟩:=(xY he).1 j w1 w2 f1 f2;rw[Dp f1,Dp f2,l5]
   have g1:aw.toArray[j]=u1:=by
    grind
   have g2:its'.toArray[j]=u2:=by
    grind
   rw[g1,g2];have EL:cj w1<=n:=w0s (Hn f1) hd
   have Fn:A.in1.units+n<cLine:=by
    grind
   refine Nn w6 (Nm p1) (ih EL Fn p1 p2 w6 Be l5) λz=>?_
   subst z;have:=w6.inj Be
   grind [Jg]
  cases w with
  |tup ws=>
   cases w' with
   |tup ws'=>
    obtain⟨a,xs,rfl,q1,r1⟩:=h;obtain⟨a',i8,rfl,q2,r2⟩:=h';cases r;cases r';obtain⟨aw,v1,p1,_⟩:=I.tuple (sg.tup q1);obtain⟨its',v2,p2,_⟩:=I.tuple (sg.tup q2);have e:eL ws ws'=some b:=e;have z:=SeqAt.RcAt.tuples (show s.heap.IsTuple a _ from p1) (show s.heap.IsTuple a' _ from p2) (show A.units<cLine by omega) (items (by grind [cj]) r1 r2 v1 v2 e);have l1:=r1.length;have l2:=r2.length;have m1:=v1.length;have m2:=v2.length;have eb:=(xY e).2
    grind
   |_=>exact Jr I sg (by omega) (by intro ws';simp) (by intro ws';simp) h h' r r' e
  |lst ws=>
   cases w' with
   |lst ws'=>
    obtain⟨a,xs,rfl,q1,r1⟩:=h;obtain⟨a',i8,rfl,q2,r2⟩:=h';cases r;cases r';obtain⟨aw,v1,p1,_⟩:=I.list (sg.seq q1);obtain⟨its',v2,p2,_⟩:=I.list (sg.seq q2);have e:eL ws ws'=some b:=e;have l1:=r1.length;have l2:=r2.length;have m1:=v1.length;have m2:=v2.length;have eb:=(xY e).2;have n1:aw.length=ws.length:=by omega
    have n2:its'.length=ws'.length:=by omega
    by_cases hl:ws.length=ws'.length
    .have z:=SeqAt.RcAt.lists p1.isList p2.isList (by grind) (show A.units<cLine by omega) (items (by grind [cj]) r1 r2 v1 v2 e)
     grind
    .have z:=SeqAt.RcAt.lists_lengths (A:=A) p1.isList p2.isList (by grind) (show A.units<cLine by omega)
     grind
   |_=>exact Jr I sg (by omega) (by intro ws';simp) (by intro ws';simp) h h' r r' e
  |_=>exact OD I sg (by simp[cj]) (by omega) h h' r r' e
def HH(I:Inv X pins σ H s)(sg:ak G H)(hu:A.units<cLine)(n1:∀ws,w=.tup ws->∀ws',w'≠.tup ws')(n2:∀ws,w=.lst ws->∀ws',w'≠.lst ws')(h:Rep X.K G w v)(h':Rep X.K G w' v')(r:RelV v u)(r':RelV v' u')(e:iY w w'=some b):SeqAt.RcNeAt A s u u' (!b):=by
 have tl:∀{ws:List W}{v:V}{u:Value},Rep X.K G (.lst ws) v->RelV v u->∃l items,u=.ref l/\s.heap.IsList l items:=λh r=>by
  obtain⟨a,xs,rfl,q,_⟩:=h;cases r;obtain⟨aw,_,p,_⟩:=I.list (sg.seq q);exact⟨a,_,rfl,p.isList⟩
 have tt:∀{ws:List W}{v:V}{u:Value},Rep X.K G (.tup ws) v->RelV v u->∃l items,u=.ref l/\s.heap.IsTuple l items:=λh r=>by
  obtain⟨a,xs,rfl,q,_⟩:=h;cases r;obtain⟨aw,_,p,_⟩:=I.tuple (sg.tup q);exact⟨a,_,rfl,p⟩
 have tn:∀{v:V}{u:Value},Rep X.K G .aE v->RelV v u->u=.none:=λh r=>by cases h;exact r
 have tb:∀{k:Bool}{v:V}{u:Value},Rep X.K G (.bl k) v->RelV v u->u=.bool k:=λh r=>by cases h;exact r
 have ti:∀{k:Int}{v:V}{u:Value},Rep X.K G (.int k) v->RelV v u->∃t,u=.int k t:=λh r=>by cases h;exact r
 have ts:∀{k:Str}{v:V}{u:Value},Rep X.K G (.str k) v->RelV v u->∃t,u=.str k t:=λh r=>by cases h;exact r
 cases w with
 |aE=>
  obtain rfl:=tn h r;cases w' with
  |aE=>obtain rfl:=tn h' r';cases e;exact .none_none
  |bl k=>obtain rfl:=tb h' r';cases e;exact .none_bool k
  |int k=>obtain⟨t,rfl⟩:=ti h' r';cases e;exact .none_int k t
  |str k=>obtain⟨t,rfl⟩:=ts h' r';cases e;exact .none_str k t
  |tup k=>obtain⟨l,it,rfl,p⟩:=tt h' r';cases e;exact .none_tuple p hu
  |lst k=>obtain⟨l,it,rfl,p⟩:=tl h' r';cases e;exact .none_list p hu
  |exc k=>cases e
  |a8 k=>cases e
  |dw _ _ _ _=>cases e
  |fn _ _ _=>cases e
 |bl j=>
  obtain rfl:=tb h r;cases w' with
  |aE=>obtain rfl:=tn h' r';cases e;exact .bool_none j
  |bl k=>obtain rfl:=tb h' r';cases e;exact .bool_bool j k
  |int k=>obtain⟨t,rfl⟩:=ti h' r';cases e;exact .bool_int j k t
  |str k=>obtain⟨t,rfl⟩:=ts h' r';cases e;exact .bool_str j k t
  |tup k=>obtain⟨l,it,rfl,p⟩:=tt h' r';cases e;exact .bool_tuple j p hu
  |lst k=>obtain⟨l,it,rfl,p⟩:=tl h' r';cases e;exact .bool_list j p hu
  |exc k=>cases e
  |a8 k=>cases e
  |dw _ _ _ _=>cases e
  |fn _ _ _=>cases e
 |int j=>
  obtain⟨t1,rfl⟩:=ti h r;cases w' with
  |aE=>obtain rfl:=tn h' r';cases e;exact .int_none j t1
  |bl k=>obtain rfl:=tb h' r';cases e;exact .int_bool j t1 k
  |int k=>obtain⟨t,rfl⟩:=ti h' r';cases e;exact .int_int j t1 k t
  |str k=>obtain⟨t,rfl⟩:=ts h' r';cases e;exact .int_str j t1 k t
  |tup k=>obtain⟨l,it,rfl,p⟩:=tt h' r';cases e;exact .int_tuple j t1 p hu
  |lst k=>obtain⟨l,it,rfl,p⟩:=tl h' r';cases e;exact .int_list j t1 p hu
  |exc k=>cases e
  |a8 k=>cases e
  |dw _ _ _ _=>cases e
  |fn _ _ _=>cases e
 |str j=>
  obtain⟨t1,rfl⟩:=ts h r;cases w' with
  |aE=>obtain rfl:=tn h' r';cases e;exact .str_none j t1
  |bl k=>obtain rfl:=tb h' r';cases e;exact .str_bool j t1 k
  |int k=>obtain⟨t,rfl⟩:=ti h' r';cases e;exact .str_int j t1 k t
  |str k=>obtain⟨t,rfl⟩:=ts h' r';cases e;exact .str_str j t1 k t
  |tup k=>obtain⟨l,it,rfl,p⟩:=tt h' r';cases e;exact .str_tuple j t1 p hu
  |lst k=>obtain⟨l,it,rfl,p⟩:=tl h' r';cases e;exact .str_list j t1 p hu
  |exc k=>cases e
  |a8 k=>cases e
  |dw _ _ _ _=>cases e
  |fn _ _ _=>cases e
 |tup j=>
  obtain⟨l1,Fx,rfl,p1⟩:=tt h r;cases w' with
  |aE=>obtain rfl:=tn h' r';cases e;exact .tuple_none p1 hu
  |bl k=>obtain rfl:=tb h' r';cases e;exact .tuple_bool k p1 hu
  |int k=>obtain⟨t,rfl⟩:=ti h' r';cases e;exact .tuple_int k t p1 hu
  |str k=>obtain⟨t,rfl⟩:=ts h' r';cases e;exact .tuple_str k t p1 hu
  |tup k=>grind
  |lst k=>obtain⟨l,it,rfl,p⟩:=tl h' r';cases e;exact .tuple_list p1 p hu
  |exc k=>cases e
  |a8 k=>cases e
  |dw _ _ _ _=>cases e
  |fn _ _ _=>cases e
 |lst j=>
  obtain⟨l1,Fx,rfl,p1⟩:=tl h r;cases w' with
  |aE=>obtain rfl:=tn h' r';cases e;exact .list_none p1 hu
  |bl k=>obtain rfl:=tb h' r';cases e;exact .list_bool k p1 hu
  |int k=>obtain⟨t,rfl⟩:=ti h' r';cases e;exact .list_int k t p1 hu
  |str k=>obtain⟨t,rfl⟩:=ts h' r';cases e;exact .list_str k t p1 hu
  |lst k=>grind
  |tup k=>obtain⟨l,it,rfl,p⟩:=tt h' r';cases e;exact .list_tuple p1 p hu
  |exc k=>cases e
  |a8 k=>cases e
  |dw _ _ _ _=>cases e
  |fn _ _ _=>cases e
 |exc j=>cases w'<;>cases e
 |a8 j=>cases w'<;>cases e
 |dw _ _ _ _=>cases w'<;>cases e
 |fn _ _ _=>cases w'<;>cases e
theorem WM(I:Inv X pins σ H s)(sg:ak G H)(hd:cj w<=0)(hu:A.units<cLine)(h:Rep X.K G w v)(h':Rep X.K G w' v')(r:RelV v u)(r':RelV v' u')(e:iY w w'=some b):SeqAt.RcNeAt A s u u' (!b):=
 HH I sg hu (λws z=>by grind [cj]) (λws z=>by grind [cj]) h h' r r' e
def Np(I:Inv X pins σ H s)(sg:ak G H)(hu:A.units+(n+1)<cLine)(hd:c5 ws<=n)(r1:ao X.K G ws xs)(r2:ao X.K G ws' i8)(v1:Vals xs aw)(v2:Vals i8 its')(he:eL ws ws'=some k):
  ∀j (h1:j<aw.toArray.size) (h2:j<its'.toArray.size),SeqAt.EqAt A.in1 s aw.toArray[j] its'.toArray[j] ((iY (ws.getD j .aE) (ws'.getD j .aE)).getD false):=by
 intro j h1 h2;have l1:=r1.length;have l2:=r2.length;have m1:=v1.length;have m2:=v2.length;have i1:j<xs.length:=by rw[m1];simpa using h1
 have i2:j<i8.length:=by rw[m2];simpa using h2
 obtain⟨u1,e1,w6⟩:=v1.get (w0d i1);obtain⟨u2,e2,Be⟩:=v2.get (w0d i2);obtain⟨w1,f1,p1⟩:=r1.iZ (w0d i1);obtain⟨w2,f2,p2⟩:=r2.iZ (w0d i2);obtain⟨b',l5⟩:=(xY he).1 j w1 w2 f1 f2;rw[Dp f1,Dp f2,l5]
 have g1:aw.toArray[j]=u1:=by
  grind
 have g2:its'.toArray[j]=u2:=by
  grind
 rw[g1,g2];have EL:cj w1<=n:=w0s (Hn f1) hd
 have Fn:A.in1.units+n<cLine:=by
  grind
 refine Nn w6 (Nm p1) (QA I sg n EL Fn p1 p2 w6 Be l5) λz=>?_
 subst z;have:=w6.inj Be
 grind [Jg]
def Y7(I:Inv X pins σ H s)(sg:ak G H)(n)(hd:cj w<=n+1)(hu:A.units+(n+1)<cLine)(h:Rep X.K G w v)(h':Rep X.K G w' v')(r:RelV v u)(r':RelV v' u')(e:iY w w'=some b):SeqAt.RcNeAt A s u u' (!b):=by
 cases w with
 |tup ws=>
  cases w' with
  |tup ws'=>
   obtain⟨a,xs,rfl,q1,r1⟩:=h;obtain⟨a',i8,rfl,q2,r2⟩:=h';cases r;cases r';obtain⟨aw,v1,p1,_⟩:=I.tuple (sg.tup q1);obtain⟨its',v2,p2,_⟩:=I.tuple (sg.tup q2);have e:eL ws ws'=some b:=e;have z:=SeqAt.RcNeAt.tuples (show s.heap.IsTuple a _ from p1) (show s.heap.IsTuple a' _ from p2) (show A.units<cLine by omega) (Np I sg hu (by grind [cj]) r1 r2 v1 v2 e);have l1:=r1.length;have l2:=r2.length;have m1:=v1.length;have m2:=v2.length;have eb:=(xY e).2
   grind
  |_=>exact HH I sg (by omega) (by intro ws';simp) (by intro ws';simp) h h' r r' e
 |lst ws=>
  cases w' with
  |lst ws'=>
   obtain⟨a,xs,rfl,q1,r1⟩:=h;obtain⟨a',i8,rfl,q2,r2⟩:=h';cases r;cases r';obtain⟨aw,v1,p1,_⟩:=I.list (sg.seq q1);obtain⟨its',v2,p2,_⟩:=I.list (sg.seq q2);have e:eL ws ws'=some b:=e;have l1:=r1.length;have l2:=r2.length;have m1:=v1.length;have m2:=v2.length;have eb:=(xY e).2;have n1:aw.length=ws.length:=by omega
   have n2:its'.length=ws'.length:=by omega
   by_cases hl:ws.length=ws'.length
   .have z:=SeqAt.RcNeAt.lists p1.isList p2.isList (by grind) (show A.units<cLine by omega) (Np I sg hu (by grind [cj]) r1 r2 v1 v2 e)
    grind
   .have z:=SeqAt.RcNeAt.lists_lengths (A:=A) p1.isList p2.isList (by grind) (show A.units<cLine by omega)
    grind
  |_=>exact HH I sg (by omega) (by intro ws';simp) (by intro ws';simp) h h' r r' e
 |_=>exact WM I sg (by simp[cj]) (by omega) h h' r r' e
def eq2(x y:W):Option W:=if cj x<=150 then(iY x y).map .bl else none
def A4(K:Fg):R2:=λx y H Q=>∃G wx wy b,ak G H/\cj wx<=150/\Rep K G wx x/\Rep K G wy y/\iY wx wy=some b/\Q (.bl b) H
def PJ(hu:X.A.units+150<cLine):fj X (compareOp .Eq) (A4 X.K):=by
 intro pins s σ H x y v u Q I rx ry h;obtain⟨G,wx,wy,b,sg,hd,hx,hy,e,q⟩:=h;exact QA I sg 150 hd hu hx hy rx ry e _ _ _ _ ⟨.bl b,H,I,rfl,q⟩
def QB:ik K (A4 K) eq2:=by
 intro G H x y wx wy w Q s px py hf h;unfold eq2 at hf;split at hf
 .rename_i hd;obtain⟨b,hb,rfl⟩:=w0h.mp hf;exact⟨G,wx,wy,b,s,hd,px,py,hb,h G _ H (.refl s) rfl⟩
 .cases hf
def ne2(x y:W):Option W:=if cj x<=150 then(iY x y).map λb=>.bl (!b)else none
def Bb(K:Fg):R2:=λx y H Q=>∃G wx wy b,ak G H/\cj wx<=150/\Rep K G wx x/\Rep K G wy y/\iY wx wy=some b/\Q (.bl (!b)) H
def z54(hu:X.A.units+150<cLine):fj X (compareOp .NotEq) (Bb X.K):=by
 intro pins s σ H x y v u Q I rx ry h;obtain⟨G,wx,wy,b,sg,hd,hx,hy,e,q⟩:=h;exact Y7 I sg 149 hd hu hx hy rx ry e _ _ _ _ ⟨.bl (!b),H,I,rfl,q⟩
def QW:ik K (Bb K) ne2:=by
 intro G H x y wx wy w Q s px py hf h;unfold ne2 at hf;split at hf
 .rename_i hd;obtain⟨b,hb,rfl⟩:=w0h.mp hf;exact⟨G,wx,wy,b,s,hd,px,py,hb,h G _ H (.refl s) rfl⟩
 .cases hf
end
def kq:W->W->Option W
 |.aE,.aE=>some (.bl true)
 |_,.aE=>some (.bl false)
 |.bl a,.bl b=>some (.bl (a==b))
 |_,.bl _=>some (.bl false)
 |_,_=>none
def gK:W->W->Option W
 |.aE,.aE=>some (.bl false)
 |_,.aE=>some (.bl true)
 |.bl a,.bl b=>some (.bl (!(a==b)))
 |_,.bl _=>some (.bl true)
 |_,_=>none
def LW:R2:=λx y H Q=>(y=.aE\/∃b,y=.bl b)/\Q (.bl (decide (x=y))) H
def Bc:R2:=λx y H Q=>(y=.aE\/∃b,y=.bl b)/\Q (.bl (!decide (x=y))) H
def Nq{x y:V}{v u:Value}(rx:RelV x v)(ry:RelV y u)(h:y=.aE\/∃b,y=.bl b):plainIs v u=true/\(v==u)=decide (x=y):=by
 rcases h with rfl|⟨b,rfl⟩
 .cases ry
  cases x<;>first
   |(cases rx;exact⟨rfl,by first|rfl|(rw[w1t];simp)⟩)
   |(obtain⟨t,rfl⟩:=rx;exact⟨rfl,by rw[w1t];simp⟩)
 .cases ry
  cases x<;>first
   |(cases rx;exact⟨rfl,by first|rfl|(rw[w1t];simp)⟩)
   |(obtain⟨t,rfl⟩:=rx;exact⟨rfl,by rw[w1t];simp⟩)
def PK:fj X (compareOp .Is) LW:=by
 intro pins s σ H x y v u Q I rx ry h;obtain⟨hy,q⟩:=h;obtain⟨h1,h2⟩:=Nq rx ry hy;exact wpAny_is_plain h1 (Pq I q h2.symm)
def OE:fj X (compareOp .IsNot) Bc:=by
 intro pins s σ H x y v u Q I rx ry h;obtain⟨hy,q⟩:=h;obtain⟨h1,h2⟩:=Nq rx ry hy;exact wpAny_isNot_plain h1 (Pq I q (by rw[h2]))
def QX{x y:V}{wx wy w:W}(px:Rep K G wx x)(py:Rep K G wy y)(h:kq wx wy=some w):(y=.aE\/∃b,y=.bl b)/\w=.bl (decide (x=y)):=by
 cases wy with
 |aE=>
  cases(show y=.aE from py);refine⟨.inl rfl,?_⟩;cases wx with
  |tup ws=>obtain⟨_,_,rfl,_⟩:=px;cases h;simp
  |lst ws=>obtain⟨_,_,rfl,_⟩:=px;cases h;simp
  |exc c=>obtain⟨_,rfl,_⟩:=px;cases h;simp
  |a8 c=>obtain⟨_,rfl,_⟩:=px;cases h;simp
  |dw _ _ _ _=>obtain⟨_,_,_,rfl,_⟩:=px;cases h;simp
  |fn _ _ _=>obtain⟨_,_,_,_,rfl,_⟩:=px;cases h;simp
  |_=>cases px;cases h;simp
 |bl b=>
  cases(show y=.bl b from py);refine⟨.inr ⟨b,rfl⟩,?_⟩;cases wx with
  |tup ws=>obtain⟨_,_,rfl,_⟩:=px;cases h;simp
  |lst ws=>obtain⟨_,_,rfl,_⟩:=px;cases h;simp
  |exc c=>obtain⟨_,rfl,_⟩:=px;cases h;simp
  |a8 c=>obtain⟨_,rfl,_⟩:=px;cases h;simp
  |dw _ _ _ _=>obtain⟨_,_,_,rfl,_⟩:=px;cases h;simp
  |fn _ _ _=>obtain⟨_,_,_,_,rfl,_⟩:=px;cases h;simp
  |bl k=>cases px;cases h;cases k<;>cases b<;>rfl
  |_=>cases px;cases h;simp
 |_=>cases wx<;>cases h
def z55{x y:V}{wx wy w:W}(px:Rep K G wx x)(py:Rep K G wy y)(h:gK wx wy=some w):(y=.aE\/∃b,y=.bl b)/\w=.bl (!decide (x=y)):=by
 cases wy with
 |aE=>
  cases(show y=.aE from py);refine⟨.inl rfl,?_⟩;cases wx with
  |tup ws=>obtain⟨_,_,rfl,_⟩:=px;cases h;simp
  |lst ws=>obtain⟨_,_,rfl,_⟩:=px;cases h;simp
  |exc c=>obtain⟨_,rfl,_⟩:=px;cases h;simp
  |a8 c=>obtain⟨_,rfl,_⟩:=px;cases h;simp
  |dw _ _ _ _=>obtain⟨_,_,_,rfl,_⟩:=px;cases h;simp
  |fn _ _ _=>obtain⟨_,_,_,_,rfl,_⟩:=px;cases h;simp
  |_=>cases px;cases h;simp
 |bl b=>
  cases(show y=.bl b from py);refine⟨.inr ⟨b,rfl⟩,?_⟩;cases wx with
  |tup ws=>obtain⟨_,_,rfl,_⟩:=px;cases h;simp
  |lst ws=>obtain⟨_,_,rfl,_⟩:=px;cases h;simp
  |exc c=>obtain⟨_,rfl,_⟩:=px;cases h;simp
  |a8 c=>obtain⟨_,rfl,_⟩:=px;cases h;simp
  |dw _ _ _ _=>obtain⟨_,_,_,rfl,_⟩:=px;cases h;simp
  |fn _ _ _=>obtain⟨_,_,_,_,rfl,_⟩:=px;cases h;simp
  |bl k=>cases px;cases h;cases k<;>cases b<;>rfl
  |_=>cases px;cases h;simp
 |_=>cases wx<;>cases h
def Qj:ik K LW kq:=by
 intro G H x y wx wy w Q s px py hf h;obtain⟨h1,rfl⟩:=QX px py hf;exact⟨h1,h G _ H (.refl s) rfl⟩
def Po:ik K Bc gK:=by
 intro G H x y wx wy w Q s px py hf h;obtain⟨h1,rfl⟩:=z55 px py hf;exact⟨h1,h G _ H (.refl s) rfl⟩
section
variable{a b c e:Expr}{p:Pos}{x:Str}
theorem z56(ha:DE Z X EE a da)(hb:DE Z X EE b db):DE Z X EE (.BinOp a .Sub b pos) (av mF da db):=uY z4u z5v ha hb
theorem z57(ha:DE Z X EE a da)(hb:DE Z X EE b db):DE Z X EE (.BinOp a .Mult b pos) (av i7 da db):=uY z4v z5w ha hb
theorem z0a(ha:DE Z X EE a da)(hb:DE Z X EE b db):DE Z X EE (.BinOp a .FloorDiv b pos) (av dj da db):=uY Za Y6 ha hb
theorem z58(ha:DE Z X EE a da)(hb:DE Z X EE b db):DE Z X EE (.BinOp a .Mod b pos) (av bU da db):=uY z4w z5x ha hb
theorem z59(ha:DE Z X EE a da)(hb:DE Z X EE b db):DE Z X EE (.BinOp a .Pow b pos) (av qD da db):=uY z4x z5y ha hb
theorem z6a(ha:DE Z X EE a da):DE Z X EE (.UnaryOp .USub a pos) (gm dq da):=QU z4y z5z ha
theorem Q0r(ha:DE Z X EE a da)(hb:DE Z X EE b db):DE Z X EE (.Compare a [.Lt] [b] pos) (av rQ da db):=yg Qs Qw ha hb (cJ _)
theorem Q0s(ha:DE Z X EE a da)(hb:DE Z X EE b db):DE Z X EE (.Compare a [.LtE] [b] pos) (av wa da db):=yg Qt Qx ha hb (cJ _)
theorem Q0t(ha:DE Z X EE a da)(hb:DE Z X EE b db):DE Z X EE (.Compare a [.Gt] [b] pos) (av l4 da db):=yg Qu Qy ha hb (cJ _)
theorem Q0u(hu:X.A.units+150<cLine)(ha:DE Z X EE a da)(hb:DE Z X EE b db):DE Z X EE (.Compare a [.Eq] [b] pos) (av eq2 da db):=yg (PJ hu) QB ha hb (cJ _)
theorem Q0v(ha:DE Z X EE a da)(hb:DE Z X EE b db):DE Z X EE (.Compare a [.Is] [b] pos) (av kq da db):=yg PK Qj ha hb (cJ _)
theorem z6b(ha:DE Z X EE a da)(hb:DE Z X EE b db):DE Z X EE (.Compare a [.IsNot] [b] pos) (av gK da db):=yg OE Po ha hb (cJ _)
theorem Q0w(ha:DE Z X EE a da)(hb:DE Z X EE b db):DT Z X EE (.Compare a [.Lt] [b] pos) (ay (av rQ da db)):=rV Qs Qw ha hb (cJ _)
theorem Q0x(ha:DE Z X EE a da)(hb:DE Z X EE b db):DT Z X EE (.Compare a [.LtE] [b] pos) (ay (av wa da db)):=rV Qt Qx ha hb (cJ _)
theorem Q0y(ha:DE Z X EE a da)(hb:DE Z X EE b db):DT Z X EE (.Compare a [.Gt] [b] pos) (ay (av l4 da db)):=rV Qu Qy ha hb (cJ _)
theorem Q0z(ha:DE Z X EE a da)(hb:DE Z X EE b db):DT Z X EE (.Compare a [.GtE] [b] pos) (ay (av y0 da db)):=rV QS QV ha hb (cJ _)
theorem Q00(hu:X.A.units+150<cLine)(ha:DE Z X EE a da)(hb:DE Z X EE b db):DT Z X EE (.Compare a [.Eq] [b] pos) (ay (av eq2 da db)):=rV (PJ hu) QB ha hb (cJ _)
theorem Q01(hu:X.A.units+150<cLine)(ha:DE Z X EE a da)(hb:DE Z X EE b db):DT Z X EE (.Compare a [.NotEq] [b] pos) (ay (av ne2 da db)):=rV (z54 hu) QW ha hb (cJ _)
theorem Q02(ha:DE Z X EE a da)(hb:DE Z X EE b db):DT Z X EE (.Compare a [.Is] [b] pos) (ay (av kq da db)):=rV PK Qj ha hb (cJ _)
theorem z6c(ha:DE Z X EE a da)(hb:DE Z X EE b db):DT Z X EE (.Compare a [.IsNot] [b] pos) (ay (av gK da db)):=rV OE Po ha hb (cJ _)
def To{k:Nat}(h:br k A):A.units+150<cLine:=by have:=h.un;omega
def fY(xs:List W)(lo hi:Option Int):List W:=(xs.drop (HT.cn xs.length 0 lo)).take (HT.cn xs.length xs.length hi-HT.cn xs.length 0 lo)
def ao.cut{xs:List V}(r:ao K G ws xs)(lo hi:Option Int):ao K G (fY ws lo hi) (jT xs lo hi):=by
 unfold fY jT;rw[r.length];exact(r.drop _).take _
def DO(Z:Zt)(X:Cx)(EE:L2.St->XK)(e:Option Expr)(d:Den (Option Int)):Prop:=PO X e (λσ H Q=>∃G e,Rel X.K Z G σ H e/\(d e).holds (λo e'=>∀G' H',Rel X.K Z G' σ H' e'->ak G G'->Q o H') (XH X.K Z EE σ G))
def b8:Den (Option Int):=λe=>.ok none e
def eK(d:Den W):Den (Option Int):=λe=>(d e).bind λw e1=>match w with
 |.int i=>.ok (some i) e1
 |_=>.no
theorem PO.mono{e:Option Expr}{t t':TO}(h:PO X e t)(i:∀σ H Q,t' σ H Q->t σ H Q):PO X e t':=λpins s σ H Q I q=>h pins s σ H Q I (i σ H Q q)
theorem z0b:DO Z X EE none b8:=PO.mono Zd λσ H Q ⟨G,e,r,h⟩=>h G H r (.refl _)
def z0c(h:DE Z X EE e da):DO Z X EE (some e) (eK da):=by
 refine PO.mono (Ze h) ?_;rintro σ H Q ⟨G,e,rel,h⟩;simp only[eK,R.au]at h;refine⟨G,e,rel,h.imp (λx e1 h G1 v1 H1 r1 s1 p1=>?_) λ_ _ h=>h⟩
 cases x with
 |int i=>cases(show v1=V.int i from p1);exact⟨i,rfl,h G1 H1 r1 s1⟩
 |_=>exact h.elim
def yp:W->Option Int->Option Int->Option W
 |.lst ws,lo,hi=>some (.lst (fY ws lo hi))
 |.tup ws,lo,hi=>if ¬(HT.cn ws.length 0 lo=0/\HT.cn ws.length ws.length hi=ws.length)then some (.tup (fY ws lo hi))else none
 |_,_,_=>none
def oU(d:Den W)(dl dh:Den (Option Int)):Den W:=λe=>(d e).bind λw e1=>(dl e1).bind λlo e2=>(dh e2).bind λhi e3=>ba (yp w lo hi) e3
def y5v{lo hi:Option Expr}{dl dh:Den (Option Int)}(he:DE Z X EE e da)(hl:DO Z X EE lo dl)(hh:DO Z X EE hi dh):DE Z X EE (.Subscript e (.Slice lo hi none p2) pos) (oU da dl dh):=by
 refine PE.mono (XU (tO.or z43) he hl hh) ?_;rintro σ H Q ⟨G,e,rel,h⟩;simp only[oU,R.au,aS]at h;refine⟨G,e,rel,h.imp (λw e1 h G1 v1 H1 r1 s1 p1=>?_) λ_ _ h=>h⟩
 refine⟨G1,e1,r1,h.imp (λlo e2 h G2 H2 r2 s2=>?_) λ_ _ h=>XH.trans s1 h⟩
 refine⟨G2,e2,r2,h.imp (λhi e3 h G3 H3 r3 s3=>?_) λ_ _ h=>XH.trans (s1.trans s2) h⟩
 obtain⟨y,hf,h⟩:=h;have p3:=Rep.mono (s2.trans s3) w p1;have LZ:=(s1.trans s2).trans s3;cases w with
 |lst ws=>
  cases hf;obtain⟨a,xs,rfl,q,r⟩:=p3;refine .inl ⟨a,xs,rfl,r3.sub.seq q,λp hp=>?_⟩
  have g:=aM.laid r3.sub hp (.lst (jT xs lo hi));exact h _ _ _ (r3.grow g) (LZ.trans g.gg) ⟨p,_,rfl,bB.of bV,ao.mono g.gg _ (r.cut lo hi)⟩
 |tup ws=>
  simp only[yp]at hf;split at hf
  .rename_i hw;cases hf;obtain⟨a,xs,rfl,q,r⟩:=p3;refine .inr ⟨a,xs,rfl,r3.sub.tup q,by rw[r.length];exact hw,λp hp=>?_⟩
   have g:=aM.laid r3.sub hp (.tup (jT xs lo hi));exact h _ _ _ (r3.grow g) (LZ.trans g.gg) ⟨p,_,rfl,cZ.of bV,ao.mono g.gg _ (r.cut lo hi)⟩
  .cases hf
 |_=>cases hf
def Uc:W->Value
 |.aE=>.type "NoneType"
 |.bl _=>.type "bool"
 |.int _=>.type "int"
 |.str _=>.type "str"
 |.tup _=>.type "tuple"
 |.lst _=>.type "list"
 |.exc c=>c
 |.a8 _=>.type "dict"
 |.dw _ _ _ _=>.type "dict"
 |.fn _ _ _=>.type "dict"
def kU(K:Fg)(cv:Value):W->Option W
 |.exc (.ref D)=>if cH K D=true then(kitOne K (.ref D) cv).map .bl else none
 |.exc _=>none
 |.a8 _=>none
 |.dw _ _ _ _=>none
 |.fn _ _ _=>none
 |w=>(kitOne K (Uc w) cv).map .bl
def Zu{pins:List (Addr×Obj)}{w:W}{v:V}{u:Value}{b:Bool}{Q:VK}(I:Inv X pins σ H s)(sg:ak G H)(p:Rep X.K G w v)(r:RelV v u)(h:kU X.K cv w=some (.bl b))(q:Q (.bl b) H):
  wpAny (model X.prog X.w) X.A (call (.builtin "isinstance") [u,cv]) (EP X pins σ Q) X.xe s:=by
 have fin:∀tk,EP X pins σ Q (.bool b) {s with toks:=tk}:=λtk=>⟨.bl b,H,I.tok _,rfl,q⟩
 have v7:∀{t:Value},(kitOne X.K t cv).map W.bl=some (.bl b)->kitOne X.K t cv=some b:=λz=>by
  obtain⟨y,h1,h2⟩:=w0h.mp z;cases h2;exact h1
 cases w with
 |aE=>cases p;cases r;exact kia_one PySem.W.kitx_none I.ky True.intro (v7 h) (λz=>nomatch z) fin
 |bl y=>cases p;cases r;exact kia_one PySem.W.kitx_bool I.ky True.intro (v7 h) (λz=>nomatch z) fin
 |int y=>cases p;obtain⟨t,rfl⟩:=r;exact kia_one PySem.W.kitx_int I.ky True.intro (v7 h) (λz=>nomatch z) fin
 |str y=>cases p;obtain⟨t,rfl⟩:=r;exact kia_one PySem.W.kitx_str I.ky True.intro (v7 h) (λz=>nomatch z) fin
 |tup ws=>
  obtain⟨a,xs,rfl,hq,_⟩:=p;cases r;obtain⟨aw,_,⟨o,h1,h2,_⟩,_⟩:=I.tuple (sg.tup hq);exact kia_one PySem.W.kitx_tuple I.ky ⟨o,h1,h2⟩ (v7 h) (λz=>nomatch z) fin
 |lst ws=>
  obtain⟨a,xs,rfl,hq,_⟩:=p;cases r;obtain⟨aw,_,⟨o,n,h1,h2,_⟩,_⟩:=I.list (sg.seq hq);exact kia_one PySem.W.kitx_list I.ky ⟨o,h1,h2⟩ (v7 h) (λz=>nomatch z) fin
 |a8 c=>simp[kU]at h
 |dw _ _ _ _=>simp[kU]at h
 |fn _ _ _=>simp[kU]at h
 |exc c=>
  obtain⟨e,rfl,he⟩:=p;cases r;unfold kU at h;split at h
  .rename_i D heq;cases heq;split at h
   .rename_i hC;obtain⟨⟨o,vs,h1,h2,h3⟩,_⟩:=(show aN X.prog X.w H s.heap e (m_ e (.ref D))from I.aG e _ (sg _ _ he));exact kia_one (X1 (ip.of hC)) I.ky ⟨o,vs,h1,h2,h3⟩ (v7 h) (λz=>nomatch z) fin
   .cases h
  all_goals first|(cases h;done)|(rename_i h1 h2 h3 h4 h5;exact absurd rfl (h2 c))|(rename_i h1 h2 h3 h4;exact absurd rfl (h2 c))|(rename_i h1 h2 h3;exact absurd rfl (h2 c))|(rename_i h1 h2;exact absurd rfl (h2 c))
def iW(K:Fg)(cv:Value)(d:Den W):Den W:=λe=>(d e).bind λw e1=>match kU K cv w with
 |some (.bl b)=>.ok (.bl b) e1
 |_=>.no
def Ww{c:V}(hc:yz c cv):cX X (.builtin "isinstance") (λxs H Q=>∃x G w b,xs=[x,c]/\ak G H/\Rep X.K G w x/\kU X.K cv w=some (.bl b)/\Q (.bl b) H):=by
 intro pins s σ H xs us Q I r h;obtain⟨x,G,w,b,rfl,sg,p,hi,q⟩:=h;obtain⟨u,u2,rfl,rx,rc⟩:=vals2 r
 have ec:u2=cv:=by
  cases c with
  |ty n=>exact(show u2=Value.type n from rc).trans (show cv=Value.type n from hc).symm
  |ref a=>exact(show u2=Value.ref a from rc).trans (show cv=Value.ref a from hc).symm
  |_=>exact hc.elim
 subst ec;exact Zu I sg p rx hi q
def Js{c0:V}(hc:yz c0 cv)(f6:PE X c (tC c0))(hm:X.mg "isinstance"=none)(he:DE Z X EE e da)(hg:autoParam (Gl X "isinstance") jJ)(hs:autoParam (starEach [e,c] X.env=(false,eval e X.env)::starEach [c] X.env) jJ)(iL:autoParam (starEach [c] X.env=(false,eval c X.env)::starEach [] X.env) jJ)(du:autoParam ((backTo pos (starEach [c] X.env)).any (·.1)=false) jJ):
  DE Z X EE (.Call (.Name "isinstance" p) [e,c] [] pos) (iW X.K cv da):=by
 refine PE.mono (HE (Ww hc) hg hm PyProof.Rows.Boot.«isinstance» (x9 he (x9 f6 Dt iL) hs) (by decide) (by decide) hs du) ?_;rintro σ H Q ⟨G,e,rel,h⟩;simp only[iW,R.au]at h;refine⟨G,e,rel,h.imp (λw e1 h G1 v1 H1 r1 s1 p1=>?_) λ_ _ h=>h⟩
 split at h
 .rename_i b hb;exact⟨v1,G1,w,b,rfl,r1.sub,p1,hb,h G1 _ H1 r1 s1 rfl⟩
 .exact h.elim
theorem OF{n:Str}{a:Addr}(hm:X.mg n=some (.ref a))(hg:autoParam (Gl X n) jJ)(hd:autoParam ((n==("__debug__":Str))=false) jK):PE X (.Name n pos) (tC (.ref a)):=Jc (v:=.ref a) hg hm rfl hd
theorem Zv{n:Str}{T:String}(hv:bootBuiltins n=some (.type T))(hm:X.mg n=none)(hg:autoParam (Gl X n) jJ)(hn:autoParam (n≠"__name__") jK)(hd:autoParam ((n==("__debug__":Str))=false) jK):PE X (.Name n pos) (tC (.ty T)):=YM (v:=.ty T) hg hm hv rfl hn hd
def j7:List W->Option W
 |[.lst ws]=>some (.tup ws)
 |[.tup ws]=>some (.tup ws)
 |_=>none
def z6d:pM K (λxs H Q=>∃p ys,xs=[.ref p]/\((bB K H p ys/\∀l,H l=none->Q (.ref l) (upd H l (.tup ys)))\/(cZ K H p ys/\Q (.ref p) H))) j7:=by
 intro G H xs ws w Q s pr hf h;unfold j7 at hf;split at hf
 .cases hf;obtain⟨x,r,rfl,px,pr⟩:=pr;cases(show r=[]from pr);obtain⟨a,ys,rfl,ha,ra⟩:=px;refine⟨a,ys,rfl,.inl ⟨s.seq ha,λl hl=>?_⟩⟩
  have g:=aM.laid s hl (.tup ys);exact h _ _ _ g ⟨l,ys,rfl,cZ.of bV,ao.mono g.gg _ ra⟩
 .cases hf;obtain⟨x,r,rfl,px,pr⟩:=pr;cases(show r=[]from pr);obtain⟨a,ys,rfl,ha,ra⟩:=px;exact⟨a,ys,rfl,.inr ⟨s.tup ha,h G _ H (.refl s) ⟨a,ys,rfl,ha,ra⟩⟩⟩
 .cases hf
theorem y5w(hm:X.mg "tuple"=none)(ha:DA Z X EE [e] dA)(hg:autoParam (Gl X "tuple") jJ)(he:autoParam (starEach [e] X.env=(false,eval e X.env)::starEach [] X.env) jJ)(du:autoParam ((backTo pos (starEach [] X.env)).any (·.1)=false) jJ):DE Z X EE (.Call (.Name "tuple" p) [e] [] pos) (cU j7 dA):=
 Pz UT z6d PyProof.Rows.Boot.«tuple» hm ha hg (by decide) (by decide) he du
theorem z6e(hm:X.mg "len"=none)(ha:DA Z X EE [e] dA)(hg:autoParam (Gl X "len") jJ)(he:autoParam (starEach [e] X.env=(false,eval e X.env)::starEach [] X.env) jJ)(du:autoParam ((backTo pos (starEach [] X.env)).any (·.1)=false) jJ):DE Z X EE (.Call (.Name "len" p) [e] [] pos) (cU bS dA):=
 A2 Nv PH PySem.boot_len hm ha hg (by decide) (by decide) he du
theorem z0f(i:Nat)(hm:X.mg "len"=none)(hN:autoParam (X.N[i]?=some x) jJ)(i4:autoParam (jI X.env.scope x) jN)(hd:autoParam ((x==("__debug__":Str))=false) jK)(ei:autoParam ((x==("__classdict__":Str))=false) jK)
  (hg:autoParam (Gl X "len") jJ)(hs:autoParam (starEach [.Name x p] X.env=(false,eval (.Name x p) X.env)::starEach [] X.env) jJ)(du:autoParam ((backTo pos (starEach [] X.env)).any (·.1)=false) jJ):DE Z X EE (.Call (.Name "len" pn) [.Name x p] [] pos) (fB i bS):=
 z51 i Nv PH PySem.boot_len hm hN i4 hd ei hg (by decide) (by decide) hs du
def qv:List W->Option (List W)
 |[.lst ws]=>some ws
 |[.tup ws]=>some ws
 |_=>none
def dList(dA:Den (List W)):Den (List W):=λe=>(dA e).bind λws e1=>ba (qv ws) e1
def z0g(hm:X.mg "list"=none)(ha:DA Z X EE [e] dA)(hg:autoParam (Gl X "list") jJ)(he:autoParam (starEach [e] X.env=(false,eval e X.env)::starEach [] X.env) jJ)(du:autoParam ((backTo pos (starEach [] X.env)).any (·.1)=false) jJ):DF Z X EE (.Call (.Name "list" p) [e] [] pos) (dList dA):=by
 refine PE.mono (ML U8 hg hm PyProof.Rows.Boot.«list» ha (by decide) (by decide) he du) ?_;rintro σ H Q ⟨G,e,rel,h⟩;simp only[dList,R.au,aS]at h;refine⟨G,e,rel,h.imp (λws e1 h G1 vs H1 r1 s1 p1=>?_) λ_ _ h=>h⟩
 obtain⟨out,hf,h⟩:=h;unfold qv at hf;split at hf
 .cases hf;obtain⟨y,r,rfl,py,pr⟩:=p1;cases(show r=[]from pr);obtain⟨a,ys,rfl,hq,rq⟩:=py;exact⟨a,ys,rfl,.inl (r1.sub.seq hq),Df r1 s1 rq h⟩
 .cases hf;obtain⟨y,r,rfl,py,pr⟩:=p1;cases(show r=[]from pr);obtain⟨a,ys,rfl,hq,rq⟩:=py;exact⟨a,ys,rfl,.inr (r1.sub.tup hq),Df r1 s1 rq h⟩
 .cases hf
end
section
variable{P:Program}{w:World}{mg:Str->Option Value}{base:Heap}
def Pp(hF:∀ws,F ws=.no)(h:pB K F vs H Q E):False:=by
 grind [PB]
theorem MT:∀(ns:List Int),ao K G (ns.map W.int) (ns.map V.int)
 |[]=>rfl
 |n::ns=>⟨_,_,rfl,rfl,MT ns⟩
def z6f{e:Value}(z:eA P w [] H s (λ_ _ _=>False) e s'):False:=by
 obtain⟨_,_,_,_,_,_,_,_,_,_,h⟩:=z;exact h
end
section
variable{e:Expr}{d:Den Str}
def QH(Z:Zt)(X:Cx)(EE:L2.St->XK)(n:Nat)(es:List Expr)(d:Den Str):Prop:=PF X es (λacc σ H Q=>acc.length+n*1000001<=16777216/\∃G e,Rel X.K Z G σ H e/\(d e).holds (λy e'=>∀G' H',Rel X.K Z G' σ H' e'->ak G G'->Q (acc++y) H') (XH X.K Z EE σ G))
end
section
variable{β:Type}{c:Prop} [Decidable c]{a:α}{e':List S}{k:α->List S->R β}{ks:α->List S->SR}{x y:R α}{s t:SR}{w:W}{v:Value}{st:S}
theorem z0h:(R.ok a e).bind k=k a e:=rfl
theorem z0i:(R.ex v e:R α).bind k=.ex v e:=rfl
theorem z0j:(R.no:R α).bind k=.no:=rfl
def y5x:(if c then x else y).bind k=if c then x.bind k else y.bind k:=by split<;>rfl
theorem Wx:(R.ok a e).cq ks=ks a e:=rfl
theorem z6g:(R.ex v e:R α).cq ks=.ex v e:=rfl
theorem z6h:(R.no:R α).cq ks=.no:=rfl
def z0k:(if c then x else y).cq ks=if c then x.cq ks else y.cq ks:=by split<;>rfl
def SR.seq:SR->(List S->SR)->SR
 |.nx e,b=>b e
 |r,_=>r
def z6i{p q:List S->SR}:aq p q e=(p e).seq q:=by
 unfold aq SR.seq;cases p e<;>rfl
theorem z6j{q:List S->SR}:(SR.nx e).seq q=q e:=rfl
theorem z6k{q:List S->SR}:(SR.rt st e).seq q=.rt st e:=rfl
theorem z6l{q:List S->SR}:(SR.ex v e).seq q=.ex v e:=rfl
theorem z6m{q:List S->SR}:(SR.bk e).seq q=.bk e:=rfl
theorem z6n{q:List S->SR}:(SR.ct e).seq q=.ct e:=rfl
theorem z6o{q:List S->SR}:(SR.no).seq q=.no:=rfl
def z0l{q:List S->SR}:(if c then s else t).seq q=if c then s.seq q else t.seq q:=by split<;>rfl
theorem Q03:(SR.nx e).fn=.ok (.fr .aE):=rfl
theorem Q04:(SR.rt st e).fn=.ok st:=rfl
theorem Q05:(SR.ex v e).fn=.ex v:=rfl
theorem Q06:(SR.no).fn=.no:=rfl
def z6p:(if c then s else t).fn=if c then s.fn else t.fn:=by split<;>rfl
theorem x9o:ba (some a) e=.ok a e:=rfl
theorem x9p:ba (none:Option α) e=.no:=rfl
def y14{o p:Option α}:ba (if c then o else p) e=if c then ba o e else ba p e:=by split<;>rfl
def tW(i:Nat)(e:List S):Option S->R W
 |some (.fr w)=>.ok w e
 |some (.own none ws)=>.ok (.lst ws) (e.set i (.fr (.lst ws)))
 |_=>.no
def z6q:af i e=tW i e e[i]?:=by
 grind [af,tW]
theorem z6r:tW i e (some (.fr w))=.ok w e:=rfl
theorem z0m:tW i e (some (.own none ws))=.ok (.lst ws) (e.set i (.fr (.lst ws))):=rfl
theorem Ro:dC w e=.ok w e:=rfl
theorem Q07{f:W->W->Option W}:av f da db e=(da e).bind λx e1=>(db e1).bind λy e2=>ba (f x y) e2:=rfl
theorem Q08{f:W->Option W}:gm f da e=(da e).bind λx e1=>ba (f x) e1:=rfl
def ve(e:List S):W->R Bool
 |.bl k=>.ok k e
 |_=>.no
theorem z0n:ay da e=(da e).bind λx e1=>ve e1 x:=rfl
theorem z0o{b:Bool}:ve e (.bl b)=.ok b e:=rfl
theorem z6s:eY da e=(da e).bind λx e1=>ba (lE x) e1:=rfl
theorem z6t{p q:Den Bool}:jU p q e=(p e).bind λx e1=>if x=true then q e1 else .ok false e1:=rfl
theorem Q09{p q:Den Bool}:vw p q e=(p e).bind λx e1=>if x=true then .ok true e1 else q e1:=rfl
theorem z6u{p:Den Bool}:jV p e=(p e).bind λx e1=>.ok (!x) e1:=rfl
def yN(q:Den W)(e:List S):W->R W
 |.bl true=>q e
 |.bl false=>.ok (.bl false) e
 |_=>.no
theorem z0p{p q:Den W}:gW p q e=(p e).bind λx e1=>yN q e1 x:=rfl
def z6v{q:Den W}{b:Bool}:yN q e (.bl b)=if b=true then q e else .ok (.bl false) e:=by cases b<;>rfl
def K6(q:Den W)(e:List S):W->R W
 |.bl true=>.ok (.bl true) e
 |.bl false=>q e
 |_=>.no
theorem z6w{p q:Den W}:jW p q e=(p e).bind λx e1=>K6 q e1 x:=rfl
def Q1a{q:Den W}{b:Bool}:K6 q e (.bl b)=if b=true then .ok (.bl true) e else q e:=by cases b<;>rfl
def Ar(e:List S):W->R W
 |.bl k=>.ok (.bl (!k)) e
 |_=>.no
theorem z0q{p:Den W}:gY p e=(p e).bind λx e1=>Ar e1 x:=rfl
theorem z6x{b:Bool}:Ar e (.bl b)=.ok (.bl (!b)) e:=rfl
theorem Q1b{p:Den Bool}{q q':Den W}:ug p q q' e=(p e).bind λx e1=>if x=true then q e1 else q' e1:=rfl
theorem z6y:ah e=.ok [] e:=rfl
theorem z0r{p:Den W}{q:Den (List W)}:ae p q e=(p e).bind λx e1=>(q e1).bind λxs e2=>.ok (x::xs) e2:=rfl
theorem z6z{p:Den (List W)}:aV p e=(p e).bind λxs e1=>if xs.length<=16777216 then .ok (.tup xs) e1 else .no:=rfl
theorem z60{p:Den (List W)}:cA p e=(p e).bind λxs e1=>if xs.length<=16777216 then .ok xs e1 else .no:=rfl
theorem Q1c{p:Den (List W)}:gN p e=(p e).bind λxs e1=>.ok (.lst xs) e1:=rfl
theorem Q1d{f:List W->Option W}{p:Den (List W)}:cU f p e=(p e).bind λxs e1=>ba (f xs) e1:=rfl
theorem z0s{p:Den (List W)}:dList p e=(p e).bind λxs e1=>ba (qv xs) e1:=rfl
theorem Q1e:cB e=.nx e:=rfl
theorem z0t:gX d e=(d e).cq λ_ e'=>.nx e':=rfl
theorem z61:aL d e=(d e).cq λw e'=>.rt (.fr w) e':=rfl
theorem z0u{d:Den (List W)}:dM d e=(d e).cq λw e'=>.rt (.own none w) e':=rfl
def retS(e:List S):Option S->SR
 |some (.own none ws)=>.rt (.own none ws) e
 |some (.fr w)=>.rt (.fr w) e
 |_=>.no
def z0v:iK i e=retS e e[i]?:=by
 grind [iK,retS]
theorem z0w:retS e (some (.own none ws))=.rt (.own none ws) e:=rfl
theorem z62:retS e (some (.fr w))=.rt (.fr w) e:=rfl
theorem z63{p:Den Bool}{q q':List S->SR}:aQ p q q' e=(p e).cq λx e1=>if x=true then q e1 else q' e1:=rfl
theorem z64:aF i d e=(d e).cq λw e'=>.nx (e'.set i (.fr w)):=rfl
theorem z0x{d:Den (List W)}:bN i d e=(d e).cq λw e'=>.nx (e'.set i (.own none w)):=rfl
def gT(e:List S):FR->R W
 |.ok (.fr w)=>.ok w e
 |.ok (.own none ws)=>.ok (.lst ws) e
 |.ok (.a8 kvs)=>.ok (.a8 kvs) e
 |.ex c=>.ex c e
 |_=>.no
theorem y5y{kvs:Dd}:gT e (.ok (.a8 kvs))=.ok (.a8 kvs) e:=rfl
def z0y{F:List W->FR}{d:Den (List W)}:ar F d e=(d e).bind λws e1=>gT e1 (F ws):=by
 unfold ar;congr 1
theorem z0z:gT e (.ok (.fr w))=.ok w e:=rfl
theorem y5z:gT e (.ok (.own none ws))=.ok (.lst ws) e:=rfl
theorem z00:gT e (.ex v)=.ex v e:=rfl
theorem z01:gT e .no=.no:=rfl
def y50{f g:FR}:gT e (if c then f else g)=if c then gT e f else gT e g:=by split<;>rfl
def lR(e:List S):FR->R (List W)
 |.ok (.own none ws)=>.ok ws e
 |.ex c=>.ex c e
 |_=>.no
theorem y15:lR e (.ok (.own none ws))=.ok ws e:=rfl
theorem y51:lR e (.ex v)=.ex v e:=rfl
def y16{f g:FR}:lR e (if c then f else g)=if c then lR e f else lR e g:=by split<;>rfl
def vE(i:Nat)(b:List S->SR)(e:List S):Option (List W)->SR
 |some ws=>cK i b ws e
 |none=>.no
def z65{b:List S->SR}:iV i d b e=(d e).cq λw e1=>vE i b e1 (eu w):=by
 unfold iV;congr 1
def z02{g:List W->Option (List W)}{d:Den (List W)}{b:List S->SR}:gc i g d b e=(d e).cq λw e1=>vE i b e1 (g w):=by
 unfold gc;congr 1
theorem y17{b:List S->SR}:vE i b e (some ws)=cK i b ws e:=rfl
theorem Zs{b:List S->SR}:cK i b [] e=.nx e:=rfl
def SR.turn:SR->(List S->SR)->SR
 |.nx e,k=>k e
 |.ct e,k=>k e
 |.bk e,_=>.nx e
 |.rt s e,_=>.rt s e
 |.ex c e,_=>.ex c e
 |.no,_=>.no
def pA{b:List S->SR}:cK i b (w::ws) e=(b (e.set i (.fr w))).turn (cK i b ws):=by
 show(match b (e.set i (.fr w))with|.nx e'=>cK i b ws e'|.ct e'=>cK i b ws e'|.bk e'=>.nx e'|.rt s e'=>.rt s e'|.ex c e'=>.ex c e'|.no=>.no)=_;cases b (e.set i (.fr w))<;>rfl
theorem xZ{q:List S->SR}:(SR.nx e).turn q=q e:=rfl
theorem z04{q:List S->SR}:(SR.ct e).turn q=q e:=rfl
theorem z05{q:List S->SR}:(SR.bk e).turn q=.nx e:=rfl
theorem VP{q:List S->SR}:(SR.rt st e).turn q=.rt st e:=rfl
theorem VQ{q:List S->SR}:(SR.ex v e).turn q=.ex v e:=rfl
theorem z06{q:List S->SR}:(SR.no).turn q=.no:=rfl
def y52{q:List S->SR}:(if c then s else t).turn q=if c then s.turn q else t.turn q:=by split<;>rfl
def AZ{p:Den Bool}{b:List S->SR}:bI p b (n+1) e=(p e).cq λx e1=>if x=true then(b e1).turn (bI p b n)else .nx e1:=by
 show(p e).cq _=_;congr 1;funext x e1
 split
 .cases b e1<;>rfl
 .rfl
def kB(k:W->R W):Option W->R W
 |none=>.no
 |some w=>k w
def z66:eX i d e=kB (λ_=>(d e).bind λk e1=>kB (λw=>ba (bh w k) e1) (e1[i]?.bind S.look)) (e[i]?.bind S.look):=by
 grind [eX,kB]
theorem y18{k:W->R W}:kB k (some w)=k w:=rfl
theorem Q1f:S.look (.fr w)=some w:=rfl
theorem z67{b:Option Nat}:S.look (.own b ws)=some (.lst ws):=rfl
def pY(e:List S)(y:Option W):Option S->R W
 |some (.fr _)=>ba y e
 |_=>match y with
  |none=>.no
  |some v=>if a_ v=true then .ok v e else .no
def z68{f:List W->Option W}:fB i f e=kB (λw=>pY e (f [w]) e[i]?) (e[i]?.bind S.look):=by
 unfold fB kB;cases q:e[i]? with
 |none=>rfl
 |some s=>
  cases s with
  |no=>rfl
  |a8 _=>rfl
  |nest _=>rfl
  |dw _ _ _=>rfl
  |fr w=>
   show(match f [w]with|none=>R.no|some v=>R.ok v e)=pY e (f [w]) (some (.fr w));generalize f [w]=y;cases y<;>rfl
  |own b ws=>
   grind [pY]
theorem z69{y:Option W}:pY e y (some (.fr w))=ba y e:=rfl
theorem z07{b:Option Nat}{v:W}:pY e (some v) (some (.own b ws))=if a_ v=true then .ok v e else .no:=rfl
def yO(i:Nat)(e:List S):List W->Option S->SR
 |[w],some (.own b xs)=>if xs.length<16777216 then .nx (e.set i (.own b (xs++[w])))else .no
 |_,_=>.no
def wz(k:SR):Option S->SR
 |some (.own _ _)=>k
 |_=>.no
def z7a{d:Den (List W)}:fZ i d e=wz ((d e).cq λws e1=>yO i e1 ws e1[i]?) e[i]?:=by
 unfold fZ wz;cases e[i]? with
 |none=>rfl
 |some s=>cases s with
  |own b xs=>
   dsimp only;try congr 1
  |_=>rfl
theorem Q1g{k:SR}{b:Option Nat}:wz k (some (.own b ws))=k:=rfl
theorem Q1h{b:Option Nat}{xs:List W}:yO i e [w] (some (.own b xs))=if xs.length<16777216 then .nx (e.set i (.own b (xs++[w])))else .no:=rfl
theorem y53{C:Addr}{d:Den (List W)}:cC C d e=(d e).cq λws e1=>if ws.length<=16777216 then .ex (.ref C) e1 else .no:=rfl
theorem Q1i{dl dh:Den (Option Int)}:oU d dl dh e=(d e).bind λw e1=>(dl e1).bind λlo e2=>(dh e2).bind λhi e3=>ba (yp w lo hi) e3:=rfl
theorem y19:b8 e=.ok none e:=rfl
def uO(e:List S):W->R (Option Int)
 |.int i=>.ok (some i) e
 |_=>.no
theorem z08:eK d e=(d e).bind λw e1=>uO e1 w:=rfl
theorem y54{i:Int}:uO e (.int i)=.ok (some i) e:=rfl
def z0(e:List S):Option W->R W
 |some (.bl b)=>.ok (.bl b) e
 |_=>.no
def z7b:iW K cv d e=(d e).bind λw e1=>z0 e1 (kU K cv w):=by
 unfold iW;congr 1
theorem z7c{b:Bool}:z0 e (some (.bl b))=.ok (.bl b) e:=rfl
def x_{D:Addr}{k:Bool}(hc:cH K D=true)(h:kitOne K (.ref D) cv=some k):kU K cv (.exc (.ref D))=some (.bl k):=by show(if cH K D=true then _ else _)=_;rw[if_pos hc,h];rfl
def tV(n:Nat):SR->SR
 |.nx _=>.nx (List.replicate n .no)
 |.bk _=>.bk (List.replicate n .no)
 |.ct _=>.ct (List.replicate n .no)
 |.rt s e=>.rt s e
 |_=>.no
def rA(K:Fg)(c:Addr)(i n:Nat)(h:List S->SR):SR->SR
 |.ex cls e'=>if exmOne K cls (.ref c)=some true then tV n (h (e'.set i (.fr (.exc cls))))else .no
 |r=>r
def z7d{c : Addr}{b h : List S -> SR} : m7 K c i n b h e = rA K c i n h (b e) := by
  unfold m7 rA;cases b e with
  | ex cls e' => dsimp only; split
                 . cases h (e'.set i (.fr (.exc cls))) <;> rfl
                 . rfl
  | _ => rfl
theorem z7e{c:Addr}{h:List S->SR}:rA K c i n h (.nx e)=.nx e:=rfl
theorem z7f{c:Addr}{h:List S->SR}:rA K c i n h (.rt st e)=.rt st e:=rfl
def PM{c:Addr}{h:List S->SR}(hx:exmOne K v (.ref c)=some true):rA K c i n h (.ex v e)=tV n (h (e.set i (.fr (.exc v)))):=by show(if _ then _ else _)=_;rw[if_pos hx]
theorem z09:tV n (.rt st e)=.rt st e:=rfl
theorem z1a:tV n (.nx e)=.nx (List.replicate n .no):=rfl
def lS(e:List S):Option (List W)->R (List W)
 |some out=>.ok out e
 |none=>.no
def z1b{cc:Den Bool}:iH js cc d ws e=if ws.length<=16777216 then lS (aW js e) (cz cc d (fM js (aW js e)) ws)else .no:=by
 grind [iH,lS]
def pT(js:List Nat)(cc:Den Bool)(d:Den W)(e:List S):Option (List W)->R (List W)
 |some ws=>iH js cc d ws e
 |none=>.no
def z1c{di:Den W}{cc:Den Bool}:bG js di cc d e=(di e).bind λw e1=>pT js cc d e1 (eu w):=by
 unfold bG;congr 1
def y55{g:List W->Option (List W)}{di:Den (List W)}{cc:Den Bool}:cQ g js di cc d e=(di e).bind λw e1=>pT js cc d e1 (g w):=by
 unfold cQ;congr 1
theorem x9q{cc:Den Bool}:pT js cc d e (some ws)=iH js cc d ws e:=rfl
theorem x9r{out:List W}:lS e (some out)=.ok out e:=rfl
theorem z7g:bK e=.ok true e:=rfl
theorem y56:aW [] e=e:=rfl
theorem y2b{j:Nat}:aW (j::js) e=aW js (d5 e j):=rfl
theorem z1d:fM [] e=[]:=rfl
theorem y57{j:Nat}:fM (j::js) e=j6 e j::fM js e:=rfl
theorem Nr{g:W->W}:∀(ws:List W),(∀w∈ws,∃e',d (.fr w::pe)=.ok (g w) e')->cz bK d pe ws=some (ws.map g)
 |[],_=>rfl
 |w::ws,h=>by
  obtain⟨e',he⟩:=h w (by simp);show(match d (.fr w::pe)with|.ok y _=>(cz bK d pe ws).map (y::·)|_=>none)=_;rw[he,Nr ws λu hu=>h u (by simp[hu])]
  rfl
theorem MU{cc:Den Bool}:cz cc d pe (w::ws)=(match cc (.fr w::pe)with
  |.ok true e1=>(match d e1 with|.ok y _=>(cz cc d pe ws).map (y::·)|_=>none)
  |.ok false _=>cz cc d pe ws
  |_=>none):=rfl
end
section
variable{i j:Int}{x y:Str}{b c:Bool}{us:List W}{w:W}
theorem z7h:addW (.int i) (.int j)=some (.int (i+j)):=rfl
theorem z7i:addW (.str x) (.str y)=if x.length+y.length<=16777216 then some (.str (x++y))else none:=rfl
theorem z7j:addW (.lst ws) (.lst us)=if ws.length+us.length<=16777216 then some (.lst (ws++us))else none:=rfl
theorem z7k:mF (.int i) (.int j)=some (.int (i-j)):=rfl
theorem z7l:i7 (.int i) (.int j)=if(-18446744073709551616<i/\i<18446744073709551616)\/(-18446744073709551616<j/\j<18446744073709551616)then some (.int (i*j))else none:=rfl
theorem z1e:dj (.int i) (.int j)=if 0<j/\j<1073741824 then some (.int (i / j))else none:=rfl
theorem z7m:bU (.int i) (.int j)=if 0<j then some (.int (i%j))else none:=rfl
def z7n:qD (.int i) (.int j)=if 0<=j/\j<=1000000/\-18446744073709551616<i/\i<18446744073709551616 then some (.int (i^j.toNat))else none:=by
 show(if 0<=j/\j<=1000000/\i.natAbs<2^64 then _ else _)=_
 grind
theorem Q1j:rQ (.int i) (.int j)=some (.bl (decide (i<j))):=rfl
theorem Q1k:wa (.int i) (.int j)=some (.bl (decide (i<=j))):=rfl
theorem Q1l:l4 (.int i) (.int j)=some (.bl (decide (j<i))):=rfl
theorem Q1m:y0 (.int i) (.int j)=some (.bl (decide (j<=i))):=rfl
theorem Q1n:dq (.int i)=some (.int (-i)):=rfl
def Q1o:eq2 (.int i) (.int j)=some (.bl (decide (i=j))):=by
 show some (W.bl (i==j))=_;congr 2
def Q1p:eq2 (.str x) (.str y)=some (.bl (decide (x=y))):=by
 show some (W.bl (x==y))=_;congr 2
def Q1q:eq2 (.bl b) (.bl c)=some (.bl (decide (b=c))):=by
 show some (W.bl (b==c))=_;congr 2
def Q1r:ne2 (.int i) (.int j)=some (.bl (!decide (i=j))):=by
 show some (W.bl (!(i==j)))=_;congr 2
def Q1s:ne2 (.str x) (.str y)=some (.bl (!decide (x=y))):=by
 show some (W.bl (!(x==y)))=_;congr 2
def Q1t:ne2 (.bl b) (.bl c)=some (.bl (!decide (b=c))):=by
 show some (W.bl (!(b==c)))=_;congr 2
def Q1u:kq (.bl b) (.bl c)=some (.bl (decide (b=c))):=by
 show some (W.bl (b==c))=_;congr 2
theorem Q1v:kq .aE .aE=some (.bl true):=rfl
theorem Q1w:kq (.bl b) .aE=some (.bl false):=rfl
theorem Q1x:kq (.int i) .aE=some (.bl false):=rfl
theorem Q1y:kq (.str x) .aE=some (.bl false):=rfl
theorem Q1z:kq (.tup ws) .aE=some (.bl false):=rfl
theorem Q10:kq (.lst ws) .aE=some (.bl false):=rfl
def z7o:gK (.bl b) (.bl c)=some (.bl (!decide (b=c))):=by
 show some (W.bl (!(b==c)))=_;congr 2
theorem z7p:gK .aE .aE=some (.bl false):=rfl
theorem z7q:gK (.bl b) .aE=some (.bl true):=rfl
theorem z7r:gK (.int i) .aE=some (.bl true):=rfl
theorem z7s:gK (.str x) .aE=some (.bl true):=rfl
theorem z7t:gK (.tup ws) .aE=some (.bl true):=rfl
theorem z7u:gK (.lst ws) .aE=some (.bl true):=rfl
theorem S3:bh (.tup ws) (.int i)=bY ws i:=rfl
theorem S2:bh (.lst ws) (.int i)=bY ws i:=rfl
theorem Q11:bS [.tup ws]=some (.int ws.length):=rfl
theorem Q12:bS [.lst ws]=some (.int ws.length):=rfl
theorem Q13:j7 [.lst ws]=some (.tup ws):=rfl
theorem Q14:j7 [.tup ws]=some (.tup ws):=rfl
theorem Q15:qv [.lst ws]=some ws:=rfl
theorem Q16:qv [.tup ws]=some ws:=rfl
theorem Q17:lE (.bl b)=some b:=rfl
theorem Q18:lE (.int i)=some (i != 0):=rfl
theorem Q19:lE .aE=some false:=rfl
theorem Q2a:lE (.tup ws)=some (!ws.isEmpty):=rfl
theorem Q2b:lE (.lst ws)=some (!ws.isEmpty):=rfl
theorem Q2c:eu (.tup ws)=some ws:=rfl
theorem Q2d:eu (.lst ws)=some ws:=rfl
theorem TZ:a_ (.int i)=true:=rfl
theorem TY:a_ (.bl b)=true:=rfl
theorem T2:a_ (.str x)=true:=rfl
theorem T1:a_ .aE=true:=rfl
theorem T5{lo hi:Option Int}:yp (.lst ws) lo hi=some (.lst (fY ws lo hi)):=rfl
def at0{xs:List α}:bY xs 0=xs[0]?:=by
 cases xs with
 |nil=>rfl
 |cons a l=>exact tG (j:=0) rfl
def at1{xs:List α}:bY xs 1=xs[1]?:=by
 cases xs with
 |nil=>rfl
 |cons a l=>
  cases l with
  |nil=>rfl
  |cons b l=>exact tG (j:=1) rfl
def at2{xs:List α}:bY xs 2=xs[2]?:=by
 cases xs with
 |nil=>rfl
 |cons a l=>
  cases l with
  |nil=>rfl
  |cons b l=>
   cases l with
   |nil=>rfl
   |cons c l=>exact tG (j:=2) rfl
def z7v{xs:List α}{k:Int}(h0:0<=k):bY xs k=xs[k.toNat]?:=by
 unfold bY gG
 grind
def U5{a b:String}(h:Str.ofString a=Str.ofString b):a=b:=by
 rw[Str.ofString_eq_toList,Str.ofString_eq_toList]at h;have h1:(a.toList.map Char.toNat).toArray=(b.toList.map Char.toNat).toArray:=congrArg Str.cps h;have h2:a.toList.map Char.toNat=b.toList.map Char.toNat:=by simpa using congrArg Array.toList h1
 have h3:a.toList=b.toList:=by
  have inj:∀c d:Char,c.toNat=d.toNat->c=d:=λc d e=>by
   apply Char.ext;exact UInt32.toNat_inj.mp e
  exact(w2u inj).mp h2
 exact String.toList_inj.mp h3
theorem z7w{a b:String}:(Str.ofString a=Str.ofString b)=(a=b):=propext ⟨U5,λh=>by rw[h]⟩
end
def ig:W->Option W
 |.lst ws=>some (.tup ws.reverse)
 |_=>none
def eW:List W->Option (List Bool)
 |[]=>some []
 |.bl b::ws=>(eW ws).map (b::·)
 |_=>none
def all1:List W->Option W
 |[.lst ws]=>(eW ws).map λbs=>.bl (bs.all id)
 |_=>none
def i5:List W->Option W
 |[.int i]=>some (.int i)
 |[.bl b]=>some (.int (if b then 1 else 0))
 |_=>none
def mO(y x:W):Bool:=(iY y x).getD false
def vX:W->W->Option W
 |x,.tup ws=>if a_ x=true/\ws.all a_=true then some (.bl (ws.any λy=>mO y x))else none
 |x,.lst ws=>if a_ x=true/\ws.all a_=true then some (.bl (ws.any λy=>mO y x))else none
 |_,_=>none
def j5:W->W->Option W
 |x,.tup ws=>if a_ x=true/\ws.all a_=true then some (.bl (!ws.any λy=>mO y x))else none
 |x,.lst ws=>if a_ x=true/\ws.all a_=true then some (.bl (!ws.any λy=>mO y x))else none
 |_,_=>none
def AJ(h:a_ w=true)(p:Rep K G w v):gp v=true:=by
 cases w with
 |aE=>cases p;rfl
 |bl b=>cases p;rfl
 |int b=>cases p;rfl
 |str b=>cases p;rfl
 |_=>cases h
def ZC(h:a_ w=true)(h':a_ u=true)(p:Rep K G w v)(q:Rep K G u x):rG v x=mO w u:=by
 cases w<;>cases u<;>first|(cases p;cases q;rfl)|exact absurd (show false=true from h') w1f|exact absurd (show false=true from h) w1f
theorem AO{u:W}{x:V}(hu:a_ u=true)(q:Rep K G u x):∀{ws:List W}{xs:List V},ws.all a_=true->ao K G ws xs->xs.all gp=true/\Ck x xs=ws.any λy=>mO y u
 |[],xs,_,r=>by cases r;exact⟨rfl,rfl⟩
 |w::ws,xs,h,r=>by
  obtain⟨y,r',rfl,p,r⟩:=r;rw[w2e,w0n]at h;obtain⟨i1,i2⟩:=AO hu q h.2 r;refine⟨by rw[w2e,AJ h.1 p,i1];rfl,?_⟩;show(rG y x||Ck x r')=(mO w u||ws.any _);rw[ZC h.1 hu p q,i2]
def Q5:ik K (Dv K false) vX:=by
 intro G H x y wx wy w Q s px py hf h;cases wy with
 |tup ws=>
  simp only[vX]at hf;split at hf
  .rename_i hc;cases hf;obtain⟨a,xs,rfl,ha,ra⟩:=py;obtain⟨i1,i2⟩:=AO hc.1 px hc.2 ra;refine⟨a,xs,rfl,.inr (s.tup ha),AJ hc.1 px,i1,?_⟩;rw[i2];exact h G _ H (.refl s) rfl
  .cases hf
 |lst ws=>
  simp only[vX]at hf;split at hf
  .rename_i hc;cases hf;obtain⟨a,xs,rfl,ha,ra⟩:=py;obtain⟨i1,i2⟩:=AO hc.1 px hc.2 ra;refine⟨a,xs,rfl,.inl (s.seq ha),AJ hc.1 px,i1,?_⟩;rw[i2];exact h G _ H (.refl s) rfl
  .cases hf
 |_=>simp[vX]at hf
def z7x:ik K (Dv K true) j5:=by
 intro G H x y wx wy w Q s px py hf h;cases wy with
 |tup ws=>
  simp only[j5]at hf;split at hf
  .rename_i hc;cases hf;obtain⟨a,xs,rfl,ha,ra⟩:=py;obtain⟨i1,i2⟩:=AO hc.1 px hc.2 ra;refine⟨a,xs,rfl,.inr (s.tup ha),AJ hc.1 px,i1,?_⟩;rw[i2];exact h G _ H (.refl s) rfl
  .cases hf
 |lst ws=>
  simp only[j5]at hf;split at hf
  .rename_i hc;cases hf;obtain⟨a,xs,rfl,ha,ra⟩:=py;obtain⟨i1,i2⟩:=AO hc.1 px hc.2 ra;refine⟨a,xs,rfl,.inl (s.seq ha),AJ hc.1 px,i1,?_⟩;rw[i2];exact h G _ H (.refl s) rfl
  .cases hf
 |_=>simp[j5]at hf
def WR:BV K (λx H1 Q=>∃p ys,x=.ref p/\bB K H1 p ys/\∀l,H1 l=none->Q (.ref l) (upd H1 l (.tup ys.reverse))) ig:=by
 intro G H x wx w Q s px hf h;unfold ig at hf;split at hf
 .cases hf;obtain⟨a,xs,rfl,ha,ra⟩:=px;refine⟨a,xs,rfl,s.seq ha,λl hl=>?_⟩
  have g:=aM.laid s hl (.tup xs.reverse);exact h _ _ _ g ⟨l,_,rfl,cZ.of bV,ao.mono g.gg _ ra.reverse⟩
 .cases hf
def LV:∀{bs:List Bool},eW ws=some bs->ws=bs.map .bl:=by
 induction ws with
 |nil=>intro bs h;cases h;rfl
 |cons w ws ih=>
  intro bs h;cases w with
  |bl b=>
   obtain⟨cs,h1,rfl⟩:=w0h.mp (show(eW ws).map (b::·)=some bs from h);exact congrArg _ (ih h1)
  |_=>cases h
theorem Ho:∀(bs:List Bool),eW (bs.map .bl)=some bs
 |[]=>rfl
 |b::bs=>by
  show(eW (bs.map W.bl)).map (b::·)=_;rw[Ho bs];rfl
theorem GX:∀{bs:List Bool}{xs:List V},ao K G (bs.map W.bl) xs->xs=bs.map V.bl
 |[],xs,h=>h
 |b::bs,xs,h=>by
  obtain⟨x,r,rfl,h1,h2⟩:=h;rw[GX h2,show x=V.bl b from h1];rfl
def z7y:pM K (λxs H Q=>∃p ys,xs=[.ref p]/\bB K H p ys/\(∀y∈ys,∃b,y=.bl b)/\Q (.bl (ys.all λy=>decide (y=.bl true))) H) all1:=by
 intro G H xs ws w Q s pr hf h;unfold all1 at hf;split at hf
 .obtain⟨bs,hb,rfl⟩:=w0h.mp hf;have:=LV hb;subst this;obtain⟨x,r,rfl,px,pr⟩:=pr;cases(show r=[]from pr);obtain⟨a,ys,rfl,ha,ra⟩:=px;have:=GX ra;subst this;refine⟨a,_,rfl,s.seq ha,λy hy=>?_,h G _ H (.refl s) ?_⟩
  .obtain⟨b,_,rfl⟩:=w0q.mp hy;exact⟨b,rfl⟩
  .show V.bl _=V.bl _;congr 1;rw[w4h];congr 1;funext b
   cases b<;>rfl
 .cases hf
def z7z:pM K (λxs H Q=>(∃i,xs=[.int i]/\Q (.int i) H)\/∃k,xs=[.bl k]/\Q (.int (if k then 1 else 0)) H) i5:=by
 intro G H xs ws w Q s pr hf h;unfold i5 at hf;split at hf
 .cases hf;obtain⟨x,r,rfl,px,pr⟩:=pr;cases(show r=[]from pr);cases px;exact .inl ⟨_,rfl,h G _ H (.refl s) rfl⟩
 .cases hf;obtain⟨x,r,rfl,px,pr⟩:=pr;cases(show r=[]from pr);cases px;exact .inr ⟨_,rfl,h G _ H (.refl s) rfl⟩
 .cases hf
section
variable{a b c e:Expr}{p tE ll:Pos}{x:Str}
theorem Q2f(hu:X.A.units+150<cLine)(ha:DE Z X EE a da)(hb:DE Z X EE b db)(hm:behindInMarks .In b=false:=by with_unfolding_all rfl):DT Z X EE (.Compare a [.In] [b] pos) (ay (av vX da db)):=rV WD Q5 ha hb hm
theorem z70(hu:X.A.units+150<cLine)(ha:DE Z X EE a da)(hb:DE Z X EE b db)(hm:behindInMarks .NotIn b=false:=by with_unfolding_all rfl):DT Z X EE (.Compare a [.NotIn] [b] pos) (ay (av j5 da db)):=rV U7 z7x ha hb hm
theorem y2d(hc:X.calm=true)(E4:X.mg "tuple"=none)(zN:X.mg "reversed"=none)(he:DE Z X EE e da)(ER:autoParam (Gl X "tuple") jJ)(oq:autoParam (Gl X "reversed") jJ)
  (kS:autoParam (starEach [.Call (.Name "reversed" p2) [e] [] ll] X.env=(false,eval (.Call (.Name "reversed" p2) [e] [] ll) X.env)::starEach [] X.env) jJ)(iL:autoParam (starEach [e] X.env=(false,eval e X.env)::starEach [] X.env) jJ):
  DE Z X EE (.Call (.Name "tuple" p1) [.Call (.Name "reversed" p2) [e] [] ll] [] tE) (gm ig da):=PE.mono (WE hc E4 zN he ER oq kS iL) (OA WR)
theorem z71(hc:X.calm=true)(hm:X.mg "all"=none)(ha:DA Z X EE [e] dA)(hg:autoParam (Gl X "all") jJ)(he:autoParam (starEach [e] X.env=(false,eval e X.env)::starEach [] X.env) jJ)(du:autoParam ((backTo pos (starEach [] X.env)).any (·.1)=false) jJ):DE Z X EE (.Call (.Name "all" p) [e] [] pos) (cU all1 dA):=
 A2 (XZ hc) z7y PyProof.Rows.Boot.«all» hm ha hg (by decide) (by decide) he du
theorem z1g(hm:X.mg "int"=none)(ha:DA Z X EE [e] dA)(hg:autoParam (Gl X "int") jJ)(he:autoParam (starEach [e] X.env=(false,eval e X.env)::starEach [] X.env) jJ)(du:autoParam ((backTo pos (starEach [] X.env)).any (·.1)=false) jJ):DE Z X EE (.Call (.Name "int" p) [e] [] pos) (cU i5 dA):=
 Pz WB z7z PyProof.Rows.Boot.«int» hm ha hg (by decide) (by decide) he du
end
theorem y58:ig (.lst ws)=some (.tup ws.reverse):=rfl
def JH{bs:List Bool}:all1 [.lst (bs.map .bl)]=some (.bl (bs.all id)):=by
 show(eW (bs.map W.bl)).map _=_;rw[Ho];rfl
theorem Q2g{i:Int}:i5 [.int i]=some (.int i):=rfl
theorem Q2h:i5 [.bl b]=some (.int (if b then 1 else 0)):=rfl
theorem J2:((0:Nat):Int)=0:=rfl
theorem J3:((1:Nat):Int)=1:=rfl
theorem Jt{b:List S->SR}(I:Nat->List S->Prop):∀(ws:List W)(k:Nat)(e:List S),I k e->(∀(j:Nat)(w:W)(e:List S),ws[j]?=some w->I (k+j) e->∃e',b (e.set i (.fr w))=.nx e'/\I (k+j+1) e')->∃e',cK i b ws e=.nx e'/\I (k+ws.length) e'
 |[],k,e,h0,_=>⟨e,rfl,h0⟩
 |w::ws,k,e,h0,h=>by
  obtain⟨e1,h1,h2⟩:=h 0 w e rfl h0
  obtain⟨e2,h3,h4⟩:=Jt I ws (k+1) e1 h2 λj u e hu hI=>by
   have z:=h (j+1) u e (by simpa using hu) (by grind);rw[show k+(j+1)+1=k+1+j+1 by omega]at z;exact z
  grind [pA,xZ]
def Hq:(bM lo hi).length=(hi-lo).toNat:=by simp[bM]
def WS(h:(bM lo hi)[j]?=some w):w=.int (lo+j)/\j<(hi-lo).toNat:=by
 grind [bM]
def AH(n)(hn:(hi-lo).toNat=n)(I:Nat->List S->Prop)(e)(h0:I 0 e)(h:∀(j:Nat)(e:List S),j<n->I j e->∃e',b (e.set i (.fr (.int (lo+j))))=.nx e'/\I (j+1) e'):∃e',cK i b (bM lo hi) e=.nx e'/\I n e':=by
 obtain⟨e',h1,h2⟩:=Jt (b:=b) (i:=i) I (bM lo hi) 0 e h0 λj w e hw hI=>by
  obtain⟨rfl,hj⟩:=WS hw
  grind
 rw[Hq,hn,w1y]at h2;exact⟨e',h1,h2⟩
def uh(F:List W->FR)(i:Nat)(dA:Den (List W)):Den W:=λe=>match e[i]? with
 |some (.own _ _)=>(dA e).bind λus e1=>match e1[i]? with
  |some (.own _ ws)=>match F (.lst ws::us)with
   |.ok (.fr w)=>if a_ w=true then .ok w e1 else .no
   |_=>.no
  |_=>.no
 |_=>.no
mutual
noncomputable def cO(K:Fg):W->Value->Bool
 |.aE,u=>match u with|.none=>true|_=>false
 |.bl b,u=>match u with|.bool c=>b==c|_=>false
 |.int i,u=>match u with|.int j _=>decide (i=j)|_=>false
 |.str x,u=>match u with|.str y _=>decide (x=y)|_=>false
 |.tup ws,u=>match u with
  |.ref a=>match K.lookup a with
   |some o=>(o.cls==.type "tuple"&&o.dict.isNone)&&(match o.data with|.seq aw _=>Nat.ble aw.size 1000000&&jn K ws aw.toList|_=>false)
   |none=>false
  |_=>false
 |.lst _,_=>false
 |.exc _,_=>false
 |.a8 _,_=>false
 |.dw _ _ _ _,_=>false
 |.fn _ _ _,_=>false
noncomputable def jn(K:Fg):List W->List Value->Bool
 |[],us=>us.isEmpty
 |w::ws,us=>match us with
  |u::us=>cO K w u&&jn K ws us
  |[]=>false
end
mutual
theorem OG{K:Fg}:∀(w:W){u:Value},cO K w u=true->∃v,RelV v u/\∀G,Rep K G w v
 |.aE,u,h=>by
  unfold cO at h;split at h
  .exact⟨.aE,rfl,λ_=>rfl⟩
  .cases h
 |.bl b,u,h=>by
  unfold cO at h;split at h
  .rename_i c;have:b=c:=by simpa using h
   exact⟨.bl b,by rw[this];rfl,λ_=>rfl⟩
  .cases h
 |.int i,u,h=>by
  unfold cO at h;split at h
  .rename_i j t;have:i=j:=by simpa using h
   exact⟨.int i,⟨t,by rw[this]⟩,λ_=>rfl⟩
  .cases h
 |.str x,u,h=>by
  unfold cO at h;split at h
  .rename_i y t;have:x=y:=by simpa using h
   exact⟨.str x,⟨t,by rw[this]⟩,λ_=>rfl⟩
  .cases h
 |.tup ws,u,h=>by
  unfold cO at h;split at h
  .rename_i a;split at h
   .rename_i o ho;rw[w0n]at h;obtain⟨h1,h2⟩:=h;split at h2
    .rename_i aw n hd;rw[w0n]at h2;obtain⟨h3,h4⟩:=h2;obtain⟨xs,r,q⟩:=NI ws h4;exact⟨.ref a,rfl,λG=>⟨a,xs,rfl,.inr ⟨o,aw,n,ho,by grind,Option.isNone_iff_eq_none.mp ((w0n _ _).mp h1).2,hd,by rw[sizeLine_eq];have:=w3d h3;omega,r⟩,q G⟩⟩
    .cases h2
   .cases h
  .cases h
 |.lst _,u,h=>by grind [cO]
 |.exc _,u,h=>by grind [cO]
 |.a8 _,u,h=>by grind [cO]
 |.dw _ _ _ _,u,h=>by grind [cO]
 |.fn _ _ _,u,h=>by grind [cO]
theorem NI{K:Fg}:∀(ws:List W){us:List Value},jn K ws us=true->∃xs,Vals xs us/\∀G,ao K G ws xs
 |[],us,h=>by
  unfold jn at h;cases us with
  |nil=>exact⟨[],.nil,λ_=>rfl⟩
  |cons _ _=>cases h
 |w::ws,us,h=>by
  unfold jn at h;cases us with
  |nil=>cases h
  |cons u us=>
   rw[w0n]at h;obtain⟨v,r,q⟩:=OG w h.1;obtain⟨xs,r',q'⟩:=NI ws h.2;exact⟨v::xs,.cons r r',λG=>⟨v,xs,rfl,q G,q' G⟩⟩
end
def q7m{x:Str}{w:W}{u:Value}(hm:X.mg x=some u)(hc:cO X.K w u=true)(hg:autoParam (Gl X x) jJ)(hd:autoParam ((x==("__debug__":Str))=false) jK):DE Z X EE (.Name x pos) (dC w):=by
 obtain⟨v,r,q⟩:=OG w hc;exact PE.mono (Jc hg hm r hd) λσ H Q ⟨G,e,rel,h⟩=>h G v H rel (.refl _) (q G)
def TC(l)(items)(n)(b)(kX)(n2)(T)(hT : T = "list" \/ T = "tuple")(SA : ¬(!items.isEmpty && Builtin.List.listTooLong (items.size + kX.size)) = true)(kS : items.size <= sizeLine)(iL : items.size + kX.size <= sizeLine + 1) :
  Meets (Builtin.«list.extend» { pos := [Value.ref l, Value.ref b] }) fun _ R s =>
     s.heap.get? l = some { cls := Value.type "list", data := Data.seq items n } /\
      (∃ o, s.heap.get? b = some o /\ o.cls = .type T /\ o.data = Data.seq kX n2) /\
       R (Except.ok (Flow.ret Value.none)) { s with heap := s.heap.update l (Obj.mapSeq λx => x ++ kX) } := by
 refine Meets.of_wp λprog w A R s h => ?_
 obtain ⟨hl, ⟨o, hb, hc, hd⟩, h⟩ := h;obtain ⟨cls, dict, data, slots⟩ := o;simp only at hc hd;subst hc hd;refine wpAny_bind (wpAny_bind (wpAny_ite_true rfl (wpAny_pure (wpAny_pure ?_))));refine wpAny_bind (wpAny_bind (AutoSeq1.wpAny_loadPart' hb (wpAny_pure (wpAny_ite_true ?_ ?_))))
 .grind
 refine wpAny_bind (wpAny_bind (wpAny_bind (wpAny_load' hb (wpAny_pure (wpAny_pure ?_)))));refine wpAny_bind (wpAny_bind (wpAny_bind (wpAny_load' hl (wpAny_pure (wpAny_pure ?_)))));refine wpAny_ite_false (by simpa using SA) ?_;exact wpAny_bind (wpAny_updateSeq hl rfl (wpAny_pure ⟨_, rfl, h⟩) kS (by grind))
def A5(K:Fg):V->List V->Hp->VK->Prop:=λx vs H Q=>∃l b xs zs,x=.ref l/\vs=[.ref b]/\H l=some (.lst xs)/\(bB K H b zs\/cZ K H b zs)/\xs.length+zs.length<=sizeLine/\Q .aE (upd H l (.lst (xs++zs)))
def z72:xy X "list.extend" (A5 X.K):=by
 intro pins s σ H x vs v us Q I rx rv h;obtain⟨l,b,xs,zs,rfl,rfl,hH,hB,hz,q⟩:=h;cases rx;obtain⟨u,rfl,ru⟩:=rv.one;cases ru;obtain⟨z,aw,n,r,hl,e⟩:=I.Ah hH
 have fin:∀(T:String)(fH:List Value)(n2:Nat)(o:Obj),T="list"\/T="tuple"->Vals zs fH->s.heap.get? b=some o->o.cls=.type T->o.data=.seq fH.toArray n2->wpAny (model X.prog X.w) X.A (call (.builtin "list.extend") [.ref l,.ref b]) (EP X pins σ Q) X.xe s:=λT fH n2 o hT r2 e2 hc hd=>by
  have E3:=r2.length;have hsz:aw.toArray.size+fH.toArray.size<=sizeLine:=by grind
  have qi:¬(!aw.toArray.isEmpty&&Builtin.List.listTooLong (aw.toArray.size+fH.toArray.size))=true:=by
   simp_all [mr]
  refine call_meets F.slot_list_extend ⟨_,e,rfl⟩ F.entry_list_extend (F.args_list_extend_2 _ _)
   (TC l aw.toArray n b fH.toArray n2 T hT qi (by grind) (by omega)) ⟨e,⟨o,e2,hc,hd⟩,?_⟩
  refine⟨.aE,_,I.Ag (its':=aw++fH) hH e (by simp) (r.append r2) ?_,rfl,q⟩
  grind
 rcases hB with hB|hB
 .obtain⟨fH,r2,pl,_⟩:=I.list hB;obtain⟨o,e2,hc,n2,hd⟩:=pl.isList
  grind
 .obtain⟨fH,r2,⟨o,e2,hc,n2,hd⟩,_⟩:=I.tuple hB
  grind
def mZ(i:Nat)(d:Den (List W)):List S->SR:=λe=>match e[i]? with
 |some (.own _ _)=>(d e).cq λws e1=>match ws,e1[i]? with
  |[w],some (.own b xs)=>match eu w with
   |some ys=>if xs.length+ys.length<=16777216 then .nx (e1.set i (.own b (xs++ys)))else .no
   |none=>.no
  |_,_=>.no
 |_=>.no
section
variable{e:Expr}{p:Pos}{x:Str}
def z73(i:Nat)(ha:DA Z X EE (e::es) dA)(hN:autoParam (X.N[i]?=some x) jJ)(hv:autoParam (jI X.env.scope x) jN)(hd:autoParam ((x==("__debug__":Str))=false) jK)(ei:autoParam ((x==("__classdict__":Str))=false) jK)
  (dQ:autoParam (attributeBase (.Name x p) "extend" X.env (eval (.Name x p) X.env)=eval (.Name x p) X.env) jJ)
  (gE:autoParam (((backTo bc (starEach (e::es) X.env)).all (λx=>!x.1)&&(backToKw bc (keywordEach [] X.env)).all (λx=>x.1.isSome)&&decide ((e::es).length+([]:List Keyword).length+(if([]:List Keyword).isEmpty then 0 else 1)<30))=true) jJ)
  (dW:autoParam ((apos.endLine==bc.line)=true) jJ)(hs:autoParam (starEach (e::es) X.env=(false,eval e X.env)::starEach es X.env) jJ)(cI:autoParam ((backTo bc (starEach es X.env)).any (·.1)=false) jJ)
  (nB:autoParam (swapsWith (.Call (.Attribute (.Name x p) "extend" apos) (e::es) [] bc) none pos.line X.env=pure false) jJ):
  DS Z X EE (.Expr (.Call (.Attribute (.Name x p) "extend" apos) (e::es) [] bc) pos) (mZ i dA):=by
 refine PS.mono (Dn (DU PySem.F.plainAttrs_list PySem.F.slot_list_extend PySem.F.type_list_extend z72 (pv i hN hv hd ei) ha dQ gE dW hs cI) nB) ?_;rintro D σ H ⟨G,e,rel,h⟩;unfold mZ at h;split at h
 .rename_i b0 IQ nr;obtain⟨a,xs,h1,h2,h3,h4,h5⟩:=rel.own nr;refine⟨.ref a,h1,.inl ⟨rfl,xs,bB.of h2⟩,G,e,rel,(iQ h).imp (λws e1 h G1 vs H1 r1 s1 p1=>?_) λ_ _ h=>h⟩
  split at h
  .rename_i w b ys qe;obtain⟨a',zs,g1,g2,g3,g4,g5⟩:=r1.own qe;rw[h1]at g1;cases g1;obtain⟨y,r,rfl,py,pr⟩:=p1;cases(show r=[]from pr);split at h
   .rename_i us hu;split at h
    .rename_i hl
     have step:∀c cs,y=.ref c->(bB X.K G1 c cs\/cZ X.K G1 c cs)->ao X.K G1 us cs->A5 X.K (.ref a) [y] H1 (λv H'=>D.nx σ H'):=λc cs hy hq hr=>by
      subst hy;refine⟨a,c,zs,cs,rfl,rfl,g2,?_,by rw[g5.length,hr.length,sizeLine_eq];exact hl,?_⟩
      .rcases hq with q|q
       .exact .inl (r1.sub.seq q)
       .exact .inr (r1.sub.tup q)
      .exact h G1 σ _ (r1.mut qe h1 (g5.append hr)) s1
     unfold eu at hu;split at hu
     .cases hu;obtain⟨c,cs,hy,q,hr⟩:=py;exact step c cs hy (.inr q) hr
     .cases hu;obtain⟨c,cs,hy,q,hr⟩:=py;exact step c cs hy (.inl q) hr
     .cases hu
    .exact h.elim
   .exact h.elim
  .exact h.elim
 .exact h.elim
end
def jX(i:Nat)(dv dk:Den W):List S->SR:=λe=>(dv e).cq λw e1=>match e1[i]? with
 |some (.own _ _)=>(dk e1).cq λk e2=>match k,e2[i]? with
  |.int k,some (.own b ws)=>match gG ws.length k with
   |some j=>.nx (e2.set i (.own b (ws.set j w)))
   |none=>.no
  |_,_=>.no
 |_=>.no
section
variable{e k:Expr}{dk:Den W}{p d6:Pos}{x:Str}
def z74(i:Nat)(he:DE Z X EE e d)(hk:DE Z X EE k dk)(hN:autoParam (X.N[i]?=some x) jJ)(hv:autoParam (jI X.env.scope x) jN)(hd:autoParam ((x==("__debug__":Str))=false) jK)(ei:autoParam ((x==("__classdict__":Str))=false) jK)
  (ha:∀v,assign (.Subscript (.Name x p) k d6) X.env v=(do
   let ov <- holding [v] (eval (.Name x p) X.env)
   let iv <- holding [v,ov] (eval k X.env)
   standAt d6
   holding [v,ov,iv] (setItem ov iv v)
   release [v,ov,iv] []):=by intro _;rfl)
  (hs:autoParam (swapsWithSole [.Subscript (.Name x p) k d6] e pos.line X.env=pure false) jJ)(hw:autoParam (swappedStores [.Subscript (.Name x p) k d6] e X.env=pure none) jJ)
  (h1:autoParam ((assignEach [.Subscript (.Name x p) k d6] X.env).map (·.2)=[assign (.Subscript (.Name x p) k d6) X.env]) jJ):
  DS Z X EE (.Assign [.Subscript (.Name x p) k d6] e pos) (jX i d dk):=by
 refine PS.mono (Pn he (Pl (pv i hN hv hd ei) hk Nx ha) hs hw h1) ?_;rintro D σ H ⟨G,e,rel,h⟩;refine⟨G,e,rel,(iQ h).imp (λw e1 h G1 v1 H1 r1 s1 p1=>?_) λ_ _ h=>h⟩
 split at h
 .rename_i b0 IQ nr;obtain⟨a,xs,q1,q2,q3,q4,q5⟩:=r1.own nr;refine⟨.ref a,q1,G1,e1,r1,(iQ (σ:=σ) h).imp (λkw e2 h G2 v2 H2 r2 s2 p2=>?_) λ_ _ h G' H' r s=>h G' H' r (s1.trans s)⟩
  .split at h
   .rename_i kk b ws km;obtain⟨a',zs,g1,g2,g3,g4,g5⟩:=r2.own km;rw[q1]at g1;cases g1;cases p2;split at h
    .rename_i j hj;refine⟨a,zs,_,j,rfl,rfl,g2,by rw[g5.length];exact hj,?_⟩;exact h G2 σ _ (r2.mut km q1 (g5.set j (Rep.mono s2 w p1))) (s1.trans s2)
    .exact h.elim
   .exact h.elim
 .exact h.elim
end
def S_:W->W->Option W
 |.str i,.str j=>some (.bl (decide (i.cps.toList<j.cps.toList)))
 |_,_=>none
def Ej(K:Fg)(r:V->List V->Hp->VK->Prop)(f:W->List W->Option W):Prop:=∀(G H:Hp)(x:V)(xs:List V)(wx:W)(ws:List W)(w:W)(Q:VK),ak G H->Rep K G wx x->ao K G ws xs->f wx ws=some w->(∀G' v H',aM G H G' H'->Rep K G' w v->Q v H')->r x xs H Q
def kA(T:String):W->Bool
 |.str _=>T=="str"
 |.lst _=>T=="list"
 |_=>false
def gf(T:String)(f:W->List W->Option W)(d:Den W)(dA:Den (List W)):Den W:=λe=>(d e).bind λx e1=>if kA T x=true then(dA e1).bind λws e2=>ba (f x ws) e2 else .no
section
variable{o e:Expr}{p:Pos}{x:Str}
def N5{T id:String}{name:Str}{r:V->List V->Hp->VK->Prop}{f:W->List W->Option W}(pa:PlainAttrs T)(slot:Slot T name id)(zT:typeOf (.builtin id)=pure (.type "method_descriptor"))(hm:xA X id r)(hf:Ej X.K r f)(ho:DE Z X EE o d)(ha:DA Z X EE (e::es) dA)
  (dQ:autoParam (attributeBase o name X.env (eval o X.env)=eval o X.env) jJ)
  (gE:autoParam (((backTo bc (starEach (e::es) X.env)).all (λx=>!x.1)&&(backToKw bc (keywordEach [] X.env)).all (λx=>x.1.isSome)&&decide ((e::es).length+([]:List Keyword).length+(if([]:List Keyword).isEmpty then 0 else 1)<30))=true) jJ)
  (dW:autoParam ((apos.endLine==bc.line)=true) jJ)(hs:autoParam (starEach (e::es) X.env=(false,eval e X.env)::starEach es X.env) jJ)(cI:autoParam ((backTo bc (starEach es X.env)).any (·.1)=false) jJ):
  DE Z X EE (.Call (.Attribute o name apos) (e::es) [] bc) (gf T f d dA):=by
 refine PE.mono (DU pa slot zT hm ho ha dQ gE dW hs cI) ?_;rintro σ H Q ⟨G,e,rel,h⟩;simp only[gf,R.au]at h;refine⟨G,e,rel,h.imp (λwx e1 h G1 v1 H1 r1 s1 p1=>?_) λ_ _ h=>h⟩
 split at h
 .rename_i hk;refine⟨?_,G1,e1,r1,(R.au.mp h).imp (λws e2 h G2 vs H2 r2 s2 p2=>?_) λ_ _ h=>XH.trans s1 h⟩
  .cases wx with
   |str z=>cases p1;exact(by simpa [kA]using hk:T="str")
   |lst ws=>
    obtain⟨a,xs,rfl,q,_⟩:=p1;exact .inl ⟨by simpa [kA]using hk,xs,r1.sub.seq q⟩
   |_=>cases hk
  .obtain⟨w,hw,h⟩:=aS.mp h;exact hf G2 H2 v1 vs wx ws w Q r2.sub (Rep.mono s2 wx p1) p2 hw λG' v H' g p=>h G' v H' (r2.grow g) ((s1.trans s2).trans g.gg) p
 .exact h.elim
end
def iR:List W->Option (List Str)
 |[]=>some []
 |.str x::r=>(iR r).map (x::·)
 |_=>none
def jv(sep:Str)(ys:List Str):Bool:=Nat.ble ((ys.map λx=>x.length).sum+ys.length*sep.length) 16777216
def ma:W->List W->Option W
 |.str sep,[w]=>match eu w with
  |some ws=>match iR ws with
   |some ys=>if jv sep ys=true then some (.str (Txt.join sep ys))else none
   |none=>none
  |none=>none
 |_,_=>none
def rJoin(K:Fg):V->List V->Hp->VK->Prop:=λx vs H Q=>∃sep b zs ys,x=.str sep/\vs=[.ref b]/\(bB K H b zs\/cZ K H b zs)/\zs=ys.map V.str/\jv sep ys=true/\Q (.str (Txt.join sep ys)) H
theorem HI:∀{ys:List Str}{aw:List Value},Vals (ys.map V.str) aw->PyProof.Rows.StrsAre aw ys
 |[],aw,h=>by cases h;exact .nil
 |y::ys,aw,h=>by
  cases h with
  |cons r t=>
   obtain⟨k,rfl⟩:=r;exact .cons y k (HI t)
def ZD:xA X "str.join" (rJoin X.K):=by
 intro pins s σ H x vs v us Q I rx rv h;obtain⟨sep,b,zs,ys,rfl,rfl,hB,rfl,hz,q⟩:=h;obtain⟨t,rfl⟩:=rx;obtain⟨u,rfl,ru⟩:=rv.one;cases ru;have KQ:=w3d hz;have fin:∀(t':Tok)(k:Nat),EP X pins σ Q (Value.str (Txt.join sep ys) t') {s with toks:=k}:=λt' k=>⟨.str _,H,I.tok k,⟨t',rfl⟩,q⟩
 rcases hB with hB|hB
 .obtain⟨aw,r,pl,_⟩:=I.list hB;exact PyProof.Rows.join_list pl.isList (by simpa using HI r) KQ fin
 .obtain⟨aw,r,pl,_⟩:=I.tuple hB;exact PyProof.Rows.join_tuple pl (by simpa using HI r) KQ fin
def XR:∀{ys:List Str}{xs:List V},iR ws=some ys->ao K G ws xs->xs=ys.map V.str:=by
 induction ws with
 |nil=>intro ys xs h r;cases h;exact r
 |cons w ws ih=>
  intro ys xs h r;cases w with
  |str x=>
   obtain⟨zs,h1,rfl⟩:=w0h.mp (show(iR ws).map (x::·)=some ys from h);obtain⟨v,t,rfl,p,q⟩:=r;cases p;exact congrArg _ (ih h1 q)
  |_=>cases h
def ZE:Ej K (rJoin K) ma:=by
 intro G H x xs wx ws w Q s px pr hf h;unfold ma at hf;split at hf
 .rename_i sep w0;obtain⟨y,r,rfl,py,pr⟩:=pr;cases(show r=[]from pr);cases px;split at hf
  .rename_i us hu;split at hf
   .rename_i ys hy;split at hf
    .rename_i ho;cases hf
     have step:∀c cs,y=.ref c->(bB K G c cs\/cZ K G c cs)->ao K G us cs->rJoin K (.str sep) [y] H Q:=λc cs hc hq hr=>by
      subst hc;refine⟨sep,c,cs,ys,rfl,rfl,?_,XR hy hr,ho,h G _ H (.refl s) rfl⟩;rcases hq with q|q
      .exact .inl (s.seq q)
      .exact .inr (s.tup q)
     unfold eu at hu;split at hu
     .cases hu;obtain⟨c,cs,hc,q,hr⟩:=py
      grind
     .cases hu;obtain⟨c,cs,hc,q,hr⟩:=py
      grind
     .cases hu
    .cases hf
   .cases hf
  .cases hf
 .cases hf
section
variable{o e:Expr}
theorem z1j(ho:DE Z X EE o d)(ha:DA Z X EE [e] dA)
  (dQ:autoParam (attributeBase o "join" X.env (eval o X.env)=eval o X.env) jJ)
  (gE:autoParam (((backTo bc (starEach [e] X.env)).all (λx=>!x.1)&&(backToKw bc (keywordEach [] X.env)).all (λx=>x.1.isSome)&&decide ([e].length+([]:List Keyword).length+(if([]:List Keyword).isEmpty then 0 else 1)<30))=true) jJ)
  (dW:autoParam ((apos.endLine==bc.line)=true) jJ)(hs:autoParam (starEach [e] X.env=(false,eval e X.env)::starEach [] X.env) jJ)(cI:autoParam ((backTo bc (starEach [] X.env)).any (·.1)=false) jJ):
  DE Z X EE (.Call (.Attribute o "join" apos) [e] [] bc) (gf "str" ma d dA):=
 N5 PySem.F.plainAttrs_str PySem.F.slot_str_join PySem.F.type_str_join ZD ZE ho ha dQ gE dW hs cI
end
def SR.dm(r:SR)(k:List S->SR):SR:=match r with
 |.nx e'=>k e'
 |.ct e'=>k e'
 |.bk e'=>.nx e'
 |.rt s e'=>.rt s e'
 |.ex c e'=>.ex c e'
 |.no=>.no
structure Rl(P:Program)(w:World)(K:Fg)(d:Addr)(tb:List (Str×Int)):Prop where
 tab:∀h,K.In h->PyProof.Rows.StrTab P w h d (PySem.W.kdpD tb)
 obj:∃o,K.lookup d=some o/\o.cls=.type "dict" /\ o.dict=none
section
variable{w:W}
def wA(i:Nat)(e:List S)(b:Option Nat)(ws:List W)(w:W):Option Nat->SR
 |some j=>.nx (e.set i (.own b (ws.set j w)))
 |none=>.no
def nL(i:Nat)(e:List S)(w:W):W->Option S->SR
 |.int k,some (.own b ws)=>wA i e b ws w (gG ws.length k)
 |_,_=>.no
def Az(i:Nat)(dk:Den W)(w:W)(e:List S):Option S->SR
 |some (.own _ _)=>(dk e).cq λk e2=>nL i e2 w k e2[i]?
 |_=>.no
def z75{dv:Den W}:jX i dv dk e=(dv e).cq λw e1=>Az i dk w e1 e1[i]?:=by
 unfold jX;congr 1
theorem y6a:Az i dk w e (some (.own b ws))=(dk e).cq λk e2=>nL i e2 w k e2[i]?:=rfl
theorem y6b:nL i e w (.int k) (some (.own b ws))=wA i e b ws w (gG ws.length k):=rfl
theorem y2f:wA i e b ws w (some j)=.nx (e.set i (.own b (ws.set j w))):=rfl
def qp(e:List S):FR->R W
 |.ok (.fr w)=>if a_ w=true then .ok w e else .no
 |_=>.no
def qo(F:List W->FR)(us:List W)(e:List S):Option S->R W
 |some (.own _ ws)=>qp e (F (.lst ws::us))
 |_=>.no
def qm(F:List W->FR)(i:Nat)(dA:Den (List W))(e:List S):Option S->R W
 |some (.own _ _)=>(dA e).bind λus e1=>qo F us e1 e1[i]?
 |_=>.no
def z1k:uh F i dA e=qm F i dA e e[i]?:=by
 unfold uh qm;cases e[i]? with
 |none=>rfl
 |some s=>cases s with
  |own b ws=>
   dsimp only;congr 1
  |_=>rfl
theorem y2g:qm F i dA e (some (.own b ws))=(dA e).bind λus e1=>qo F us e1 e1[i]?:=rfl
theorem y2h:qo F us e (some (.own b ws))=qp e (F (.lst ws::us)):=rfl
theorem y6c:qp e (.ok (.fr w))=if a_ w=true then .ok w e else .no:=rfl
def vD(i:Nat)(e:List S)(b:Option Nat)(xs:List W):Option (List W)->SR
 |some ys=>if xs.length+ys.length<=16777216 then .nx (e.set i (.own b (xs++ys)))else .no
 |none=>.no
def vC(i:Nat)(e:List S):List W->Option S->SR
 |[w],some (.own b xs)=>vD i e b xs (eu w)
 |_,_=>.no
def vB(i:Nat)(d:Den (List W))(e:List S):Option S->SR
 |some (.own _ _)=>(d e).cq λws e1=>vC i e1 ws e1[i]?
 |_=>.no
def z76{d:Den (List W)}:mZ i d e=vB i d e e[i]?:=by
 unfold mZ vB;cases e[i]? with
 |none=>rfl
 |some s=>cases s with
  |own b ws=>
   dsimp only;congr 1
  |_=>rfl
theorem y6d{d:Den (List W)}:vB i d e (some (.own b xs))=(d e).cq λws e1=>vC i e1 ws e1[i]?:=rfl
theorem y6e:vC i e [w] (some (.own b xs))=vD i e b xs (eu w):=rfl
theorem y2i:vD i e b xs (some ys)=if xs.length+ys.length<=16777216 then .nx (e.set i (.own b (xs++ys)))else .no:=rfl
theorem z1l:gf T f d dA e=(d e).bind λx e1=>if kA T x=true then(dA e1).bind λws e2=>ba (f x ws) e2 else .no:=rfl
theorem z77:kA "str" (.str z)=true:=rfl
theorem z78:kA "list" (.lst ws)=true:=rfl
theorem z79{i:Str}:S_ (.str i) (.str j)=some (.bl (decide (i.cps.toList<j.cps.toList))):=rfl
end
def df(i j:Nat)(b:List S->SR):List (W×W)->List S->SR
 |[],e=>.nx e
 |p::ps,e=>(b ((e.set i (.fr p.1)).set j (.fr p.2))).dm (df i j b ps)
def iJ(i j:Nat)(d:Den (List (W×W)))(b:List S->SR):List S->SR:=λe=>(d e).cq λps e1=>df i j b ps e1
def eJ(c:Den Bool)(d:Den W)(pe:List S):List (W×W)->Option (List W)
 |[]=>some []
 |p::ps=>match c (.fr p.1::.fr p.2::pe)with
  |.ok true e1=>match d e1 with
   |.ok y _=>(eJ c d pe ps).map (y::·)
   |_=>none
  |.ok false _=>eJ c d pe ps
  |_=>none
def jm(js:List Nat)(c:Den Bool)(d:Den W)(ps:List (W×W))(e1:List S):R (List W):=
 if ps.length<=16777216 then(match eJ c d (fM js (aW js e1)) ps with
  |some out=>.ok out (aW js e1)
  |none=>.no)else .no
def dG(js:List Nat)(di:Den (List (W×W)))(c:Den Bool)(d:Den W):Den (List W):=λe=>(di e).bind λps e1=>jm js c d ps e1
structure jl(K:Fg)(G1:Hp)(J:It)(ps:List (W×W)):Prop where
 go:∀(i:Nat)(G H:Hp),ak G1 G->ak G H->i<ps.length->J.go i H
 kI:∀(i:Nat)(G H:Hp)(x:V)(H':Hp),ak G1 G->ak G H->J.kI i H x H'->∀u v,ps[i]?=some (u,v) ->
  aM G H G H'/\∀(m n:Nat)(σ:St)(Q:St->Hp->Prop),(∀y z,Rep K G u y->Rep K G v z->Q ((σ.set m (some y)).set n (some z)) H')->oW K 2 (fF (bx m) (fF (bx n) oV)) x σ H' Q
 stop:∀(i:Nat)(G H:Hp),ak G1 G->ak G H->ps.length<=i->J.stop i H
def uM(K:Fg)(Z:Zt)(EE:L2.St->XK)(d:Den (List (W×W))):TI:=λσ H R=>sj K Z σ H λG e=>(d e).holds (λps e1=>∀G1 H1 J,Rel K Z G1 σ H1 e1->ak G G1->jl K G1 J ps->R J H1) (XH K Z EE σ G)
def DI(Z:Zt)(X:Cx)(EE:L2.St->XK)(tg iter:Expr)(d:Den (List (W×W))):Prop:=PI X tg iter (uM X.K Z EE d)
theorem PI.mono(h:PI X tg iter wi)(m:∀σ H R,Uk σ H R->wi σ H R):PI X tg iter Uk:=λpins s σ H R I q=>h pins s σ H R I (m σ H R q)
def WT(r:Rel K Z G' σ H e)(s:ak G1 G')(pu:Rep K G' p.1 x)(pv:Rep K G' p.2 y)
  (h:bw K Z EE D G1 (df i j s1 (p::ps) e))(hP:∀f_ fP jh rF,Rel K Z f_ fP jh rF->ak G1 f_->bw K Z EE D G1 (df i j s1 ps rF)->Pv fP jh):
  eg K Z EE s1 {D with nx:=Pv,ct:=Pv,bk:=D.nx} ((σ.set i (some x)).set j (some y)) H:=by
 refine⟨G',_,(r.set pu).set pv,?_⟩;unfold df at h;cases q:s1 ((e.set i (.fr p.1)).set j (.fr p.2))with
 |nx e'=>rw[q]at h;exact λf_ fP jh nO iE=>hP f_ fP jh e' nO (s.trans iE) h
 |ct e'=>rw[q]at h;exact λf_ fP jh nO iE=>hP f_ fP jh e' nO (s.trans iE) h
 |bk e'=>rw[q]at h;exact λf_ fP jh nO iE=>h f_ fP jh nO (s.trans iE)
 |rt t e'=>rw[q]at h;exact λf_ fP v jh nO iE p=>h f_ fP v jh nO (s.trans iE) p
 |ex c e'=>rw[q]at h;exact λf_ fP jh nO iE=>h f_ fP jh nO (s.trans iE)
 |no=>rw[q]at h;exact h
def Mf{ps:List (W×W)}{k:Nat}{p:W×W}(h:ps[k]?=some p):ps.drop k=p::ps.drop (k+1):=by
 obtain⟨h1,h2⟩:=w0b.mp h;rw[w3u h1,h2]
def Rel.vq(r:Rel K Z G σ H e)(js)(q:Rep K G u y)(p:Rep K G w x):Rel K ⟨H,G,[]⟩ G (some y::some x::pj js σ) H (.fr u::.fr w::fM js e):=by
 have b:=r.block js p
 have l7:∀(i:Nat)(s:S),(S.fr w::fM js e)[i]?=some s->s=.no\/∃u,s=.fr u:=λi s h=>by
  grind [fM,j6]
 refine⟨b.sub,λi s h=>?_,?_,λi j b1 b2 w1 w2 a h1 h2 _ _=>?_,b.ent,b.ko,b.gen⟩
 .cases i with
  |zero=>cases h;exact⟨y,rfl,q⟩
  |succ i=>
   rw[w0f]at h;have z:=b.slot i s h
   grind
 all_goals grind [len]
def Yi{J:It}{ps:List (W×W)}{out:List W}{Q:VK}{G0 G1 H1:Hp}{e1:List S}(W0:jl K G1 J ps)(r1:Rel K Z G1 σ H1 e1)(s1:ak G0 G1)(hl:ps.length<=16777216)
  (hz:∀p,H1 p=none->p∉Z.io)(hc:eJ c d (fM js e1) ps=some out)
  (h:∀G' a xs H',Rel K Z G' σ H' e1->ak G0 G'->H' a=some (.lst xs)->G' a=none->Z.H a=none->iq σ e1 a->ao K G' out xs->Q (.ref a) H'):
  ∀D,H1 D=none->∃W:Nat->Nat->Hp->Prop,(∃m,W 0 m (upd H1 D (.lst [])))/\∀i m H2,W i m H2 ->
   (J.stop i H2/\Q (.ref D) H2)\/(J.go i H2/\∀x H3,J.kI i H2 x H3->oW K 2 (fF (bx 0) (fF (bx 1) oV)) x (List.replicate 2 none++pj js σ) H3 λnX H4=>Kp (List.replicate 2 none++pj js σ) nX/\cT K c nX H4 λb H5=>
    if b=true then cE K d nX H5 λy H6=>∃ys,H6 D=some (.lst ys)/\ys.length<sizeLine/\∃m',m'<m/\W (i+1) m' (upd H6 D (.lst (ys++[y])))else ∃m',m'<m/\W (i+1) m' H5):=by
 intro D hD
 refine⟨λi m H2=>m=ps.length-i/\i<=ps.length/\∃G2 ys done rest,Rel K Z G2 σ H2 e1/\ak G1 G2/\H2 D=some (.lst ys)/\G2 D=none/\ao K G2 done ys/\done.length<=i/\eJ c d (fM js e1) (ps.drop i)=some rest/\done++rest=out,
  ⟨ps.length,by omega,w1a _,G1,[],[],out,r1.grow (aM.nu r1.sub hD _),.refl _,bV,r1.sub.free hD,rfl,w0c _,hc,rfl⟩,?_⟩
 rintro i m H2 ⟨rfl,hi,G2,ys,done,rest,r2,s2,hd2,oq,qT,Kv,b_,ho⟩;have b7:iq σ e1 D:=wO r1 hD;have uI:Z.H D=none:=qK r1 hD
 by_cases cb:i<ps.length
 .refine .inr ⟨W0.go i G2 H2 s2 r2.sub cb,λx H3 hy=>?_⟩
  have hp:ps[i]?=some ((ps[i]).1,(ps[i]).2):=by rw[w0d cb]
  obtain⟨g3,ES⟩:=W0.kI i G2 H2 x H3 s2 r2.sub hy _ _ hp;have Il:=r2.grow g3;have B7:H3 D=some (.lst ys):=g3.hh _ _ hd2;rw[Mf hp]at b_;refine ES 0 1 _ _ λyv zv py pz=>⟨Kp.two,⟨H3,G2,[]⟩,G2,.fr (ps[i]).1::.fr (ps[i]).2::fM js e1,Il.vq js py pz,?_⟩
  unfold eJ at b_;cases qc:c (.fr (ps[i]).1::.fr (ps[i]).2::fM js e1)with
  |no=>rw[qc]at b_;cases b_
  |ex _ _=>rw[qc]at b_;cases b_
  |ok k e2=>
   rw[qc]at b_;intro G3 H5 r3 s3;have g3:=r3.fN s3;cases k with
   |false=>
    exact⟨ps.length-(i+1),by omega,rfl,cb,G3,ys,done,rest,Il.grow g3,s2.trans s3,g3.hh _ _ B7,by rw[g3.new D (by rw[B7];simp)];exact oq,ao.mono s3 _ qT,by omega,b_,ho⟩
   |true=>
    refine⟨⟨H3,G2,[]⟩,G3,e2,r3,?_⟩;dsimp only at b_;cases qd:d e2 with
    |no=>rw[qd]at b_;cases b_
    |ex _ _=>rw[qd]at b_;cases b_
    |ok y e3=>
     rw[qd]at b_;intro G4 v H6 r4 s4 p4;have g4:=r4.fN (s3.trans s4);obtain⟨my,hr,rfl⟩:=w0h.mp b_;have vL:H6 D=some (.lst ys):=g4.hh _ _ B7;have uB:G4 D=none:=by rw[g4.new D (by rw[B7];simp)];exact oq
     refine⟨ys,vL,?_,ps.length-(i+1),by omega,rfl,cb,G4,ys++[v],done++[y],my,(Il.grow g4).ja uB uI (hz D hD) b7 vL,s2.trans (s3.trans s4),bV,uB,(ao.mono (s3.trans s4) _ qT).append (.one p4),by simp;omega,hr,by rw[w3b];exact ho⟩;rw[qT.length,sizeLine_eq];omega
 .have:i=ps.length:=by omega
  subst this;rw[w2q]at b_;cases b_;rw[w2d]at ho;subst ho;exact .inl ⟨W0.stop _ G2 H2 s2 r2.sub (by omega),h G2 D ys H2 r2 (s1.trans s2) hd2 oq uI b7 qT⟩
section
variable{elt iter e a:Expr}{body:List Stmt}{ifs:List Expr}{scope sc:Scope}{pt p3:Pos}{x y:Str}{Nf N:List Str}{di:Den (List (W×W))}{s1:List S->SR}
def z1m(i j:Nat)(hN:X.N.Nodup)(hp:PassesOwn (model X.prog X.w) X.A X.env X.xe)(hc:X.calm=true)(hl:DI Z X EE (.Tuple [.Name x p1,.Name y p2] kt p3) e di)(hb:mK Z X EE body s1)
  (hi:autoParam (X.N[i]?=some x) jJ)(hx:autoParam (Loc X.env.scope x) jM)(hf:autoParam (X.fn x=true\/X.env.scope.names.lookup x=some .local) jL)
  (hj:autoParam (X.N[j]?=some y) jJ)(hy:autoParam (Loc X.env.scope y) jM)(EO:autoParam (X.fn y=true\/X.env.scope.names.lookup y=some .local) jL)
  (hn:autoParam ((assignEach [.Name x p1,.Name y p2] X.env).length=2) jJ)(jY:autoParam ((assignEach [.Name x p1,.Name y p2] X.env).findIdx? (·.1)=none) jJ)
  (g1:autoParam ((assignEach [.Name x p1,.Name y p2] X.env).map (·.2)=assign (.Name x p1) X.env::(assignEach [.Name y p2] X.env).map (·.2)) jJ)(g2:autoParam ((assignEach [.Name y p2] X.env).map (·.2)=assign (.Name y p2) X.env::(assignEach [] X.env).map (·.2)) jJ)
  (hs:∀x,foldedSetIterable e X.env x=pure x:=by intro _;rfl):
  DS Z X EE (.For (.Tuple [.Name x p1,.Name y p2] kt p3) e body [] pos) (iJ i j di s1):=by
 refine PS.mono (Jv hp hc hl (Pk hc (De (rX i hN hi hx hf) (De (rX j hN hj hy EO) Ou g2) g1) hn jY) hb hs) ?_;rintro D σ H ⟨G,e,rel,h⟩;refine⟨G,e,rel,(iQ h).imp (λps e1 h G1 H1 J r1 q1 W0=>?_) λ_ _ h=>h⟩
 have h:=bw.trans q1 h;refine⟨λk m aI H'=>m=ps.length-k/\k<=ps.length/\∃G' e',Rel X.K Z G' aI H' e'/\ak G1 G'/\bw X.K Z EE D G1 (df i j s1 (ps.drop k) e'),⟨ps.length,by omega,w1a _,G1,e1,r1,.refl _,h⟩,?_⟩
 rintro k m aI H' ⟨rfl,hk,G',e',r',s',h'⟩
 by_cases cb:k<ps.length
 .refine .inr ⟨W0.go k G' H' s' r'.sub cb,λfP jh=>∃G' e',Rel X.K Z G' fP jh e'/\ak G1 G'/\bw X.K Z EE D G1 (df i j s1 (ps.drop (k+1)) e'),?_,λv H2 hy=>?_⟩
  .rintro fP jh ⟨f_,rF,nO,iE,qa⟩;exact⟨ps.length-(k+1),by omega,rfl,cb,f_,rF,nO,iE,qa⟩
  .have hp:ps[k]?=some ((ps[k]).1,(ps[k]).2):=by rw[w0d cb]
   obtain⟨g3,ES⟩:=W0.kI k G' H' v H2 s' r'.sub hy _ _ hp;rw[Mf hp]at h';exact ES i j aI _ λy z py pz=>WT (p:=((ps[k]).1,(ps[k]).2)) (r'.grow g3) s' py pz h' λf_ fP jh rF nO iE qa=>⟨f_,rF,nO,iE,qa⟩
 .have:k=ps.length:=by omega
  subst this;rw[w2q]at h';exact .inl ⟨W0.stop _ G' H' s' r'.sub (by omega),h' G' aI H' r' s'⟩
def V7:∀σ H Q,mh K Z EE (dG js di c d) σ H Q->iS (uM K Z EE di) 2 js (oW K 2 (fF (bx 0) (fF (bx 1) oV))) (cT K c) (cE K d) σ H Q:=by
 rintro σ H Q ⟨G,e,rel,h⟩;simp only[dG,R.au]at h;refine⟨G,e,rel,h.imp (λps e1 h G1 H1 J r1 s1 W0=>?_) λ_ _ h=>h⟩
 unfold jm at h;split at h
 .rename_i hl;split at h
  .rename_i out ho;obtain⟨G2,s2,r2⟩:=r1.aW js;have W1:jl K G2 J ps:=⟨λi G H a=>W0.go i G H (s2.trans a),λi G H x H' a=>W0.kI i G H x H' (s2.trans a),λi G H a=>W0.stop i G H (s2.trans a)⟩
   exact Yi W1 r2 (s1.trans s2) hl (ju r2) ho h
  .exact h.elim
 .exact h.elim
def y6g(hc:X.calm=true)(hi:DI Z X EE (.Tuple [.Name x p1,.Name y p2] kt p3) iter di)(ok:bX sc scope N Nf js=true)
  (ht:∀Z' cl C ax aA ex,rB Z' (X.cp ([x,y]++Nf) scope cl C ax aA ex) (λ_=>E0) ifs c)(he:∀Z' cl C ax aA ex,DE Z' (X.cp ([x,y]++Nf) scope cl C ax aA ex) (λ_=>E0) elt d)
  (hg:∀cl C ax aA ex,PG (X.cp ([x,y]++Nf) scope cl C ax aA ex) (.Tuple [.Name x p1,.Name y p2] kt p3) (oW X.K 2 (fF (bx 0) (fF (bx 1) oV))))
  (hsc:autoParam (X.env.scope=sc) jJ)(hN:autoParam (X.N=N) jJ)(hs:∀x,foldedSetIterable iter X.env x=pure x:=by intro _;rfl):
  DF Z X EE (.ListComp elt [⟨.Tuple [.Name x p1,.Name y p2] kt p3,iter,ifs,0⟩] scope pos) (dG js di c d):=by
 exact PE.mono (HF (Nl:=[x,y]) (tc:=cT X.K c) (te:=cE X.K d) hc hi ok hg (wZ ht) (yj he) hsc hN hs) V7
def cR:List W->Option (List (W×W))
 |[]=>some []
 |.tup [u,v]::ws=>(cR ws).map ((u,v)::·)
 |_=>none
def jE(d:Den W):Den (List (W×W)):=λe=>(d e).bind λw e1=>match eu w with
 |some ws=>ba (cR ws) e1
 |none=>.no
theorem MV:∀{ws:List W}{ps:List (W×W)},cR ws=some ps->ws.length=ps.length/\∀(i:Nat) u v,ps[i]?=some (u,v)->ws[i]?=some (.tup [u,v])
 |[],ps,h=>by cases h;exact⟨rfl,λi u v z=>by simp at z⟩
 |w::ws,ps,h=>by
  unfold cR at h;split at h
  .rename_i z;cases z
  .rename_i u v ws' z;cases z;obtain⟨q,hq,rfl⟩:=w0h.mp h;obtain⟨h1,h2⟩:=MV hq;refine⟨by simp[h1],λi u' v' z=>?_⟩
   cases i with
   |zero=>simp at z;simp[z.1,z.2]
   |succ i=>simp only[w0f]at z |-;exact h2 i _ _ z
  .cases h
def MW(W0:Walk J xs SQ)(rp:ao K G1 ws xs)(hp:cR ws=some ps)(oX:∀G' H',ak G1 G'->ak G' H'->SQ H'):jl K G1 J ps:=by
 obtain⟨hl,hg⟩:=MV hp;have hx:=rp.length;refine⟨λi G H a b h=>W0.go i H (oX G H a b) (by omega),λi G H x H' a b hy u v h=>?_,λi G H a b h=>W0.stop i H (oX G H a b) (by omega)⟩
 have cb:i<ps.length:=(w0b.mp h).1;obtain⟨rfl,uH⟩:=W0.kI i H x H' (oX G H a b) hy (by omega);refine⟨aM.refl b,λm n σ Q hQ=>?_⟩
 obtain⟨w,hw,pw⟩:=rp.iZ uH;rw[hg i u v h]at hw;cases hw;have pw:=Rep.mono a _ pw;obtain⟨c,ys,rfl,hq,y1,q1,rfl,p1,y2,q2,rfl,p2,rfl⟩:=pw;exact⟨c,[y1,y2],rfl,b.tup hq,rfl,y1,[y2],rfl,y2,[],rfl,rfl,hQ y1 y2 p1 p2⟩
def y6h(hl:DE Z X EE l d0):DI Z X EE tg l (jE d0):=by
 refine PI.mono (yh hl) ?_;rintro σ H RR ⟨G,e,rel,h⟩;simp only[jE,R.au]at h;refine⟨G,e,rel,h.imp (λw e1 h G1 v1 H1 r1 s1 p1=>?_) λ_ _ h=>h⟩
 split at h
 .rename_i ws hw;obtain⟨ps,hp,h⟩:=aS.mp h;cases w with
  |tup us=>
   cases (hw);obtain⟨a,xs,rfl,hq,rp⟩:=p1;exact⟨a,rfl,.inr ⟨⟨xs,r1.sub.tup hq⟩,h _ _ _ r1 s1 (MW Jq rp hp λG' H' s s'=>ak.tup s' (ak.tup s hq))⟩⟩
  |lst us=>
   cases (hw);obtain⟨a,xs,rfl,hq,rp⟩:=p1;exact⟨a,rfl,.inl ⟨⟨xs,r1.sub.seq hq⟩,h _ _ _ r1 s1 (MW Jw rp hp λG' H' s s'=>ak.seq s' (ak.seq s hq))⟩⟩
  |_=>cases hw
 .exact h.elim
def bZ:Nat->List W->List (W×W)
 |_,[]=>[]
 |k,w::ws=>(.int k,w)::bZ (k+1) ws
def mB(dA:Den (List W)):Den (List (W×W)):=λe=>(dA e).bind λws e1=>match ws with
 |[.lst us]=>.ok (bZ 0 us) e1
 |_=>.no
theorem Hr:∀(k:Nat)(ws:List W),(bZ k ws).length=ws.length
 |_,[]=>rfl
 |k,w::ws=>by simp[bZ,Hr (k+1) ws]
theorem Hs:∀(k:Nat)(ws:List W)(i:Nat)(u v:W),(bZ k ws)[i]?=some (u,v)->u=.int ((k+i:Nat):Int)/\ws[i]?=some v
 |_,[],i,u,v,h=>by simp[bZ]at h
 |k,w::ws,i,u,v,h=>by
  cases i with
  |zero=>
   have e:(W.int k,w)=(u,v):=Option.some.inj h;cases e;exact⟨rfl,rfl⟩
  |succ i=>
   have h:(bZ (k+1) ws)[i]?=some (u,v):=h;obtain⟨h1,h2⟩:=Hs (k+1) ws i u v h;exact⟨by rw[h1];congr 2;omega,h2⟩
def Ee(K:Fg)(a:Addr):It:=
 ⟨λi H=>∃xs x,bB K H a xs/\xs[i]?=some x,λi H x H'=>∃b y,x=.ref b/\H b=none/\(∀xs,bB K H a xs->xs[i]?=some y)/\H'=upd H b (.tup [.int i,y]),λi H=>∃xs,bB K H a xs/\xs.length<=i⟩
def Ht{fp:List Addr}{b:Addr}(I:Inv X pins σ H s)(k:∀b o,b∉fp->s.heap.get? b=some o->h'.get? b=some o)(hf:∀b∈fp,eD X pins H b)(hp:s.heap.objs.size<=b)(new:aN X.prog X.w (upd H b o) h' b o):Inv X pins σ (upd H b o) {s with heap:=h',toks:=t'}:=by
 have hn:H b=none:=I.aG.fresh hp;have ne:∀c u,H c=some u->c≠b:=λc u e=>gA e hn
 have Tb:∀c u,H c=some u->c∉fp:=λc u e z=>by rw[(hf c z).1]at e;cases e
 have lt:∀c o,s.heap.get? c=some o->c≠b:=λc o e=>w0m (w0r (Heap.lt_size e) hp)
 refine I.step (g':=s.gens) (d':=s.drawn) (ch:=fp) (λc hc=>?_) (λc o _ _ hc e _=>k c o hc e) (λc o _ _ hc e _=>⟨o.slots,k c o hc e⟩) (λc o _ e n=>by grind [aU])
  (λc o hc e=>⟨o,k c o hc e⟩) (λc xs e=>by grind [aU]) (λc o u e=>by grind [aU]) (λc ps e=>⟨#[],by grind [aU]⟩) (λm hm=>?_) (λc u e=>?_) I.bare
 .obtain⟨f0,f1,f2,f3,f4,f5⟩:=hf c hc
  grind
 .obtain⟨o,es,ep,ho,r⟩:=hm;exact⟨o,es,ep,k _ o (λz=>(hf _ z).2.1 rfl) ho,r⟩
 .by_cases hb:c=b
  .grind [bV]
  .rw[aU hb]at e;refine(I.aG c u e).eQ (λd v hd q=>k d v ?_ q) (λd q=>by grind [aU]) λd xs _ q=>by grind [aU]
   grind
theorem WU(a e it)(i0:e≠it):Turn P w K (.Tuple elts kt pt) (Ee K a) [e,it] e (λi h=>∃old,PySem.IsEnum h e it (i:Nat) old/\h.IsListIter it a i) where
 mem:=by simp
 obj:=λi h ⟨old,lC,iF⟩ b hb=>by
  simp only[w0e,w0y,or_false]at hb;rcases hb with rfl|rfl
  .grind
  .obtain⟨o,e,c,d⟩:=iF
   grind
 keep:=λi h h' ⟨old,lC,iF⟩ k=>⟨old,k e (by simp) _ lC,iF.at λo e=>k it (by simp) o e⟩
 item:=by
  intro X hP hw hK hc i pins s σ H E I hf st hg;subst hP hw hK;obtain⟨old,lC,iF⟩:=st;obtain⟨xs,x,hq,hx⟩:=hg;obtain⟨aw,rv,p,hz⟩:=I.list hq;obtain⟨u,hu,ru⟩:=rv.get hx;refine wpAny_pyNext_enum_item lC iF p.isList (x:=u) (by simpa using hu) i0 λh1 sM vO Fl KR qh=>⟨_,rfl,?_⟩
  refine wpAny_letOwnedTupleGo_enum sM λh2 km iL=>?_
  have iL:Heap.SameBut e h1 h2:=iL;have cb:e<s.heap.objs.size:=Heap.lt_size lC;have l7:H s.heap.objs.size=none:=I.aG.fresh (w0c _);have zS:h2.get? s.heap.objs.size=some {cls:=.type "tuple", data:=.seq #[.int i s.toks,u]}:=(iL.2 _ (w2g cb)).trans Fl;refine⟨.ref s.heap.objs.size,upd H s.heap.objs.size (.tup [.int i,x]),?_,rfl,⟨_,x,rfl,l7,λys hy=>by rw[I.hX hy hq];exact hx,rfl⟩,⟨u,km,?_⟩,λb hb=>?_⟩
  .show L2.Inv X pins σ _ {s with heap:=h2,toks:=s.toks+1};refine Ht (fp:=[e,it]) I (λb o hb q=>?_) hf (w0c _) ⟨?_,[.int i s.toks,u],.cons ⟨_,rfl⟩ (.cons ru .nil),⟨_,zS,rfl,?_⟩,⟨_,zS,rfl⟩⟩
   .simp only[w0e,w0y,or_false,not_or]at hb;exact(iL.2 b hb.1).trans (qh b o hb.1 hb.2 q)
   all_goals grind [sizeLine_eq]
  .exact vO.at λo q=>(iL.2 it (Ne.symm i0)).trans q
  .have:b≠s.heap.objs.size:=by
    obtain⟨o,q,_⟩:∃o,s.heap.get? b=some o/\True:=by
     simp only[w0e,w0y,or_false]at hb;rcases hb with rfl|rfl
     .grind
     .obtain⟨o,e,_⟩:=iF;grind
    exact w0m (Heap.lt_size q)
   rw[aU this];exact(hf b hb).1
 done:=by
  intro X hP hw hK hc i pins s σ H E I hf st hg;subst hP hw hK;obtain⟨old,lC,iF⟩:=st;obtain⟨xs,hq,hx⟩:=hg;obtain⟨aw,rv,p,hz⟩:=I.list hq;obtain⟨f0,f1,f2,f3,f4,f5⟩:=hf it (by simp);have hl:=rv.length;exact wpAny_pyNext_enum_end (I.ok.hd hc) lC iF p.isList (by simp;omega) λh' eb=>⟨rfl,I.turned (t':=s.toks) (λb o hb e=>eb b o hb e) f0 f1 f3 f4 f5⟩
 self:=λ_ _ _ _ _ ⟨old,lC,_⟩ h=>wpAny_pyIter_enum lC h
def zX(K:Fg)(ta:TA):TI:=λσ H R=>ta σ H λvs H1=>∃a,vs=[.ref a]/\(∃xs,bB K H1 a xs)/\R (Ee K a) H1
def ZF{ta:TA}{p:Pos}(hg:Gl X "enumerate")(hm:X.mg "enumerate"=none)(ha:PA X [a] ta)(hs:autoParam (starEach [a] X.env=[(false,eval a X.env)]) jJ):PI X (.Tuple elts kt pt) (.Call (.Name "enumerate" p) [a] [] pos) (zX X.K ta):=by
 intro pins s σ H R I h;refine PyProof.Rows.Call_ (qJ I hg hm PyProof.Rows.boot_enumerate (PyProof.Rows.callWith_type1 (bt (ha pos pins s σ H _ I h) λus s1 ⟨vs,H1,I1,r1,q1⟩=>?_) hs rfl))
 obtain⟨l,e,⟨xs,hq⟩,q⟩:=q1;subst e;cases r1 with
 |cons r rr=>
  cases rr;cases r;obtain⟨aw,rv,p,hz⟩:=I1.list hq;refine call_enumerate_list p.isList λh' he hit hsz hk=>?_
  refine wpAny_pyIter_enum he ?_;refine⟨s1.heap.objs.size+1,[s1.heap.objs.size+1,s1.heap.objs.size],_,_,H1,rfl,I1.kept (t':=s1.toks) hk,WU l _ _ (w4c _),⟨_,he,hit⟩,λb hb=>?_,q⟩
  simp only[w0e,w0y,or_false]at hb;rcases hb with rfl|rfl
  .exact I1.jr (by omega) (I1.aG.fresh (by omega))
  .exact I1.jr (w0c _) (I1.aG.fresh (w0c _))
def V8(rp:ao K G1 ws xs)(hq:bB K G1 b xs):jl K G1 (Ee K b) (bZ 0 ws):=by
 have hx:=rp.length;have hl:=Hr 0 ws;refine⟨λi G H s s' h=>⟨xs,xs[i]'(by omega),ak.seq s' (ak.seq s hq),by simp⟩,λi G H x H' s s' hy u v h=>?_,λi G H s s' h=>⟨xs,ak.seq s' (ak.seq s hq),by omega⟩⟩
 obtain⟨c,y,rfl,hn,uH,rfl⟩:=hy;obtain⟨hu,hv⟩:=Hs 0 ws i u v h;obtain⟨w,hw,pw⟩:=rp.iZ (uH xs (ak.seq s' (ak.seq s hq)));rw[hv]at hw;cases hw;refine⟨aM.nu s' hn _,λm n σ Q hQ=>⟨c,[.int i,y],rfl,cZ.of bV,rfl,.int i,[y],rfl,y,[],rfl,rfl,hQ _ _ ?_ (Rep.mono s _ pw)⟩⟩
 rw[hu,w1y];exact rfl
def z1o{p:Pos}(hm:X.mg "enumerate"=none)(ha:DA Z X EE [a] dA)(hg:autoParam (Gl X "enumerate") jJ)(hs:autoParam (starEach [a] X.env=[(false,eval a X.env)]) jJ):DI Z X EE (.Tuple elts kt pt) (.Call (.Name "enumerate" p) [a] [] pos) (mB dA):=by
 refine PI.mono (ZF hg hm ha hs) ?_;rintro σ H RR ⟨G,e,rel,h⟩;simp only[mB,R.au]at h;refine⟨G,e,rel,h.imp (λws e1 h G1 vs H1 r1 s1 p1=>?_) λ_ _ h=>h⟩
 split at h
 .rename_i us;obtain⟨y,r,rfl,e1,e2⟩:=p1;cases(show r=[]from e2);obtain⟨b,xs,rfl,hq,rp⟩:=e1;exact⟨b,rfl,⟨xs,r1.sub.seq hq⟩,h _ _ _ r1 s1 (V8 rp hq)⟩
 .exact h.elim
end
theorem z8a{x y:Str}{p3:Pos}(hN:X.N.Nodup)(hc:X.calm=true)
  (hi:autoParam (X.N[0]?=some x) jJ)(hx:autoParam (Loc X.env.scope x) jM)(hf:autoParam (X.fn x=true\/X.env.scope.names.lookup x=some .local) jL)
  (hj:autoParam (X.N[1]?=some y) jJ)(hy:autoParam (Loc X.env.scope y) jM)(EO:autoParam (X.fn y=true\/X.env.scope.names.lookup y=some .local) jL)
  (hn:autoParam ((assignEach [.Name x p1,.Name y p2] X.env).length=2) jJ)(jY:autoParam ((assignEach [.Name x p1,.Name y p2] X.env).findIdx? (·.1)=none) jJ)
  (g1:autoParam ((assignEach [.Name x p1,.Name y p2] X.env).map (·.2)=assign (.Name x p1) X.env::(assignEach [.Name y p2] X.env).map (·.2)) jJ)(g2:autoParam ((assignEach [.Name y p2] X.env).map (·.2)=assign (.Name y p2) X.env::(assignEach [] X.env).map (·.2)) jJ):
  PG X (.Tuple [.Name x p1,.Name y p2] kt p3) (oW X.K 2 (fF (bx 0) (fF (bx 1) oV))):=
 Pk hc (De (rX 0 hN hi hx hf) (De (rX 1 hN hj hy EO) Ou g2) g1) hn jY
section
variable{w:W}{ps:List (W×W)}{c:Prop} [Decidable c]{s t:SR}{k:List S->SR}{st:S}
theorem z1p:iJ i j di b e=(di e).cq λps e1=>df i j b ps e1:=rfl
theorem WV:df i j b (p::ps) e=(b ((e.set i (.fr p.1)).set j (.fr p.2))).dm (df i j b ps):=rfl
theorem y6i:(SR.nx e).dm k=k e:=rfl
theorem y6j:(SR.ct e).dm k=k e:=rfl
theorem y6k:(SR.bk e).dm k=.nx e:=rfl
theorem y6l:(SR.rt st e).dm k=.rt st e:=rfl
theorem y6m:(SR.ex v e).dm k=.ex v e:=rfl
theorem y6n:(SR.no).dm k=.no:=rfl
def y2m:(if c then s else t).dm k=if c then s.dm k else t.dm k:=by split<;>rfl
def va(e:List S):List W->R (List (W×W))
 |[.lst us]=>.ok (bZ 0 us) e
 |_=>.no
def z8b:mB dA e=(dA e).bind λws e1=>va e1 ws:=by
 unfold mB;congr 1
theorem z1q:va e [.lst ws]=.ok (bZ 0 ws) e:=rfl
def vb(e:List S):Option (List W)->R (List (W×W))
 |some ws=>ba (cR ws) e
 |none=>.no
def z8c:jE d e=(d e).bind λw e1=>vb e1 (eu w):=by
 unfold jE;congr 1
theorem x9v:vb e (some ws)=ba (cR ws) e:=rfl
def y6o:jm js cc d ps e=if ps.length<=16777216 then lS (aW js e) (eJ cc d (fM js (aW js e)) ps)else .no:=by
 grind [jm,lS]
theorem y6p:dG js di cc d e=(di e).bind λps e1=>jm js cc d ps e1:=rfl
theorem GY{cc:Den Bool}{p:W×W}:eJ cc d pe (p::ps)=(match cc (.fr p.1::.fr p.2::pe)with
  |.ok true e1=>(match d e1 with|.ok y _=>(eJ cc d pe ps).map (y::·)|_=>none)
  |.ok false _=>eJ cc d pe ps
  |_=>none):=rfl
theorem Hu:∀(ps:List (W×W)),(∀p∈ps,∃e1,cc (.fr p.1::.fr p.2::pe)=.ok (q p) e1/\(q p=true->∃e2,d e1=.ok (g p) e2))->eJ cc d pe ps=some ((ps.filter q).map g)
 |[],_=>rfl
 |p::ps,h=>by
  obtain⟨e1,h1,h2⟩:=h p (by simp);have ih:=Hu ps λu hu=>h u (by simp[hu])
  rw[GY,h1,ih]
  grind
end
theorem WW(l)(items)(n)(x)(u)(dd)(sl)(hc0:¬(!Builtin.List.listFitsIndex x)=true)(xI:¬items.size*x.toNat>(2^63-1) / 8)(b_:¬Builtin.List.listTooLong (items.size*x.toNat)=true):
  Meets (Builtin.«list.__mul__» ⟨[.ref l,.int x u],[]⟩) (λ_ R s=>s.heap.get? l=some {cls:=.type "list", dict:=dd,data:=.seq items n,slots:=sl}/\R (.ok (.ret (Value.ref s.heap.objs.size))) {s with heap:=s.heap.push {cls:=Value.type "list", data:=Data.seq (List.foldl (λx1 x2=>x1++x2) #[] (List.replicate (if items.isEmpty=true then 0 else x.toNat) items))},toks:=s.toks}):=
 .of_wp λprog w A R s h=>by
  obtain⟨hp,g,d,tk,os⟩:=s;obtain⟨hl,h⟩:=h;have hsz:=PySem.AutoListH.joined_fits b_
  wp_walk;refine wpAny_ite_false (decide_eq_false (w3a.mpr hsz)) ?_;wp_walk;exact⟨_,rfl,h⟩
theorem WX(a)(t)(l)(items)(n)(dd)(sl):
  Meets (Builtin.«int.__rmul__» ⟨[.int a t,.ref l],[]⟩) (λ_ R s=>s.heap.get? l=some {cls:=.type "list", dict:=dd,data:=.seq items n,slots:=sl}/\R (.ok (.ret Value.notImplemented)) s):=
 .of_wp λprog w A R s h=>by obtain⟨hp,g,d,tk,os⟩:=s;obtain⟨hl,h⟩:=h;wp_walk;exact⟨_,rfl,h⟩
def u5(K:Fg):R2:=λx y H Q=>∃l k xs,x=.ref l/\y=.int k/\bB K H l xs/\-(2^63)<=k/\k<2^63/\xs.length*k.toNat<=sizeLine /\
 ∀p,H p=none->Q (.ref p) (upd H p (.lst (List.replicate k.toNat xs).flatten))
def N6:fj X (binaryOp .Mult) (u5 X.K):=by
 intro pins s σ H x y v u Q I rx ry h;obtain⟨l,k,xs,rfl,rfl,hH,h1,h2,hz,q⟩:=h;cases rx;obtain⟨t,rfl⟩:=ry;obtain⟨aw,r,p1,_⟩:=I.list hH;obtain⟨⟨cls,dd,data,sl⟩,ho,hc,n,hd⟩:=id p1.isList;simp only at hc hd;subst hc hd;have hl:=r.length;have hlen:aw.toArray.size*k.toNat<=sizeLine:=by grind
 have kQ:¬aw.toArray.size*k.toNat>(2^63-1) / 8:=by
  grind [sizeLine]
 have qf:¬(!Builtin.List.listFitsIndex k)=true:=by
  simp_all [fitsIndex_both]
 have qi:¬Builtin.List.listTooLong (aw.toArray.size*k.toNat)=true:=by
  simp_all [mr]
 have oY:List.foldl (λx1 x2=>x1++x2) #[] (List.replicate (if aw.toArray.isEmpty=true then 0 else k.toNat) aw.toArray)=(List.replicate k.toNat aw).flatten.toArray:=by
  have f0:∀m:Nat,List.foldl (λx1 x2=>x1++x2) #[] (List.replicate m aw.toArray)=(List.replicate m aw).flatten.toArray:=λm=>by
   grind [Hg]
  rw[f0];cases aw with
  |nil=>simp
  |cons a r'=>rw[if_neg (by simp)]
 refine wpAny_binaryOp_repeat_ref (T:="list") (U:="int") (by decide) ⟨_,ho,rfl⟩ (λs'=>typeIs_int s' k t) noFill_list_mul F.fills_int_mul F.slot_int_rmul repeat_list F.slot_int_index.lookup
  (PySem.call_meets F.slot_int_rmul (typeIs_int s k t) F.entry_int_rmul (F.args_int_rmul_2 _ _) (WX k t l aw.toArray n dd sl)
   ⟨ho,rfl,⟨_,ho,rfl⟩,PySem.call_meets F.slot_list_mul ⟨_,ho,rfl⟩ F.entry_list_mul (F.args_list_mul_2 _ _) (WW l aw.toArray n k t dd sl qf kQ qi) ⟨ho,?_⟩⟩)
 rw[oY];exact⟨.ref _,_,I.Ab (t':=s.toks) (r.rep k.toNat) (by grind [Je]),rfl,q _ I.fresh⟩
def o9:W->W->Option W
 |.lst ws,.int k=>if pk k=true/\ws.length*k.toNat<=16777216 then some (.lst (List.replicate k.toNat ws).flatten)else none
 |_,_=>none
theorem Dg(r:ao K G ws xs):∀k:Nat,ao K G (List.replicate k ws).flatten (List.replicate k xs).flatten
 |0=>rfl
 |k+1=>by
  rw[w1s,w1s,w2z,w2z];exact r.append (Dg r k)
def z8d:ik K (u5 K) o9:=by
 intro G H x y wx wy w Q s px py hf h;unfold o9 at hf;split at hf
 .rename_i ws k;split at hf
  .rename_i hc;cases hf;cases(show y=V.int k from py);obtain⟨l,xs,rfl,hq,rp⟩:=px;have hb:=wX hc.1;refine⟨l,k,xs,rfl,rfl,s.seq hq,by omega,by omega,by rw[sizeLine_eq,rp.length];exact hc.2,λp hp=>?_⟩
   have g:aM G H (upd G p (.lst (List.replicate k.toNat xs).flatten)) (upd H p (.lst (List.replicate k.toNat xs).flatten)):=aM.laid s hp _;exact h _ _ _ g ⟨p,_,rfl,bB.of bV,ao.mono g.gg _ (Dg rp _)⟩
  .cases hf
 .cases hf
theorem z8e(ha:DE Z X EE a da)(hb:DE Z X EE b db):DE Z X EE (.BinOp a .Mult b pos) (av o9 da db):=uY N6 z8d ha hb
theorem z8f:o9 (.lst ws) (.int k)=if pk k=true/\ws.length*k.toNat<=16777216 then some (.lst (List.replicate k.toNat ws).flatten)else none:=rfl
def l'(x:Int):List Int->Option Nat
 |[]=>none
 |y::ys=>if y=x then some 0 else(l' x ys).map (·+1)
theorem NJ{x:Int}:∀{ys:List Int}{j:Nat},l' x ys=some j->ys[j]?=some x/\∀(m:Nat)(y:Int),m<j->ys[m]?=some y->y≠x
 |[],j,h=>by cases h
 |y::ys,j,h=>by
  unfold l' at h;split at h
  .rename_i hy;cases h;exact⟨by rw[hy];rfl,λm y hm _=>by omega⟩
  .rename_i hy;obtain⟨k,h1,rfl⟩:=w0h.mp h;obtain⟨h2,h3⟩:=NJ h1;refine⟨by simpa using h2,λm z hm hz=>?_⟩
   cases m with
   |zero=>simp at hz;rw[<- hz];exact hy
   |succ m=>exact h3 m z (by omega) (by simpa using hz)
def dZ:List W->Option (List Int)
 |[]=>some []
 |.int x::r=>(dZ r).map (x::·)
 |_=>none
theorem Dh:∀{ws:List W}{ys:List Int}{xs:List V},dZ ws=some ys->ao K G ws xs->xs=ys.map V.int
 |[],ys,xs,h,r=>by cases h;cases(show xs=[]from r);rfl
 |w::ws,ys,xs,h,r=>by
  unfold dZ at h;split at h
  .rename_i z;cases z
  .rename_i y r' z;cases z;obtain⟨pD,h1,rfl⟩:=w0h.mp h;obtain⟨v,vs,rfl,p1,p2⟩:=r;cases(show v=V.int y from p1);rw[Dh h1 p2];rfl
  .cases h
def iy:W->List W->Option W
 |.lst ws,[.int x]=>match dZ ws with
  |some ys=>match l' x ys with
   |some j=>some (.int j)
   |none=>none
  |none=>none
 |_,_=>none
def oG(K:Fg):V->List V->Hp->VK->Prop:=λv vs H Q=>∃b ys x j,v=.ref b/\vs=[.int x]/\bB K H b (ys.map V.int)/\l' x ys=some j/\Q (.int (j:Nat)) H
theorem N7:∀{ys:List Int}{aw:List Value},Vals (ys.map V.int) aw->∀(m:Nat)(u:Value),aw[m]?=some u->∃y t,ys[m]?=some y/\u=.int y t
 |[],aw,h,m,u,hu=>by cases h;simp at hu
 |y::ys,aw,h,m,u,hu=>by
  cases h with
  |cons r t=>
   obtain⟨k,rfl⟩:=r;cases m with
   |zero=>simp at hu;exact⟨y,k,rfl,hu.symm⟩
   |succ m=>simpa using N7 t m u (by simpa using hu)
def WY:xA X "list.index" (oG X.K):=by
 intro pins s σ H x vs v us Q I rx rv h;obtain⟨b,ys,x0,j,rfl,rfl,hB,hj,q⟩:=h;cases rx;obtain⟨u,rfl,ru⟩:=rv.one;obtain⟨t,rfl⟩:=ru;obtain⟨aw,r,pl,hz⟩:=I.list hB;obtain⟨⟨cls,dd,data,sl⟩,ho,hc,n,hd⟩:=pl.isList;simp only at hc hd;subst hc hd;obtain⟨h1,h2⟩:=NJ hj;have hlen:=r.length;rw[w0a]at hlen hz;have zH:j<ys.length:=(w0b.mp h1).1;have Sj:=gJ
 let e:Value->Bool:=λu=>match u with|.int y _=>y==x0|_=>false
 have at':∀(m:Nat)(hm:m<aw.toArray.size),∃y k,ys[m]?=some y/\aw.toArray[m]=.int y k:=λm hm=>by
  have Sn:m<aw.length:=by simpa using hm
  obtain⟨y,k,z1,z2⟩:=N7 r m aw[m] (w0d Sn);exact⟨y,k,z1,by simpa using z2⟩
 refine call_meets F.slot_list_index ⟨_,ho,rfl⟩ F.entry_list_index (F.args_list_index_2 _ _) (SeqAt.list_indexAt b aw.toArray n dd sl (.int x0 t) e j (by simp only[w1c];omega) (by omega) ?_ ?_) ⟨ho,?_,?_⟩
 .obtain⟨y,k,z1,z2⟩:=at' j (by simp only[w1c];omega);rw[h1]at z1;cases z1;rw[z2];simp[e]
 .intro m hm cb;obtain⟨y,k,z1,z2⟩:=at' m hm;rw[z2]
  simpa [e]using h2 m y cb z1
 .intro y hy;obtain⟨m,hm,rfl⟩:=Array.mem_iff_getElem.mp hy;obtain⟨y,k,z1,z2⟩:=at' m hm;rw[z2];exact SeqAt.EqAt.int_int y k x0 t
 .exact⟨.int j,H,I.tok _,⟨_,rfl⟩,q⟩
def WZ:Ej K (oG K) iy:=by
 intro G H x xs wx ws w Q s px pr hf h;unfold iy at hf;split at hf
 .rename_i us x0;obtain⟨y,r,rfl,py,pr⟩:=pr;cases(show r=[]from pr);cases py;split at hf
  .rename_i ys hy;split at hf
   .rename_i j hj;cases hf;obtain⟨a,cs,rfl,hq,rp⟩:=px;have:=Dh hy rp;subst this;exact⟨a,ys,x0,j,rfl,rfl,s.seq hq,hj,h G _ H (.refl s) rfl⟩
   .cases hf
  .cases hf
 .cases hf
section
variable{o e:Expr}
theorem y2r(ho:DE Z X EE o d)(ha:DA Z X EE [e] dA)
  (dQ:autoParam (attributeBase o "index" X.env (eval o X.env)=eval o X.env) jJ)
  (gE:autoParam (((backTo bc (starEach [e] X.env)).all (λx=>!x.1)&&(backToKw bc (keywordEach [] X.env)).all (λx=>x.1.isSome)&&decide ([e].length+([]:List Keyword).length+(if([]:List Keyword).isEmpty then 0 else 1)<30))=true) jJ)
  (dW:autoParam ((apos.endLine==bc.line)=true) jJ)(hs:autoParam (starEach [e] X.env=(false,eval e X.env)::starEach [] X.env) jJ)(cI:autoParam ((backTo bc (starEach [] X.env)).any (·.1)=false) jJ):
  DE Z X EE (.Call (.Attribute o "index" apos) [e] [] bc) (gf "list" iy d dA):=
 N5 PySem.F.plainAttrs_list PySem.F.slot_list_index PySem.F.type_list_index WY WZ ho ha dQ gE dW hs cI
end
section
variable{w:World}
def LB{j b:Addr}{k:Nat}{vs:Array Value}{x:Value}{Q:Value->Shared->Prop}(gi:s.heap.IsTupleIter j b k)(gt:s.heap.IsTuple b vs)(gx:vs[k]?=some x)
  (hQ:∀h',h'.IsTupleIter j b (k+1)->Heap.SameBut j s.heap h'->Q x {s with heap:=h'}):wpAny (model prog w) A (Builtin.SmallTypes.nextOf (.ref j)) Q E s:=by
 obtain⟨o,ho,hc,hd⟩:=id gi;obtain⟨ot,Fc,_,m,zx⟩:=gt;unfold Builtin.SmallTypes.nextOf;refine wpAny_bind (wpAny_callSpecial?_slot (name:=Str.ofString "__next__") gi.typeIs F.slot_tuple_iterator_next (wpAny_call_entry F.slot_tuple_iterator_next gi.typeIs F.entry_tuple_iterator_next ?_ (F.args_tuple_iterator_next_1 _)));show wpAny _ _ (field (.ref j) 0 >>= _) _ _ s;refine wpAny_bind (wpAny_field ho hd (x:=.ref b) rfl ?_);show wpAny _ _ (if(Value.ref b==Value.none)=true then _ else _) _ _ s;rw[if_neg (show ¬((Value.ref b==Value.none)=true)from w1f)];show wpAny _ _ (field (.ref j) 1 >>= _) _ _ s;refine wpAny_bind (wpAny_field ho hd (x:=.int k 0) rfl ?_);show wpAny _ _ (seqItems? (.ref b) >>= _) _ _ s;refine wpAny_bind (wpAny_seqItems Fc zx ?_);simp only[w1o,gx];refine wpAny_bind (wpAny_setField ho hd (by simp) (wpAny_pure ⟨x,rfl,wpAny_pure (hQ _ ⟨_,Heap.get?_update_self _ ho (Obj.isFreed_of_fields (Obj.data_mapFields hd _)),(Obj.cls_mapFields ..).trans hc,by rw[Obj.data_mapFields hd];simp[rawInt]⟩ (Heap.SameBut.update ..))⟩))
def GB(hh:A.handled=none)(gi:s.heap.IsTupleIter j b k)(gt:s.heap.IsTuple b vs)(gx:vs[k]?=none)
  (hE:∀h' e,Heap.ExtBut j s.heap h'->(∃o,h'.get? e=some o/\o.cls=.type "StopIteration")->E (.ref e) {s with heap:=h'}):wpAny (model prog w) A (Builtin.SmallTypes.nextOf (.ref j)) Q E s:=by
 obtain⟨o,ho,hc,hd⟩:=id gi;obtain⟨ot,Fc,_,m,zx⟩:=gt;unfold Builtin.SmallTypes.nextOf;refine wpAny_bind (wpAny_callSpecial?_slot (name:=Str.ofString "__next__") gi.typeIs F.slot_tuple_iterator_next (wpAny_call_entry F.slot_tuple_iterator_next gi.typeIs F.entry_tuple_iterator_next ?_ (F.args_tuple_iterator_next_1 _)));show wpAny _ _ (field (.ref j) 0 >>= _) _ _ s;refine wpAny_bind (wpAny_field ho hd (x:=.ref b) rfl ?_);show wpAny _ _ (if(Value.ref b==Value.none)=true then _ else _) _ _ s;rw[if_neg (show ¬((Value.ref b==Value.none)=true)from w1f)];show wpAny _ _ (field (.ref j) 1 >>= _) _ _ s;refine wpAny_bind (wpAny_field ho hd (x:=.int k 0) rfl ?_);show wpAny _ _ (seqItems? (.ref b) >>= _) _ _ s;refine wpAny_bind (wpAny_seqItems Fc zx ?_);simp only[w1o,gx];refine wpAny_bind (wpAny_rule (wpAny_bind (wpAny_setField ho hd (by simp) ?_)));show wpAny _ _ (newExc (.type "StopIteration") [] >>= _) _ _ _;refine wpAny_bind ?_;simp only[newExc,newTuple];refine wpAny_bind (wpAny_newObj_type ?_ (by size_fits));refine wpAny_bind (m:=firstArgMember _ _) (wpAny_of_eq (a:=Value.none) (by first|rfl|(simp only[firstArgMember];rfl)) (wpAny_newObj_type ?_ (by size_fits)));simp only[raiseNew];refine wpAny_bind (wpAny_handled ?_)
 first|rw[show A.in1.handled=none from hh]|rw[hh]
 refine wpAny_bind (wpAny_pure (wpAny_throw (hE _ _ (((Heap.SameBut.update ..).extBut.push _).push _) ⟨_,Heap.get?_push_size _ rfl,rfl⟩)))
def cw(t:Bool)(j b:Addr)(k:Nat)(h:Heap):Prop:=if t=true then h.IsTupleIter j b k else h.IsListIter j b k
def eh(t:Bool)(b:Addr)(vs:Array Value)(h:Heap):Prop:=if t=true then h.IsTuple b vs else h.IsList b vs
def cw.keep(x:cw t j b k h)(e:∀o,h.get? j=some o->h'.get? j=some o):cw t j b k h':=by
 cases t with
 |true=>obtain⟨o,ho,r⟩:=(show h.IsTupleIter j b k from x);exact⟨o,e o ho,r⟩
 |false=>obtain⟨o,ho,r⟩:=(show h.IsListIter j b k from x);exact⟨o,e o ho,r⟩
def cw.obj(x:cw t j b k h):∃o,h.get? j=some o/\∀v,o.data≠.cell v:=by
 cases t with
 |true=>obtain⟨o,ho,c,d⟩:=(show h.IsTupleIter j b k from x);grind
 |false=>obtain⟨o,ho,c,d⟩:=(show h.IsListIter j b k from x);grind
def eh.keep(x:eh t b vs h)(e:∀o,h.get? b=some o->h'.get? b=some o):eh t b vs h':=by
 cases t with
 |true=>obtain⟨o,ho,r⟩:=(show h.IsTuple b vs from x);exact⟨o,e o ho,r⟩
 |false=>obtain⟨o,ho,r⟩:=(show h.IsList b vs from x);exact⟨o,e o ho,r⟩
def Jh(gi:cw t j b k s.heap)(gt:eh t b vs s.heap)(gx:vs[k]?=some x)
  (hQ:∀h',cw t j b (k+1) h'->Heap.SameBut j s.heap h'->Q x {s with heap:=h'}):wpAny (model prog w) A (Builtin.SmallTypes.nextOf (.ref j)) Q E s:=by
 cases t with
 |true=>exact LB gi gt gx hQ
 |false=>exact wpAny_nextOf_list_item gi gt gx hQ
def PN(hh:A.handled=none)(gi:cw t j b k s.heap)(gt:eh t b vs s.heap)(gx:vs[k]?=none)
  (hE:∀h' e,Heap.ExtBut j s.heap h'->(∃o,h'.get? e=some o/\o.cls=.type "StopIteration")->E (.ref e) {s with heap:=h'}):wpAny (model prog w) A (Builtin.SmallTypes.nextOf (.ref j)) Q E s:=by
 cases t with
 |true=>exact GB hh gi gt gx hE
 |false=>exact wpAny_nextOf_list_end hh gi gt gx hE
structure Apart(z I O i j a b:Addr):Prop where
 Iz:I≠z
 Oz:O≠z
 iz:i≠z
 jz:j≠z
 IO:I≠O
 Ii:I≠i
 Ij:I≠j
 Oi:O≠i
 Oj:O≠j
 ij:i≠j
 az:a≠z
 aO:a≠O
 ai:a≠i
 aj:a≠j
 bz:b≠z
 bO:b≠O
 bi:b≠i
 bj:b≠j
def ZG{i:Addr}{Q:Value->Shared->Prop}(D:Apart z I O i j a b)
  (gz:IsZip s.heap z I O .none)(gI:IsPair s.heap I (.ref i) (.ref j))(gO:IsPair s.heap O p q)
  (g1:cw t i a k s.heap)(g2:cw u j b k s.heap)(l1:eh t a xs s.heap)(l2:eh u b ys s.heap)(hx:xs[k]?=some x)(hy:ys[k]?=some y)
  (hQ:∀h',IsZip h' z I O (rawInt s.heap.objs.size)->IsPair h' O x y->cw t i a (k+1) h'->cw u j b (k+1) h'->IsPair h' s.heap.objs.size x y->h'.objs.size=s.heap.objs.size+1 ->
   (∀c o,c≠z->c≠O->c≠i->c≠j->s.heap.get? c=some o->h'.get? c=some o)->Q (.ref s.heap.objs.size) {s with heap:=h'}):
  wpAny (model prog w) A (Builtin.«zip.__next__» ⟨[.ref z],[]⟩) (λfin s'=>∃v,fin=.done (.ret v)/\Q v s') E s:=by
 show wpAny _ _ (field (.ref z) 2 >>= _) _ _ _;refine wpAny_bind (wpAny_field gz rfl (x:=.bool false) rfl ?_);show wpAny _ _ (field (.ref z) 3 >>= _) _ _ _;refine wpAny_bind (wpAny_field gz rfl (x:=.ref I) rfl (wpAny_bind (wpAny_seqItems gI rfl ?_)));show wpAny _ _ (Builtin.SmallTypes.ownedTupleIsFree (.ref z) >>= _) _ _ _;refine wpAny_bind ?_;unfold Builtin.SmallTypes.ownedTupleIsFree;refine wpAny_bind (wpAny_field gz rfl (x:=.none) rfl (wpAny_pure ?_));simp only[if_true];refine wpAny_bind (wpAny_rule (wpAny_bind (wpAny_field gz rfl (x:=.ref O) rfl (wpAny_bind (wpAny_setField_rec gz (by simp) λha za sa=>?_)))))
 replace za:IsZip ha z I O .ellipsis:=za
 refine wpAny_bind ?_;simp only[List.zipIdx_cons,List.zipIdx_nil,w2s,w3t];refine wpAny_bind (wpAny_bind (wpAny_onRaise ?_));show wpAny _ _ (Builtin.SmallTypes.nextOf (.ref i) >>= _) _ _ _;refine wpAny_bind (Jh (s:={s with heap:=ha}) (g1.keep λo e=>sa.extBut _ _ D.iz e) (l1.keep λo e=>sa.extBut _ _ D.az e) hx λhb ib sb=>wpAny_pure ?_)
 have Ob:IsPair hb O p q:=sb.extBut _ _ D.Oi (sa.extBut _ _ D.Oz gO);refine wpAny_bind (wpAny_seqItems Ob rfl (wpAny_bind (wpAny_updateSeq_pair Ob λhc Oc sc=>?_)))
 replace Oc:IsPair hc O x q:=Oc
 refine wpAny_bind (wpAny_letGo (wpAny_pure (wpAny_bind (wpAny_bind (wpAny_onRaise ?_)))));show wpAny _ _ (Builtin.SmallTypes.nextOf (.ref j) >>= _) _ _ _;refine wpAny_bind (Jh (s:={s with heap:=hc}) (g2.keep λo e=>sc.extBut _ _ D.Oj.symm (sb.extBut _ _ D.ij.symm (sa.extBut _ _ D.jz e))) (l2.keep λo e=>sc.extBut _ _ D.bO (sb.extBut _ _ D.bi (sa.extBut _ _ D.bz e))) hy λhd jd sd=>wpAny_pure ?_)
 have Od:IsPair hd O x q:=sd.extBut _ _ D.Oj Oc;refine wpAny_bind (wpAny_seqItems Od rfl (wpAny_bind (wpAny_updateSeq_pair Od λhe Oe se=>?_)))
 replace Oe:IsPair he O x y:=Oe
 refine wpAny_bind (wpAny_letGo (wpAny_pure (wpAny_pure (wpAny_bind (wpAny_seqItems Oe rfl (wpAny_bind (wpAny_newTuple ?_)))))));have sz:he.objs.size=s.heap.objs.size:=by rw[se.1,sd.1,sc.1,sb.1,sa.1]
 have ze:IsZip he z I O .ellipsis:=se.extBut _ _ D.Oz.symm (sd.extBut _ _ D.jz.symm (sc.extBut _ _ D.Oz.symm (sb.extBut _ _ D.iz.symm za)));have ke:∀c o,c≠z->c≠O->c≠i->c≠j->s.heap.get? c=some o->he.get? c=some o:=λc o c1 c2 c3 c4 e=>se.extBut _ _ c2 (sd.extBut _ _ c4 (sc.extBut _ _ c2 (sb.extBut _ _ c3 (sa.extBut _ _ c1 e))))
 have ie:cw t i a (k+1) he:=ib.keep λo e=>se.extBut _ _ D.Oi.symm (sd.extBut _ _ D.ij (sc.extBut _ _ D.Oi.symm e))
 have je:cw u j b (k+1) he:=jd.keep λo e=>se.extBut _ _ D.Oj.symm e
 have D8:z<he.objs.size:=Heap.lt_size ze;show wpAny _ _ (Builtin.SmallTypes.ownedTupleHandOut (.ref z) (.ref he.objs.size) >>= _) _ _ _;refine wpAny_bind ?_;unfold Builtin.SmallTypes.ownedTupleHandOut;have zf:IsZip (he.push {cls:=.type "tuple", data:=.seq #[x,y]}) z I O .ellipsis:=Heap.get?_push_of_some _ ze;refine wpAny_bind (wpAny_setField_rec zf (by simp) λhg zg sg=>?_)
 replace zg:IsZip hg z I O (rawInt he.objs.size):=zg
 refine wpAny_setField_rec zg (by simp) λhk zk sk=>?_
 replace zk:IsZip hk z I O (rawInt he.objs.size):=zk
 have up:∀c o,c≠z->he.get? c=some o->hk.get? c=some o:=λc o c1 e=>sk.extBut _ _ c1 (sg.extBut _ _ c1 (Heap.get?_push_of_some _ e))
 have Tk:IsPair hk he.objs.size x y:=sk.extBut _ _ (w2g D8) (sg.extBut _ _ (w2g D8) (Heap.get?_push_size _ rfl));have nk:hk.objs.size=he.objs.size+1:=by rw[sk.1,sg.1,Heap.size_push]
 rw[sz]at zk Tk nk;refine wpAny_pure ⟨_,rfl,?_⟩;show Q (.ref he.objs.size) _;rw[sz];exact hQ hk zk (up _ _ D.Oz Oe) (ie.keep λo e=>up _ o D.iz e) (je.keep λo e=>up _ o D.jz e) Tk nk λc o c1 c2 c3 c4 e=>up c o c1 (ke c o c1 c2 c3 c4 e)
def z8g{i:Addr}(hh:A.handled=none)(D:Apart z I O i j a b)
  (gz:IsZip s.heap z I O .none)(gI:IsPair s.heap I (.ref i) (.ref j))(gO:IsPair s.heap O p q)
  (g1:cw t i a k s.heap)(g2:cw u j b k s.heap)(l1:eh t a xs s.heap)(l2:eh u b ys s.heap)(zy:xs[k]?=none\/ys[k]?=none)
  (hE:∀h' e,(∀c o,c≠z->c≠O->c≠i->c≠j->s.heap.get? c=some o->h'.get? c=some o)->(∃o,h'.get? e=some o/\o.cls=.type "StopIteration")->E (.ref e) {s with heap:=h'}):
  wpAny (model prog w) A (Builtin.«zip.__next__» ⟨[.ref z],[]⟩) Q E s:=by
 show wpAny _ _ (field (.ref z) 2 >>= _) _ _ _;refine wpAny_bind (wpAny_field gz rfl (x:=.bool false) rfl ?_);show wpAny _ _ (field (.ref z) 3 >>= _) _ _ _;refine wpAny_bind (wpAny_field gz rfl (x:=.ref I) rfl (wpAny_bind (wpAny_seqItems gI rfl ?_)));show wpAny _ _ (Builtin.SmallTypes.ownedTupleIsFree (.ref z) >>= _) _ _ _;refine wpAny_bind ?_;unfold Builtin.SmallTypes.ownedTupleIsFree;refine wpAny_bind (wpAny_field gz rfl (x:=.none) rfl (wpAny_pure ?_));simp only[if_true];refine wpAny_bind (wpAny_rule (wpAny_bind (wpAny_field gz rfl (x:=.ref O) rfl (wpAny_bind (wpAny_setField_rec gz (by simp) λha za sa=>?_)))))
 replace za:IsZip ha z I O .ellipsis:=za
 refine wpAny_bind ?_;simp only[List.zipIdx_cons,List.zipIdx_nil,w2s,w3t];refine wpAny_bind (wpAny_bind (wpAny_onRaise ?_));show wpAny _ _ (Builtin.SmallTypes.nextOf (.ref i) >>= _) _ _ _;cases hx:xs[k]? with
 |none=>
  refine wpAny_bind (PN (s:={s with heap:=ha}) hh (g1.keep λo e=>sa.extBut _ _ D.iz e) (l1.keep λo e=>sa.extBut _ _ D.az e) hx λhb e sb ge=>?_)
  obtain⟨oe,zP,EG⟩:=ge;have zb:IsZip hb z I O .ellipsis:=sb _ _ D.iz.symm za;have nz:e≠z:=λx=>by grind
  refine wpAny_setField_rec zb (by simp) λhc _ sc=>hE hc e (λc o c1 _ c3 _ x=>sc.extBut _ _ c1 (sb _ _ c3 (sa.extBut _ _ c1 x))) ⟨oe,sc.extBut _ _ nz zP,EG⟩
 |some x=>
  have hy:ys[k]?=none:=by grind
  refine wpAny_bind (Jh (s:={s with heap:=ha}) (g1.keep λo e=>sa.extBut _ _ D.iz e) (l1.keep λo e=>sa.extBut _ _ D.az e) hx λhb ib sb=>wpAny_pure ?_)
  have Ob:IsPair hb O p q:=sb.extBut _ _ D.Oi (sa.extBut _ _ D.Oz gO);refine wpAny_bind (wpAny_seqItems Ob rfl (wpAny_bind (wpAny_updateSeq_pair Ob λhc Oc sc=>?_)))
  refine wpAny_bind (wpAny_letGo (wpAny_pure (wpAny_bind (wpAny_bind (wpAny_onRaise ?_)))));show wpAny _ _ (Builtin.SmallTypes.nextOf (.ref j) >>= _) _ _ _;refine wpAny_bind (PN (s:={s with heap:=hc}) hh (g2.keep λo e=>sc.extBut _ _ D.Oj.symm (sb.extBut _ _ D.ij.symm (sa.extBut _ _ D.jz e))) (l2.keep λo e=>sc.extBut _ _ D.bO (sb.extBut _ _ D.bi (sa.extBut _ _ D.bz e))) hy λhd e sd ge=>?_)
  obtain⟨oe,zP,EG⟩:=ge;have zd:IsZip hd z I O .ellipsis:=sd _ _ D.jz.symm (sc.extBut _ _ D.Oz.symm (sb.extBut _ _ D.iz.symm za));have nz:e≠z:=λx=>by grind
  refine wpAny_setField_rec zd (by simp) λhe _ se=>hE he e (λc o c1 c2 c3 c4 x=>se.extBut _ _ c1 (sd _ _ c4 (sc.extBut _ _ c2 (sb.extBut _ _ c3 (sa.extBut _ _ c1 x))))) ⟨oe,se.extBut _ _ nz zP,EG⟩
def ZH{i:Addr}(D:Apart z I O i j a b)
  (gz:IsZip s.heap z I O .none)(gI:IsPair s.heap I (.ref i) (.ref j))(gO:IsPair s.heap O p q)
  (g1:cw t i a k s.heap)(g2:cw u j b k s.heap)(l1:eh t a xs s.heap)(l2:eh u b ys s.heap)(hx:xs[k]?=some x)(hy:ys[k]?=some y)
  (hQ:∀h',IsZip h' z I O (rawInt s.heap.objs.size)->IsPair h' O x y->cw t i a (k+1) h'->cw u j b (k+1) h'->IsPair h' s.heap.objs.size x y->h'.objs.size=s.heap.objs.size+1 ->
   (∀c o,c≠z->c≠O->c≠i->c≠j->s.heap.get? c=some o->h'.get? c=some o)->Q (some (.ref s.heap.objs.size)) {s with heap:=h'}):wpAny (model prog w) A (pyNext (.ref z)) Q E s:=by
 have hT:s.TypeIs (.ref z) "zip":=⟨_,gz,rfl⟩;unfold pyNext;exact wpAny_bind (wpAny_attempt (wpAny_callSpecial?_slot (name:=Str.ofString "__next__") hT F.slot_zip_next (wpAny_call_entry F.slot_zip_next hT F.entry_zip_next (ZG D gz gI gO g1 g2 l1 l2 hx hy λh' a1 a2 a3 a4 a5 a6 a7=>wpAny_pure (hQ h' a1 a2 a3 a4 a5 a6 a7)) (F.args_zip_next_1 _))))
def ZI{i:Addr}(hh:A.handled=none)(D:Apart z I O i j a b)
  (gz:IsZip s.heap z I O .none)(gI:IsPair s.heap I (.ref i) (.ref j))(gO:IsPair s.heap O p q)
  (g1:cw t i a k s.heap)(g2:cw u j b k s.heap)(l1:eh t a xs s.heap)(l2:eh u b ys s.heap)(zy:xs[k]?=none\/ys[k]?=none)
  (hQ:∀h',(∀c o,c≠z->c≠O->c≠i->c≠j->s.heap.get? c=some o->h'.get? c=some o)->Q none {s with heap:=h'}):wpAny (model prog w) A (pyNext (.ref z)) Q E s:=by
 have hT:s.TypeIs (.ref z) "zip":=⟨_,gz,rfl⟩;unfold pyNext;refine wpAny_bind (wpAny_attempt (wpAny_callSpecial?_slot (name:=Str.ofString "__next__") hT F.slot_zip_next (wpAny_call_entry F.slot_zip_next hT F.entry_zip_next (z8g hh D gz gI gO g1 g2 l1 l2 zy λh' e hk he=>?_) (F.args_zip_next_1 _))))
 obtain⟨o,ho,hc⟩:=he;exact wpAny_bind (wpAny_isInstance (T:="StopIteration") (b:=true) ⟨o,ho,hc⟩ isSubtype_stop (wpAny_pure (hQ _ hk)))
end
def Fy(t:Bool):String:=if t=true then "tuple_iterator" else "list_iterator"
abbrev BR(t:Bool)(h:Heap)(a:Addr):Heap:=h.push {cls:=.type (Fy t),data:=.fields #[.ref a,.int 0 0]}
abbrev D9(t u:Bool)(h:Heap)(a b:Addr):Heap:=(BR t h a).push {cls:=.type (Fy u),data:=.fields #[.ref b,.int 0 0]}
abbrev D_(t u:Bool)(h:Heap)(a b:Addr):Heap:=(D9 t u h a b).push {cls:=.type "tuple", data:=.seq #[.ref h.objs.size,.ref (BR t h a).objs.size]}
abbrev D'(t u:Bool)(h:Heap)(a b:Addr):Heap:=(D_ t u h a b).push {cls:=.type "tuple", data:=.seq #[.none,.none]}
abbrev xt(t u:Bool)(h:Heap)(a b:Addr):Heap:=(D' t u h a b).push {cls:=.type "zip", data:=.fields #[.none,.bool false,.bool false,.ref (D9 t u h a b).objs.size,.ref (D_ t u h a b).objs.size]}
theorem z8h(t u)(a b)(xs ys):
  Meets (Builtin.«zip.__new__» ⟨[.type "zip", .ref a,.ref b],[]⟩) (λ_ R s=>eh t a xs s.heap/\eh u b ys s.heap/\R (.ok (.ret (.ref (D' t u s.heap a b).objs.size))) {s with heap:=xt t u s.heap a b}):=
 .of_wp λprog w A R s hyp=>by
  obtain⟨hp,g,d,tk,os⟩:=s;obtain⟨g1,g2,h⟩:=hyp;have qj:=sub_zip;have q2:eh u b ys (BR t hp a):=g2.keep λo e=>Heap.get?_push_of_some _ e
  cases t with
  |false=>
   have p1:Heap.IsList (Shared.heap ⟨hp,g,d,tk,os⟩) a xs:=g1;cases u with
   |false=>
    have p2:Heap.IsList (Shared.heap ⟨hp.push {cls:=.type "list_iterator", data:=.fields #[.ref a,.int 0 0]},g,d,tk,os⟩) b ys:=q2
    wp_walk using wpAny_pyIter_list p1,wpAny_pyIter_list p2
    exact⟨_,rfl,h⟩
   |true=>
    have p2:Heap.IsTuple (Shared.heap ⟨hp.push {cls:=.type "list_iterator", data:=.fields #[.ref a,.int 0 0]},g,d,tk,os⟩) b ys:=q2
    wp_walk using wpAny_pyIter_list p1,wpAny_pyIter_tuple p2
    exact⟨_,rfl,h⟩
  |true=>
   have p1:Heap.IsTuple (Shared.heap ⟨hp,g,d,tk,os⟩) a xs:=g1;cases u with
   |false=>
    have p2:Heap.IsList (Shared.heap ⟨hp.push {cls:=.type "tuple_iterator", data:=.fields #[.ref a,.int 0 0]},g,d,tk,os⟩) b ys:=q2
    wp_walk using wpAny_pyIter_tuple p1,wpAny_pyIter_list p2
    exact⟨_,rfl,h⟩
   |true=>
    have p2:Heap.IsTuple (Shared.heap ⟨hp.push {cls:=.type "tuple_iterator", data:=.fields #[.ref a,.int 0 0]},g,d,tk,os⟩) b ys:=q2
    wp_walk using wpAny_pyIter_tuple p1,wpAny_pyIter_tuple p2
    exact⟨_,rfl,h⟩
def NK(e:h.get? j=some o)(c:o.cls=.type (Fy t))(d:o.data=.fields #[.ref a,.int 0 0]):cw t j a 0 h:=by
 cases t with
 |true=>exact(show h.IsTupleIter j a 0 from⟨o,e,c,d⟩)
 |false=>exact(show h.IsListIter j a 0 from⟨o,e,c,d⟩)
def W2(g1:eh t a xs s.heap)(g2:eh u b ys s.heap)
  (h:∀h',IsZip h' (s.heap.objs.size+4) (s.heap.objs.size+2) (s.heap.objs.size+3) .none->IsPair h' (s.heap.objs.size+2) (.ref s.heap.objs.size) (.ref (s.heap.objs.size+1)) ->
   IsPair h' (s.heap.objs.size+3) .none .none->cw t s.heap.objs.size a 0 h'->cw u (s.heap.objs.size+1) b 0 h'->(∀c o,s.heap.get? c=some o->h'.get? c=some o)->Q (.ref (s.heap.objs.size+4)) {s with heap:=h'}):
  wpAny (model prog w) A (call (.type "zip") [.ref a,.ref b]) Q E s:=by
 refine callType_new F.called_zip (by decide) (F.typeCall_zip_2 _ _) (F.newCall_zip_2 _ _) (λobj=>F.args_object_init_3 obj _ _) F.entry_zip_new (z8h t u a b xs ys) ⟨g1,g2,?_⟩
 have n1:(BR t s.heap a).objs.size=s.heap.objs.size+1:=Heap.size_push ..;have n2:(D9 t u s.heap a b).objs.size=s.heap.objs.size+2:=by rw[Heap.size_push,n1]
 have n3:(D_ t u s.heap a b).objs.size=s.heap.objs.size+3:=by rw[Heap.size_push,n2]
 have n4:(D' t u s.heap a b).objs.size=s.heap.objs.size+4:=by rw[Heap.size_push,n3]
 have k5:(xt t u s.heap a b).get? (D' t u s.heap a b).objs.size=some _:=Heap.get?_push_size _ rfl;have k4:(xt t u s.heap a b).get? (D_ t u s.heap a b).objs.size=some _:=Heap.get?_push_of_some _ (Heap.get?_push_size _ rfl);have k3:(xt t u s.heap a b).get? (D9 t u s.heap a b).objs.size=some _:=Heap.get?_push_of_some _ (Heap.get?_push_of_some _ (Heap.get?_push_size _ rfl));have k2:(xt t u s.heap a b).get? (BR t s.heap a).objs.size=some _:=Heap.get?_push_of_some _ (Heap.get?_push_of_some _ (Heap.get?_push_of_some _ (Heap.get?_push_size _ rfl)));have k1:(xt t u s.heap a b).get? s.heap.objs.size=some _:=Heap.get?_push_of_some _ (Heap.get?_push_of_some _ (Heap.get?_push_of_some _ (Heap.get?_push_of_some _ (Heap.get?_push_size _ rfl))));have up:∀c o,s.heap.get? c=some o->(xt t u s.heap a b).get? c=some o:=λc o e=>Heap.get?_push_of_some _ (Heap.get?_push_of_some _ (Heap.get?_push_of_some _ (Heap.get?_push_of_some _ (Heap.get?_push_of_some _ e))))
 show _/\_;rw[n2,n3,n4]at k5;rw[n1,n2]at k3;rw[n3]at k4;rw[n1]at k2;rw[n4];exact⟨⟨_,k5,rfl⟩,h _ k5 k3 k4 (NK k1 rfl rfl) (NK k2 rfl rfl) up⟩
def mL(K:Fg)(t:Bool)(H:Hp)(a:Addr)(xs:List V):Prop:=if t=true then cZ K H a xs else bB K H a xs
def yd(I:Inv X pins σ H s)(h:mL X.K t H a xs):∃aw:List Value,Vals xs aw/\eh t a aw.toArray s.heap:=by
 cases t with
 |true=>
  obtain⟨aw,r,p,_⟩:=I.tuple h;exact⟨aw,r,(show s.heap.IsTuple a aw.toArray from p)⟩
 |false=>
  obtain⟨aw,r,p,_⟩:=I.list h;exact⟨aw,r,p.isList⟩
def PQ(I:Inv X pins σ H s)(h:mL X.K t H a xs)(h':mL X.K t H a ys):xs=ys:=by
 cases t with
 |true=>exact I.fX h h'
 |false=>exact I.hX h h'
def eh.obj(x:eh t a vs h):∃o,h.get? a=some o/\o.cls=.type (if t=true then "tuple" else "list"):=by
 cases t with
 |true=>obtain⟨o,ho,c,_⟩:=(show h.IsTuple a vs from x);exact⟨o,ho,c⟩
 |false=>obtain⟨o,ho,c,_⟩:=(show h.IsList a vs from x);exact⟨o,ho,c⟩
def Vx{fp:List Addr}(I:Inv X pins σ H s)(k:∀b o,b∉fp->s.heap.get? b=some o->h'.get? b=some o)(hf:∀b∈fp,eD X pins H b):Inv X pins σ H {s with heap:=h',toks:=t'}:=by
 have Tb:∀c u,H c=some u->c∉fp:=λc u e z=>by rw[(hf c z).1]at e;cases e
 refine I.step (g':=s.gens) (d':=s.drawn) (ch:=fp) (λc hc=>?_) (λc o _ _ hc e _=>k c o hc e) (λc o _ _ hc e _=>⟨o.slots,k c o hc e⟩) (λc o _ e n=>n)
  (λc o hc e=>⟨o,k c o hc e⟩) (λc xs e=>e) (λc o u e=>e) (λc ps e=>⟨#[],by rw[e];simp⟩) (λm hm=>?_) (λc u e=>?_) I.bare
 .obtain⟨f0,f1,f2,f3,f4,f5⟩:=hf c hc
  grind
 .obtain⟨o,es,ep,ho,r⟩:=hm;exact⟨o,es,ep,k _ o (λz=>(hf _ z).2.1 rfl) ho,r⟩
 .refine(I.aG c u e).eQ (λd v hd q=>k d v ?_ q) (λd q=>q) λd xs _ q=>q
  grind
def Ef(K:Fg)(t u:Bool)(a b:Addr):It:=
  ⟨λi H=>∃xs ys x y,mL K t H a xs/\mL K u H b ys/\xs[i]?=some x/\ys[i]?=some y,
   λi H v H'=>∃c x y,v=.ref c/\H c=none/\(∀xs,mL K t H a xs->xs[i]?=some x)/\(∀ys,mL K u H b ys->ys[i]?=some y)/\H'=upd H c (.tup [x,y]),
   λi H=>∃xs ys,mL K t H a xs/\mL K u H b ys/\(xs.length<=i\/ys.length<=i)⟩
def Yj(t u)(a b z I O i j)(D:Apart z I O i j a b):
  Turn P w K (.Tuple elts kt pt) (Ef K t u a b) [z,I,O,i,j] z (λk h=>IsZip h z I O .none/\IsPair h I (.ref i) (.ref j)/\(∃p q,IsPair h O p q)/\cw t i a k h/\cw u j b k h) where
 mem:=by simp
 obj:=λk h ⟨s1,s2,⟨p,q,s3⟩,s4,s5⟩ c hc=>by
  simp only[w0e,w0y,or_false]at hc
  grind [cw.obj]
 keep:=λk h h' ⟨s1,s2,⟨p,q,s3⟩,s4,s5⟩ f=>⟨f z (by simp) _ s1,f I (by simp) _ s2,⟨p,q,f O (by simp) _ s3⟩,s4.keep λo e=>f i (by simp) o e,s5.keep λo e=>f j (by simp) o e⟩
 item:=by
  intro X hP hw hK hc k pins s σ H E Iv hf st hg;subst hP hw hK;obtain⟨s1,s2,⟨p,q,s3⟩,s4,s5⟩:=st;obtain⟨xs,ys,x,y,q1,q2,hx,hy⟩:=hg;obtain⟨KW,r1,p1⟩:=yd Iv q1;obtain⟨KY,r2,p2⟩:=yd Iv q2;obtain⟨ux,SH,TR⟩:=r1.get hx;obtain⟨uy,SJ,TU⟩:=r2.get hy;refine ZH D s1 s2 s3 s4 s5 p1 p2 (x:=ux) (y:=uy) (by simpa using SH) (by simpa using SJ) λh1 z1 o1 i1 j1 t1 n1 k1=>⟨_,rfl,?_⟩
  refine wpAny_letOwnedTupleGo_zip z1 λh2 z2 b2=>?_
  have b2:Heap.SameBut z h1 h2:=b2;have D8:z<s.heap.objs.size:=Heap.lt_size s1;have l7:H s.heap.objs.size=none:=Iv.aG.fresh (w0c _);have t2:IsPair h2 s.heap.objs.size ux uy:=(b2.2 _ (w2g D8)).trans t1;have I1:IsPair h1 I (.ref i) (.ref j):=k1 I _ D.Iz D.IO D.Ii D.Ij s2;refine⟨.ref s.heap.objs.size,upd H s.heap.objs.size (.tup [x,y]),?_,rfl,⟨_,x,y,rfl,l7,λi8 h'=>by grind [PQ],λpD h'=>by grind [PQ],rfl⟩,⟨z2,(b2.2 _ D.Iz).trans I1,⟨ux,uy,(b2.2 _ D.Oz).trans o1⟩,i1.keep λo e=>(b2.2 _ D.iz).trans e,j1.keep λo e=>(b2.2 _ D.jz).trans e⟩,λc hc=>?_⟩
  .show L2.Inv X pins σ _ {s with heap:=h2,toks:=s.toks};refine Ht (fp:=[z,I,O,i,j]) Iv (λc o hc q=>?_) hf (w0c _) ⟨?_,[ux,uy],.cons TR (.cons TU .nil),⟨_,t2,rfl,?_⟩,⟨_,t2,rfl⟩⟩
   .simp only[w0e,w0y,or_false,not_or]at hc;exact(b2.2 c hc.1).trans (k1 c o hc.1 hc.2.2.1 hc.2.2.2.1 hc.2.2.2.2 q)
   all_goals grind [sizeLine_eq]
  .have:c≠s.heap.objs.size:=by
    obtain⟨o,q,_⟩:∃o,s.heap.get? c=some o/\True:=by
     simp only[w0e,w0y,or_false]at hc
     grind [cw.obj]
    exact w0m (Heap.lt_size q)
   rw[aU this];exact(hf c hc).1
 done:=by
  intro X hP hw hK hc k pins s σ H E Iv hf st hg;subst hP hw hK;obtain⟨s1,s2,⟨p,q,s3⟩,s4,s5⟩:=st;obtain⟨xs,ys,q1,q2,hlen⟩:=hg;obtain⟨KW,r1,p1⟩:=yd Iv q1;obtain⟨KY,r2,p2⟩:=yd Iv q2;have l1:=r1.length;have l2:=r2.length;refine ZI (Iv.ok.hd hc) D s1 s2 s3 s4 s5 p1 p2 (by grind) λh' k1=>⟨rfl,?_⟩
  have pd:∀c∈[z,I,O,i,j],eD X pins H c:=hf;refine Vx (fp:=[z,I,O,i,j]) (t':=s.toks) Iv (λc o hc q=>?_) pd
  grind
 self:=λ_ _ _ _ _ ⟨s1,_⟩ h=>wpAny_pyIter_zip s1 h
theorem W3(n a b:Nat)(ha:a<n)(hb:b<n):Apart (n+4) (n+2) (n+3) n (n+1) a b where
 Iz:=by grind
 Oz:=by grind
 iz:=by grind
 jz:=by grind
 IO:=by grind
 Ii:=by grind
 Ij:=by grind
 Oi:=by grind
 Oj:=by grind
 ij:=by grind
 az:=by grind
 aO:=by grind
 ai:=by grind
 aj:=by grind
 bz:=by grind
 bO:=by grind
 bi:=by grind
 bj:=by grind
section
variable{a1 a2:Expr}{pt:Pos}
def Fq(K:Fg)(ta:TA):TI:=λσ H R=>ta σ H λvs H1=>∃t u a b,vs=[.ref a,.ref b]/\(∃xs,mL K t H1 a xs)/\(∃ys,mL K u H1 b ys)/\R (Ef K t u a b) H1
def z8i{ta:TA}{p:Pos}(hg:Gl X "zip")(hm:X.mg "zip"=none)(ha:PA X [a1,a2] ta)(hs:autoParam (starEach [a1,a2] X.env=[(false,eval a1 X.env),(false,eval a2 X.env)]) jJ)(iL:autoParam (starEach [a2] X.env=[(false,eval a2 X.env)]) jJ):
  PI X (.Tuple elts kt pt) (.Call (.Name "zip" p) [a1,a2] [] pos) (Fq X.K ta):=by
 intro pins s σ H R I h;refine PyProof.Rows.Call_ (qJ I hg hm PyProof.Rows.boot_zip (PyProof.Rows.callWith_type1 (bt (ha pos pins s σ H _ I h) λus s1 ⟨vs,H1,I1,r1,q1⟩=>?_) (by rw[hs,iL]) (by rw[iL];rfl)))
 obtain⟨t,u,a,b,e,⟨xs,hx⟩,⟨ys,hy⟩,q⟩:=q1;subst e;cases r1 with
 |cons r rr=>
  cases rr with
  |cons r' rr=>
   cases rr;cases r;cases r';obtain⟨KW,v1,p1⟩:=yd I1 hx;obtain⟨KY,v2,p2⟩:=yd I1 hy;obtain⟨oa,ea,_⟩:=p1.obj;obtain⟨ob,eb,_⟩:=p2.obj;have la:=Heap.lt_size ea;have lb:=Heap.lt_size eb;refine W2 p1 p2 λh' z1 i1 o1 k1 k2 up=>?_
   refine wpAny_pyIter_zip z1 ?_
   have D:Apart (s1.heap.objs.size+4) (s1.heap.objs.size+2) (s1.heap.objs.size+3) s1.heap.objs.size (s1.heap.objs.size+1) a b:=by
    grind [W3]
   refine⟨s1.heap.objs.size+4,[s1.heap.objs.size+4,s1.heap.objs.size+2,s1.heap.objs.size+3,s1.heap.objs.size,s1.heap.objs.size+1],_,_,H1,rfl,I1.kept (t':=s1.toks) up,Yj t u a b _ _ _ _ _ D,⟨z1,i1,⟨_,_,o1⟩,k1,k2⟩,λc hc=>?_,q⟩
   simp only[w0e,w0y,or_false]at hc;rcases hc with rfl|rfl|rfl|rfl|rfl<;>exact I1.jr (by omega) (I1.aG.fresh (by omega))
def nR(dA:Den (List W)):Den (List (W×W)):=λe=>(dA e).bind λws e1=>match ws with
 |[x,y]=>match eu x,eu y with
  |some us,some vs=>.ok (us.zip vs) e1
  |_,_=>.no
 |_=>.no
def N8(h:eu w=some us)(p:Rep K G w v):∃t a xs,v=.ref a/\mL K t G a xs/\ao K G us xs:=by
 cases w with
 |tup l=>
  cases h;obtain⟨a,xs,rfl,hq,rp⟩:=p;exact⟨true,a,xs,rfl,hq,rp⟩
 |lst l=>
  cases h;obtain⟨a,xs,rfl,hq,rp⟩:=p;exact⟨false,a,xs,rfl,hq,rp⟩
 |_=>cases h
def oF(s:ak G H)(h:mL K t G a xs):mL K t H a xs:=by
 cases t with
 |true=>exact s.tup h
 |false=>exact s.seq h
def W4(r1:ao K G1 us xs)(r2:ao K G1 vs ys)(h1:mL K t G1 a xs)(h2:mL K u G1 b ys):jl K G1 (Ef K t u a b) (us.zip vs):=by
 have l1:=r1.length;have l2:=r2.length;have lz:(us.zip vs).length=min us.length vs.length:=List.length_zip ..;refine⟨λi G H s s' h=>⟨xs,ys,xs[i]'(by omega),ys[i]'(by omega),oF s' (oF s h1),oF s' (oF s h2),by simp,by simp⟩,λi G H x H' s s' hy p q h=>?_,λi G H s s' h=>⟨xs,ys,oF s' (oF s h1),oF s' (oF s h2),by omega⟩⟩
 obtain⟨c,x1,y1,rfl,hn,zV,SW,rfl⟩:=hy;obtain⟨hu,hv⟩:=List.getElem?_zip_eq_some.mp h;obtain⟨w1,KO,Tj⟩:=r1.iZ (zV xs (oF s' (oF s h1)));obtain⟨w2,KP,Tn⟩:=r2.iZ (SW ys (oF s' (oF s h2)));rw[hu]at KO;rw[hv]at KP;cases KO;cases KP;exact⟨aM.nu s' hn _,λm n σ Q hQ=>⟨c,[x1,y1],rfl,cZ.of bV,rfl,x1,[y1],rfl,y1,[],rfl,rfl,hQ _ _ (Rep.mono s _ Tj) (Rep.mono s _ Tn)⟩⟩
def z8j{p:Pos}(hm:X.mg "zip"=none)(ha:DA Z X EE [a1,a2] dA)(hg:autoParam (Gl X "zip") jJ)(hs:autoParam (starEach [a1,a2] X.env=[(false,eval a1 X.env),(false,eval a2 X.env)]) jJ)(iL:autoParam (starEach [a2] X.env=[(false,eval a2 X.env)]) jJ):
  DI Z X EE (.Tuple elts kt pt) (.Call (.Name "zip" p) [a1,a2] [] pos) (nR dA):=by
 refine PI.mono (z8i hg hm ha hs iL) ?_;rintro σ H RR ⟨G,e,rel,h⟩;simp only[nR,R.au]at h;refine⟨G,e,rel,h.imp (λws e1 h G1 vs H1 r1 s1 p1=>?_) λ_ _ h=>h⟩
 split at h
 .rename_i w1 w2;split at h
  .rename_i us ws hu hw;obtain⟨y1,r,rfl,q1,y2,r',rfl,q2,q3⟩:=p1;cases(show r'=[]from q3);obtain⟨t,a,xs,rfl,hx,rx⟩:=N8 hu q1;obtain⟨u,b,ys,rfl,hy,ry⟩:=N8 hw q2;exact⟨t,u,a,b,rfl,⟨xs,oF r1.sub hx⟩,⟨ys,oF r1.sub hy⟩,h _ _ _ r1 s1 (W4 rx ry hx hy)⟩
  .exact h.elim
 .exact h.elim
end
def mD(e:List S):List W->R (List (W×W))
 |[x,y]=>match eu x,eu y with
  |some us,some vs=>.ok (us.zip vs) e
  |_,_=>.no
 |_=>.no
def z8k:nR dA e=(dA e).bind λws e1=>mD e1 ws:=by
 unfold nR;congr 1
theorem y6r:mD e [.tup us,.tup vs]=.ok (us.zip vs) e:=rfl
theorem y6s:mD e [.lst us,.lst vs]=.ok (us.zip vs) e:=rfl
theorem y6t:mD e [.tup us,.lst vs]=.ok (us.zip vs) e:=rfl
theorem y6u:mD e [.lst us,.tup vs]=.ok (us.zip vs) e:=rfl
theorem N9:∀ns:List Int,dZ (ns.map .int)=some ns
 |[]=>rfl
 |n::ns=>by rw[w0l];show(dZ (ns.map .int)).map (n::·)=_;rw[N9 ns];rfl
def g9:S->S
 |.own _ ws=>.fr (.lst ws)
 |.a8 kvs=>.fr (.a8 kvs)
 |.nest bo=>.fr (.lst (bo.map W.lst))
 |.dw sh ks ws=>.fr (.dw false sh ks ws)
 |s=>s
theorem aX.mw(sg:ak G G')(hf:∀l o ys,oQ Z G H l o ys->G' l=some (.cP o (.lst ys))):∀{ls:List Addr}{bo:List (List W)},aX K Z G H ls bo->ao K G' (bo.map W.lst) (ls.map V.ref)
 |[],[],_=>rfl
 |l::ls,ws::bo,⟨⟨o,ys,h1,h4⟩,h⟩=>⟨.ref l,ls.map V.ref,rfl,⟨l,ys,rfl,.inl (.inr ⟨o,hf l o ys h1⟩),ao.mono sg ws h4⟩,h.mw sg hf⟩
 |[],_::_,h=>h.elim
 |_::_,[],h=>h.elim
def dU(e:List S):List S:=e.map g9
def d9(e:List S):R W->R W
 |.ok w _=>if a_ w=true then .ok w e else .no
 |.ex c _=>.ex c e
 |.no=>.no
def bW(d:Den W):Den W:=λe=>d9 e (d (dU e))
def d_(e:List S):R Bool->R Bool
 |.ok b _=>.ok b e
 |.ex c _=>.ex c e
 |.no=>.no
def dE(d:Den Bool):Den Bool:=λe=>d_ e (d (dU e))
def Rel.hide(r:Rel K Z G σ H e):Rel K ⟨H,H,[]⟩ H σ H (dU e):=by
 have g:∀(i:Nat)(s:S),(dU e)[i]?=some s->∃s0,e[i]?=some s0/\s=g9 s0:=λi s h=>by
  unfold dU at h
  grind
 refine⟨.refl _,λi s h=>?_,by grind [dU,len],λi j b b' ws ws' a h1 _ _ _=>?_,λa o h _=>h,(λa h=>nomatch h),λa _=>rfl⟩
 .obtain⟨s0,h0,rfl⟩:=g i s h;have q:=r.slot i s0 h0;cases s0 with
  |no=>trivial
  |fr w=>
   obtain⟨u,q1,q2⟩:=q;exact⟨u,q1,Rep.mono r.sub w q2⟩
  |own b ws=>
   obtain⟨a,xs,q1,q2,q3,q4,q5⟩:=q;exact⟨.ref a,q1,a,xs,rfl,bB.of q2,ao.mono r.sub ws q5⟩
  |a8 kvs=>
   obtain⟨a,q1,q2,_⟩:=q;exact⟨.ref a,q1,a,rfl,q2⟩
  |nest bo=>
   obtain⟨a,ls,q1,q2,_,q4⟩:=q;exact⟨.ref a,q1,a,_,rfl,bB.of (r.sub _ _ q2),q4.mw r.sub λl o ys z=>z.1⟩
  |dw sh ks ws=>
   obtain⟨a,kvs,bp,q1,q2,_,_,q5,q6,q7⟩:=q;exact⟨.ref a,q1,a,kvs,bp,rfl,q2,q5,q6.mono r.sub,ao.mono r.sub ws q7.mw⟩
 .obtain⟨s0,_,h2⟩:=g i _ h1;cases s0 with
  |_=>cases h2
def Rel.back(r:Rel K Z G σ H e)(r2:Rel K ⟨H,H,[]⟩ G2 σ H2 e2):Rel K Z G σ H2 e:=by
 have hh:ak H H2:=λa o h=>r2.ent a o h (λz=>nomatch z)
 exact r.grow ⟨hh,.refl _,λa o h=>hh a o (r.sub a o h),λ_ _=>rfl⟩
def Yk(h:a_ w=true)(p:Rep K G w v):Rep K G' w v:=by
 cases w with
 |aE=>exact p
 |bl b=>exact p
 |int b=>exact p
 |str b=>exact p
 |_=>cases h
def y2x{e:PySem.Expr}(he:∀Z',DE Z' X EE e d):DE Z X EE e (bW d):=by
 intro pins s σ H Q I hq;obtain⟨G,e0,rel,h⟩:=hq;refine he ⟨H,H,[]⟩ pins s σ H Q I ⟨H,dU e0,rel.hide,?_⟩;unfold bW d9 at h;cases q:d (dU e0)with
 |ok w e2=>
  rw[q]at h;dsimp only at h;split at h
  .rename_i hs;intro G2 v H2 r2 s2 p;exact h G v H2 (rel.back r2) (.refl _) (Yk hs p)
  .exact h.elim
 |ex k e2=>
  rw[q]at h;intro G2 H2 r2 s2;exact h G H2 (rel.back r2) (.refl _)
 |no=>rw[q]at h;exact h.elim
def y2y{e:PySem.Expr}(he:∀Z',DT Z' X EE e c):DT Z X EE e (dE c):=by
 intro pins s σ H Q I hq;obtain⟨G,e0,rel,h⟩:=hq;refine he ⟨H,H,[]⟩ pins s σ H Q I ⟨H,dU e0,rel.hide,?_⟩;unfold dE d_ at h;cases q:c (dU e0)with
 |ok w e2=>
  rw[q]at h;intro G2 H2 r2 s2;exact h G H2 (rel.back r2) (.refl _)
 |ex k e2=>
  rw[q]at h;intro G2 H2 r2 s2;exact h G H2 (rel.back r2) (.refl _)
 |no=>rw[q]at h;exact h.elim
section
variable [Decidable p]
theorem y2z:bW d e=d9 e (d (dU e)):=rfl
theorem x9w{d:Den Bool}:dE d e=d_ e (d (dU e)):=rfl
theorem y20:d9 e (.ok w e')=if a_ w=true then .ok w e else .no:=rfl
theorem y21:d9 e (.ex v e')=.ex v e:=rfl
theorem x9x:d_ e (.ok k e')=.ok k e:=rfl
theorem x9y:d_ e (.ex v e')=.ex v e:=rfl
def x9z:d9 e (if p then x else y)=if p then d9 e x else d9 e y:=by split<;>rfl
def x6q:d_ e (if p then x else y)=if p then d_ e x else d_ e y:=by split<;>rfl
theorem y6w:dU []=[]:=rfl
theorem y22{s:D.S}:dU (s::e)=g9 s::dU e:=rfl
theorem y6x:g9 (.own b ws)=.fr (.lst ws):=rfl
theorem z1u:g9 (.fr w)=.fr w:=rfl
theorem z1v:g9 .no=.no:=rfl
end
end D
namespace L2
open PySem PySem.Spec PyProof.Rows
structure QJ(outer:List Env)(H H':Hp)(h h':Heap)(e:Addr)(cls:Value)(B:Heap):Prop where
 eQ:B.StaysIn h'
 bare:B.get? e=none
 ff:h'.FunFrames B outer
 tr:∃a0 fl,h'.TracedAtW B e cls a0 fl
 old:∀b o,h.get? b=some o->H b=none->b∉fk outer->B.get? b=some o
 nV:∀b u o,H' b=some u->h'.get? b=some o->B.get? b=some o
 all:∀b o,h.get? b=some o->b∈fk outer\/∃o',B.get? b=some o'
 new:h.get? e=none
end L2
namespace D
open PySem L2
def j9(c:Den Bool)(d:Den W)(pe:List S):List W->Option (Value ⊕ List W)
 |[]=>some (.inr [])
 |w::ws=>match c (.fr w::pe)with
  |.ok true e1=>match d e1 with
   |.ok y _=>(j9 c d pe ws).map (Sum.map id (y::·))
   |.ex k _=>some (.inl k)
   |.no=>none
  |.ok false _=>j9 c d pe ws
  |.ex k _=>some (.inl k)
  |.no=>none
def kP(e:List S):Option (Value ⊕ List W)->R (List W)
 |some (.inr out)=>.ok out e
 |some (.inl k)=>.ex k e
 |none=>.no
def mY(js:List Nat)(c:Den Bool)(d:Den W)(ws:List W)(e1:List S):R (List W):=
 if ws.length<=16777216 then kP (aW js e1) (j9 c d (fM js (aW js e1)) ws)else .no
theorem y6y:mY js cc d ws e=if ws.length<=16777216 then kP (aW js e) (j9 cc d (fM js (aW js e)) ws)else .no:=rfl
theorem y23:kP e (some (.inr out))=.ok out e:=rfl
theorem y24:kP e (some (.inl k))=.ex k e:=rfl
section
variable{X:Cx}{Z:Zt}{EE:L2.St->XK}{elt iter a b:Expr}{ifs:List Expr}{scope sc:Scope}{pos pt:Pos}{x:Str}{Nf N:List Str}{js:List Nat}{di:Den W}{dA:Den (List W)}{c:Den Bool}{d:Den W}
def z8l(h:(mY js c d ws e1).holds P Ex):ws.length<=16777216/\∃out,j9 c d (fM js (aW js e1)) ws=some out/\Sum.elim (λk=>Ex k (aW js e1)) (λo=>P o (aW js e1)) out:=by
 unfold mY at h;split at h
 .rename_i hl;cases ho:j9 c d (fM js (aW js e1)) ws with
  |none=>rw[ho]at h;exact h.elim
  |some out=>rw[ho]at h;exact⟨hl,out,rfl,by cases out<;>exact h⟩
 .exact h.elim
end
end D
namespace L2
open PySem PySem.Spec PyProof.Rows
def Ek(t:SetTable):Prop:=t.place.toList.Pairwise (·<·)/\t.dummies=#[]
def IP:Value->Int
 |.int n _=>n
 |_=>0
structure BW(prog:Program)(w:World)(es:Array (Int×Value))(t:SetTable)(S:List Int):Prop where
 el:ElemsOf (intKind prog w) es.toList
 sz:es.size<scanBound
 fit:t.fits es.size=true
 rise:Ek t
 led:t.led=!w.params.followText "set-order"
 whole:∀e∈es.toList,∃n k,e.2=Value.int n k
 perm:(es.toList.map λe=>IP e.2).Perm S
def qZ(S:List Int)(k:Int):List Int:=if k∈S then S else S++[k]
theorem fE:∀(ns S:List Int),(ns.foldl qZ S).length<=S.length+ns.length
 |[],S=>by simp
 |n::ns,S=>by
  have:=fE ns (qZ S n)
  grind [qZ]
namespace SI
def own:Manifest.owners.lookup (String.ofList ['r','o','t','a','r','e','t','i','_','t','e','s'].reverse)=some Manifest.sig_set_iterator:=by kernel_rfl
theorem next:Slot "set_iterator" "__next__" "set_iterator.__next__":=.of (owner:="set_iterator") (n:="__next__") (by rw[typeLookup_type,builtinLookup_eq_fast];kernel_rfl) (by decide +kernel) (by decide +kernel) (by decide +kernel) (by first|exact .inl (by decide +kernel)|exact .inr (by decide +kernel)) (by rw[isSubtype_type];kernel_rfl)
theorem iter:Slot "set_iterator" "__iter__" "set_iterator.__iter__":=.of (owner:="set_iterator") (n:="__iter__") (by rw[typeLookup_type,builtinLookup_eq_fast];kernel_rfl) (by decide +kernel) (by decide +kernel) (by decide +kernel) (by first|exact .inl (by decide +kernel)|exact .inr (by decide +kernel)) (by rw[isSubtype_type];kernel_rfl)
end SI
open PySem PySem.Spec PyProof.Rows
end L2
namespace D
open PySem L2
section
variable(l:Addr)(items:Array Value)(n:Nat)(k:Int)(u:Tok)(dd:Option Addr)(sl:Array (Option Value))
theorem Yl(h1:¬(k < -(2^63)||k>=2^63)=true)(h2:¬(items.isEmpty||k==1)=true)(h3:¬(k<=0||items.isEmpty)=true)(h4:¬items.size*k>(2^63-1) / 8)(h5:¬Builtin.Tuple.tupleTooMany (items.size*k)=true)(h6:(List.foldl (λx1 x2=>x1++x2) #[] (List.replicate k.toNat items)).size<=sizeLine):
  Meets (Builtin.«tuple.__mul__» ⟨[.ref l,.int k u],[]⟩) (λ_ R s=>s.heap.get? l=some {cls:=.type "tuple", dict:=dd,data:=.seq items n,slots:=sl}/\R (.ok (.ret (Value.ref s.heap.objs.size))) {s with heap:=s.heap.push {cls:=Value.type "tuple", data:=Data.seq (List.foldl (λx1 x2=>x1++x2) #[] (List.replicate k.toNat items))}}):=
 .of_wp λprog w A R s h=>by
  obtain⟨hp,g,d,tk,os⟩:=s;obtain⟨hl,h⟩:=h
  wp_walk
  refine wpAny_ite_split (λz=>absurd z h1) λ_=>?_
  wp_walk
  refine wpAny_ite_split (λz=>absurd z h4) λ_=>?_
  wp_walk
  exact⟨_,rfl,h⟩
theorem X'(h1:¬(k < -(2^63)||k>=2^63)=true)(h2:¬(items.isEmpty||k==1)=true)(h3:(k<=0||items.isEmpty)=true):
  Meets (Builtin.«tuple.__mul__» ⟨[.ref l,.int k u],[]⟩) (λ_ R s=>s.heap.get? l=some {cls:=.type "tuple", dict:=dd,data:=.seq items n,slots:=sl}/\R (.ok (.ret (Value.ref s.heap.objs.size))) {s with heap:=s.heap.push {cls:=Value.type "tuple", data:=Data.seq #[]}}):=
 .of_wp λprog w A R s h=>by
  obtain⟨hp,g,d,tk,os⟩:=s;obtain⟨hl,h⟩:=h
  wp_walk
  refine wpAny_ite_split (λz=>absurd z h1) λ_=>?_
  wp_walk
  exact⟨_,rfl,h⟩
theorem Ya(h1:¬(k < -(2^63)||k>=2^63)=true)(h2:(items.isEmpty||k==1)=true):
  Meets (Builtin.«tuple.__mul__» ⟨[.ref l,.int k u],[]⟩) (λ_ R s=>s.heap.get? l=some {cls:=.type "tuple", dict:=dd,data:=.seq items n,slots:=sl}/\R (.ok (.ret (Value.ref l))) s):=
 .of_wp λprog w A R s h=>by
  obtain⟨hp,g,d,tk,os⟩:=s;obtain⟨hl,h⟩:=h
  wp_walk
  refine wpAny_ite_split (λz=>absurd z h1) λ_=>?_
  wp_walk
  exact⟨_,rfl,h⟩
theorem WN:Meets (Builtin.«int.__rmul__» ⟨[.int k u,.ref l],[]⟩) (λ_ R s=>s.heap.get? l=some {cls:=.type "tuple", dict:=dd,data:=.seq items n,slots:=sl}/\R (.ok (.ret Value.notImplemented)) s):=
 .of_wp λprog w A R s h=>by obtain⟨hp,g,d,tk,os⟩:=s;obtain⟨hl,h⟩:=h;wp_walk;exact⟨_,rfl,h⟩
end
variable{X:Cx}{dA:Den (List W)}{e:Expr}{p:Pos}{Z:Zt}
theorem VR:fillsNumberSlot (.type "tuple") "mul"=pure false:=
 fillsNumberSlot_seq (id:="tuple.__mul__") (r:=some (.builtin "tuple.__rmul__")) PySem.F.slot_tuple_mul.lookup (by decide +kernel) PySem.F.slot_tuple_rmul.lookup (by decide +kernel)
def VS:seqRepeat? (.type "tuple")=pure (some (.builtin "tuple.__mul__")):=by
 unfold seqRepeat?;rw[seqSlot_of (T:="tuple") (name:="__mul__") (id:="tuple.__mul__") PySem.F.slot_tuple_mul.lookup (by decide +kernel),seqSlot_of (T:="tuple") (name:="__rmul__") (id:="tuple.__rmul__") PySem.F.slot_tuple_rmul.lookup (by decide +kernel)];rfl
def u6(K:Fg):R2:=λx y H Q=>∃l k xs,x=.ref l/\y=.int k/\cZ K H l xs/\xs≠[]/\-(2^63)<=k/\k<2^63/\xs.length*k.toNat<=sizeLine /\
 (k=1->Q (.ref l) H)/\(k≠1->∀p,H p=none->Q (.ref p) (upd H p (.tup (List.replicate k.toNat xs).flatten)))
def Mg(aw:List Value)(m):List.foldl (λx1 x2=>x1++x2) #[] (List.replicate m aw.toArray)=(List.replicate m aw).flatten.toArray:=by
 grind [Hg]
def ZJ:fj X (binaryOp .Mult) (u6 X.K):=by
 intro pins s σ H x y v u Q I rx ry h;obtain⟨l,k,xs,rfl,rfl,hH,i0,h1,h2,hz,q1,q2⟩:=h;cases rx;obtain⟨t,rfl⟩:=ry;obtain⟨aw,r,p1,_⟩:=I.tuple hH;obtain⟨⟨cls,dd,data,sl⟩,ho,hc,n,hd⟩:=id p1;simp only at hc hd;subst hc hd;have hl:=r.length;have qf:¬(k < -(2^63)||k>=2^63)=true:=by simp;omega
 have R7:aw.toArray.isEmpty=false:=by
  grind
 have top:∀{Q':Value->Shared->Prop},(wpAny (model X.prog X.w) X.A (call (.builtin "tuple.__mul__") [.ref l,.int k t]) Q' X.xe s)->wpAny (model X.prog X.w) X.A (binaryOp .Mult (.ref l) (.int k t)) Q' X.xe s:=λ{Q'} hq=>by
  refine wpAny_binaryOp_repeat_ref (T:="tuple") (U:="int") (by decide) ⟨_,ho,rfl⟩ (λs'=>typeIs_int s' k t) VR PySem.F.fills_int_mul PySem.F.slot_int_rmul VS PySem.F.slot_int_index.lookup
   (PySem.call_meets PySem.F.slot_int_rmul (typeIs_int s k t) PySem.F.entry_int_rmul (PySem.F.args_int_rmul_2 _ _) (WN l aw.toArray n k t dd sl) ⟨ho,rfl,⟨_,ho,rfl⟩,hq⟩)
 by_cases qh:k=1
 .subst qh;exact top (PySem.call_meets PySem.F.slot_tuple_mul ⟨_,ho,rfl⟩ PySem.F.entry_tuple_mul (PySem.F.args_tuple_mul_2 _ _) (Ya l aw.toArray n 1 t dd sl qf (by simp)) ⟨ho,.ref l,H,I,rfl,q1 rfl⟩)
 .have B3:¬(aw.toArray.isEmpty||k==1)=true:=by grind
  have fr:=I.aG.fresh (w0c s.heap.objs.size)
  by_cases xJ:k<=0
  .refine top (PySem.call_meets PySem.F.slot_tuple_mul ⟨_,ho,rfl⟩ PySem.F.entry_tuple_mul (PySem.F.args_tuple_mul_2 _ _) (X' l aw.toArray n k t dd sl qf B3 (by simp[xJ])) ⟨ho,?_⟩);have e:k.toNat=0:=by omega
   have z:=q2 qh _ fr;rw[e]at z;exact⟨.ref s.heap.objs.size,_,I.laid (t':=s.toks) (λb o e=>Heap.get?_push_of_some _ e) (w0c _) (show aN X.prog X.w _ _ _ (.tup (List.replicate 0 xs).flatten)from⟨w1a _,[],.nil,PyProof.Rows.IsTup.new _ _,_,Heap.get?_push_size _ rfl,rfl⟩),rfl,z⟩
  .have hlen:aw.length*k.toNat<=sizeLine:=by rw[<- hl];exact hz
   have uv:((aw.toArray.size:Nat):Int)*k=((aw.length*k.toNat:Nat):Int):=by
    grind
   have sl8:(sizeLine:Int)<=(2^63-1) / 8:=by decide
   have hfl:(List.replicate k.toNat aw).flatten.length=k.toNat*aw.length:=Je ..;refine top (PySem.call_meets PySem.F.slot_tuple_mul ⟨_,ho,rfl⟩ PySem.F.entry_tuple_mul (PySem.F.args_tuple_mul_2 _ _) (Yl l aw.toArray n k t dd sl qf B3 (by grind) (by rw[uv];omega) (by rw[uv];unfold Builtin.Tuple.tupleTooMany;grind) (by grind [Mg])) ⟨ho,?_⟩);rw[Mg];exact⟨.ref s.heap.objs.size,_,I.laid (t':=s.toks) (λb o e=>Heap.get?_push_of_some _ e) (w0c _) (show aN X.prog X.w _ _ _ (.tup (List.replicate k.toNat xs).flatten)from⟨by grind [Je],_,r.rep k.toNat,PyProof.Rows.IsTup.new _ _,_,Heap.get?_push_size _ rfl,rfl⟩),rfl,q2 qh _ fr⟩
def qR:W->W->Option W
 |.tup ws,.int k=>if pk k=true/\ws≠[]/\ws.length*k.toNat<=16777216 then some (.tup (List.replicate k.toNat ws).flatten)else none
 |_,_=>none
def ZK:ik K (u6 K) qR:=by
 intro G H x y wx wy w Q s px py hf h;unfold qR at hf;split at hf
 .rename_i ws k;split at hf
  .rename_i hc;cases hf;cases(show y=V.int k from py);obtain⟨l,xs,rfl,hq,rp⟩:=px;have hb:=wX hc.1;refine⟨l,k,xs,rfl,rfl,s.tup hq,λz=>hc.2.1 (by subst z;exact w3z.mp rp.length.symm),by omega,by omega,by rw[sizeLine_eq,rp.length];exact hc.2.2,λhk=>?_,λhk p hp=>?_⟩
   .subst hk;have e:(List.replicate (1:Int).toNat ws).flatten=ws:=by simp
    rw[e]at h;exact h G _ H (.refl s) ⟨l,xs,rfl,hq,rp⟩
   .have g:aM G H (upd G p (.tup (List.replicate k.toNat xs).flatten)) (upd H p (.tup (List.replicate k.toNat xs).flatten)):=aM.laid s hp _;exact h _ _ _ g ⟨p,_,rfl,cZ.of bV,ao.mono g.gg _ (Dg rp _)⟩
  .cases hf
 .cases hf
theorem z1y{Z:Zt}(ha:DE Z X EE a da)(hb:DE Z X EE b db):DE Z X EE (.BinOp a .Mult b pos) (av qR da db):=uY ZJ ZK ha hb
def Yb(hc:X.calm=true):cX X (.builtin "any") (λxs H Q=>∃p ys,xs=[.ref p]/\bB X.K H p ys/\(∀y∈ys,∃b,y=.bl b)/\Q (.bl (ys.any λy=>decide (y=.bl true))) H):=by
 intro pins s σ H xs us Q I r h;obtain⟨p,ys,rfl,hq,hb,q⟩:=h;obtain⟨u,rfl,rx⟩:=vals1 r;cases rx;obtain⟨aw,r',pl,hz⟩:=I.list hq;have hl:=pl.isList;have cb:p<s.heap.objs.size:=by obtain⟨_,e,_⟩:=hl;exact Heap.lt_size e
 have hh:X.A.in1.handled=none:=I.ok.hd hc;refine call_any_walk (wpAny_pyIter_list hl ⟨s.heap.objs.size,[s.heap.objs.size,p],[s.heap.objs.size],_,_,_,λi=>decide (ys[i]?=some (.bl true)),rfl,Walks.list hh s.heap.objs.size p (w0m cb) aw.toArray,⟨⟨_,Heap.get?_push_size _ rfl,rfl,rfl⟩,hl.push _⟩,?_,λh' tk kp=>?_⟩)
 .intro i v s1 Q1 E1 hv hQ;have sQ:aw[i]?=some v:=by simpa using hv
  have hi:i<ys.length:=by grind [Vals.length]
  obtain⟨u,hu,ru⟩:=r'.get (w0d hi);rw[sQ]at hu;cases hu;obtain⟨b,eb⟩:=hb ys[i] (w1n hi);rw[eb]at ru;cases ru;refine wpAny_truthy_bool ?_
  simp_all
 .have e:(List.range aw.toArray.size).any (λi=>decide (ys[i]?=some (V.bl true)))=ys.any λy=>decide (y=.bl true):=by
   rw[w1t,w3g,w3g];constructor
   .grind
   .rintro⟨y,hy,z⟩;obtain⟨i,hi,rfl⟩:=w2r hy;exact⟨i,by grind [Vals.length],by grind⟩
  refine⟨.bl _,H,I.kept (t':=tk) λb o qb=>kp b o (λz=>?_) (Heap.get?_push_of_some _ qb),rfl,e ▸ q⟩
  rw[w1g]at z;exact absurd (Heap.lt_size qb) (by grind)
def mX:List W->Option W
 |[.lst ws]=>(eW ws).map λbs=>.bl (bs.any id)
 |_=>none
def z8m{K:Fg}:pM K (λxs H Q=>∃p ys,xs=[.ref p]/\bB K H p ys/\(∀y∈ys,∃b,y=.bl b)/\Q (.bl (ys.any λy=>decide (y=.bl true))) H) mX:=by
 intro G H xs ws w Q s pr hf h;unfold mX at hf;split at hf
 .obtain⟨bs,hb,rfl⟩:=w0h.mp hf;have:=LV hb;subst this;obtain⟨x,r,rfl,px,pr⟩:=pr;cases(show r=[]from pr);obtain⟨a,ys,rfl,ha,ra⟩:=px;have:=GX ra;subst this;refine⟨a,_,rfl,s.seq ha,λy hy=>?_,h G _ H (.refl s) ?_⟩
  .obtain⟨b,_,rfl⟩:=w0q.mp hy;exact⟨b,rfl⟩
  .show V.bl _=V.bl _;congr 1;rw[w4i];congr 1;funext b
   cases b<;>rfl
 .cases hf
section
variable{EE:L2.St->XK}{pos:Pos}
theorem z8n(hc:X.calm=true)(hm:X.mg "any"=none)(ha:DA Z X EE [e] dA)(hg:autoParam (Gl X "any") jJ)(he:autoParam (starEach [e] X.env=(false,eval e X.env)::starEach [] X.env) jJ)(du:autoParam ((backTo pos (starEach [] X.env)).any (·.1)=false) jJ):DE Z X EE (.Call (.Name "any" p) [e] [] pos) (cU mX dA):=
 A2 (Yb hc) z8m PyProof.Rows.Boot.«any» hm ha hg (by decide) (by decide) he du
end
def Q6{bs:List Bool}:mX [.lst (bs.map .bl)]=some (.bl (bs.any id)):=by
 show(eW (bs.map .bl)).map _=_;rw[Ho];rfl
def uZ(K:Fg):R2:=λx y H Q=>∃a b ys,x=.ref a/\y=.ref b/\cZ K H a []/\cZ K H b ys/\Q (.ref b) H
open PyProof.Rows in
def tw:fj X (binaryOp .Add) (uZ X.K):=by
 intro pins s σ H x y v u Q I rx ry h;obtain⟨a,b,ys,rfl,rfl,ha,hb,q⟩:=h;cases rx;cases ry;obtain⟨aw,r1,p1,_⟩:=I.tuple ha;obtain⟨fH,r2,p2,_⟩:=I.tuple hb;cases r1;obtain⟨⟨cls,dd,data,sl⟩,ho,hc,n,hd⟩:=id p1;obtain⟨⟨yR,uj,data2,yo⟩,rM,b_,n2,hd2⟩:=id p2;simp only at hc hd b_ hd2;subst hc hd b_ hd2;exact concat_meets ⟨_,ho,rfl⟩ ⟨_,rM,rfl⟩ noFill_tuple_add seq_tuple_add PySem.F.slot_tuple_add PySem.F.entry_tuple_add (PySem.F.args_tuple_add_2 _ _) (tuple_addW0 a b _ _ n n2 dd uj sl yo rfl) ⟨ho,rM,.ref b,H,I,rfl,q⟩
def bH:W->W->Option W
 |.tup xs,.tup ys=>if xs.length+ys.length<=16777216 then some (.tup (xs++ys))else none
 |x,y=>addW x y
theorem z1z:bH (.tup xs) (.tup ys)=if xs.length+ys.length<=16777216 then some (.tup (xs++ys))else none:=rfl
theorem z10:bH (.int i) (.int j)=some (.int (i+j)):=rfl
theorem z11:bH (.lst xs) (.lst ys)=if xs.length+ys.length<=16777216 then some (.lst (xs++ys))else none:=rfl
theorem z12:bH (.str x) (.str y)=if x.length+y.length<=16777216 then some (.str (x++y))else none:=rfl
def Zw:ik K (λx y H Q=>uZ K x y H Q\/(nQ (λi j=>.int (i+j)) x y H Q\/((∃i j,x=.str i/\y=.str j/\i.length+j.length<=sizeLine/\Q (.str (i++j)) H)\/(qP K x y H Q\/qO K x y H Q)))) bH:=by
 intro G H x y wx wy w Q s px py hf h;unfold bH at hf;split at hf
 .rename_i xs ys;split at hf
  .rename_i hl
   by_cases h0:xs=[]
   .subst h0;cases hf;obtain⟨a,vs,rfl,hq,rp⟩:=px;obtain⟨b,us,rfl,Cg,qT⟩:=py;cases(show vs=[]from rp);exact .inl ⟨a,b,us,rfl,rfl,s.tup hq,s.tup Cg,h G _ H (.refl s) ⟨b,us,rfl,Cg,qT⟩⟩
   .exact .inr (PD G H x y (.tup xs) (.tup ys) w Q s px py (by show(if xs≠[]/\xs.length+ys.length<=16777216 then some (W.tup (xs++ys))else none)=some w;grind) h)
  .cases hf
 .exact .inr (PD G H x y _ _ w Q s px py hf h)
theorem z14{Z:Zt}(ha:DE Z X EE a da)(hb:DE Z X EE b db):DE Z X EE (.BinOp a .Add b pos) (av bH da db):=uY (tw.or (wq.or (nK.or (tD.or Y5)))) Zw ha hb
def N_{l:List Int}(h):l.getD i 0=l[i]:=by
 grind
open PySem L2 PySem.Spec PyProof.Rows
end D
namespace L2
open PySem PySem.Spec PyProof.Rows
section
variable{κ:Type} [DecidableEq κ]
def fi(kvs:List (κ×V))(k:κ):Option V:=(kvs.find? λkv=>decide (kv.1=k)).map (·.2)
def putK(kvs:List (κ×V))(k:κ)(v:V):List (κ×V):=
 if(kvs.any λkv=>decide (kv.1=k))=true then kvs.map (λkv=>if kv.1=k then(kv.1,v)else kv)else kvs++[(k,v)]
def AQ{k:κ}(e:p.1=k):fi (p::r) k=some p.2:=by simp[fi,w1u,e]
def AR{k:κ}(e:¬p.1=k):fi (p::r) k=fi r k:=by simp[fi,w1u,e]
theorem HJ(k):∀kvs:List (κ×V),(kvs.any λkv=>decide (kv.1=k))=(fi kvs k).isSome
 |[]=>rfl
 |p::r=>by
  rw[w2l]
  by_cases e:p.1=k
  .simp_all [AQ]
  .rw[AR e,decide_eq_false e,Bool.false_or];exact HJ k r
def LK(kvs)(k:κ)(v):(putK kvs k v).length<=kvs.length+1:=by
 grind [putK]
def Yc{k:κ}(v)(h:fi kvs k=none):putK kvs k v=kvs++[(k,v)]:=by
 simp_all [putK,HJ]
def jR.fV(r:jR o u):o.isSome=u.isSome:=by
 cases o with
 |none=>cases u with
  |none=>rfl
  |some _=>exact(show False from r).elim
 |some _=>cases u with
  |none=>exact(show False from r).elim
  |some _=>rfl
def KV.val(r:KV kvs vs)(k:κ):jR (fi kvs k) (valueAt vs k):=by
 unfold KV at r
 induction r with
 |nil=>exact True.intro
 | @cons p q ps qs h t ih=>
  obtain⟨h1,h2⟩:=h
  by_cases e:p.1=k
  .have e':q.1=k:=h1.symm.trans e;have b:valueAt (q::qs) k=some q.2:=by simp[valueAt,w1u,e']
   rw[AQ e,b];exact h2
  simp_all [valueAt,AR]
def KV.any(r:KV kvs vs)(k:κ):(kvs.any λkv=>decide (kv.1=k))=vs.any λkv=>decide (kv.1=k):=by
 unfold KV at r
 induction r with
 |nil=>rfl
 |cons h t ih=>rw[w2l,w2l,ih,h.1]
def KV.w5(r:KV kvs vs)(k:κ)(ry:RelV y u):
  KV (kvs.map λkv=>if kv.1=k then(kv.1,y)else kv) (vs.map λkv=>if kv.1=k then(kv.1,u)else kv):=by
 unfold KV at r |-
 induction r with
 |nil=>exact .nil
 | @cons p q ps qs h t ih=>
  rw[w0l,w0l];refine .cons ?_ ih
  grind
def KV.put(r:KV kvs vs)(k:κ)(ry:RelV y u):KV (putK kvs k y) (stored vs k u):=by
 unfold putK stored;rw[r.any k]
 by_cases e:(vs.any λkv=>decide (kv.1=k))=true
 .rw[if_pos e,if_pos e];exact r.w5 k ry
 .rw[if_neg e,if_neg e];exact Paired.snoc r ⟨rfl,ry⟩
theorem KV.length{kvs:List (κ×V)}{vs:List (κ×Value)}(r:KV kvs vs):kvs.length=vs.length:=Paired.length r
end
variable{a:Addr}{H:Hp}{σ:St}
def DX(r:RelV (kV k) u):(cV P w).is k u=true:=by
 cases k with
 |inl i=>obtain⟨t,e⟩:=(show ∃t,u=Value.int i t from r);grind [Vt]
 |inr x=>obtain⟨t,e⟩:=(show ∃t,u=Value.str x t from r);grind [Vu]
abbrev KT(sh:Sh)(H:Hp):List (Kx×V)->List (Kx×Addr×Value)->Prop:=Paired λp q=>p.1=q.1/\(cx H p.1 (.ref q.2.1)/\fe p.1 sh/\p.1.depth<=7)/\RelV p.2 q.2.2
def KT.val(r:KT sh H kvs xs)(k):jR (fi kvs k) ((atKey xs k).map (·.2)):=by
 induction r with
 |nil=>exact True.intro
 | @cons p q ps qs h t ih=>
  obtain⟨h1,_,h2⟩:=h
  by_cases e:p.1=k
  .have e':q.1=k:=h1.symm.trans e;have b:atKey (q::qs) k=some q.2:=by simp[atKey,w1u,e']
   rw[AQ e,b];exact h2
  simp_all [atKey,AR]
def KT.w5(r:KT sh H kvs xs)(k)(ry:RelV y u):
  KT sh H (kvs.map λkv=>if kv.1=k then(kv.1,y)else kv) (xs.map (putAt k u)):=by
 induction r with
 |nil=>exact .nil
 | @cons p q ps qs h t ih=>
  rw[w0l,w0l];refine .cons ?_ ih;obtain⟨h1,h2,h3⟩:=h;unfold putAt
  grind
def KT.put(r:KT sh H kvs xs)(k)(hb:cx H k (.ref b)/\fe k sh/\k.depth<=7)(ry:RelV y u):
  KT sh H (putK kvs k y) (storedH xs k b u):=by
 have e:(kvs.any λkv=>decide (kv.1=k))=(atKey xs k).isSome:=by
  rw[HJ,(r.val k).fV,w3c]
 unfold putK storedH;rw[e]
 by_cases q:(atKey xs k).isSome=true
 .rw[if_pos q,if_pos q];exact r.w5 k ry
 simp_all [Paired.snoc]
def iP(kvs:List (Kx×V))(bp:List Addr)(k:Kx)(b:Addr):List Addr:=if(fi kvs k).isSome=true then bp else bp++[b]
def KT.iP(r:KT sh H kvs xs)(ka:xs.map (·.2.1)=bp)(k):(storedH xs k b u).map (·.2.1)=L2.iP kvs bp k b:=by
 unfold storedH L2.iP;rw[(r.val k).fV,w3c]
 by_cases q:(atKey xs k).isSome=true
 .rw[if_pos q,if_pos q,w0t,<- ka];refine w1m λx _=>?_
  show(putAt k u x).2.1=x.2.1
  grind [putAt]
 grind
theorem KT.keeps(r:KT sh H kvs xs)(ht:∀b u,d8 u->H b=some u->H' b=some u):KT sh H' kvs xs:=
 Paired.wc r λ_ _ z=>⟨z.1,⟨cx.keeps ht _ z.2.1.1,z.2.1.2⟩,z.2.2⟩
section
variable{P:Program}{w:World}{h:Heap}
theorem Qk(ok:c9 P w H h)(e:Rd H a u):aN P w H h a u:=e.ok ok
theorem BP(ok:c9 P w H h)(e:Rd H a (.dK kvs)):kvs.length<=sizeLine/\(a==sysModules)=false/\∃vs,KV kvs vs/\h.DictOf (cV P w) a vs:=
 show aN P w H h a (.dK kvs)from Qk ok e
theorem Ql(ok:c9 P w H h)(e:H a=some (.dK kvs)):kvs.length<=sizeLine/\(a==sysModules)=false/\∃vs,KV kvs vs/\h.DictOf (cV P w) a vs:=BP ok (.inl e)
def IsTup.seq{aw:List Value}(p:IsTup h a aw.toArray):∃o n,h.get? a=some o/\o.cls=.type "tuple" /\ o.data=.seq aw.toArray n:=by
 obtain⟨o,h1,h2,n,h3⟩:=p;exact⟨o,n,h1,h2,h3⟩
mutual
theorem cx.is(ok:c9 P w H h):∀(k:Kx){x:V}{v:Value},cx H k x->RelV x v->oR h k v
 |.aE,x,v,e,r=>by cases(show x=.aE from e);exact r
 |.bl b,x,v,e,r=>by cases(show x=.bl b from e);exact r
 |.int b,x,v,e,r=>by cases(show x=.int b from e);exact r
 |.str b,x,v,e,r=>by cases(show x=.str b from e);exact r
 |.tup ks,x,v,e,r=>by
  obtain⟨a,xs,rfl,q,rs⟩:=e;cases(show v=Value.ref a from r);obtain⟨_,aw,rv,p,_⟩:=(show aN P w H h a (.tup xs)from Rd.ok q ok);obtain⟨o,n,h1,h2,h3⟩:=IsTup.seq p;exact⟨a,o,aw.toArray,n,rfl,h1,h2,h3,by simpa using e_.are ok ks rs rv⟩
theorem e_.are(ok:c9 P w H h):∀(ks:List Kx){xs:List V}{vs:List Value},e_ H ks xs->Vals xs vs->gP h ks vs
 |[],xs,vs,e,r=>by
  cases(show xs=[]from e);cases r;rfl
 |k::ks,xs,vs,e,r=>by
  obtain⟨x,r0,rfl,h1,h2⟩:=e;cases r with
  |cons q t=>exact⟨_,_,rfl,cx.is ok k h1 q,e_.are ok ks h2 t⟩
end
theorem DM(ok:c9 P w H h)(e:cx H k (.ref a)/\fe k sh/\k.depth<=7):(eR P w sh).is h k a:=⟨cx.is ok k e.1 rfl,e.2⟩
def BQ(ok:c9 P w H h)(e:Rd H a (.dT sh kvs bp)):kvs.length<=sizeLine/\(a==sysModules)=false /\
  ∃xs,KT sh H kvs xs/\xs.map (·.2.1)=bp/\h.DictOfH (eR P w sh) a xs:=by
 obtain⟨z,y,xs,r,ka,o,es,ep,h1,h2,h3,h4,h5⟩:=(show aN P w H h a (.dT sh kvs bp)from Qk ok e);refine⟨z,y,xs,r,ka,o,es,ep,h1,h2,h3,h4,λx hx=>?_,h5⟩
 have all:∀{l:List (Kx×V)}{m:List (Kx×Addr×Value)},KT sh H l m->∀x∈m,(eR P w sh).is h x.1 x.2.1:=by
  intro l m q
  induction q with
  |nil=>grind
  | @cons p q ps qs hq t ih=>
   intro x hx;rcases w0e.mp hx with e|hx
   .subst e;exact DM ok (by grind)
   .exact ih x hx
 exact all r x hx
theorem Q7(ok:c9 P w H h)(e:H a=some (.dT sh kvs bp)):kvs.length<=sizeLine/\(a==sysModules)=false /\
  ∃xs,KT sh H kvs xs/\xs.map (·.2.1)=bp/\h.DictOfH (eR P w sh) a xs:=BQ ok (.inl e)
end
def fo(H:Hp)(a:Addr)(y:V)(r:Option V):Prop:=
 (∃kvs k,Rd H a (.dK kvs)/\y=kV k/\r=fi kvs k)\/∃sh kvs bp k b,Rd H a (.dT sh kvs bp)/\y=.ref b/\(cx H k (.ref b)/\fe k sh/\k.depth<=7)/\r=fi kvs k
def lL(H:Hp)(a:Addr)(y v:V)(H':Hp):Prop:=
 (∃kvs k,H a=some (.dK kvs)/\y=kV k/\kvs.length<sizeLine/\H'=upd H a (.dK (putK kvs k v))) \/
 ∃sh kvs bp k b,H a=some (.dT sh kvs bp)/\y=.ref b/\(cx H k (.ref b)/\fe k sh/\k.depth<=7)/\kvs.length<sizeLine/\H'=upd H a (.dT sh (putK kvs k v) (iP kvs bp k b))
theorem fo.k{kvs:List (Key×V)}{k:Key}(e:H a=some (.dK kvs)):fo H a (kV k) (fi kvs k):=.inl ⟨kvs,k,.inl e,rfl,rfl⟩
theorem fo.t{b:Addr}{sh:Sh}{kvs:List (Kx×V)}{bp:List Addr}{k:Kx}(e:Rd H a (.dT sh kvs bp))(eb:cx H k (.ref b)/\fe k sh/\k.depth<=7):fo H a (.ref b) (fi kvs k):=.inr ⟨sh,kvs,bp,k,b,e,rfl,eb,rfl⟩
theorem lL.k{kvs:List (Key×V)}{k:Key}{v:V}(e:H a=some (.dK kvs))(hl:kvs.length<sizeLine):lL H a (kV k) v (upd H a (.dK (putK kvs k v))):=.inl ⟨kvs,k,e,rfl,hl,rfl⟩
theorem lL.t{b:Addr}{sh:Sh}{kvs:List (Kx×V)}{bp:List Addr}{k:Kx}{v:V}(e:H a=some (.dT sh kvs bp))(eb:cx H k (.ref b)/\fe k sh/\k.depth<=7)(hl:kvs.length<sizeLine):
  lL H a (.ref b) v (upd H a (.dT sh (putK kvs k v) (iP kvs bp k b))):=.inr ⟨sh,kvs,bp,k,b,e,rfl,eb,hl,rfl⟩
def Inv.big(I:Inv X pins σ H s):sysModules<s.heap.objs.size:=by
 have h:mainGlobals<s.heap.objs.size:=(I.mod.glob.keeps I.bk).lt;exact Nat.lt_trans (by decide) h
def HM{A:Around}(hu:A.units+20<cLine):(eR P w sh).room A.in1:=by
 show A.in1.units+8<cLine
 grind
def WO(hu:A.units+20<cLine)(I:Inv X pins σ H s)(g:fo H a y (some v))(ry:RelV y u)(h:∀w' s',Inv X pins σ H s'->RelV v w'->Q w' s'):
  wpAny (model X.prog X.w) A (getItem (.ref a) u) Q E s:=by
 rcases g with⟨kvs,k,e,ey,l⟩|⟨sh,kvs,bp,k,b,e,ey,eb,l⟩
 .subst ey;obtain⟨z,hd,vs,rel,dd⟩:=BP I.aG e;obtain⟨w',hw,tL⟩:=jR.some_of (v:=v) (o:=valueAt vs k) (by rw[l];exact rel.val k);exact wpAny_getItem_of (DX ry) dd.mapOf hw (h w' _ (I.tok _) tL)
 .subst ey;cases(show u=Value.ref b from ry);obtain⟨z,hd,xs,rel,_,dd⟩:=BQ I.aG e;obtain⟨w',hw,tL⟩:=jR.some_of (v:=v) (o:=(atKey xs k).map (·.2)) (by rw[l];exact rel.val k);obtain⟨p,hp,Fd⟩:=w0h.mp hw;refine wpAny_getItem_heap (HM hu) (DM I.aG eb) dd hp ?_;rw[Fd];exact h w' _ (I.tok _) tL
def Zx(hu:A.units+20<cLine)(I:Inv X pins σ H s)(g:fo H a y o)(ry:RelV y u)(h:∀s',Inv X pins σ H s'->Q (.bool (!o.isSome)) s'):
  wpAny (model X.prog X.w) A (compareOp .NotIn u (.ref a)) Q E s:=by
 rcases g with⟨kvs,k,e,ey,l⟩|⟨sh,kvs,bp,k,b,e,ey,eb,l⟩
 .subst ey;obtain⟨z,hd,vs,rel,dd⟩:=BP I.aG e;refine wpAny_notIn_of (DX ry) hd dd.mapOf ?_;rw[<- (rel.val k).fV,<- l];exact h _ (I.tok _)
 .subst ey;cases(show u=Value.ref b from ry);obtain⟨z,hd,xs,rel,_,dd⟩:=BQ I.aG e;refine wpAny_notIn_heap (HM hu) (DM I.aG eb) hd dd ?_;have q:=(rel.val k).fV;rw[w3c]at q;rw[<- q,<- l];exact h _ (I.tok _)
theorem Ji(I:Inv X pins σ H s)(mu:yG (H a))(hs:Heap.SameBut a s.heap h')(he:∃q,h'.get? a=some q)(new:aN X.prog X.w (upd H a ob) h' a ob):
  Inv X pins σ (upd H a ob) {s with heap:=h',toks:=t'}:=
 I.write (x:=a) (e:=a) mu (.inl rfl) (λb q hb z=>(hs.2 b hb).trans z) he new
theorem PL(z:kvs.length<=sizeLine)(hd:(a==sysModules)=false)(rel:KV kvs vs)(dd:h'.DictOf (cV P w) a vs):
  aN P w H' h' a (.dK kvs):=⟨z,hd,vs,rel,dd⟩
def WQ(hu:A.units+20<cLine)(I:Inv X pins σ H s)(g:lL H a y v H')(ry:RelV y u)(rv:RelV v r)(h:∀s',Inv X pins σ H' s'->Q () s'):
  wpAny (model X.prog X.w) A (setItem (.ref a) u r) Q E s:=by
 rcases g with⟨kvs,k,e,ey,l,eH⟩|⟨sh,kvs,bp,k,b,e,ey,eb,l,eH⟩
 .subst ey eH;obtain⟨z,hd,vs,rel,dd⟩:=Ql I.aG e;have hz:vs.length<=sizeLine:=by grind [KV.length]
  have hl:(putK kvs k v).length<=sizeLine:=by grind [LK]
  refine wpAny_setItem_pairs (hsz:=hz) (DX ry) dd λh' ui hs=>h _ ?_
  have he:∃q,h'.get? a=some q:=let ⟨q,_,_,hq,_⟩:=ui;⟨q,hq⟩;exact Ji I (by rw[e];exact True.intro) hs he (PL hl hd (rel.put k rv) ui)
 .subst ey eH;cases(show u=Value.ref b from ry);obtain⟨z,hd,xs,rel,ka,dd⟩:=Q7 I.aG e;have hz:xs.length<=sizeLine:=by grind [Paired.length]
  have hl:(putK kvs k v).length<=sizeLine:=by grind [LK]
  refine wpAny_setItem_heap (hsz:=hz) (HM hu) (DM I.aG eb) dd λh' ui hs=>h _ ?_
  obtain⟨q,es,ep,hq,h2,h3,h4,_,h5⟩:=ui;refine Ji I (by rw[e];exact True.intro) hs ⟨q,hq⟩ ⟨hl,hd,_,(rel.put k eb rv).keeps λc u ys ec=>?_,rel.iP ka k,q,es,ep,hq,h2,h3,h4,h5⟩
  rw[aU (iD ec e (λz=>by subst z;exact ys))]
  exact ec
def Q8(I:Inv X pins σ H s)(e:Rd H a (.dK kvs))(h:∀t s',Inv X pins σ H s'->Q (.int kvs.length t) s'):wpAny (model X.prog X.w) A (call (.builtin "len") [.ref a]) Q E s:=by
 obtain⟨z,hd,vs,rel,dd⟩:=BP I.aG e;refine call_len_dict hd dd (by grind [KV.length,sizeLine_eq]) ?_;rw[<- rel.length];exact h _ _ (I.tok _)
def su(i:Expr):Prop:=∀ov iv,subscripted i false ov iv=operate [ov,iv] (getItem ov iv)
def Zy{id:String}
  (hl:typeLookup (.type T) "__getitem__"=pure (some (.builtin id)))(hs:su slice)
  (h:wpAny (model prog w) A (eval value env) (λo aD=>wpAny (model prog w) A (eval slice env) (λi mH=>mH.TypeIs o T/\wpAny (model prog w) A (getItem o i) Q E mH) E aD) E s):
  wpAny (model prog w) A (eval (.Subscript value slice pos) env) Q E s:=by
 refine Subscript_ (wpAny_mono h (λo aD dY=>wpAny_mono dY (λi mH vT=>?_) λ_ _ x=>x) λ_ _ x=>x)
 obtain⟨hT,vT⟩:=vT;unfold subscriptTail;refine wpAny_bind ?_;rw[getitemInPython_of_ne hT.not_modules];refine wpAny_bind (wpAny_specialOf hT hl ?_)
 have fin:wpAny (model prog w) A (subscripted slice false o i) (λr Bq=>wpAny (model prog w) A (letTemporaryGo value o r >>= λ_=>pure r) Q E Bq) E mH:=by
  rw[hs o i];exact wpAny_operating (wpAny_mono vT (λr Bq Fp=>wpAny_bind (wpAny_letTemporaryGo (wpAny_pure Fp))) λ_ _ x=>x)
 grind [wpAny_pure,wpAny_bind]
def Vy(I:Inv X pins σ H s)(g:fo H a y o):s.TypeIs (.ref a) "dict":=by
 rcases g with⟨kvs,k,e,_,_⟩|⟨sh,kvs,bp,k,b,e,_,_,_⟩
 .obtain⟨_,_,vs,_,dd⟩:=BP I.aG e;exact dd.typeIs
 .obtain⟨_,_,xs,_,_,dd⟩:=BQ I.aG e;exact dd.typeIs
def Bt(td ty:TE):TE:=λσ H Q=>td σ H λx H1=>ty σ H1 λy H2=>∃a v,x=.ref a/\fo H2 a y (some v)/\Q v H2
def tQ(ty td:TE):TE:=λσ H Q=>ty σ H λy H1=>td σ H1 λx H2=>∃a o,x=.ref a/\fo H2 a y o/\Q (.bl (!o.isSome)) H2
def Bg(td ty tv:TE):TS:=λD σ H=>tv σ H λv H1=>td σ H1 λx H2=>ty σ H2 λy H3=>∃a H4,x=.ref a/\lL H3 a y v H4/\D.nx σ H4
def Oa(hu:X.A.units+20<cLine)(ho:PE X o td)(hi:PE X i ty)(hs:su i):PE X (.Subscript o i pos) (Bt td ty):=by
 intro pins s σ H Q I h;refine Zy PySem.F.slot_dict_getitem.lookup hs (bt (ho pins s σ H _ I h) λu s1 ⟨x,H1,I1,rx,q1⟩=>bt (hi pins s1 σ H1 _ I1 q1) λiv s2 ⟨y,H2,I2,ry,a,v,ex,g,q2⟩=>?_)
 subst ex;obtain rfl:u=Value.ref a:=rx;exact⟨Vy I2 g,WO hu I2 g ry λw' s3 I3 tL=>⟨v,H2,I3,tL,q2⟩⟩
def MX(hu:X.A.units+20<cLine)(hi:PE X i ty)(ho:PE X o td):PC X .NotIn i o (tQ ty td):=by
 intro pins s σ H Q I h;refine bt (hi pins s σ H _ I h) λiv s1 ⟨y,H1,I1,ry,q1⟩=>bt (ho pins s1 σ H1 _ I1 q1) λu s2 ⟨x,H2,I2,rx,a,ov,ex,g,q2⟩=>?_
 subst ex;obtain rfl:u=Value.ref a:=rx;exact Zx hu I2 g ry λs3 I3=>⟨.bl (!ov.isSome),H2,I3,rfl,q2⟩
def Of(hu:X.A.units+20<cLine)(ho:PE X o td)(hi:PE X i ty)(hv:PE X value tv)(hs:swapsWith value (some (.Subscript o i pos')) pos.line X.env=pure false):
  PS X (.Assign [.Subscript o i pos'] value pos) (Bg td ty tv):=by
 intro pins s σ H D I h;refine wpAny_Assign_Subscript (bt (hv pins s σ H _ I h) λr s1 ⟨v,H1,I1,rv,q1⟩=>bt (ho pins s1 σ H1 _ I1 q1) λu s2 ⟨x,H2,I2,rx,q2⟩=>bt (hi pins s2 σ H2 _ I2 q2) λiv s3 ⟨y,H3,I3,ry,a,H4,ex,g,q3⟩=>?_) hs
 subst ex;obtain rfl:u=Value.ref a:=rx;exact WQ hu I3 g ry rv λs4 I4=>⟨σ,H4,I4,q3⟩
theorem Yd(h:Heap)(hb:sysModules<h.objs.size):aN P w H (h.push {cls:=.type "dict", data:=.dict #[]}) h.objs.size (.dK []):=
 ⟨w1a _,beq_eq_false_iff_ne.mpr (Ne.symm (w0m hb)),[],.nil,Heap.DictOf.new h⟩
theorem Ye(h:Heap)(hb:sysModules<h.objs.size):aN P w H (h.push {cls:=.type "dict", data:=.dict #[]}) h.objs.size (.dT sh [] []):=
 ⟨w1a _,beq_eq_false_iff_ne.mpr (Ne.symm (w0m hb)),[],.nil,rfl,_,#[],0,Heap.get?_push_size _ rfl,⟨rfl,rfl,rfl⟩,rfl,rfl,List.nodup_nil⟩
def xj(sh:Sh):TE:=λ_ H Q=>∀p,H p=none->Q (.ref p) (upd H p (.dT sh [] []))
theorem Yf:PE X (.Dict [] [] pos) (xj sh):=λpins s σ H Q I h=>
 wpAny_Dict_empty ⟨.ref s.heap.objs.size,_,I.laid (a:=s.heap.objs.size) (o:=.dT sh [] []) (t':=s.toks) (λ_ _ q=>Heap.get?_push_of_some _ q) (w0c _) (Ye s.heap I.big),rfl,h _ (I.aG.fresh (w0c _))⟩
def Inv.swapAt(I:Inv X pins σ H s)(e:H a=some u)(ht:¬d8 u)(hb:∀ps,u≠.nU ps)(hf:∀o v,X.aA a≠some (.cP o v))(hw:∀x,u≠.own x)(ok:c9 X.prog X.w H s.heap->aN X.prog X.w (upd H a u') s.heap a u'):Inv X pins σ (upd H a u') s:=by
 have up:∀b,H b=none->upd H a u' b=none:=λb n=>by
  grind [aU]
 refine⟨I.ok,I.os,I.bare,⟨I.base.keep,I.base.slot,λb ob q n hx=>up b (I.base.free b ob q n hx),I.base.there,λb xs q=>?_,λb ob v q=>?_,λb ps q=>?_⟩,I.loc,I.cell,up _ I.free,λx c q=>up c (I.c7 x c q),λp hp=>?_,λb v q=>?_,I.len⟩
 .have z:=I.base.fO b xs q
  grind [d8,aU]
 .by_cases l5:b=a
  .grind
  .rw[aU l5];exact I.base.aW b ob v q
 .obtain⟨more,z⟩:=I.base.e9 b ps q
  grind [aU]
 .obtain⟨q1,q2,q3⟩:=I.pin p hp
  grind
 .by_cases l5:b=a
  .grind [bV,aG]
  .rw[aU l5]at q;refine(I.aG b v q).eQ (λ_ _ _ z=>z) (λc z=>?_) λc xs tl z=>?_
   all_goals grind [aU]
theorem Inv.om(I:Inv X pins σ H s)(e:H a=some (.lst xs))(q:s.heap.get? a=some o):Inv X pins σ (upd H a (.cP o (.lst xs))) s:=
 I.swapAt e (λz=>z) (λ_ z=>nomatch z) (λob v z=>by have:=I.base.aW a ob v z;grind) (λ_ z=>nomatch z) λok=>⟨q,(ok a _ e).eQ (λ_ _ _ z=>z) (λc z=>by rw[aU (iD z e (λy=>nomatch y))];exact z) λc xs tl z=>by rw[aU (iD z e (λy=>by subst y;exact tl))];exact z⟩
theorem Inv.qx(I:Inv X pins σ H s)(e:H a=some (.cP o (.lst xs)))(hf:∀o v,X.aA a≠some (.cP o v)):Inv X pins σ (upd H a (.lst xs)) s:=
 I.swapAt e (λz=>z) (λ_ z=>nomatch z) hf (λ_ z=>nomatch z) λok=>(ok a _ e).2.eQ (λ_ _ _ z=>z) (λc z=>by rw[aU (iD z e (λy=>nomatch y))];exact z) λc xs tl z=>by rw[aU (iD z e (λy=>by subst y;exact tl))];exact z
def Zz(hl:PE X l tl):PE X l (λσ H Q=>tl σ H λv H1=>∃a xs,v=.ref a/\H1 a=some (.lst xs)/\∀o,Q v (upd H1 a (.cP o (.lst xs)))):=by
 intro pins s σ H Q I h;refine bt (hl pins s σ H _ I h) λv s1 ⟨x,H1,I1,r1,q1⟩=>?_
 obtain⟨a,xs,rfl,e,q⟩:=q1;obtain⟨aw,_,⟨o,n,g,_⟩,_⟩:=I1.list (bB.of e);exact⟨.ref a,_,I1.om e g,r1,q o⟩
end L2
namespace D
open PySem L2 PySem.Spec PyProof.Rows
open PyProof.Rows (envOfC)
section
variable{X:Cx}{Z:Zt}{EE:L2.St->XK}{a b c e:Expr}{es:List Expr}{da db d:Den W}{dF dA:Den (List W)}{x:Str}{pos p d6:Pos}
def mQ:S->Bool
 |.nest _=>true
 |_=>false
end
theorem y29:g9 (.nest bo)=.fr (.lst (bo.map W.lst)):=rfl
end D
namespace L2
open PySem PySem.Spec PyProof.Rows
section
variable{X:Cx}
def Ba(X:Cx)(r:V->List V->Hp->VK->Prop):V->List V->Hp->VK->Prop:=λx vs H Q=>∃l o ys,x=.ref l/\H l=some (.cP o (.lst ys))/\(∀o v,X.aA l≠some (.cP o v))/\r x vs (upd H l (.lst ys)) Q
def ZA{id:String}(h:xy X id r):xy X id (Ba X r):=by
 intro pins s σ H x vs v us Q I rx rv hq;obtain⟨l,o,ys,rfl,e,hf,q⟩:=hq;exact h pins s σ _ _ vs v us Q (I.qx e hf) rx rv q
def Bd(X:Cx):V->V->V->Hp->(Hp->Prop)->Prop:=λo i v H Q=>∃l ob ys,o=.ref l/\H l=some (.cP ob (.lst ys))/\(∀o v,X.aA l≠some (.cP o v))/\u7 o i v (upd H l (.lst ys)) Q
def Yg:vi X (Bd X):=by
 intro pins s σ H o i v ov iv u Q I ro ri rv hq;obtain⟨l,ob,ys,rfl,e,hf,q⟩:=hq;exact Nx pins s σ _ _ i v ov iv u Q (I.qx e hf) ro ri rv q
end
end L2
namespace D
open PySem L2 PySem.Spec PyProof.Rows
section
variable{K:Fg}{Z:Zt}{G H:Hp}{ls:List Addr}{bo:List (List W)}
theorem aX.mem:∀{ls:List Addr}{bo:List (List W)},aX K Z G H ls bo->∀l∈ls,∃o ys,oQ Z G H l o ys
 |[],_,_,_,hl=>nomatch hl
 |l::ls,ws::bo,⟨⟨o,ys,h1,_⟩,h⟩,c,hc=>by
  rcases w0e.mp hc with rfl|hc
  .exact⟨o,ys,h1⟩
  .exact h.mem c hc
 |_::_,[],h,_,_=>h.elim
theorem aX.snoc{a:Addr}{ws:List W}(hn:∃o ys,oQ Z G H a o ys/\ao K G ws ys):∀{ls:List Addr}{bo:List (List W)},aX K Z G H ls bo->aX K Z G H (ls++[a]) (bo++[ws])
 |[],[],_=>⟨hn,trivial⟩
 |_::_,_::_,⟨h1,h⟩=>⟨h1,h.snoc hn⟩
 |[],_::_,h=>h.elim
 |_::_,[],h=>h.elim
theorem aX.len:∀{ls:List Addr}{bo:List (List W)},aX K Z G H ls bo->ls.length=bo.length
 |[],[],_=>rfl
 |_::_,_::_,⟨_,h⟩=>by rw[w1e,w1e,h.len]
 |[],_::_,h=>h.elim
 |_::_,[],h=>h.elim
theorem aX.at:∀{ls:List Addr}{bo:List (List W)}{j:Nat}{ws:List W},aX K Z G H ls bo->bo[j]?=some ws->∃l o ys,ls[j]?=some l/\oQ Z G H l o ys/\ao K G ws ys
 |l::ls,_::bo,0,_,⟨⟨o,ys,h1,h2⟩,_⟩,e=>by cases e;exact⟨l,o,ys,rfl,h1,h2⟩
 |_::ls,_::bo,j+1,_,⟨_,h⟩,e=>by
  obtain⟨l,o,ys,h1,h2⟩:=h.at e;exact⟨l,o,ys,h1,h2⟩
 |[],[],_,_,_,e=>by simp at e
 |[],_::_,_,_,h,_=>h.elim
 |_::_,[],_,_,h,_=>h.elim
def lN(K:Fg)(G H:Hp):List Addr->List (List W)->Prop
 |[],[]=>True
 |l::ls,ws::bo=>(∃ys,(H l=some (.lst ys)\/∃o,H l=some (.cP o (.lst ys)))/\ao K G ws ys)/\lN K G H ls bo
 |[],_::_=>False
 |_::_,[]=>False
theorem aX.BG{H':Hp}:∀{ls:List Addr}{bo:List (List W)},aX K Z G H ls bo->(∀l∈ls,H' l=H l)->lN K G H' ls bo
 |[],[],_,_=>trivial
 |l::ls,_::bo,⟨⟨o,ys,h1,h2⟩,h⟩,e=>⟨⟨ys,.inr ⟨o,by rw[e l (by simp)];exact h1.1⟩,h2⟩,h.BG λl hl=>e l (by simp[hl])⟩
 |[],_::_,h,_=>h.elim
 |_::_,[],h,_=>h.elim
theorem aX.qr{a:Addr}{ws':List W}{pD:List V}(rp:ao K G ws' pD):∀{ls:List Addr}{bo:List (List W)}{j:Nat},aX K Z G H ls bo->ls.Nodup->ls[j]?=some a->lN K G (upd H a (.lst pD)) ls (bo.set j ws')
 |l::ls,_::bo,0,⟨_,h⟩,hn,e=>by
  cases e;refine⟨⟨pD,.inl bV,rp⟩,h.BG λc hc=>aU λz=>?_⟩
  grind
 |l::ls,_::bo,j+1,⟨⟨o,ys,h1,h2⟩,h⟩,hn,e=>by
  have hj:ls[j]?=some a:=e;refine⟨⟨ys,.inr ⟨o,?_⟩,h2⟩,h.qr rp (w2b.mp hn).2 hj⟩;rw[aU];exact h1.1
  grind
 |[],[],_,_,_,e=>by simp at e
 |[],_::_,_,h,_,_=>h.elim
 |_::_,[],_,h,_,_=>h.elim
theorem lN.some{H:Hp}:∀{ls:List Addr}{bo:List (List W)},lN K G H ls bo->∀l∈ls,H l≠none
 |[],_,_,_,hl=>nomatch hl
 |l::ls,_::bo,⟨⟨ys,h1,_⟩,h⟩,c,hc=>by
  rcases w0e.mp hc with rfl|hc
  .grind
  .exact h.some c hc
 |_::_,[],h,_,_=>h.elim
theorem lN.mw{H G':Hp}(sg:ak G G'):∀{ls:List Addr}{bo:List (List W)},lN K G H ls bo->(∀l∈ls,G' l=H l)->ao K G' (bo.map W.lst) (ls.map V.ref)
 |[],[],_,_=>rfl
 |l::ls,ws::bo,⟨⟨ys,h1,h2⟩,h⟩,e=>by
  refine⟨.ref l,ls.map V.ref,rfl,⟨l,ys,rfl,?_,ao.mono sg ws h2⟩,h.mw sg λl hl=>e l (by simp[hl])⟩
  have e0:=e l (by simp);rcases h1 with h1|⟨o,h1⟩
  .grind [bB.of]
  .exact .inl (.inr ⟨o,by rw[e0,h1]⟩)
 |[],_::_,h,_=>h.elim
 |_::_,[],h,_=>h.elim
end
section
variable{K:Fg}
def Rel.nest(r:Rel K Z G σ H e){i:Nat}(h:e[i]?=some (.nest bo)):∃a ls,σ[i]?=some (some (.ref a))/\G a=some (.lst (ls.map V.ref))/\ls.Nodup/\aX K Z G H ls bo:=by
 obtain⟨a,ls,h1,h2,h3,h4⟩:=r.slot i _ h
 grind
def Rel.opened(r:Rel K Z G σ H e)(he:e[i]?=some (.nest bo))(hv:σ[i]?=some (some (.ref a)))(ha:G a=some (.lst (ls.map V.ref)))(lI:aX K Z G H ls bo)
  (hT:∀s∈e.set i .no,mQ s=false)(hH:∀c,c∉ls->H' c=H c)(zE:lN K G H' ls tX):∃G',ak G G'/\Rep K G' (.lst (tX.map W.lst)) (.ref a)/\Rel K Z G' σ H' (e.set i (.fr (.lst (tX.map W.lst)))):=by
 classical
 have out:∀c u,G c=some u->c∉ls:=λc u h hc=>by
  obtain⟨o,ys,h1⟩:=lI.mem c hc;rw[h1.2.1]at h;cases h
 have sg:ak G (λc=>if c∈ls then H' c else G c):=λc u h=>by
  grind
 have jQ:∀c,c∉ls->(λc=>if c∈ls then H' c else G c) c=G c:=λc hc=>if_neg hc
 have rp:Rep K (λc=>if c∈ls then H' c else G c) (.lst (tX.map W.lst)) (.ref a):=⟨a,_,rfl,bB.of (sg _ _ ha),zE.mw sg λl hl=>if_pos hl⟩
 have hi:i<e.length:=(w0b.mp he).1
 have lt:∀c o,H c=some o->(∀ob ys,o≠.cP ob (.lst ys))->c∉ls:=λc o h i0 hc=>by
  obtain⟨ob,ys,h1⟩:=lI.mem c hc;rw[h1.1]at h;grind
 refine⟨_,sg,rp,λc u z=>?_,λj s z=>?_,by simpa using r.len,λj k b1 b2 w1 w2 c z1 z2 z3 z4=>?_,λc u z n=>?_,λc z=>?_,λc z=>?_⟩
 .by_cases hc:c∈ls
  .grind
  .rw[show(if c∈ls then H' c else G c)=G c from if_neg hc]at z;rw[hH c hc];exact r.sub c u z
 .by_cases hj:j=i
  .subst hj;rw[w0i hi]at z;cases z;exact⟨.ref a,by rw[hv];rfl,rp⟩
  .rw[w0g (λz=>hj z.symm)]at z
   have l9:mQ s=false:=hT s (w0u (i:=j) (by grind));have y:=r.slot j s z;cases s with
   |no=>trivial
   |fr w=>
    obtain⟨u,y1,y2⟩:=y;exact⟨u,y1,Rep.mono sg w y2⟩
   |own b ws=>
    obtain⟨c,xs,y1,y2,y3,y4,y5⟩:=y;have hc:=lt c _ y2 (λ_ _ z=>nomatch z)
    exact⟨c,xs,y1,by rw[hH c hc];exact y2,(jQ c hc).trans y3,y4,ao.mono sg ws y5⟩
   |a8 kvs=>
    obtain⟨c,y1,y2,y3,y4⟩:=y;have hc:=lt c _ y2 (λ_ _ z=>by cases kvs<;>cases z)
    exact⟨c,y1,by rw[hH c hc];exact y2,(jQ c hc).trans y3,y4⟩
   |nest _=>cases l9
   |dw sh ks ws=>
    refine iT.move y sg λc kv ka k1 k2 k3=>?_
    have hc:=lt c _ k1 (λ_ _=>tH rfl)
    grind
 .have old:∀(k:Nat)(bb:Option Nat)(ww:List W),(e.set i (S.fr (.lst (tX.map W.lst))))[k]?=some (.own bb ww)->e[k]?=some (.own bb ww):=λk bb ww z=>by
   grind
  exact r.lW _ _ _ _ _ _ _ (old _ _ _ z1) (old _ _ _ z2) z3 z4
 .have hc:c∉ls:=λhc=>by
   obtain⟨_,_,h1⟩:=lI.mem c hc;rw[h1.2.2]at z;cases z
  rw[hH c hc];exact r.ent c u z n
 .by_cases hc:c∈ls
  .exact zE.some c hc
  .rw[hH c hc];exact r.ko c z
 .have hc:c∉ls:=λhc=>by
   obtain⟨_,_,h1⟩:=lI.mem c hc;exact z h1.2.2
  show(if c∈ls then H' c else G c)=Z.G c;rw[if_neg hc];exact r.gen c z
def Rel.tM(r:Rel K Z G σ H e)(q:cy K Z G H bo (some v)):Rel K Z G (σ.set i (some v)) H (e.set i (.nest bo)):=by
 refine⟨r.sub,λj s z=>?_,by simpa using r.len,λj k b1 b2 w1 w2 c z1 z2 z3 z4=>?_,r.ent,r.ko,r.gen⟩
 .by_cases hj:j=i
  .subst hj
   have hi:j<e.length:=by
    grind
   rw[w0i hi]at z;cases z;rw[w0i (by rw[<- r.len];exact hi)];exact q
  .rw[w0g (λz=>hj z.symm)]at z |-
   exact r.slot j s z
 .have old:∀(k:Nat)(bb:Option Nat)(ww:List W),(e.set i (S.nest bo))[k]?=some (.own bb ww)->k≠i/\e[k]?=some (.own bb ww):=λk bb ww z=>by
   grind
  obtain⟨n1,q1⟩:=old _ _ _ z1;obtain⟨n2,q2⟩:=old _ _ _ z2;rw[w0g (λz=>n1 z.symm)]at z3
  rw[w0g (λz=>n2 z.symm)]at z4
  exact r.lW _ _ _ _ _ _ _ q1 q2 z3 z4
end
variable{X:Cx}{EE:L2.St->XK}{ws:List W}{pos:Pos}{K:Fg}
def iI(d:Den (List W))(pe:List S):List W->Option (List (List W))
 |[]=>some []
 |w::ws=>match d (.fr w::pe)with
  |.ok y _=>(iI d pe ws).map (y::·)
  |_=>none
def oz(i:Nat)(e:List S):Option (List (List W))->SR
 |some out=>.nx (e.set i (.nest out))
 |none=>.no
def oA(i:Nat)(js:List Nat)(d:Den (List W))(e:List S):Option (List W)->SR
 |some ws=>if ws.length<=16777216 then oz i (aW js e) (iI d (fM js (aW js e)) ws)else .no
 |none=>.no
def ki(i:Nat)(js:List Nat)(di:Den W)(d:Den (List W)):List S->SR:=λe=>(di e).cq λw e1=>oA i js d e1 (eu w)
def cF(K:Fg)(d:Den (List W)):TE:=λσ H Q=>∃Z',mh K Z' (λ_=>E0) d σ H Q
def J1(K:Fg)(d:Den (List W)):TE:=λσ H Q=>cF K d σ H λv H1=>∃a xs,v=.ref a/\H1 a=some (.lst xs)/\∀o,Q v (upd H1 a (.cP o (.lst xs)))
def Oh{J:It}{xs:List V}{SQ:Hp->Prop}{out:List (List W)}{js:List Nat}{d:Den (List W)}{Q:VK}{G0:Hp}(W0:Walk J xs SQ)(r1:Rel K Z G1 σ H1 e1)(s1:ak G0 G1)(rp:ao K G1 ws xs)(oX:∀G' H',ak G1 G'->ak G' H'->SQ H')(hl:ws.length<=16777216)
  (hz:∀p,H1 p=none->p∉Z.io)(hc:iI d (fM js e1) ws=some out)
  (h:∀G' a ls H',Rel K Z G' σ H' e1->ak G0 G'->H' a=some (.lst (ls.map V.ref))->G' a=none->Z.H a=none->iq σ e1 a->ls.Nodup->aX K Z G' H' ls out->Q (.ref a) H'):
  ∀D,H1 D=none->∃W:Nat->Nat->Hp->Prop,(∃m,W 0 m (upd H1 D (.lst [])))/\∀i m H2,W i m H2 ->
   (J.stop i H2/\Q (.ref D) H2)\/(J.go i H2/\∀x H3,J.kI i H2 x H3->bx 0 x (List.replicate 1 none++pj js σ) H3 λnX H4=>Kp (List.replicate 1 none++pj js σ) nX/\cT K bK nX H4 λb H5=>
    if b=true then J1 K d nX H5 λy H6=>∃ys,H6 D=some (.lst ys)/\ys.length<sizeLine/\∃m',m'<m/\W (i+1) m' (upd H6 D (.lst (ys++[y])))else ∃m',m'<m/\W (i+1) m' H5):=by
 intro D hD;have hlen:=rp.length
 refine⟨λi m H2=>m=ws.length-i/\i<=ws.length/\∃G2 ls done rest,Rel K Z G2 σ H2 e1/\ak G1 G2/\H2 D=some (.lst (ls.map V.ref))/\G2 D=none/\ls.Nodup/\aX K Z G2 H2 ls done/\ls.length=i/\iI d (fM js e1) (ws.drop i)=some rest/\done++rest=out,
  ⟨ws.length,by omega,w1a _,G1,[],[],out,r1.grow (aM.nu r1.sub hD _),.refl _,bV,r1.sub.free hD,.nil,trivial,rfl,hc,rfl⟩,?_⟩
 rintro i m H2 ⟨rfl,hi,G2,ls,done,rest,r2,s2,hd2,oq,Ce,lI,Sk,b_,ho⟩;have b7:iq σ e1 D:=wO r1 hD;have uI:Z.H D=none:=qK r1 hD
 by_cases cb:i<ws.length
 .refine .inr ⟨W0.go i H2 (oX G2 H2 s2 r2.sub) (by omega),λx H3 hy=>?_⟩
  obtain⟨rfl,hx⟩:=W0.kI i H2 x H3 (oX G2 H2 s2 r2.sub) hy (by omega);obtain⟨w,hw,pw⟩:=rp.iZ hx;rw[Hj hw]at b_;refine⟨Kp.one,⟨H3,G2,[]⟩,G2,.fr w::fM js e1,r2.block js (Rep.mono s2 w pw),?_⟩;intro G3 H5 r3 s3;rw[if_pos rfl];refine⟨⟨H3,G2,[]⟩,G3,.fr w::fM js e1,r3,?_⟩;unfold iI at b_;cases qd:d (.fr w::fM js e1)with
  |no=>rw[qd]at b_;cases b_
  |ex _ _=>rw[qd]at b_;cases b_
  |ok y e3=>
   rw[qd]at b_;intro G4 a xs H6 r4 s4 q1 q2 q3 q4 p4;have q3:H3 a=none:=q3;refine⟨a,xs,rfl,q1,λo=>?_⟩
   have g4:=r4.fN (s3.trans s4);obtain⟨my,hr,rfl⟩:=w0h.mp b_;have Kh:D≠a:=gA hd2 q3;have vL:H6 D=some (.lst (ls.map V.ref)):=g4.hh _ _ hd2;have uB:G4 D=none:=by rw[g4.new D (by rw[hd2];simp)];exact oq
   have r6:=((r2.grow g4).ja (o:=.cP o (.lst xs)) q2 (qK r2 q3) (ju r2 a q3) (wO r2 q3) q1);have Kt:(upd H6 a (.cP o (.lst xs))) D=some (.lst (ls.map V.ref)):=by rw[aU Kh];exact vL
   have r7:=r6.ja (o:=.lst (ls.map V.ref++[.ref a])) uB uI (hz D hD) b7 Kt
   have oY:∀c∈ls,c≠a/\c≠D:=λc f6=>by
    obtain⟨oc,yc,h1⟩:=lI.mem c f6;exact⟨gA h1.1 q3,iD h1.1 hd2 (λz=>nomatch z)⟩
   refine⟨ls.map V.ref,Kt,by rw[w0a,sizeLine_eq];omega,ws.length-(i+1),by omega,rfl,cb,G4,ls++[a],done++[y],my,?_,s2.trans (s3.trans s4),?_,uB,?_,?_,by simp[Sk],hr,by rw[w3b];exact ho⟩
   .exact r7
   .rw[bV,w0x];rfl
   .rw[List.nodup_append];refine⟨Ce,by simp,λc hc d hd=>?_⟩
    rw[w1g.mp hd];exact(oY c hc).1
   .refine aX.snoc ⟨o,xs,⟨by rw[aU (λz=>Kh z.symm),bV],q2,qK r2 q3⟩,p4⟩ ?_
    refine lI.move (s3.trans s4) λl ob ys k1 k2 k3=>⟨?_,by rw[g4.new l (by rw[k1];simp)];exact k2,k3⟩
    rw[aU (iD k1 hd2 (λz=>nomatch z)),aU (gA k1 q3)]
    exact g4.hh _ _ k1
 .have:i=ws.length:=by omega
  subst this;rw[w2q]at b_;cases b_;rw[w2d]at ho;subst ho;exact .inl ⟨W0.stop _ H2 (oX G2 H2 s2 r2.sub) (by omega),h G2 D ls H2 r2 (s1.trans s2) hd2 oq uI b7 Ce lI⟩
section
variable{Z:Zt}{elt iter:Expr}{scope sc:Scope}{pt:Pos}{x:Str}{Nf N:List Str}{js:List Nat}{di:Den W}{d:Den (List W)}
def z19(i:Nat){y:Str}{py cL:Pos}(zm:X.N.Nodup)(hc:X.calm=true)(hi:DE Z X EE iter di)(ok:bX sc scope N Nf js=true)
  (he:∀Z' cl C ax aA ex,DF Z' (X.cp ([x]++Nf) scope cl C ax aA ex) (λ_=>E0) elt d)
  (hg:∀cl C ax aA ex,PG (X.cp ([x]++Nf) scope cl C ax aA ex) (.Name x pt) (bx 0))
  (hsc:autoParam (X.env.scope=sc) jJ)(hN:autoParam (X.N=N) jJ)(hs:∀x,foldedSetIterable iter X.env x=pure x:=by intro _;rfl)(zF:autoParam (X.N[i]?=some y) jJ)(zW:autoParam (Loc X.env.scope y) jM)(zD:autoParam (X.fn y=true\/X.env.scope.names.lookup y=some .local) jL)(nB:autoParam (swapsWith (.ListComp elt [⟨.Name x pt,iter,[],0⟩] scope pos) (some (.Name y py)) cL.line X.env=pure true) jJ):
  DS Z X EE (.Assign [.Name y py] (.ListComp elt [⟨.Name x pt,iter,[],0⟩] scope pos) cL) (ki i js di d):=by
 have hE:∀cl C ax aA ex,PE (X.cp ([x]++Nf) scope cl C ax aA ex) elt (cF X.K d):=λcl C ax aA ex pins s σ H Q I ⟨Z',h⟩=>he Z' cl C ax aA ex pins s σ H Q I h
 refine PS.mono (Hk (Nl:=[x]) (tc:=cT X.K bK) (te:=J1 X.K d) hc (yh hi) ok hg (wZ λ_ _ _ _ _ _=>VO) (λcl C ax aA ex=>Zz (hE cl C ax aA ex)) (rX i zm zF zW zD) nB hsc hN hs) ?_
 rintro D σ H ⟨G,e,rel,h⟩;refine⟨G,e,rel,(iQ h).imp (λw e1 h G1 v1 H1 r1 s1 p1=>?_) λ_ _ h=>h⟩
 unfold oA at h;split at h
 .rename_i ws hw;split at h
  .rename_i hl;unfold oz at h;split at h
   .rename_i out ho;obtain⟨G2,s2,r2⟩:=r1.aW js;have p2:=Rep.mono s2 w p1;have io:=ju r2
    have fin:∀G' a ls H',Rel X.K Z G' σ H' (aW js e1)->ak G G'->H' a=some (.lst (ls.map V.ref))->G' a=none->Z.H a=none->iq σ (aW js e1) a->ls.Nodup->aX X.K Z G' H' ls out->D.nx (σ.set i (some (.ref a))) H':=λG' a ls H' r s q1 q2 q3 q4 hn lI=>by
     obtain⟨sg,rg⟩:=r.seen q1 q2 q3 q4;exact h _ _ H' (rg.tM (v:=.ref a) ⟨a,ls,rfl,bV,hn,lI.move sg λl o ys k1 k2 k3=>⟨k1,by rw[aU (iD k1 q1 (λz=>nomatch z))];exact k2,k3⟩⟩) (s.trans sg)
    cases w with
    |tup us=>
     cases hw;obtain⟨a,xs,rfl,hq,rp⟩:=p2;exact⟨a,rfl,.inr ⟨⟨xs,r2.sub.tup hq⟩,Oh (Q:=λx H1=>bx i x σ H1 D.nx) Jq r2 (s1.trans s2) rp (λG' H' s s'=>ak.tup s' (ak.tup s hq)) hl io ho fin⟩⟩
    |lst us=>
     cases hw;obtain⟨a,xs,rfl,hq,rp⟩:=p2;exact⟨a,rfl,.inl ⟨⟨xs,r2.sub.seq hq⟩,Oh (Q:=λx H1=>bx i x σ H1 D.nx) Jw r2 (s1.trans s2) rp (λG' H' s s'=>ak.seq s' (ak.seq s hq)) hl io ho fin⟩⟩
    |_=>cases hw
   .exact h.elim
  .exact h.elim
 .exact h.elim
end
def sW(a:Int)(k2:W)(e2:List S):Option S->R W
 |some (.nest bo)=>match k2 with
  |.int b=>ba ((bY bo a).bind λws=>bY ws b) e2
  |_=>.no
 |_=>.no
def sU(i:Nat)(d2:Den W)(k1:W)(e1:List S):Option S->R W
 |some (.nest bo)=>match k1 with
  |.int a=>if(bY bo a).isSome=true then(d2 e1).bind λk2 e2=>sW a k2 e2 e2[i]? else .no
  |_=>.no
 |_=>.no
def sT(k:R W):Option S->R W
 |some (.nest _)=>k
 |_=>.no
def m6(i:Nat)(d1 d2:Den W):Den W:=λe=>sT ((d1 e).bind λk1 e1=>sU i d2 k1 e1 e1[i]?) e[i]?
theorem yM{e:List S}(h:e.all (λs=>!mQ s)=true):∀s∈e,mQ s=false:=λs hs=>by
 grind
def HN{Ad:List Addr}(h:ls.map V.ref=Ad.map V.ref):ls=Ad:=by
 induction ls generalizing Ad with
 |nil=>simp_all
 |cons a ls ih=>cases Ad with
  |nil=>cases h
  |cons b Ad=>
   grind
def aX.bY{i:Int}(h:aX K Z G H ls bo)(e:L2.bY bo i=some ws):∃j l o ys,gG bo.length i=some j/\ls[j]?=some l/\L2.bY (ls.map V.ref) i=some (.ref l)/\oQ Z G H l o ys/\ao K G ws ys:=by
 have hl:=h.len;unfold L2.bY at e;cases q:gG bo.length i with
 |none=>rw[q]at e;cases e
 |some j=>
  rw[q]at e;obtain⟨l,o,ys,h1,h2,h3⟩:=h.at e;refine⟨j,l,o,ys,rfl,h1,?_,h2,h3⟩;unfold L2.bY;rw[w0a,hl,q];simp[h1]
section
variable{Z:Zt}{a b k:Expr}{es:List Expr}{d1 d2 dk dv:Den W}{dA:Den (List W)}{x:Str}{p cL d6:Pos}
def z8o(i:Nat)(h1:DE Z X EE a d1)(h2:DE Z X EE b d2)(hN:autoParam (X.N[i]?=some x) jJ)(hv:autoParam (jI X.env.scope x) jN)(hd:autoParam ((x==("__debug__":Str))=false) jK)(ei:autoParam ((x==("__classdict__":Str))=false) jK)
  (kS:d7 a:=by intro _ _;rfl)(iL:d7 b:=by intro _ _;rfl):DE Z X EE (.Subscript (.Subscript (.Name x p) a cL) b pos) (m6 i d1 d2):=by
 refine PE.mono (wY g_ (wY g_ (pv i hN hv hd ei) h1 kS) h2 iL) ?_;rintro σ H Q ⟨G,e,rel,h⟩;unfold m6 sT at h;split at h
 .rename_i BK nr;obtain⟨aa,ls,g1,g2,g3,g4⟩:=rel.nest nr;rw[R.au]at h;refine⟨.ref aa,g1,G,e,rel,h.imp (λk1 e1 h G1 v1 H1 r1 s1 p1=>?_) λ_ _ h=>h⟩
  unfold sU at h;split at h
  .rename_i BL qe;split at h
   .rename_i n1;split at h
    .rename_i fG;cases p1;obtain⟨a1,Ae,f1,f2,f3,f4⟩:=r1.nest qe;rw[g1]at f1;cases f1;obtain⟨ws,zU⟩:=w1q.mp fG;obtain⟨j,l,o,ys,_,m1,m2,m3,m4⟩:=f4.bY zU;refine⟨aa,_,n1,_,rfl,rfl,bB.of (r1.sub _ _ f2),m2,G1,e1,r1,?_⟩;rw[R.au]at h;refine h.imp (λk2 e2 h G2 v2 H2 r2 s2 p2=>?_) λ_ _ h=>XH.trans s1 h
     unfold sW at h;split at h
     .rename_i BN km;split at h
      .rename_i n2;rw[aS]at h;obtain⟨w,hw,h⟩:=h;cases p2;obtain⟨a2,Af,u1,u2,u3,u4⟩:=r2.nest km;rw[g1]at u1;cases u1;have sN:Ae=Af:=HN (by have z:=s2 _ _ f2;rw[u2]at z;injection z with z;injection z with z;first|exact z|exact z.symm);subst sN;obtain⟨IT,qk,hw⟩:=w1d.mp hw;obtain⟨j2,l2,o2,r_,_,t1,t2,t3,t4⟩:=u4.bY qk;rw[m2]at t2;injection t2 with t2;injection t2 with t2;subst t2
       obtain⟨v,SN,Ti⟩:=t4.bY hw;exact⟨l,r_,n2,v,rfl,rfl,.inl (.inr ⟨o2,t3.1⟩),SN,h G2 v H2 r2 (s1.trans s2) Ti⟩
      .exact h.elim
     .exact h.elim
    .exact h.elim
   .exact h.elim
  .exact h.elim
 .exact h.elim
def kC(i:Nat)(f:List W->List W->Option (List W))(a:Int)(as:List W)(e2:List S):Option S->SR
 |some (.nest bo)=>match gG bo.length a,(bY bo a).bind λws=>f ws as with
  |some j,some ws'=>if(e2.set i .no).all (λs=>!mQ s)=true then .nx (e2.set i (.fr (.lst ((bo.set j ws').map W.lst))))else .no
  |_,_=>.no
 |_=>.no
def mq(i:Nat)(f:List W->List W->Option (List W))(dA:Den (List W))(k1:W)(e1:List S):Option S->SR
 |some (.nest bo)=>match k1 with
  |.int a=>if(bY bo a).isSome=true then(dA e1).cq λas e2=>kC i f a as e2 e2[i]? else .no
  |_=>.no
 |_=>.no
def mn(k:SR):Option S->SR
 |some (.nest _)=>k
 |_=>.no
def gh(i:Nat)(f:List W->List W->Option (List W))(dk:Den W)(dA:Den (List W)):List S->SR:=λe=>mn ((dk e).cq λk1 e1=>mq i f dA k1 e1 e1[i]?) e[i]?
def nM(w:W)(ws:List W):List W->Option (List W)
 |[.int n]=>(gG ws.length n).map λj=>ws.set j w
 |_=>none
def yH(f:List W->List W->Option (List W))(r:V->List V->Hp->VK->Prop):Prop:=
 ∀(K:Fg)(G H:Hp)(l:Addr)(ws ws' as:List W)(ys vs:List V)(Q:VK),H l=some (.lst ys)->ao K G ws ys->ao K G as vs->f ws as=some ws' ->
  (∀u pD,ao K G ws' pD->Q u (upd H l (.lst pD)))->r (.ref l) vs H Q
def ZO(i:Nat){nm:Str}{id:String}{r:V->List V->Hp->VK->Prop}{f:List W->List W->Option (List W)}(hf:yH f r){apos bc:Pos}(slot:Slot "list" nm id)(zT:typeOf (.builtin id)=pure (.type "method_descriptor"))(hm:xy X id r)(hz:Z.H=X.aA)
  (hk:DE Z X EE k dk)(ha:DA Z X EE (a::es) dA)(hN:autoParam (X.N[i]?=some x) jJ)(hv:autoParam (jI X.env.scope x) jN)(hd:autoParam ((x==("__debug__":Str))=false) jK)(ei:autoParam ((x==("__classdict__":Str))=false) jK)
  (hs:d7 k:=by intro _ _;rfl)(dQ:autoParam (attributeBase (.Subscript (.Name x p) k cL) nm X.env (eval (.Subscript (.Name x p) k cL) X.env)=eval (.Subscript (.Name x p) k cL) X.env) jJ)
  (gE:autoParam (((backTo bc (starEach (a::es) X.env)).all (λx=>!x.1)&&(backToKw bc (keywordEach [] X.env)).all (λx=>x.1.isSome)&&decide ((a::es).length+([]:List Keyword).length+(if([]:List Keyword).isEmpty then 0 else 1)<30))=true) jJ)
  (dW:autoParam ((apos.endLine==bc.line)=true) jJ)(jY:autoParam (starEach (a::es) X.env=(false,eval a X.env)::starEach es X.env) jJ)(cI:autoParam ((backTo bc (starEach es X.env)).any (·.1)=false) jJ)
  (nB:autoParam (swapsWith (.Call (.Attribute (.Subscript (.Name x p) k cL) nm apos) (a::es) [] bc) none pos.line X.env=pure false) jJ):
  DS Z X EE (.Expr (.Call (.Attribute (.Subscript (.Name x p) k cL) nm apos) (a::es) [] bc) pos) (gh i f dk dA):=by
 refine PS.mono (Dn (DU PySem.F.plainAttrs_list slot zT (ZA hm) (wY g_ (pv i hN hv hd ei) hk hs) ha dQ gE dW jY cI) nB) ?_;rintro D σ H ⟨G,e,rel,h⟩;unfold gh mn at h;split at h
 .rename_i BK nr;obtain⟨aa,ls,g1,g2,g3,g4⟩:=rel.nest nr;refine⟨.ref aa,g1,G,e,rel,(iQ h).imp (λk1 e1 h G1 v1 H1 r1 s1 p1=>?_) λ_ _ h=>h⟩
  unfold mq at h;split at h
  .rename_i BL qe;split at h
   .rename_i n1;split at h
    .rename_i fG;cases p1;obtain⟨a1,Ae,f1,f2,f3,f4⟩:=r1.nest qe;rw[g1]at f1;cases f1;obtain⟨ws,zU⟩:=w1q.mp fG;obtain⟨j,l,o,ys,_,m1,m2,m3,m4⟩:=f4.bY zU;refine⟨aa,_,n1,_,rfl,rfl,bB.of (r1.sub _ _ f2),m2,.inl ⟨rfl,ys,.inl (.inr ⟨o,m3.1⟩)⟩,G1,e1,r1,?_⟩;refine(iQ (σ:=σ) h).imp (λas e2 h G2 vs H2 r2 s2 p2=>?_) λ_ _ h=>XH.trans s1 h
     unfold kC at h;split at h
     .rename_i BN km;split at h
      .rename_i j2 ws' EZ zC;split at h
       .rename_i hT;obtain⟨a2,Af,u1,u2,u3,u4⟩:=r2.nest km;rw[g1]at u1;cases u1;have sN:Ae=Af:=HN (by have z:=s2 _ _ f2;rw[u2]at z;injection z with z;injection z with z;exact z.symm);subst sN;obtain⟨IT,qk,zC⟩:=w1d.mp zC;obtain⟨j3,l2,o2,r_,t0,t1,t2,t3,t4⟩:=u4.bY qk;rw[EZ]at t0;cases t0;rw[m2]at t2;injection t2 with t2;injection t2 with t2;subst t2
        refine⟨l,o2,r_,rfl,t3.1,λ_ _ z=>(by rw[<- hz,t3.2.2]at z;cases z),?_⟩
        refine hf X.K G2 _ l IT ws' as r_ vs _ bV t4 p2 zC λu pD hr=>?_
        rw[show upd (upd H2 l (.lst r_)) l (.lst pD)=upd H2 l (.lst pD)from by funext c;unfold upd;split<;>rfl]
        obtain⟨G',sg,_,r'⟩:=r2.opened (H':=upd H2 l (.lst pD)) km g1 u2 u4 (yM hT) (λc hc=>aU λz=>hc (by rw[z];exact w0u t1)) (u4.qr hr u3 t1)
        exact h G' σ _ r' ((s1.trans s2).trans sg)
       .exact h.elim
      .exact h.elim
     .exact h.elim
    .exact h.elim
   .exact h.elim
  .exact h.elim
 .exact h.elim
def tq(d:Den W):Den (List W):=λe=>(d e).bind λw e1=>.ok [w] e1
def gj(i:Nat)(dv dk d2:Den W):List S->SR:=λe=>(dv e).cq λw e1=>gh i (nM w) dk (tq d2) e1
def ZP(i:Nat)(hz:Z.H=X.aA)(sR:DE Z X EE a dv)(hk:DE Z X EE k dk)(h2:DE Z X EE b d2)(hN:autoParam (X.N[i]?=some x) jJ)(hv:autoParam (jI X.env.scope x) jN)(hd:autoParam ((x==("__debug__":Str))=false) jK)(ei:autoParam ((x==("__classdict__":Str))=false) jK)
  (hs:d7 k:=by intro _ _;rfl)
  (ha:∀v,assign (.Subscript (.Subscript (.Name x p) k cL) b d6) X.env v=(do
   let ov <- holding [v] (eval (.Subscript (.Name x p) k cL) X.env)
   let iv <- holding [v,ov] (eval b X.env)
   standAt d6
   holding [v,ov,iv] (setItem ov iv v)
   release [v,ov,iv] []):=by intro _;rfl)
  (kS:autoParam (swapsWithSole [.Subscript (.Subscript (.Name x p) k cL) b d6] a pos.line X.env=pure false) jJ)(hw:autoParam (swappedStores [.Subscript (.Subscript (.Name x p) k cL) b d6] a X.env=pure none) jJ)
  (h1:autoParam ((assignEach [.Subscript (.Subscript (.Name x p) k cL) b d6] X.env).map (·.2)=[assign (.Subscript (.Subscript (.Name x p) k cL) b d6) X.env]) jJ):
  DS Z X EE (.Assign [.Subscript (.Subscript (.Name x p) k cL) b d6] a pos) (gj i dv dk d2):=by
 refine PS.mono (Pn sR (Pl (wY g_ (pv i hN hv hd ei) hk hs) h2 Yg ha) kS hw h1) ?_;rintro D σ H ⟨G,e,rel,h⟩;refine⟨G,e,rel,(iQ h).imp (λw e0 h G0 v0 H0 r0 s0 p0=>?_) λ_ _ h=>h⟩
 unfold gh mn at h;split at h
 .rename_i BK nr;obtain⟨aa,ls,g1,g2,g3,g4⟩:=r0.nest nr;refine⟨.ref aa,g1,G0,e0,r0,(iQ (σ:=σ) h).imp (λk1 e1 h G1 v1 H1 r1 s1 p1=>?_) λ_ _ h=>XH.trans s0 h⟩
  unfold mq at h;split at h
  .rename_i BL qe;split at h
   .rename_i n1;split at h
    .rename_i fG;cases p1;obtain⟨a1,Ae,f1,f2,f3,f4⟩:=r1.nest qe;rw[g1]at f1;cases f1;obtain⟨ws,zU⟩:=w1q.mp fG;obtain⟨j,l,o,ys,_,m1,m2,m3,m4⟩:=f4.bY zU;refine⟨aa,_,n1,_,rfl,rfl,bB.of (r1.sub _ _ f2),m2,G1,e1,r1,?_⟩
     have h:bw X.K Z EE D G ((d2 e1).cq λw2 e2=>kC i (nM w) n1 [w2] e2 e2[i]?):=by
      unfold tq at h;cases q:d2 e1 with
      |ok w2 e2=>rw[q]at h;exact h
      |ex c e2=>rw[q]at h;exact h
      |no=>rw[q]at h;exact h
     refine(iQ (σ:=σ) h).imp (λw2 e2 h G2 v2 H2 r2 s2 p2=>?_) λ_ _ h=>XH.trans (s0.trans s1) h
     unfold kC at h;split at h
     .rename_i BN km;split at h
      .rename_i j2 ws' EZ zC;split at h
       .rename_i hT;obtain⟨a2,Af,u1,u2,u3,u4⟩:=r2.nest km;rw[g1]at u1;cases u1;have sN:Ae=Af:=HN (by have z:=s2 _ _ f2;rw[u2]at z;injection z with z;injection z with z;first|exact z|exact z.symm);subst sN;obtain⟨IT,qk,B9⟩:=w1d.mp zC;obtain⟨j3,l2,o2,r_,t0,t1,t2,t3,t4⟩:=u4.bY qk;rw[EZ]at t0;cases t0;rw[m2]at t2;injection t2 with t2;injection t2 with t2;subst t2
        unfold nM at B9;split at B9
        .rename_i n2 ou;injection ou with ou _
         subst ou;cases p2;obtain⟨j4,hj4,rfl⟩:=w0h.mp B9;refine⟨l,o2,r_,rfl,t3.1,λ_ _ z=>(by rw[<- hz,t3.2.2]at z;cases z),l,r_,n2,j4,rfl,rfl,bV,by grind [ao.length],?_⟩
         rw[show ∀u,upd (upd H2 l (.lst r_)) l u=upd H2 l u from λu=>by grind [upd]]
         obtain⟨G',sg,_,r'⟩:=r2.opened (H':=upd H2 l (.lst (r_.set j4 v0))) km g1 u2 u4 (yM hT) (λc hc=>aU λz=>hc (by grind)) (u4.qr (t4.set j4 (Rep.mono (s1.trans s2) w p0)) u3 t1)
         exact h G' σ _ r' (((s0.trans s1).trans s2).trans sg)
        .cases B9
       .exact h.elim
      .exact h.elim
     .exact h.elim
    .exact h.elim
   .exact h.elim
  .exact h.elim
 .exact h.elim
end
theorem z2c:ki i js di d e=(di e).cq λw e1=>oA i js d e1 (eu w):=rfl
theorem x92:oA i js d e (some ws)=if ws.length<=16777216 then oz i (aW js e) (iI d (fM js (aW js e)) ws)else .no:=rfl
theorem x93:oz i e (some bo)=.nx (e.set i (.nest bo)):=rfl
theorem MY:∀(ws:List W),(∀w∈ws,∃e',d (.fr w::pe)=.ok (g w) e')->iI d pe ws=some (ws.map g)
 |[],_=>rfl
 |w::ws,h=>by
  obtain⟨e',h1⟩:=h w (by simp);unfold iI;rw[h1,MY ws λu hu=>h u (by simp[hu])]
  rfl
theorem z8p:m6 i d1 d2 e=sT ((d1 e).bind λk1 e1=>sU i d2 k1 e1 e1[i]?) e[i]?:=rfl
theorem z8q:sT k (some (.nest bo))=k:=rfl
theorem z8r:sU i d2 (.int a) e (some (.nest bo))=if(bY bo a).isSome=true then(d2 e).bind λk2 e2=>sW a k2 e2 e2[i]? else .no:=rfl
theorem z8s:sW a (.int b) e (some (.nest bo))=ba ((bY bo a).bind λws=>bY ws b) e:=rfl
theorem z2d:gh i f dk dA e=mn ((dk e).cq λk1 e1=>mq i f dA k1 e1 e1[i]?) e[i]?:=rfl
theorem z2e:mn k (some (.nest bo))=k:=rfl
theorem z2f:mq i f dA (.int a) e (some (.nest bo))=if(bY bo a).isSome=true then(dA e).cq λas e2=>kC i f a as e2 e2[i]? else .no:=rfl
def Dq(h1:gG bo.length a=some j)(h2:(bY bo a).bind (λws=>f ws us)=some ws')(h3:(e.set i .no).all (λs=>!mQ s)=true):kC i f a us e (some (.nest bo))=.nx (e.set i (.fr (.lst ((bo.set j ws').map W.lst)))):=by
 show(match gG bo.length a,(bY bo a).bind λws=>f ws us with|some j,some ws'=>_|_,_=>_)=_
 grind
theorem z2g{dv:Den W}:gj i dv dk d2 e=(dv e).cq λw e1=>gh i (nM w) dk (tq d2) e1:=rfl
theorem z8t:tq d e=(d e).bind λw e1=>.ok [w] e1:=rfl
end D
namespace L2
open PySem PySem.Spec PyProof.Rows
section
variable{σ:St}{H:Hp}{s:Shared}{a:Addr}{sh:Sh}{kvs:List (Kx×V)}{bp:List Addr}
theorem VT(hd:(d==sysModules)=false):
  MeetsIn prog w (Builtin.«dict.__len__» ⟨[.ref d],[]⟩) (λ_ R s=>∃o es ep,s.heap.get? d=some o/\o.data=.dict es ep/\R (.ok (.ret (.int es.size s.toks))) {s with toks:=s.toks+1}):=
 .of_wp λA R s ⟨o,es,ep,ho,vM,h⟩=>by
  show wpAny _ _ (dictSize d >>= _) _ _ s;unfold dictSize;refine wpAny_bind (wpAny_bind (wpAny_dictEntries ho vM (wpAny_pure ?_)));show wpAny _ _ (Builtin.Dict.pendingCount d >>= _) _ _ s;refine wpAny_bind (wpAny_pendingCount_other hd ?_);refine wpAny_ret_mkInt ?_
  grind
def z8u(I:Inv X pins σ H s)(e:Rd H a (.dT sh kvs bp))(h:∀t s',Inv X pins σ H s'->Q (.int kvs.length t) s'):wpAny (model X.prog X.w) A (call (.builtin "len") [.ref a]) Q E s:=by
 obtain⟨z,hd,xs,rel,_,dd⟩:=BQ I.aG e;have hT:=dd.typeIs;obtain⟨o,es,ep,ho,_,vM,EN,_⟩:=dd;have hsz:es.size=kvs.length:=by rw[size_of_entries EN,Paired.length rel]
 rw[sizeLine_eq]at z;refine Calls.call_function_entry kind_len plain_len entry_len (args_len1 _) ?_
 unfold Builtin.«len»;refine wpAny_bind (m:=oneArg "len" _) (wpAny_pure ?_)
 refine wpAny_bind (m:=callSpecial? (.ref a) (Str.ofString "__len__")) (wpAny_callSpecial?_slot (name:=Str.ofString "__len__") hT F.slot_dict_len
  (call_meetsIn F.slot_dict_len hT F.entry_dict_len (F.args_dict_len_1 _) (VT hd) ⟨o,es,ep,ho,vM,?_⟩))
 rw[hsz];show wpAny _ _ _ _ _ {s with toks:=s.toks+1};refine wpAny_bind (wpAny_holding (wpAny_pure ?_));refine wpAny_bind (wpAny_letGo ?_);show wpAny _ _ (if((kvs.length:Nat):Int)<0 then _ else _) _ _ _;rw[if_neg (by omega)];show wpAny _ _ (if((kvs.length:Nat):Int)>=2^63 then _ else _) _ _ _;rw[if_neg (by omega)];exact wpAny_bind (wpAny_mkInt (wpAny_pure ⟨_,rfl,h _ _ (I.tok _)⟩))
def A_:List V->Hp->VK->Prop:=λxs H Q=>∃a sh kvs bp,xs=[.ref a]/\Rd H a (.dT sh kvs bp)/\Q (.int kvs.length) H
def W9:cX X (.builtin "len") A_:=by
 intro pins s σ H xs us Q I r h;obtain⟨a,sh,kvs,bp,rfl,e,q⟩:=h;obtain⟨u,rfl,rx⟩:=vals1 r;cases(show u=Value.ref a from rx);exact z8u I e λt s' I'=>⟨.int kvs.length,H,I',⟨t,rfl⟩,q⟩
end
def A9:List V->Hp->VK->Prop:=λxs H Q=>∃a kvs,xs=[.ref a]/\Rd H a (.dK kvs)/\Q (.int kvs.length) H
def W_:cX X (.builtin "len") A9:=by
 intro pins s σ H xs us Q I r h;obtain⟨a,kvs,rfl,e,q⟩:=h;obtain⟨u,rfl,rx⟩:=vals1 r;cases(show u=Value.ref a from rx);exact Q8 I e λt s' I'=>⟨.int kvs.length,H,I',⟨t,rfl⟩,q⟩
end L2
namespace D
open PySem L2 PySem.Spec PyProof.Rows
open Classical
variable{a b:Addr}{fz:Bool}{X:Cx}{d dk:Den W}{G H:Hp}{σ:L2.St}{EE:L2.St->XK}{ks:List Kx}{e:List S}{ws:List W}{i:Nat}{pos:Pos}{K:Fg}{sh:Sh}{x:Str}{v:V}{Z:Zt}
mutual
noncomputable def xP:W->Option Kx
 |.aE=>some .aE
 |.bl b=>some (.bl b)
 |.int i=>some (.int i)
 |.str x=>some (.str x)
 |.tup ws=>(hW ws).map .tup
 |_=>none
noncomputable def hW:List W->Option (List Kx)
 |[]=>some []
 |w::ws=>match xP w,hW ws with
  |some k,some ks=>some (k::ks)
  |_,_=>none
end
def eE(K:Fg):Prop:=∀a o,K.lookup a=some o->o.cls≠.type "tuple"
def cZ.rd{xs:List V}(hK:eE K)(q:cZ K G a xs):Rd G a (.tup xs):=by
 rcases q with q|⟨o,aw,n,h1,h2,_⟩
 .exact q
 .exact absurd h2 (hK a o h1)
mutual
theorem P0{K:Fg}{G H:Hp}(hK:eE K)(s:ak G H):∀(w:W){k:Kx}{v:V},xP w=some k->Rep K G w v->cx H k v
 |.bl b,k,v,e,r=>by cases e;exact r
 |.int b,k,v,e,r=>by cases e;exact r
 |.str b,k,v,e,r=>by cases e;exact r
 |.tup ws,k,v,e,r=>by
  have e:(hW ws).map Kx.tup=some k:=e;obtain⟨ks,h1,rfl⟩:=w0h.mp e;obtain⟨a,xs,rfl,q,rs⟩:=r;refine⟨a,xs,rfl,?_,Ol hK s ws h1 rs⟩;rcases cZ.rd hK q with z|⟨o,z⟩
  .exact .inl (s _ _ z)
  .exact .inr ⟨o,s _ _ z⟩
 |.aE,k,v,e,r=>by cases e;exact r
 |.lst _,k,v,e,r=>by cases e
 |.exc _,k,v,e,r=>by cases e
 |.a8 _,k,v,e,r=>by cases e
 |.dw _ _ _ _,k,v,e,r=>by cases e
 |.fn _ _ _,k,v,e,r=>by cases e
theorem Ol{K:Fg}{G H:Hp}(hK:eE K)(s:ak G H):∀(ws:List W){ks:List Kx}{vs:List V},hW ws=some ks->ao K G ws vs->e_ H ks vs
 |[],ks,vs,e,r=>by cases e;exact r
 |w::ws,ks,vs,e,r=>by
  have e:(match xP w,hW ws with|some k,some ks=>some (k::ks)|_,_=>none)=some ks:=e;split at e
  .rename_i k0 S7 h1 h2;cases e;obtain⟨x,xs,rfl,r1,r2⟩:=r;exact⟨x,xs,rfl,P0 hK s w h1 r1,Ol hK s ws h2 r2⟩
  .cases e
end
def j0:W->Option Kx
 |.tup ws=>(hW ws).map .tup
 |_=>none
def HP(hK:eE K)(s:ak G H){w:W}{k:Kx}(e:j0 w=some k)(r:Rep K G w v):∃b,v=.ref b/\cx H k (.ref b):=by
 cases w with
 |tup ws=>
  have z:=P0 hK s (.tup ws) e r;obtain⟨a,xs,rfl,q,rs⟩:=r;exact⟨a,rfl,z⟩
 |_=>cases e
def fits(k:Kx)(sh:Sh):Prop:=fe k sh/\k.depth<=7
theorem cY.snoc{k:Kx}(hk:cx G k (.ref b)):∀{ks:List Kx}{bs:List Addr},cY G ks bs->cY G (ks++[k]) (bs++[b])
 |[],[],_=>⟨hk,trivial⟩
 |_::_,_::_,h=>⟨h.1,cY.snoc hk h.2⟩
 |[],_::_,h=>h.elim
 |_::_,[],h=>h.elim
def mi:List Kx->List W->Kx->Option W
 |k::ks,w::ws,x=>if k=x then some w else mi ks ws x
 |_,_,_=>none
theorem JA{K:Fg}{G:Hp}{x:Kx}:∀{kvs:List (Kx×V)}{ws:List W},ao K G ws (kvs.map (·.2)) ->
  (∀w,mi (kvs.map (·.1)) ws x=some w->∃v,fi kvs x=some v/\Rep K G w v)/\(mi (kvs.map (·.1)) ws x=none->fi kvs x=none)
 |[],ws,r=>by
  cases ws with
  |nil=>exact⟨(λw z=>nomatch z),λ_=>rfl⟩
  |cons w ws=>obtain⟨_,_,z,_⟩:=r;cases z
 |p::kvs,[],r=>by cases(show _=[]from r)
 |p::kvs,w::ws,r=>by
  obtain⟨v,rr,z,h1,h2⟩:=r;cases z;have ih:=JA (x:=x) h2
  by_cases e:p.1=x
  all_goals simp_all [mi,AQ,AR]
def sq.rd{kvs:List (Kx×V)}{bp:List Addr}(s:ak G H)(h:sq fz G a sh kvs bp):Rd H a (oj sh kvs bp):=by
 cases fz with
 |true=>obtain⟨o,h⟩:=h;exact .inr ⟨o,s _ _ h⟩
 |false=>exact .inl (s _ _ h)
def K4{t:Kx}(kr:cx H t (.ref b))(hc:fits t sh):sh.rP=false:=by
 cases sh with
 |int=>
  cases t with
  |int i=>exact nomatch (show V.ref b=V.int i from kr)
  |_=>exact hc.1.elim
 |str=>
  cases t with
  |str i=>exact nomatch (show V.ref b=V.str i from kr)
  |_=>exact hc.1.elim
 |_=>rfl
def Cj(w d:W):Option W:=match j0 w,d with
 |some k,.dw _ sh ks ws=>if fits k sh then some (.bl (mi ks ws k).isSome)else none
 |_,_=>none
def o4(w d:W):Option W:=match j0 w,d with
 |some k,.dw _ sh ks ws=>if fits k sh then some (.bl (!(mi ks ws k).isSome))else none
 |_,_=>none
def vY(d w:W):Option W:=match j0 w,d with
 |some k,.dw _ sh ks ws=>if fits k sh then mi ks ws k else none
 |_,_=>none
def mf:List W->Option W
 |[.dw _ _ ks _]=>some (.int ks.length)
 |_=>none
def P1{k:Kx}(s:ak G H)(p:Rep K G (.dw fz sh ks ws) v)(kr:cx H k (.ref b))(hc:fits k sh):
  ∃a o,v=.ref a/\fo H a (.ref b) o/\(∀w,mi ks ws k=some w->∃u,o=some u/\Rep K G w u)/\(mi ks ws k=none->o=none):=by
 obtain⟨a,kvs,bp,rfl,h1,rfl,h3,h4⟩:=p;refine⟨a,_,rfl,fo.t (by have:=h1.rd s;rwa [yi (K4 kr hc)]at this) ⟨kr,hc⟩,?_⟩;exact JA h4
def ZQ(hK:eE K):ik K (λy x H Q=>∃a o,x=.ref a/\fo H a y o/\Q (.bl (!o.isSome)) H) o4:=by
 intro G H x y wx wy w Q s px py hf h;unfold o4 at hf;split at hf
 .rename_i k fz sh ks ws hk;split at hf
  .rename_i hc;cases hf;obtain⟨b,rfl,kr⟩:=HP hK s hk px;obtain⟨a,o,rfl,g,g1,g2⟩:=P1 s py kr hc;refine⟨a,o,rfl,g,h G _ H (.refl s) ?_⟩;show V.bl (!o.isSome)=V.bl (!(mi ks ws k).isSome);cases q:mi ks ws k with
   |none=>rw[g2 q];rfl
   |some w=>grind
  .cases hf
 .cases hf
def z8v(hK:eE K):ik K (λx y H Q=>∃a v,x=.ref a/\fo H a y (some v)/\Q v H) vY:=by
 intro G H x y wx wy w Q s px py hf h;unfold vY at hf
 grind [HP,P1,aM.refl]
def u0:List V->Hp->VK->Prop:=λxs H Q=>∃a sh kvs bp,xs=[.ref a]/\Rd H a (oj sh kvs bp)/\Q (.int kvs.length) H
def W':cX X (.builtin "len") u0:=by
 intro pins s σ H xs us Q I r h;obtain⟨a,sh,kvs,bp,e1,e2,q⟩:=h;cases hI:sh.rP with
 |false=>rw[yi hI]at e2;exact W9 pins s σ H xs us Q I r ⟨a,sh,kvs,bp,e1,e2,q⟩
 |true=>
  rw[show oj sh kvs bp=.dK (kvs.map λp=>(KZ p.1,p.2))from if_pos hI]at e2
  exact W_ pins s σ H xs us Q I r ⟨a,_,e1,e2,by grind⟩
def ZR:pM K u0 mf:=by
 intro G H xs ws w Q s pr hf h;unfold mf at hf;split at hf
 .rename_i fz sh ks vs;cases hf;obtain⟨x,r,rfl,px,pr⟩:=pr;cases(show r=[]from pr);obtain⟨a,kvs,bp,rfl,h1,rfl,h3,h4⟩:=px;refine⟨a,sh,kvs,bp,rfl,h1.rd s,h G _ H (.refl s) ?_⟩;show V.int _=V.int _;rw[w0a]
 .cases hf
section
variable{a b e k o:Expr}{es:List Expr}{da db:Den W}{dA:Den (List W)}{p d6:Pos}{body:List Stmt}{s1:List S->SR}
theorem z2j(hK:eE X.K)(hu:X.A.units+150<cLine)(ha:DE Z X EE a da)(hb:DE Z X EE b db)(hm:autoParam (behindInMarks .NotIn b=false) jJ):DT Z X EE (.Compare a [.NotIn] [b] pos) (ay (av o4 da db)):=
 PT.mono (Pj (MX (by omega) ha hb) hm) λσ H Q h=>uV (ZQ hK) σ H _ (Hi h)
theorem z8w(hK:eE X.K)(hu:X.A.units+150<cLine)(ha:DE Z X EE a da)(hb:DE Z X EE b db)(hs:su b:=by intro _ _;rfl):DE Z X EE (.Subscript a b pos) (av vY da db):=
 PE.mono (Oa (by omega) ha hb hs) (uV (z8v hK))
theorem z2k(hm:X.mg "len"=none)(ha:DA Z X EE [e] dA)(hg:autoParam (Gl X "len") jJ)(he:autoParam (starEach [e] X.env=(false,eval e X.env)::starEach [] X.env) jJ)(du:autoParam ((backTo pos (starEach [] X.env)).any (·.1)=false) jJ):DE Z X EE (.Call (.Name "len" p) [e] [] pos) (cU mf dA):=
 A2 W' ZR PySem.boot_len hm ha hg (by decide) (by decide) he du
def ql:S->Bool
 |.dw _ _ _=>true
 |.a8 _=>true
 |_=>false
def Rel.Rq{e:List S}(r:Rel K Z G σ H e)(h:e[i]?=some (.dw sh ks ws)):∃a kvs bp,σ[i]?=some (some (.ref a))/\H a=some (oj sh kvs bp)/\G a=none/\Z.H a=none/\kvs.map (·.1)=ks/\cf sh G ks bp/\fb K Z G sh ws (kvs.map (·.2)):=by
 obtain⟨a,kvs,bp,h1,h2,h3,h4,h5,h6,h7⟩:=r.slot i _ h;refine⟨a,kvs,bp,?_,h2,h3,h4,h5,h6,h7⟩;cases q:σ[i]? with
 |none=>rw[q]at h1;cases h1
 |some z=>rw[q]at h1;rw[show z=some (V.ref a)from h1]
def Rel.dw{e:List S}(r:Rel K Z G σ H e)(h:e[i]?=some (.dw sh ks ws)):∃a kvs bp,σ[i]?=some (some (.ref a))/\H a=some (oj sh kvs bp)/\G a=none/\Z.H a=none/\kvs.map (·.1)=ks/\cf sh G ks bp/\ao K G ws (kvs.map (·.2)):=by
 obtain⟨a,kvs,bp,h1,h2,h3,h4,h5,h6,h7⟩:=r.Rq h;exact⟨a,kvs,bp,h1,h2,h3,h4,h5,h6,h7.mw⟩
def Rel.Iu{e:List S}(r:Rel K Z G σ H e){s:S}(hs:∀b ws,s≠.own b ws)(q:ft K Z G H s (some v)):Rel K Z G (σ.set i (some v)) H (e.set i s):=by
 refine⟨r.sub,λj t z=>?_,by simpa using r.len,λj k b1 b2 w1 w2 c z1 z2 z3 z4=>?_,r.ent,r.ko,r.gen⟩
 .by_cases hj:j=i
  .subst hj
   have hi:j<e.length:=by
    have:=(w0b.mp z).1;simpa using this
   rw[w0i hi]at z;cases z;rw[w0i (by rw[<- r.len];exact hi)];exact q
  .rw[w0g (λz=>hj z.symm)]at z |-
   exact r.slot j t z
 .have old:∀(k:Nat)(bb:Option Nat)(ww:List W),(e.set i s)[k]?=some (.own bb ww)->k≠i/\e[k]?=some (.own bb ww):=λk bb ww z=>by
   by_cases hk:k=i
   .subst hk
    have hi:k<e.length:=by
     have:=(w0b.mp z).1;simpa using this
    rw[w0i hi]at z;cases z;exact absurd rfl (hs _ _)
   .rw[w0g (λz=>hk z.symm)]at z;exact⟨hk,z⟩
  obtain⟨n1,q1⟩:=old _ _ _ z1;obtain⟨n2,q2⟩:=old _ _ _ z2;rw[w0g (λz=>n1 z.symm)]at z3
  rw[w0g (λz=>n2 z.symm)]at z4
  exact r.lW _ _ _ _ _ _ _ q1 q2 z3 z4
def Rel.Al{e:List S}(r:Rel K Z G σ H e){ks':List Kx}{ws':List W}{a:Addr}{kvs':List (Kx×V)}{v5:List Addr}(h:e[i]?=some (.dw sh ks ws))(ha:σ[i]?=some (some (.ref a)))(ho:∀s∈e.set i .no,ql s=false)
  (h5:kvs'.map (·.1)=ks')(h6:cf sh G ks' v5)(h7:fb K Z G sh ws' (kvs'.map (·.2))):Rel K Z G σ (upd H a (oj sh kvs' v5)) (e.set i (.dw sh ks' ws')):=by
 obtain⟨a',kvs,bp,h1,h2,h3,h4,_⟩:=r.dw h;rw[ha]at h1;cases h1;have hi:i<e.length:=(w0b.mp h).1;refine⟨λc o z=>?_,λj s z=>?_,by simpa using r.len,λj k b1 b2 w1 w2 c z1 z2 z3 z4=>?_,λc o z n=>?_,λc z=>?_,r.gen⟩
 .rw[aU (gA z h3)];exact r.sub c o z
 .by_cases hj:j=i
  .subst hj;rw[w0i hi]at z;cases z;exact⟨a,kvs',v5,by rw[ha];rfl,bV,h3,h4,h5,h6,h7⟩
  .rw[w0g (λz=>hj z.symm)]at z
   have y:=r.slot j s z;cases s with
   |no=>trivial
   |fr w=>exact y
   |own b2 w2=>
    obtain⟨c,ys,y1,y2,y3,y4,y5⟩:=y;refine⟨c,ys,y1,?_,y3,y4,y5⟩;rw[aU (iD y2 h2 (λz=>tH rfl z.symm))];exact y2
   |a8 _=>
    have:=ho _ (w0u (i:=j) (by rw[w0g (λz=>hj z.symm)];exact z))
    cases this
   |nest bo=>exact cy.move y (.refl _) λl o ys k1 k2 k3=>⟨by rw[aU (iD k1 h2 (λz=>tH rfl z.symm))];exact k1,k2,k3⟩
   |dw _ _ _=>
    have:=ho _ (w0u (i:=j) (by rw[w0g (λz=>hj z.symm)];exact z))
    cases this
 .have old:∀(k:Nat)(bb:Option Nat)(ww:List W),(e.set i (S.dw sh ks' ws'))[k]?=some (.own bb ww)->e[k]?=some (.own bb ww):=λk bb ww z=>by
   by_cases hk:k=i
   .subst hk;rw[w0i hi]at z;cases z
   .rw[w0g (λz=>hk z.symm)]at z;exact z
  exact r.lW _ _ _ _ _ _ _ (old _ _ _ z1) (old _ _ _ z2) z3 z4
 .rw[aU (gA z h4)];exact r.ent c o z n
 .by_cases hc:c=a
  .subst hc;rw[bV];exact λz=>nomatch z
  .rw[aU hc];exact r.ko c z
def lV(i:Nat)(sh:Sh):List S->SR:=λe=>.nx (e.set i (.dw sh [] []))
def ZS(i:Nat)(sh:Sh){pos' pV:Pos}(hN:X.N.Nodup)(hI:autoParam (sh.rP=false) jJ)(hi:autoParam (X.N[i]?=some x) jJ)(hx:autoParam (Loc X.env.scope x) jM)(hs:autoParam (swapsWith (.Dict [] [] pV) (some (.Name x pos')) pos.line X.env=pure false) jJ)(hf:autoParam (X.fn x=true\/X.env.scope.names.lookup x=some .local) jL):
  DS Z X EE (.Assign [.Name x pos'] (.Dict [] [] pV) pos) (lV i sh):=by
 refine PS.mono (DV i hN (Yf (sh:=sh)) hi hx hs hf) ?_;rintro D σ H ⟨G,e,rel,h⟩;intro q hq;have g:=aM.nu rel.sub hq (.dT sh [] []);exact h G _ _ ((rel.grow g).Iu (s:=.dw sh [] []) (λ_ _ z=>nomatch z) ⟨q,[],[],rfl,by rw[yi hI];exact bV,rel.sub.free hq,qK rel hq,rfl,.of trivial hI,.nil⟩) (.refl _)
def oE(i:Nat)(w kw:W)(e:List S):Option S->SR
 |some (.dw sh ks ws)=>match j0 kw with
  |some x=>if ks.length<16777216/\(e.set i .no).all (λs=>!ql s)=true/\fits x sh/\mi ks ws x=none/\sh.Fv=false then .nx (e.set i (.dw sh (ks++[x]) (ws++[w])))else .no
  |none=>.no
 |_=>.no
def oD(i:Nat)(dk:Den W)(w:W)(e1:List S):Option S->SR
 |some (.dw _ _ _)=>(dk e1).cq λkw e2=>oE i w kw e2 e2[i]?
 |_=>.no
def lU(i:Nat)(d dk:Den W):List S->SR:=λe=>(d e).cq λw e1=>oD i dk w e1 e1[i]?
def z2m(i:Nat)(hK:eE X.K)(hu:X.A.units+150<cLine)(he:DE Z X EE e d)(hk:DE Z X EE k dk)(hN:autoParam (X.N[i]?=some x) jJ)(hv:autoParam (jI X.env.scope x) jN)(hd:autoParam ((x==("__debug__":Str))=false) jK)(ei:autoParam ((x==("__classdict__":Str))=false) jK)
  (hs:autoParam (swapsWith e (some (.Subscript (.Name x p) k d6)) pos.line X.env=pure false) jJ):DS Z X EE (.Assign [.Subscript (.Name x p) k d6] e pos) (lU i d dk):=by
 refine PS.mono (Of (by omega) (pv i hN hv hd ei) hk he hs) ?_;rintro D σ H ⟨G,e,rel,h⟩;refine⟨G,e,rel,(iQ h).imp (λw e1 h G1 v1 H1 r1 s1 p1=>?_) λ_ _ h=>h⟩
 unfold oD at h;split at h
 .rename_i sh0 S7 IQ nr;obtain⟨a,S8,S4,q1,q2,_⟩:=r1.dw nr;refine⟨.ref a,q1,G1,e1,r1,(iQ (σ:=σ) h).imp (λkw e2 h G2 v2 H2 r2 s2 p2=>?_) λ_ _ h G' H' r s=>h G' H' r (s1.trans s)⟩
  unfold oE at h;split at h
  .rename_i sh ks ws km;obtain⟨a',kvs,bp,g1,g2,g3,g4,g5,g6,g7⟩:=r2.dw km;rw[q1]at g1;cases g1;split at h
   .rename_i t qh;split at h
    .rename_i hc;obtain⟨b,rfl,kr⟩:=HP hK (.refl G2) qh p2;have S6:cx H2 t (.ref b):=cx.keeps (λ_ _ _ z=>r2.sub _ _ z) t kr
     subst g5;have hI:=K4 kr hc.2.2.1;rw[yi hI]at g2;have oY:fi kvs t=none:=(JA g7).2 hc.2.2.2.1;refine⟨a,_,rfl,lL.t g2 ⟨S6,hc.2.2.1⟩ (by rw[sizeLine_eq];have:=hc.1;rw[w0a]at this;exact this),?_⟩;rw[Yc v1 oY,show iP kvs bp t b=bp++[b] by unfold iP;rw[oY];rfl,<- yi hI];refine h G2 σ _ (r2.Al (ks':=kvs.map (·.1)++[t]) (ws':=ws++[w]) km q1 (λs hs=>?_) (by rw[w0x];rfl) (.of (cY.snoc kr (g6.g hI)) hI) ?_) (s1.trans s2)
     .have:=w0w.mp hc.2.1 s hs;simpa using this
     .rw[w0x];exact .of hc.2.2.2.2 (g7.append (.one (Rep.mono s2 w p1)))
    .exact h.elim
   .exact h.elim
  .exact h.elim
 .exact h.elim
end
def e7:Int->List Int->Int
 |x,[]=>x
 |x,y::ys=>e7 (if x<y then y else x) ys
theorem Jj:∀(ys:List Int)(x:Int),(e7 x ys=x\/e7 x ys∈ys)/\x<=e7 x ys/\∀y∈ys,y<=e7 x ys
 |[],x=>⟨.inl rfl,Int.le_refl _,λy hy=>nomatch hy⟩
 |y::ys,x=>by
  obtain⟨h1,h2,h3⟩:=Jj ys (if x<y then y else x);have e:e7 x (y::ys)=e7 (if x<y then y else x) ys:=rfl
  grind
def Xa(hc:X.calm=true):cX X (.builtin "max") (λxs H Q=>∃p n ns,xs=[.ref p]/\bB X.K H p ((n::ns).map V.int)/\Q (.int (e7 n ns)) H):=by
 intro pins s σ H xs us Q I r h;obtain⟨p,n,ns,rfl,hq,q⟩:=h;obtain⟨u,rfl,rx⟩:=vals1 r;cases rx;obtain⟨aw,r',pl,hz⟩:=I.list hq;have hl:=pl.isList;have cb:p<s.heap.objs.size:=by obtain⟨_,e,_⟩:=hl;exact Heap.lt_size e
 have hh:X.A.in1.handled=none:=I.ok.hd hc;have hlen:aw.length=(n::ns).length:=by have:=r'.length;rw[w0a]at this;exact this.symm
 have sR:∀(i:Nat)(v:Value),aw.toArray[i]?=some v->∃t,v=Value.int ((n::ns).getD i 0) t:=λi v hv=>by
  have sQ:aw[i]?=some v:=by simpa using hv
  have hi:i<(n::ns).length:=by rw[<- hlen];exact(w0b.mp sQ).1
  obtain⟨u,hu,ru⟩:=r'.get (i:=i) (x:=V.int ((n::ns).getD i 0)) (by rw[w1i,w0d hi,N_ hi];rfl);rw[sQ]at hu;cases hu;exact ru
 refine call_max_walk (wpAny_pyIter_list hl ⟨s.heap.objs.size,[s.heap.objs.size,p],[s.heap.objs.size],_,_,_,_,rfl,Walks.list hh s.heap.objs.size p (w0m cb) aw.toArray,⟨⟨_,Heap.get?_push_size _ rfl,rfl,rfl⟩,hl.push _⟩,λb hb=>?_,by rw[w1c,hlen];simp,CmpOf.ints_gt (λi=>(n::ns).getD i 0) sR,λv h' tk hP hk=>?_⟩)
 .show b<(s.heap.push _).objs.size;rw[Heap.size_push];rcases w0e.mp hb with e|hb
  .rw[e];exact Nat.lt_succ_self _
  .rw[w1g.mp hb];exact w1r cb
 .obtain⟨t,rfl⟩:=sR _ _ hP;obtain⟨b1,b2⟩:=argBest_gt (λi=>(n::ns).getD i 0) (aw.toArray.size-1)
  have e:(n::ns).getD (argBest (λi j=>decide ((n::ns).getD i 0>(n::ns).getD j 0)) (aw.toArray.size-1)) 0=e7 n ns:=by
   obtain⟨m1,m2,m3⟩:=Jj ns n;have hsz:aw.toArray.size=ns.length+1:=by rw[w1c,hlen];simp
   generalize argBest (λi j=>decide ((n::ns).getD i 0>(n::ns).getD j 0)) (aw.toArray.size-1)=k at b1 b2
   have hk:k<(n::ns).length:=by simp;omega
   have ge:(n::ns).getD k 0<=e7 n ns:=by
    rw[N_ hk];rcases w0e.mp (w1n hk)with z|z
    .rw[z];exact m2
    .exact m3 _ z
   have le:e7 n ns<=(n::ns).getD k 0:=by
    have:∃j,j<=ns.length/\(n::ns).getD j 0=e7 n ns:=by
     rcases m1 with z|z
     .exact⟨0,w1a _,by simp[z]⟩
     .obtain⟨j,hj,ej⟩:=w3j.mp z;exact⟨j+1,by omega,by simp[List.getD,hj,ej]⟩
    obtain⟨j,hj,ej⟩:=this;have:=b2 j (by omega);rw[ej]at this;exact this
   omega
  rw[e];refine⟨.int (e7 n ns),H,I.kept (t':=tk) λb o qb=>hk b o (λz=>?_) (Heap.get?_push_of_some _ qb),⟨t,rfl⟩,q⟩
  rw[w1g]at z;exact absurd (Heap.lt_size qb) (by rw[z];exact w2k _)
def k_:List W->Option W
 |[.lst ws]=>match dZ ws with
  |some (n::ns)=>some (.int (e7 n ns))
  |_=>none
 |_=>none
def ZT:pM K (λxs H Q=>∃p n ns,xs=[.ref p]/\bB K H p ((n::ns).map V.int)/\Q (.int (e7 n ns)) H) k_:=by
 intro G H xs ws w Q s pr hf h;unfold k_ at hf;split at hf
 .obtain⟨x,r,rfl,px,pr⟩:=pr;cases(show r=[]from pr);split at hf
  .rename_i n ns l9;cases hf;obtain⟨a,cs,rfl,hq,rp⟩:=px;have:=Dh l9 rp;subst this;exact⟨a,n,ns,rfl,s.seq hq,h G _ H (.refl s) rfl⟩
  .cases hf
 .cases hf
section
variable{e:Expr}{dA:Den (List W)}{p:Pos}
theorem z2o(hc:X.calm=true)(hm:X.mg "max"=none)(ha:DA Z X EE [e] dA)(hg:autoParam (Gl X "max") jJ)(he:autoParam (starEach [e] X.env=(false,eval e X.env)::starEach [] X.env) jJ)(du:autoParam ((backTo pos (starEach [] X.env)).any (·.1)=false) jJ):DE Z X EE (.Call (.Name "max" p) [e] [] pos) (cU k_ dA):=
 A2 (Xa hc) ZT PyProof.Rows.Boot.«max» hm ha hg (by decide) (by decide) he du
end
def z8x{n:Int}{ns:List Int}:k_ [.lst ((n::ns).map .int)]=some (.int (e7 n ns)):=by
 show(match dZ ((n::ns).map .int)with|some (n::ns)=>some (W.int (e7 n ns))|_=>none)=_;rw[N9]
section
variable{w kw dflt:W}{x:Kx}
theorem z2p:lV i sh e=.nx (e.set i (.dw sh [] [])):=rfl
theorem z2q:lU i d dk e=(d e).cq λw e1=>oD i dk w e1 e1[i]?:=rfl
theorem z2r:oD i dk w e (some (.dw sh ks ws))=(dk e).cq λkw e2=>oE i w kw e2 e2[i]?:=rfl
def ZU(hk:j0 kw=some x)(h1:ks.length<16777216)(h2:(e.set i .no).all (λs=>!ql s)=true)(h3:fits x sh)(h4:mi ks ws x=none)(h5:autoParam (sh.Fv=false) jJ):oE i w kw e (some (.dw sh ks ws))=.nx (e.set i (.dw sh (ks++[x]) (ws++[w]))):=by
 show(match j0 kw with|some x=>_|none=>_)=_
 grind
def z8y(hk:j0 w=some x)(hc:fits x sh):o4 w (.dw fz sh ks ws)=some (.bl (!(mi ks ws x).isSome)):=by
 simp_all [o4]
def Q9(hk:j0 w=some x)(hc:fits x sh):vY (.dw fz sh ks ws) w=mi ks ws x:=by
 simp_all [vY]
theorem z8z:mf [.dw fz sh ks ws]=some (.int ks.length):=rfl
theorem z2t:g9 (.dw sh ks ws)=.fr (.dw false sh ks ws):=rfl
end
def ia(K:Fg)(a:Addr):Bool:=match K.lookup a with
 |some o=>(match o.cls with
  |.type n=>n=="tuple"
  |_=>false)
 |none=>false
def dN(K:Fg):Fg:=K.filter λp=>!ia K p.1
theorem CM{q:Addr->Bool}:∀{K:Fg}{o:Obj},(K.filter λp=>q p.1).lookup a=some o->K.lookup a=some o/\q a=true
 |[],_,h=>by cases h
 |(b,u)::K,o,h=>by
  by_cases hq:q b=true
  .rw[List.filter_cons_of_pos (p:=λp:Addr×Obj=>q p.1) (a:=(b,u)) hq]at h
   by_cases e:a=b
   .grind
   .rw[show List.lookup a ((b,u)::(K.filter λp=>q p.1))=List.lookup a (K.filter λp=>q p.1) by grind]at h
    obtain⟨h1,h2⟩:=CM h
    grind
  .rw[List.filter_cons_of_neg (p:=λp:Addr×Obj=>q p.1) (a:=(b,u)) hq]at h
   obtain⟨h1,h2⟩:=CM h
   grind
theorem Yh{h:Heap}(X:K.In h):(dN K).In h:=λa o e=>X a o (CM (q:=λa=>!ia K a) e).1
theorem y69:eE (dN K):=λa o e z=>by
 obtain⟨h1,h2⟩:=CM (q:=λa=>!ia K a) e
 unfold ia at h2;rw[h1]at h2;simp[z]at h2
def q01{o:Obj}(h:K.lookup a=some o)(t:ia K a=false):(dN K).lookup a=some o:=by
 have gen:∀(l:Fg)(q:Addr->Bool),q a=true->l.lookup a=some o->(l.filter λp=>q p.1).lookup a=some o:=by
  intro l q hq
  induction l with
  |nil=>intro h;cases h
  |cons p l ih=>
   grind
 exact gen K (λa=>!ia K a) (by rw[t];rfl) h
def q2f{r:Option Value}(h:PySem.W.nsIn K a x=some r)(t:ia K a=false):PySem.W.nsIn (dN K) a x=some r:=by
 grind [W.nsIn,q01]
def xn(K:Fg):Value->Bool
 |.ref a=>ia K a
 |_=>false
def x6s{cd:Value}(h:PySem.W.codeIn K cd x=true)(t:xn K cd=false):PySem.W.codeIn (dN K) cd x=true:=by
 cases cd with
 |ref a=>
  unfold PySem.W.codeIn at h |-
  dsimp only at h |-
  cases q:K.lookup a with
  |none=>rw[q]at h;cases h
  |some o=>rw[q01 q t];rw[q]at h;exact h
 |_=>cases h
def funAt(K:Fg)(a:Addr):Bool:=!ia K a&&(match K.lookup a with
 |some ⟨_,_,.func _,_⟩=>true
 |_=>false)
def lk{κ:Type} [DecidableEq κ](kvs:List (κ×Sv))(x:κ):Option Sv:=(kvs.find? λp=>decide (p.1=x)).map (·.2)
def putL{κ:Type} [DecidableEq κ](kvs:List (κ×Sv))(x:κ)(v:Sv):List (κ×Sv):=if(kvs.any λp=>decide (p.1=x))=true then kvs.map (λp=>if p.1=x then(p.1,v)else p)else kvs++[(x,v)]
theorem JB [DecidableEq κ](x):∀kvs:List (κ×Sv),fi (v8 kvs) x=(lk kvs x).map sV
 |[]=>rfl
 |p::r=>by
  have ih:=JB x r
  by_cases h:p.1=x
  all_goals simp_all [v8,AQ,lk,AR]
def z80 [DecidableEq κ](x)(v)(kvs:List (κ×Sv)):putK (v8 kvs) x (sV v)=v8 (putL kvs x v):=by
 unfold putK putL v8;rw[w4i];have e:((λkv:κ×V=>decide (kv.1=x)) ∘ λp:κ×Sv=>(p.1,sV p.2))=λp:κ×Sv=>decide (p.1=x):=rfl
 rw[e];split
 .rw[w0t,w0t];refine w1m λp _=>?_
  grind
 grind
def sX:W->Option Key
 |.int i=>some (.inl i)
 |.str x=>some (.inr x)
 |_=>none
def L6:W->Option Sv
 |.int i=>some (.inl i)
 |.bl b=>some (.inr b)
 |_=>none
def DD:Sv->W
 |.inl i=>.int i
 |.inr b=>.bl b
def Jk(p:Rep K G w v)(h:sX w=some k):v=kV k:=by
 cases w<;>cases h<;>exact p
def z81(p:Rep K G w v)(h:L6 w=some k):v=sV k:=by
 cases w<;>cases h<;>exact p
def Xb(k):Rep K G (DD k) (sV k):=by cases k<;>rfl
def pU:W->Option (List (Key×Sv))
 |.a8 (.k kvs)=>some kvs
 |_=>none
def NL(h:pU w=some kvs):w=.a8 (.k kvs):=by
 cases w with
 |a8 d=>cases d<;>cases h;rfl
 |_=>cases h
def sZ(w d:W):Option W:=(sX w).bind λk=>(pU d).map λkvs=>.bl (!(lk kvs k).isSome)
def z9(d w:W):Option W:=(sX w).bind λk=>(pU d).bind λkvs=>(lk kvs k).map DD
def ZV:ik K (λy x H Q=>∃a o,x=.ref a/\fo H a y o/\Q (.bl (!o.isSome)) H) sZ:=by
 intro G H x y wx wy w Q s px py hf h;obtain⟨k,hk,hf⟩:=w1d.mp hf;obtain⟨kvs,hd,hf⟩:=w0h.mp hf;cases hf;cases Jk px hk;cases NL hd;obtain⟨e,rfl,he⟩:=py;refine⟨e,_,rfl,fo.k (k:=k) (s _ _ he),h G _ H (.refl s) ?_⟩;rw[JB,w3c];rfl
def z82:ik K (λx y H Q=>∃a v,x=.ref a/\fo H a y (some v)/\Q v H) z9:=by
 intro G H x y wx wy w Q s px py hf h;obtain⟨k,hk,hf⟩:=w1d.mp hf;obtain⟨kvs,hd,hf⟩:=w1d.mp hf;obtain⟨v,hv,rfl⟩:=w0h.mp hf;cases Jk py hk;cases NL hd;obtain⟨e,rfl,he⟩:=px;have g:=fo.k (k:=k) (s _ _ he);rw[JB,hv]at g;exact⟨e,_,rfl,g,h G _ H (.refl s) (Xb v)⟩
section
variable{a b e k:Expr}{da db:Den W}{p d6:Pos}
theorem z2v(hu:X.A.units+150<cLine)(ha:DE Z X EE a da)(hb:DE Z X EE b db)(hm:autoParam (behindInMarks .NotIn b=false) jJ):DT Z X EE (.Compare a [.NotIn] [b] pos) (ay (av sZ da db)):=
 PT.mono (Pj (MX (by omega) ha hb) hm) λσ H Q h=>uV ZV σ H _ (Hi h)
theorem z83(hu:X.A.units+150<cLine)(ha:DE Z X EE a da)(hb:DE Z X EE b db)(hs:su b:=by intro _ _;rfl):DE Z X EE (.Subscript a b pos) (av z9 da db):=
 PE.mono (Oa (by omega) ha hb hs) (uV z82)
def Rel.a8{e:List S}(r:Rel K Z G σ H e){kvs:Dd}(h:e[i]?=some (.a8 kvs)):∃a,σ[i]?=some (some (.ref a))/\H a=some (dO kvs)/\G a=none/\Z.H a=none:=by
 obtain⟨a,h1,h2,h3,h4⟩:=r.slot i _ h;refine⟨a,?_,h2,h3,h4⟩;cases q:σ[i]? with
 |none=>rw[q]at h1;cases h1
 |some z=>rw[q]at h1;rw[show z=some (.ref a)from h1]
def Rel.xa{e:List S}(r:Rel K Z G σ H e){kvs:Dd}{a:Addr}(h2:H a=some (dO kvs))(h3:G a=none)(h4:Z.H a=none):Rel K Z G (σ.set i (some (.ref a))) H (e.set i (.a8 kvs)):=by
 refine⟨r.sub,λj s z=>?_,by simpa using r.len,λj k b1 b2 w1 w2 c z1 z2 z3 z4=>?_,r.ent,r.ko,r.gen⟩
 .by_cases hj:j=i
  .subst hj
   have hi:j<e.length:=by
    have:=(w0b.mp z).1;simpa using this
   rw[w0i hi]at z;cases z;rw[w0i (by rw[<- r.len];exact hi)];exact⟨a,rfl,h2,h3,h4⟩
  .rw[w0g (λz=>hj z.symm)]at z |-
   exact r.slot j s z
 .have old:∀(k:Nat)(bb:Option Nat)(ww:List W),(e.set i (S.a8 kvs))[k]?=some (.own bb ww)->k≠i/\e[k]?=some (.own bb ww):=λk bb ww z=>by
   by_cases hk:k=i
   .subst hk
    have hi:k<e.length:=by
     have:=(w0b.mp z).1;simpa using this
    rw[w0i hi]at z;cases z
   .rw[w0g (λz=>hk z.symm)]at z;exact⟨hk,z⟩
  obtain⟨n1,q1⟩:=old _ _ _ z1;obtain⟨n2,q2⟩:=old _ _ _ z2;rw[w0g (λz=>n1 z.symm)]at z3
  rw[w0g (λz=>n2 z.symm)]at z4
  exact r.lW _ _ _ _ _ _ _ q1 q2 z3 z4
def Ft:S->Bool
 |.a8 _=>true
 |.dw sh _ _=>sh.rP
 |_=>false
def Rel.wj{e:List S}(r:Rel K Z G σ H e){kvs kvs':Dd}{a:Addr}(h:e[i]?=some (.a8 kvs))(ha:σ[i]?=some (some (.ref a)))(ho:∀j s,j≠i->e[j]?=some s->Ft s=false):Rel K Z G σ (upd H a (dO kvs')) (e.set i (.a8 kvs')):=by
 obtain⟨a',h1,h2,h3,h4⟩:=r.a8 h;rw[ha]at h1;cases h1;have hi:i<e.length:=(w0b.mp h).1;refine⟨λc o z=>?_,λj s z=>?_,by simpa using r.len,λj k b1 b2 w1 w2 c z1 z2 z3 z4=>?_,λc o z n=>?_,λc z=>?_,r.gen⟩
 .rw[aU (gA z h3)];exact r.sub c o z
 .by_cases hj:j=i
  .subst hj;rw[w0i hi]at z;cases z;exact⟨a,by rw[ha];rfl,bV,h3,h4⟩
  .rw[w0g (λz=>hj z.symm)]at z
   have y:=r.slot j s z;cases s with
   |no=>trivial
   |fr w=>exact y
   |own b2 w2=>
    obtain⟨c,ys,y1,y2,y3,y4,y5⟩:=y;refine⟨c,ys,y1,?_,y3,y4,y5⟩;rw[aU (iD y2 h2 (λz=>tJ rfl z.symm))];exact y2
   |a8 kv=>have:=ho j _ hj z;cases this
   |nest bo=>exact cy.move y (.refl _) λl o ys k1 k2 k3=>⟨by rw[aU (iD k1 h2 (λz=>tJ rfl z.symm))];exact k1,k2,k3⟩
   |dw sh ks ws=>
    have hI:sh.rP=false:=ho j _ hj z;exact iT.move y (.refl _) λl o ys k1 k2 k3=>⟨by rw[aU (iD k1 h2 (λz=>by rw[yi hI]at z;exact tJ rfl z.symm))];exact k1,k2,k3⟩
 .have old:∀(k:Nat)(bb:Option Nat)(ww:List W),(e.set i (S.a8 kvs'))[k]?=some (.own bb ww)->e[k]?=some (.own bb ww):=λk bb ww z=>by
   by_cases hk:k=i
   .subst hk;rw[w0i hi]at z;cases z
   .rw[w0g (λz=>hk z.symm)]at z;exact z
  exact r.lW _ _ _ _ _ _ _ (old _ _ _ z1) (old _ _ _ z2) z3 z4
 .rw[aU (gA z h4)];exact r.ent c o z n
 .by_cases hc:c=a
  .subst hc;rw[bV];exact λz=>nomatch z
  .rw[aU hc];exact r.ko c z
def yT(i:Nat):List S->SR:=λe=>match e[i]? with
 |some (.a8 d)=>.rt (.a8 d) e
 |_=>.no
def mv(i:Nat)(e:List S):Bool:=(List.range e.length).all λj=>decide (j=i)||!((e[j]?.map Ft).getD false)
theorem ZW{e:List S}(h:mv i e=true):∀j s,j≠i->e[j]?=some s->Ft s=false:=λj s hj hs=>by
 have hl:j<e.length:=(w0b.mp hs).1;have:=w0w.mp h j (w0z.mpr hl)
 grind
def jC(i:Nat)(w kw:W)(e:List S):Option S->SR
 |some (.a8 (.k kvs))=>match L6 w,sX kw with
  |some v,some x=>if kvs.length<16777216/\mv i e=true then .nx (e.set i (.a8 (.k (putL kvs x v))))else .no
  |_,_=>.no
 |_=>.no
def kf(i:Nat)(d dk:Den W):List S->SR:=λe=>(d e).cq λw e1=>match e1[i]? with
 |some (.a8 _)=>(dk e1).cq λkw e2=>jC i w kw e2 e2[i]?
 |_=>.no
def z2x(i:Nat)(hu:X.A.units+150<cLine)(he:DE Z X EE e d)(hk:DE Z X EE k dk)(hN:autoParam (X.N[i]?=some x) jJ)(hv:autoParam (jI X.env.scope x) jN)(hd:autoParam ((x==("__debug__":Str))=false) jK)(ei:autoParam ((x==("__classdict__":Str))=false) jK)
  (hs:autoParam (swapsWith e (some (.Subscript (.Name x p) k d6)) pos.line X.env=pure false) jJ):DS Z X EE (.Assign [.Subscript (.Name x p) k d6] e pos) (kf i d dk):=by
 refine PS.mono (Of (by omega) (pv i hN hv hd ei) hk he hs) ?_;rintro D σ H ⟨G,e,rel,h⟩;refine⟨G,e,rel,(iQ h).imp (λw e1 h G1 v1 H1 r1 s1 p1=>?_) λ_ _ h=>h⟩
 split at h
 .rename_i kv0 nr;obtain⟨a,q1,q2,q3,q4⟩:=r1.a8 nr;refine⟨.ref a,q1,G1,e1,r1,(iQ (σ:=σ) h).imp (λkw e2 h G2 v2 H2 r2 s2 p2=>?_) λ_ _ h G' H' r s=>h G' H' r (s1.trans s)⟩
  unfold jC at h;split at h
  .rename_i kvs km;obtain⟨a',g1,g2,g3,g4⟩:=r2.a8 km;rw[q1]at g1;cases g1;split at h
   .rename_i v t SM qh;split at h
    .rename_i hc;cases z81 p1 SM;cases Jk p2 qh;refine⟨a,_,rfl,lL.k (k:=t) g2 (by rw[sizeLine_eq];unfold v8;rw[w0a];exact hc.1),?_⟩;rw[z80];exact h G2 σ _ (r2.wj (kvs':=.k (putL kvs t v)) km q1 (ZW hc.2)) (s1.trans s2)
    .exact h.elim
   .exact h.elim
  .exact h.elim
 .exact h.elim
end
def FG(kvs:List (Key×Sv))(k:Key):Option Bool:=match lk kvs k with
 |some (.inr b)=>some b
 |_=>none
def uK(kvs l:List (Key×Sv)):List Key:=(l.filter λp=>FG kvs p.1==some true).map (·.1)
def kW:Key->W
 |.inl i=>.int i
 |.inr x=>.str x
def z_(e:List S):Option S->R (List W)
 |some (.a8 (.k kvs))=>if kvs.length<16777216/\(kvs.all λp=>(FG kvs p.1).isSome)=true then .ok ((uK kvs kvs).map kW) e else .no
 |_=>.no
theorem z2y:z_ e (some (.a8 (.k kvs)))=if kvs.length<16777216/\(kvs.all λp=>(FG kvs p.1).isSome)=true then .ok ((uK kvs kvs).map kW) e else .no:=rfl
def qE(i:Nat)(dk:Den W)(w:W)(e1:List S):Option S->SR
 |some (.a8 _)=>(dk e1).cq λkw e2=>jC i w kw e2 e2[i]?
 |_=>.no
def z2z:kf i d dk e=(d e).cq λw e1=>qE i dk w e1 e1[i]?:=by
 unfold kf qE;rfl
theorem z20:qE i dk w e (some (.a8 dd))=(dk e).cq λkw e2=>jC i w kw e2 e2[i]?:=rfl
theorem y7a{b:Bool}:jC i (.bl b) (.int n) e (some (.a8 (.k kvs)))=if kvs.length<16777216/\mv i e=true then .nx (e.set i (.a8 (.k (putL kvs (.inl n) (.inr b)))))else .no:=rfl
theorem y7b:g9 (.a8 dd)=.fr (.a8 dd):=rfl
theorem z84:sZ (.int n) (.a8 (.k kvs))=some (.bl (!(lk kvs (.inl n)).isSome)):=rfl
theorem Q2m:z9 (.a8 (.k kvs)) (.int n)=(lk kvs (.inl n)).map DD:=rfl
end D
namespace L2
open PySem PySem.Spec PyProof.Rows
def Xc{K:Fg}{tabs:List (Addr×Str)}
  (KX:K.In aD.heap)(l9:aD.heap.Ns mainGlobals mg)(hb:aD.heap.Ns builtinsNs mb)(xH:∀x:Str,x≠"__name__"->mb x=bootBuiltins x)(vP:aD.heap.NoLimit)(hg:aD.gens=#[])
  (ha:aD.heap.get? a=some {cls:=.type "list", data:=.seq vs.toArray})(hi:IntsAre vs ns)(hl:ns.length<=sizeLine)(hr:br k callerA)
  (F:∀base:Heap,K.In base->base.Ns mainGlobals mg->BMain base mg->eC P w K mg base CX k fa fd [x] sp)(l6:∀(s:Shared)(u:Value),BindsTo s fd ⟨[u],[]⟩ [(x,u)])
  (rN:∀H:Hp,bB K H a (ns.map V.int)->sp [.ref a] H (λv _=>v=.bl true) λ_ _ _=>False)
  (vI:∀H e s',CX [] H aD (λ_ _ _=>False) e s'->False)
  (RJ:BMain aD.heap mg)(hM:∀a q P,(a,iN P q)∈K->tabs.lookup P=some q)(hT:∀P q,tabs.lookup P=some q->aD.heap.get? P=some (tabObj #[])/\isCodeTable aD.heap P)(Ki:∀P q,tabs.lookup P=some q->K.lookup P=none):
  codeAny (model P w) callerA (.call (.ref fa) ⟨[.ref a],[]⟩) (λr s'=>r=.ok (.ret (.bool true))/\OldK aD.heap s'.heap/\s'.os=aD.os/\AllBare s'.gens) aD:=by
 have rv:=Hh hi;have FE:=hi.length
 have aT:tabs.lookup a=none:=by
  cases q:tabs.lookup a with
  |none=>rfl
  |some t=>grind
 have core:∀H0:Hp,(∀b,H0 b=none\/∃o xs,H0 b=some (.cP o (.lst xs)))->bB K H0 a (ns.map V.int)->c9 P w H0 aD.heap->(∀b,H0 b≠none->b=a)->(H0 a≠none->K.lookup a=none) ->
   codeAny (model P w) callerA (.call (.ref fa) ⟨[.ref a],[]⟩) (λr s'=>r=.ok (.ret (.bool true))/\OldK aD.heap s'.heap/\s'.os=aD.os/\AllBare s'.gens) aD:=by
  intro H0 hO RS E9 hA hK;obtain⟨H,hH⟩:∃H:Hp,H=λb=>match tabs.lookup b with|some q=>some (.nU #[.bool true,.str q 0])|none=>H0 b:=⟨_,rfl⟩
  have Cj:∀b q,tabs.lookup b=some q->H b=some (.nU #[.bool true,.str q 0]):=λb q z=>by rw[hH];simp only[z]
  have Aw:∀b,tabs.lookup b=none->H b=H0 b:=λb z=>by rw[hH];simp only[z]
  have up:∀b u,H0 b=some u->H b=some u:=λb u z=>by
   grind
  have hS:bB K H a (ns.map V.int):=by
   rcases RS with(z|⟨o,z⟩)|z
   .grind
   .exact .inl (.inr ⟨o,up _ _ z⟩)
   .exact .inr z
  have aG:c9 P w H aD.heap:=λb u z=>by
   cases q:tabs.lookup b with
   |some t=>
    rw[Cj b t q]at z;cases z;exact .inl ⟨t,#[],rfl,rfl,(hT b t q).1,trivial,λpos cv z=>by cases z⟩
   |none=>
    rw[Aw b q]at z;exact(E9 b u z).eQ (λc v _ q=>q) (λc q=>up c _ q) λc v _ q=>up c v q
  have fT:∀{b:Addr}{o:Obj},aD.heap.get? b=some o->H b=none->(gF aD.heap H).get? b=some o:=λe n=>Nt e n
  have free:∀{b:Addr}{o:Obj},aD.heap.get? b=some o->o≠{cls:=.type "list", data:=.seq vs.toArray}->o≠tabObj #[]->H b=none:=λ{b o} e d1 d2=>by
   grind
  have tf:∀{b:Addr}{m:Str->Option Value},aD.heap.Ns b m->(gF aD.heap H).Ns b m:=λ{b m} ⟨o,es,ep,e,d,r⟩=>⟨o,es,ep,fT e (free e (λz=>by rw[z]at d;cases d) λz=>by rw[z]at d;cases d),d,r⟩
  have zi:K.In (gF aD.heap H):=λb o e=>fT (KX b o e) (by
   grind)
  have RK:BMain (gF aD.heap H) mg:=by
   obtain⟨bm,ob,b1,b2,b3,b4,b5,b6⟩:=RJ;exact⟨bm,ob,b1,b2,fT b3 (free b3 (λz=>by rw[z]at b4;simp at b4) λz=>by rw[z]at b4;cases b4),b4,b5,b6⟩
  have RN:Mod K mg (gF aD.heap H):=⟨zi,tf l9,⟨mb,tf hb,xH⟩,let ⟨mc,h1,h2⟩:=vP;⟨mc,tf h1,h2⟩⟩;have e0:iU P w K mg (gF aD.heap H) callerA [] aD H:=⟨rfl,RN,λb o e=>Ot e,Nat.le_of_eq (MF _ _),trivial,λb hb=>absurd (show b∈([]:List Addr)from hb) (by simp),aG,.of_eq hg,λa q P m=>⟨_,Cj P q (hM a q P m),rfl,rfl⟩⟩
  refine codeAny_mono ((F _ zi (tf l9) RK).run callerA [] aD H ⟨[.ref a],[]⟩ [.ref a] [.ref a] _ _ hr e0 (l6 aD (.ref a)) (.cons rfl .nil) (rN H hS)) λr s' h=>?_
  cases r with
  |error e=>exact(vI H e s' h).elim
  |ok fl=>
   cases fl with
   |next=>exact False.elim h
   |brk=>exact False.elim h
   |cont=>exact False.elim h
   |ret u=>
    obtain⟨v,H',os,bare,un,sO,r',q⟩:=h;have q':v=.bl true:=q;subst q';obtain rfl:u=Value.bool true:=r'
    have kp:∀b o,tabs.lookup b=none->aD.heap.get? b=some o->s'.heap.get? b=some o:=λb o z e=>by
     cases q:H b with
     |none=>exact un.keep b o e q (by intro z;exact absurd (show b∈([]:List Addr)from z) (by simp)) (by simp)
     |some u=>
      have q0:=q;rw[Aw b z]at q0;rcases hO b with z|⟨ob,xs,z⟩
      .rw[q0]at z;cases z
      .rw[q0]at z;cases z;have z2:=un.aW b ob _ q;obtain⟨e1,_⟩:=(show aD.heap.get? b=some ob/\_ from aG b _ q);obtain⟨e2,_⟩:=(show s'.heap.get? b=some ob/\_ from sO b _ z2)
       grind
    have gr:∀b t,tabs.lookup b=some t->∃qs,s'.heap.get? b=some (tabObj qs):=λb t z=>by
     obtain⟨more,e⟩:=un.e9 b _ (Cj b t z);have o1:aN P w H' s'.heap b (.nU (#[.bool true,.str t 0]++more)):=sO b _ e;rcases o1 with⟨_,qs,_,_,g,_⟩|⟨_,_,_,_,_,_,p0,_⟩
     .exact⟨qs,g⟩
     grind
    refine⟨rfl,⟨λb o e=>?_,λb o e=>?_⟩,os,bare⟩
    .cases z:tabs.lookup b with
     |none=>exact .inl (kp b o z e)
     |some t=>
      obtain⟨qs,g⟩:=gr b t z;obtain⟨g1,g2⟩:=hT b t z;rw[e]at g1;cases g1;exact .inr (.inl ⟨g2,rfl,#[],qs,rfl,by grind⟩)
    grind
 cases hk:K.lookup a with
 |some o=>
  have e:=KX a o hk;rw[ha]at e;cases e;refine core (λ_=>none) (λ_=>.inl rfl) (.inr ⟨_,vs.toArray,_,hk,rfl,rfl,rfl,by grind,by simpa using rv⟩) (λb u z=>by grind) (λb z=>absurd rfl z) λz=>absurd rfl z
 |none=>
  refine core (λb=>if b=a then some (.cP {cls:=.type "list", data:=.seq vs.toArray} (.lst (ns.map V.int)))else none) (λb=>?_) (.inl (.inr ⟨{cls:=.type "list", data:=.seq vs.toArray},if_pos rfl⟩)) (λb u z=>?_) (λb z=>?_) λ_=>hk
  .grind
  .by_cases hb:b=a
   .have z':=(if_pos hb).symm.trans z;cases z';subst hb;exact⟨ha,by grind,vs,_,rv,ha⟩
   grind
  grind
def T9(tk tv:TE):TE:=λσ H Q=>∀p,H p=none->tk σ (upd H p (.dK [])) λk H1=>tv σ H1 λv H2=>∃kk,k=kV kk/\H2 p=some (.dK [])/\Q (.ref p) (upd H2 p (.dK [(kk,v)]))
def Q_(hk:PE X ek tk)(hv:PE X ev tv):PE X (.Dict [some ek] [ev] pos) (T9 tk tv):=by
 intro pins s σ H Q I h;refine wpAny_Dict_any rfl rfl (by simp) (by simp) ?_;have fr:H s.heap.objs.size=none:=I.aG.fresh (w0c _);have I0:=I.laid (a:=s.heap.objs.size) (o:=.dK []) (t':=s.toks) (λ_ _ q=>Heap.get?_push_of_some _ q) (w0c _) (Yd s.heap I.big)
 show wpAny _ _ (evalPairs [(eval ek X.env,do let x <- eval ev X.env;standAt pos;pure x)]) _ _ _;refine evalPairs_cons (bt (hk pins _ σ _ _ I0 (h _ fr)) λku s1 ⟨k,H1,I1,rk,q1⟩=>?_)
 refine wpAny_bind (bt (hv pins s1 σ H1 _ I1 q1) λvu s2 ⟨v,H2,I2,rv,kk,e,hp,q⟩=>wpAny_bind (wpAny_standAt (wpAny_pure (evalPairs_nil ?_))))
 subst e;obtain⟨z,hd,vs,rel,dd⟩:=Ql I2.aG hp;cases rel;refine wpAny_storeAll (knd:=cV X.prog X.w) [(ku,vu)] [(kk,vu)] [] s2 _ ⟨DX rk,rfl,trivial⟩ dd (by rw[sizeLine_eq];simp) λh' ui hs=>?_
 have he:∃q,h'.get? s.heap.objs.size=some q:=let ⟨q,_,_,hq,_⟩:=ui;⟨q,hq⟩;have uj:h'.DictOf (cV X.prog X.w) s.heap.objs.size [(kk,vu)]:=ui;refine⟨.ref s.heap.objs.size,_,Ji I2 (by rw[hp];exact True.intro) hs he (PL (kvs:=[(kk,v)]) (by rw[sizeLine_eq];simp) hd (.cons ⟨rfl,rv⟩ .nil) uj),rfl,q⟩
end L2
namespace D
open PySem L2
variable{X:Cx}{dA:Den (List W)}{G H:Hp}{EE:L2.St->XK}{es:List Expr}{e:List S}{i:Nat}{r:Nat->List W->FR}{p pos:Pos}{K:Fg}{x:Str}{Z:Zt}
mutual
noncomputable def noFn:W->Bool
 |.tup ws=>bA ws
 |.lst ws=>bA ws
 |.dw _ _ _ ws=>bA ws
 |.fn _ _ _=>false
 |.aE=>true
 |.bl _=>true
 |.int _=>true
 |.str _=>true
 |.exc _=>true
 |.a8 _=>true
noncomputable def bA:List W->Bool
 |[]=>true
 |w::ws=>noFn w&&bA ws
end
section
variable{cs:Cs}
def Rd.rm{a:Addr}{u:HO}(c:bu G cs)(h:Rd G a u)(n:∀o,u≠kO o)(n2:∀φ,u≠.ext φ):Rd (dg G cs) a u:=by
 rcases h with h|⟨o,h⟩
 .exact .inl (c.cW h n)
 .exact .inr ⟨o,c.cW h λo' z=>by cases z;exact n2 _ rfl⟩
theorem cY.rm(c:bu G cs):∀{ks:List Kx}{bs:List Addr},cY G ks bs->cY (dg G cs) ks bs
 |[],[],_=>trivial
 |k::ks,b::bs,h=>⟨cx.keeps (λ_ _ t z=>c.cW z (LH t)) k h.1,cY.rm c h.2⟩
 |[],_::_,h=>h.elim
 |_::_,[],h=>h.elim
def cf.rm{sh:Sh}(c:bu G cs){ks:List Kx}{bs:List Addr}(h:cf sh G ks bs):cf sh (dg G cs) ks bs:=by
 unfold cf at h |-
 split at h
 .grind
 .rename_i hi;rw[if_neg hi];exact h.rm c
mutual
theorem Rep.rm(c:bu G cs):∀(w:W){v:V},noFn w=true->Rep K G w v->Rep K (dg G cs) w v
 |.aE,v,_,h=>h
 |.bl b,v,_,h=>h
 |.int i,v,_,h=>h
 |.str x,v,_,h=>h
 |.tup ws,v,n,h=>by
  obtain⟨a,xs,rfl,q,r⟩:=h;refine⟨a,xs,rfl,?_,ao.rm c ws n r⟩;rcases q with q|q
  .exact .inl (Rd.rm c q (λo z=>nomatch z) λφ z=>nomatch z)
  .exact .inr q
 |.lst ws,v,n,h=>by
  obtain⟨a,xs,rfl,q,r⟩:=h;refine⟨a,xs,rfl,?_,ao.rm c ws n r⟩;rcases q with q|q
  .exact .inl (Rd.rm c q (λo z=>nomatch z) λφ z=>nomatch z)
  .exact .inr q
 |.exc e,v,_,h=>by
  obtain⟨a,rfl,q⟩:=h;exact⟨a,rfl,c.cW q λo z=>by grind [m_]⟩
 |.a8 kvs,v,_,h=>by
  obtain⟨a,rfl,q⟩:=h;exact⟨a,rfl,c.cW q λo z=>by cases kvs;cases z⟩
 |.dw fz sh ks ws,v,n,h=>by
  obtain⟨a,kvs,bp,rfl,h1,h2,h3,h4⟩:=h;refine⟨a,kvs,bp,rfl,?_,h2,cf.rm c h3,ao.rm c ws n h4⟩;cases fz with
  |true=>obtain⟨o,h1⟩:=h1;exact⟨o,c.cW h1 λo z=>by injection z with _ z;exact tH rfl z⟩
  |false=>exact c.cW h1 λo z=>tH rfl z
 |.fn _ _ _,v,n,_=>by cases n
theorem ao.rm(c:bu G cs):∀(ws:List W){xs:List V},bA ws=true->ao K G ws xs->ao K (dg G cs) ws xs
 |[],xs,_,h=>h
 |w::ws,xs,n,h=>by
  obtain⟨x,r,rfl,h1,h2⟩:=h
  have n':noFn w=true/\bA ws=true:=by
   simp_all [bA]
  exact⟨x,r,rfl,Rep.rm c w n'.1 h1,ao.rm c ws n'.2 h2⟩
end
end
section
variable{G' H':Hp}{cs:Cs}
theorem HQ(h:∀b o,cs.lookup b=some o->H b=none):ak H (bT H cs):=λb u e=>by
 cases q:cs.lookup b with
 |some o=>grind
 |none=>rw[h9 q];exact e
theorem C6(h:ak G H):ak (bT G cs) (bT H cs):=λb u e=>by
 cases q:cs.lookup b with
 |some o=>simp_all [o8]
 |none=>rw[h9 q]at e |-;exact h b u e
theorem NM(h:ak G H):ak (dg G cs) (dg H cs):=λb u e=>by
 obtain⟨e1,e2⟩:=JG e;rw[mT e2];exact h b u e1
theorem aM.lam(ch:bu H cs)(cg:bu G cs)(e1:ak (dg H cs) H')(e2:ak (dg G cs) G')(e3:ak G' H')(e4:∀a,dg H cs a≠none->G' a=dg G cs a):aM G H (bT G' cs) (bT H' cs) where
 hh:=λb u e=>by
  cases q:cs.lookup b with
  |some o=>rw[o8 q];rw[ch b o q]at e;exact e
  |none=>rw[h9 q];exact e1 b u (by rw[mT q];exact e)
 gg:=λb u e=>by
  cases q:cs.lookup b with
  |some o=>rw[o8 q];rw[cg b o q]at e;exact e
  |none=>rw[h9 q];exact e2 b u (by rw[mT q];exact e)
 sub:=C6 e3
 new:=λa ha=>by
  cases q:cs.lookup a with
  |some o=>rw[o8 q,cg a o q]
  |none=>
   grind [h9,mT]
theorem aM.fW(g:aM (bT G cs) (bT H cs) G' H')(hn:∀b o,cs.lookup b=some o->H b=none)(sg:ak G H):aM G H (dg G' cs) (dg H' cs) where
 hh:=λb u e=>by
  cases q:cs.lookup b with
  |some o=>grind
  |none=>rw[mT q];exact g.hh b u (by rw[h9 q];exact e)
 gg:=λb u e=>by
  cases q:cs.lookup b with
  |some o=>have:=sg b u e;grind
  |none=>rw[mT q];exact g.gg b u (by rw[h9 q];exact e)
 sub:=NM g.sub
 new:=λa ha=>by
  cases q:cs.lookup a with
  |some o=>grind
  |none=>rw[mT q,g.new a (by grind [h9]),h9 q]
end
def gD:R W->FR
 |.ok w _=>.ok (.fr w)
 |.ex c _=>.ex c
 |.no=>.no
def yq(K:Fg)(bR:Nat->Option Lm)(r:Nat->List W->FR):V->List V->Hp->VK->XK->Prop:=λx vs H Q _=>∃G i l aK ws w,ak G H/\Rep K G (.fn i l aK) x/\ao K G ws vs/\bA ws=true/\bA aK=true/\bR i=some l /\
 r i (ws++aK)=.ok (.fr w)/\∀G' H' v,aM G H G' H'->Rep K G' w v->Q v H'
structure lM(P:Program)(w:World)(K:Fg)(mg:Str->Option Value)(base:Heap)(n:Nat)(l:Lm)(ps:List Str)(F:List W->FR):Prop where
 sc:gQ ps l.nf l.scope
 bind:∀(cl:List (Str×Addr))(pm:Value)(c':Addr)(eB:Value)(us:List Value),us.length=ps.length->bindArgs (kla_fn "<lambda>" l.qual l.params l.body l.scope cl pm (.ref c') eB) ⟨us,[]⟩=pure (ps.zip us)
 len:∀ws,F ws≠.no->ws.length=ps.length+l.nf.length
 body:∀ws,F ws≠.no->∀(Z:Zt)(f:Addr)(cd:Value)(cl:List (Str×Addr))(A:Around)(outer:List Env)(s:Shared)(H:Hp),br n (A.deeper (er l.qual l.scope f cd cl s)) ->
  ∃d,DE Z (j_ P w K mg base (ps++l.nf) l.qual l.scope f cd cl A outer s H) (λ_=>E0) l.body d/\gD (d (ws.map .fr))=F ws
def z85{P:Program}{w:World}{mg:Str->Option Value}{base:Heap}{n:Nat}{bR:Nat->Option Lm}(h:∀i l,bR i=some l->∃ps,lM P w K mg base n l ps (r i)):
  rC P w K mg base (eA P w) (n+1) (yq K bR r):=by
 rintro x vs H Q E ⟨G,i,l,aK,ws,w',sg,rf,rv,nw,nc,hl,hr,q⟩;obtain⟨ps,L⟩:=h i l hl;obtain⟨f,cl,zs,cs,rfl,⟨pm,c',eB,ef⟩,FC,rz⟩:=rf;have hn:r i (ws++aK)≠.no:=by grind
 have hlen:=L.len _ hn;have hz:zs.length=l.nf.length:=FC.len;have f6:aK.length=l.nf.length:=by grind [ao.length]
 have rO:ws.length=ps.length:=by grind
 have SO:vs.length=ps.length:=by grind [ao.length]
 have cg:bu G cs:=λb o e=>(FC.oi b o e).1
 have ch:bu H cs:=λb o e=>sg _ _ (cg b o e)
 refine⟨f,_,_,_,_,_,rfl,sg _ _ ef,λA outer s us hR e0 ru=>?_⟩
 have KN:us.length=ps.length:=by grind [Vals.length]
 have QI:ji cl l.nf l.scope zs s.heap cs:=⟨FC.inj,FC.has,FC.all,λc o e=>⟨(show s.heap.get? c=some o/\_ from e0.aG c _ (ch c o e)).1,(FC.oi c o e).2⟩,FC.val⟩
 obtain⟨d,hd,he⟩:=L.body _ hn ⟨dg H cs,dg G cs,[]⟩ f (.ref c') cl A outer s (dg H cs) (hR.deeper _);refine Zo hR e0 (sg _ _ ef) L.sc ch QI (L.bind cl pm c' eB us KN) SO hz ru hd ?_;have T3:ak (dg G cs) (dg H cs):=NM sg;have rr:ao K (dg G cs) (ws++aK) (vs++zs):=(ao.rm cg ws nw rv).append (ao.rm cg aK nc rz);have rel:=Nz (N:=ps++l.nf) T3 rr
 have e1:L2.start (ps++l.nf) (vs++zs)=vs.map some++zs.map some:=by
  simp_all [L2.start]
 have e2:init (ps++l.nf).length (ws++aK)=(ws++aK).map .fr:=by
  simp_all [init]
 rw[e1,e2]at rel;refine⟨dg G cs,_,rel,?_⟩;cases EJ:d ((ws++aK).map .fr)with
 |ok w2 e'=>
  rw[EJ,hr]at he;cases he;intro G' v H' r' sG rp kn
  have vQ:∀b o,cs.lookup b=some o->G' b=none:=λb o z=>by
   cases q2:G' b with
   |none=>rfl
   |some u=>have:=r'.sub b u q2;grind
  exact q (bT G' cs) (bT H' cs) v (aM.lam ch cg (λb u e=>r'.ent b u e (λz=>nomatch z)) sG r'.sub r'.gen) (Rep.mono (HQ vQ) _ rp)
 |ex c e'=>rw[EJ,hr]at he;cases he
 |no=>rw[EJ,hr]at he;cases he
section
variable{e:Expr}{k:Nat}{bR:Nat->Option Lm}
open Classical in
def ir(bR:Nat->Option Lm)(r:Nat->List W->FR)(j:Nat)(l:Lm)(aK:List W)(ws:List W)(e1:List S):R W:=
 if bR j=some l/\bA ws=true/\bA aK=true then(match r j (ws++aK)with
  |.ok (.fr w)=>.ok w e1
  |_=>.no)else .no
def kN(bR:Nat->Option Lm)(r:Nat->List W->FR)(dA:Den (List W))(e:List S):Option S->R W
 |some (.fr (.fn j l aK))=>(dA e).bind λws e1=>ir bR r j l aK ws e1
 |_=>.no
def iu(bR:Nat->Option Lm)(r:Nat->List W->FR)(i:Nat)(dA:Den (List W)):Den W:=λe=>kN bR r dA e e[i]?
def Yw(i:Nat)(F:rC X.prog X.w X.K X.mg X.base (eA X.prog X.w) k (yq X.K bR r))(hr:br k X.A)(hx:eF (eA X.prog X.w) X EE)(ha:DA Z X EE (e::es) dA)(hv:PE X (.Name x p) (rn i))
  (he:autoParam (starEach (e::es) X.env=(false,eval e X.env)::starEach es X.env) jJ)(du:autoParam ((backTo pos (starEach es X.env)).any (·.1)=false) jJ):
  DE Z X EE (.Call (.Name x p) (e::es) [] pos) (iu bR r i dA):=by
 refine PE.mono (X3 F hr hv hx ha he du) ?_;rintro σ H Q ⟨G,en,rel,h⟩;unfold iu kN at h;split at h
 .rename_i j l aK hs;obtain⟨v,hv,rv⟩:=rel.fr hs;refine⟨v,hv,?_,G,en,rel,?_⟩
  .obtain⟨f,cl,zs,cs,rfl,⟨pm,c',eB,ef⟩,_⟩:=rv;exact⟨f,_,_,_,_,_,rfl,rel.sub _ _ ef⟩
  .rw[R.au]at h;refine h.imp (λws e1 h G1 vs H1 r1 s1 p1=>?_) λ_ _ h=>h
   unfold ir at h;split at h
   .rename_i hc;split at h
    .rename_i w hw;exact⟨G1,j,l,aK,ws,w,r1.sub,Rep.mono s1 (.fn j l aK) rv,p1,hc.2.1,hc.2.2,hc.1,hw,λG' H' v g rp=>h G' v H' (r1.grow g) (s1.trans g.gg) rp⟩
    .exact h.elim
   .exact h.elim
 .exact h.elim
end
def c_:List Nat->List S->Option (List W)
 |[],_=>some []
 |j::js,e=>match e[j]? with
  |some (.fr w)=>(c_ js e).map (w::·)
  |_=>none
theorem Hv{σ:L2.St}(r:Rel K Z G σ H e):∀{js:List Nat}{aK:List W},c_ js e=some aK->∃zs:List V,ao K G aK zs/\zs.length=js.length/\∀(i j:Nat) z,js[i]?=some j->zs[i]?=some z->σ[j]?=some (some z)
 |[],aK,h=>by
  cases h;exact⟨[],rfl,rfl,λi j z h _=>by simp at h⟩
 |j::js,aK,h=>by
  unfold c_ at h;split at h
  .rename_i w hw;obtain⟨cs,h1,rfl⟩:=w0h.mp h;obtain⟨zs,r1,r2,r3⟩:=Hv r h1;obtain⟨v,v1,v2⟩:=r.fr hw;refine⟨v::zs,⟨v,zs,rfl,v2,r1⟩,by simp[r2],λi j' z g1 g2=>?_⟩
   cases i with
   |zero=>
    simp only[w0k,Option.some.injEq]at g1 g2;subst g1;subst g2;exact v1
   |succ i=>exact r3 i j' z (by simpa using g1) (by simpa using g2)
  .cases h
def iB(e1:List S):FR->R W
 |.ok (.fr w)=>if noFn w=true then .ok w e1 else .no
 |.ex c=>.ex c e1
 |_=>.no
def eO(F:List W->FR)(j:Nat)(l:Lm)(w:W)(e1:List S):Option (List W)->R W
 |some aK=>iB e1 (F [w,.fn j l aK])
 |none=>.no
def dJ(F:List W->FR)(j:Nat)(l:Lm)(js:List Nat)(d:Den W):Den W:=λe=>(d e).bind λw e1=>eO F j l w e1 (c_ js e1)
section
variable{e body:Expr}{params:Arguments}{d:Den W}{et:Pos}{k:Nat}{ps N nf:List Str}{js:List Nat}{sc scope:Scope}{F:List W->FR}
def Mh(j:Nat)(l:Lm)(C:tY X.prog X.w X.K X.mg X.base k x ps (pB X.K F))(hr:br k X.A)(hx:eF (eA X.prog X.w) X EE)(M:Maker X)(qg:∀y,X.fn y=true)(he:DE Z X EE e d)(ok:bX sc scope N nf js=true)
  (hl:autoParam (l=⟨X.env.qual++"<lambda>", params,body,scope,nf⟩) jJ)(kR:autoParam (defaultsOf params X.env=([],[])) jJ)(hsc:autoParam (X.env.scope=sc) jJ)(hN:autoParam (X.N=N) jJ)(hg:autoParam (Gl X x) jJ)
  (ix:autoParam ((x==("__debug__":Str))=false) jK)(jY:autoParam (starEach [e,.Lambda params body scope et] X.env=(false,eval e X.env)::starEach [.Lambda params body scope et] X.env) jJ)
  (vS:autoParam (starEach [.Lambda params body scope et] X.env=(false,eval (.Lambda params body scope et) X.env)::starEach [] X.env) jJ)(du:autoParam ((backTo pos (starEach [.Lambda params body scope et] X.env)).any (·.1)=false) jJ):
  DE Z X EE (.Call (.Name x p) [e,.Lambda params body scope et] [] pos) (dJ F j l js d):=by
 obtain⟨fa,fd,FF,m,kp,bd⟩:=C.ex;unfold bX at ok;simp only[w0n,w0w,beq_iff_eq,bne_iff_ne,w1l,w0z]at ok;obtain⟨⟨⟨⟨⟨⟨k1,k2⟩,k3⟩,k4⟩,k5⟩,k6⟩,k7⟩:=ok;have kind:∀x,X.env.kindOf x=sc.names.lookup x:=λx=>by rw[<- hsc];rfl
 refine PE.mono (V6 (Nf:=nf) (js:=js) FF hr hg m kp bd hx M qg he kR (λx hx hf=>?_) (λi j y e1 e2=>?_) ix jY vS du) ?_
 .rw[kind];rcases k4 x hx with(z|z)|z
  .exact absurd hf z
  .exact .inl z
  .exact .inr z
 .have cb:i<js.length:=(w0b.mp e2).1;have z:=k6 i cb;rw[e1,e2]at z;obtain⟨z1,z2⟩:=k7 y (w0u e1);refine⟨by rw[hN];simpa using z,PySem.mem_of_lookup z1,?_,?_⟩
  .rw[hsc];rcases z2 with z|z
   .exact .inr (.inl z)
   .exact .inr (.inr z)
  .rw[kind];rcases z2 with z|z<;>(rw[z];decide)
 .rintro σ H Q ⟨G,en,rel,h⟩;simp only[dJ,R.au]at h;refine⟨G,en,rel,h.imp (λw e1 h G1 v1 H1 r1 s1 p1 f aY H2 la=>?_) λ_ _ h=>h⟩
  obtain⟨eN,Hm,pm,eB,c',hH,hf,rfl⟩:=la
  have rm:Rel X.K Z G1 σ Hm e1:=by
   rcases hH with rfl|⟨c,oc,hc,rfl⟩
   .exact r1
   .exact r1.grow (aM.nu r1.sub hc _)
  have gl:=aM.laid rm.sub hf (lY (kla_obj "<lambda>" (X.env.qual++"<lambda>") params body scope aY pm c' eB) (X.env.qual++"<lambda>") c');have r2:=rm.grow gl;refine⟨aY,eN,λcs co=>?_⟩
  cases kQ:c_ js e1 with
  |none=>rw[kQ]at h;exact h.elim
  |some aK=>
   rw[kQ]at h;obtain⟨zs,rz,zl,zv⟩:=Hv r1 kQ;have ou:∀b o,cs.lookup b=some o->upd Hm f (lY (kla_obj "<lambda>" (X.env.qual++"<lambda>") params body scope aY pm c' eB) (X.env.qual++"<lambda>") c') b=none:=λb o z=>(co.oi b o z).1
   have y9:∀b o,cs.lookup b=some o->upd G1 f (lY (kla_obj "<lambda>" (X.env.qual++"<lambda>") params body scope aY pm c' eB) (X.env.qual++"<lambda>") c') b=none:=λb o z=>by
    cases q:upd G1 f (lY (kla_obj "<lambda>" (X.env.qual++"<lambda>") params body scope aY pm c' eB) (X.env.qual++"<lambda>") c') b with
    |none=>rfl
    |some u=>have:=r2.sub b u q;rw[ou b o z]at this;cases this
   have sA:=gl.gg.trans (HQ y9)
   have vF:cs.lookup f=none:=by
    cases q:cs.lookup f with
    |none=>rfl
    |some o=>have:=y9 f o q;rw[bV]at this;cases this
   have fc:fQ (bT (upd G1 f (lY (kla_obj "<lambda>" (X.env.qual++"<lambda>") params body scope aY pm c' eB) (X.env.qual++"<lambda>") c')) cs) aY l zs cs:=by
    subst hl;refine⟨co.inj,co.has,co.all,λc o z=>⟨o8 z,(co.oi c o z).2⟩,λi y z g1 g2=>?_,by rw[zl];exact k5⟩
    have hi:i<js.length:=by rw[<- zl];exact(w0b.mp g2).1
    have g3:js[i]?=some js[i]:=w0d hi;exact co.val i y js[i] z g1 g3 (zv i _ z g3 g2)
   have Iq:Rep X.K (bT (upd G1 f (lY (kla_obj "<lambda>" (X.env.qual++"<lambda>") params body scope aY pm c' eB) (X.env.qual++"<lambda>") c')) cs) (.fn j l aK) (.ref f):=by
    refine⟨f,aY,zs,cs,rfl,⟨pm,c',eB,?_⟩,fc,ao.mono sA aK rz⟩;rw[h9 vF,bV,hl]
   refine⟨_,[w,.fn j l aK],C6 r2.sub,⟨v1,[.ref f],rfl,Rep.mono sA w p1,⟨.ref f,[],rfl,Iq,rfl⟩⟩,?_⟩;cases q:F [w,.fn j l aK]with
   |ok s=>
    simp only[eO,q]at h;cases s with
    |fr w'=>
     simp only[iB]at h;split at h
     .rename_i Su;intro G' H' v g sl;obtain⟨u,h1,h2⟩:=sl;cases h1;have g':=aM.fW g ou r2.sub;have ci:bu G' cs:=λb o z=>g.gg b _ (o8 z)
      exact h (dg G' cs) v (dg H' cs) (r2.grow g') (s1.trans (gl.gg.trans g'.gg)) (Rep.rm ci w' Su h2)
     .exact h.elim
    |_=>exact h.elim
   |ex c=>
    simp only[eO,q,iB]at h;intro H' sh;refine Qv r2 (s1.trans gl.gg) h (dg H' cs) λb u z=>?_
    cases q2:cs.lookup b with
    |some o=>rw[ou b o q2]at z;cases z
    |none=>rw[mT q2];exact sh b u (by rw[h9 q2];exact z)
   |no=>simp only[eO,q,iB]at h;exact h.elim
end
section
variable{a b:Expr}{da db:Den W}
def tK:W->W->Option (List W)
 |.lst ws,.int k=>if pk k=true/\ws.length*k.toNat<=16777216 then some (List.replicate k.toNat ws).flatten else none
 |_,_=>none
def kg(da db:Den W):Den (List W):=λe=>(da e).bind λx e1=>(db e1).bind λy e2=>ba (tK x y) e2
def z86(ha:DE Z X EE a da)(hb:DE Z X EE b db):DF Z X EE (.BinOp a .Mult b pos) (kg da db):=by
 refine PE.mono (Qr N6 ha hb) ?_;rintro σ H Q ⟨G,e,rel,h⟩;simp only[kg,R.au,aS]at h;refine⟨G,e,rel,h.imp (λx e1 h G1 v1 H1 r1 s1 p1=>?_) λ_ _ h=>h⟩
 refine⟨G1,e1,r1,h.imp (λy e2 h G2 v2 H2 r2 s2 p2=>?_) λ_ _ h G' H' r s=>h G' H' r (s1.trans s)⟩
 obtain⟨out,hf,h⟩:=h;unfold tK at hf;split at hf
 .rename_i ws k;split at hf
  .rename_i hc;cases hf;obtain⟨l,xs,rfl,hq,rp⟩:=Rep.mono s2 _ p1;cases(show v2=.int k from p2);have b:=wX hc.1;refine⟨l,k,xs,rfl,rfl,r2.sub.seq hq,by omega,by omega,by rw[rp.length,sizeLine_eq];exact hc.2,?_⟩;exact Df r2 (s1.trans s2) (Dg rp k.toNat) h
  .cases hf
 .cases hf
end
theorem z21{da db:Den W}:kg da db e=(da e).bind λx e1=>(db e1).bind λy e2=>ba (tK x y) e2:=rfl
def keyOf:W->Option Key
 |.int i=>some (.inl i)
 |.str x=>some (.inr x)
 |_=>none
def w_(i:Nat)(v:Sv)(e:List S):Option Key->SR
 |some k=>.nx (e.set i (.a8 (.k [(k,v)])))
 |none=>.no
def ly(i:Nat)(v:Sv)(e:List S):Option S->SR
 |some (.fr w)=>w_ i v e (keyOf w)
 |_=>.no
def iw(i j:Nat)(v:Sv):List S->SR:=λe=>ly i v e e[j]?
section
variable{y:Str}
def y7d(i j:Nat){n:Int}{c cp}{pos' pV:Pos}(hN:X.N.Nodup)(hk:PE X (.Name y p) (rn j))(hi:autoParam (X.N[i]?=some x) jJ)(hx:autoParam (Loc X.env.scope x) jM)(hs:autoParam (swapsWith (.Dict [some (.Name y p)] [.Constant (.int n) c cp] pV) (some (.Name x pos')) pos.line X.env=pure false) jJ)(hf:autoParam (X.fn x=true\/X.env.scope.names.lookup x=some .local) jL):
  DS Z X EE (.Assign [.Name x pos'] (.Dict [some (.Name y p)] [.Constant (.int n) c cp] pV) pos) (iw i j (.inl n)):=by
 refine PS.mono (DV i hN (Q_ hk Ph) hi hx hs hf) ?_;rintro D σ H ⟨G,e,rel,h⟩;unfold iw ly at h;split at h
 .rename_i w hw;obtain⟨v,hv,rv⟩:=rel.fr hw;cases hk:keyOf w with
  |none=>rw[hk]at h;exact h.elim
  |some k=>
   rw[hk]at h;intro q hq
   have ev:v=kV k:=by
    cases w with
    |int i=>cases hk;cases rv;rfl
    |str x=>cases hk;cases rv;rfl
    |_=>cases hk
   refine⟨v,hv,k,ev,bV,?_⟩;rw[Dm];have g:=aM.nu rel.sub hq (dO (.k [(k,.inl n)]));exact h G _ _ ((rel.grow g).xa (kvs:=.k [(k,.inl n)]) bV (rel.sub.free hq) (qK rel hq)) (.refl _)
 .exact h.elim
theorem y7e{j:Nat}{v:Sv}:iw i j v e=ly i v e e[j]?:=rfl
theorem y7f{v:Sv}{n:Int}:ly i v e (some (.fr (.int n)))=.nx (e.set i (.a8 (.k [(.inl n,v)]))):=rfl
end
def wo:Expr:=.Name "" ⟨0,0,0,0⟩
def xg(i:Nat)(st:Stmt):Stmt:=(cD st).getD i (.Pass ⟨0,0,0,0⟩)
def qY:Stmt->Expr
 |.Assign _ v _=>v
 |.Return (some v) _=>v
 |.For _ it _ _ _=>it
 |.Expr v _=>v
 |_=>wo
def ub(i:Nat):Expr->Expr
 |.Call _ as _ _=>as.getD i wo
 |_=>wo
def xh:Expr->Expr
 |.Subscript v _ _=>v
 |_=>wo
def iA:Expr->Arguments
 |.Lambda p _ _ _=>p
 |_=>default
def k8:Expr->Expr
 |.Lambda _ b _ _=>b
 |_=>wo
def jw:Expr->Scope
 |.Lambda _ _ s _=>s
 |_=>default
def lO(K:Fg)(x:Str)(eG:Value):Prop:=∃c P a,eG=.ref c/\codeHdIn K c P=true/\(a,iN P ((x++".<locals>.")++"<lambda>"))∈K
section
variable{P:Program}{w:World}{mg:Str->Option Value}{base:Heap}
def JE{CX:nY}{N:List Str}{scope:Scope}{f:Addr}{eG:Value}{A:Around}{outer:List Env}{s:Shared}{E:XK}(h:lO K x eG)(b:BMain base mg):Maker (gU CX P w K mg base N x scope f eG A outer s H E):=by
 obtain⟨c,P,a,rfl,h1,h2⟩:=h;exact⟨⟨c,P,a,rfl,h1,h2⟩,b⟩
def Ey{bR:Nat->Option Lm}(h:∀i ws,r i ws=.no:=by intro _ _;rfl):rC P w K mg base (eA P w) 0 (yq K bR r):=by
 rintro x vs H Q E ⟨G,i,l,aK,ws,w',sg,rf,rv,nw,nc,hl,hr,q⟩;rw[h]at hr;cases hr
end
def c8(K:Fg)(tabs:List (Addr×Str)):Fg:=K++tabs.map λp=>(mainGlobals,iN p.1 p.2)
section
variable{tabs:List (Addr×Str)}{a:Addr}{o:Obj}
def q4p(h:K.lookup a=some o):(c8 K tabs).lookup a=some o:=by
 grind [c8]
def Jl(hG:(K.lookup mainGlobals).isSome=true):(c8 K tabs).lookup a=K.lookup a:=by
 unfold c8;rw[List.lookup_append];cases q:K.lookup a with
 |some o=>rfl
 |none=>
  grind
theorem Fs{h:Heap}(hG:(K.lookup mainGlobals).isSome=true)(X:K.In h):(c8 K tabs).In h:=λb u e=>X b u (by grind [Jl])
theorem no_m(hG:(K.lookup mainGlobals).isSome=true)(n:eE K):eE (c8 K tabs):=λb u e=>n b u (by grind [Jl])
def ns_m{r:Option Value}(h:PySem.W.nsIn K a x=some r):PySem.W.nsIn (c8 K tabs) a x=some r:=by
 grind [W.nsIn,q4p]
def z87{cd:Value}(h:PySem.W.codeIn K cd x=true):PySem.W.codeIn (c8 K tabs) cd x=true:=by
 cases cd with
 |ref a=>
  grind [W.codeIn,q4p]
 |_=>cases h
def z88(t:funAt K a=true):keepIn (c8 (dN K) tabs) (.ref a)=true:=by
 have h:=t;unfold funAt at t
 rw[w0n]at t
 grind [W.keepIn,q4p,q01]
theorem VU(h:gL K=true)(hd:tabs.all (λp=>tabs.lookup p.1==some p.2)=true):∀a q P,(a,iN P q)∈c8 K tabs->tabs.lookup P=some q:=λa q P m=>by
 rcases w3l.mp m with m|m
 .have:=w0w.mp h _ m;cases this
 grind
theorem Vz(h:gL K=true):gL (dN K)=true:=w0w.mpr λp hp=>w0w.mp h p (w1h.mp hp).1
theorem kF(hG:(K.lookup mainGlobals).isSome=true)(h:tabs.all (λp=>(K.lookup p.1).isNone)=true):∀P q,tabs.lookup P=some q->(c8 K tabs).lookup P=none:=λP q e=>by
 rw[Jl hG];have:=w0w.mp h _ (jy e)
 simpa using this
where
 jy:∀{l:List (Addr×Str)}{P:Addr}{q:Str},l.lookup P=some q->(P,q)∈l
 |[],_,_,e=>by cases e
 |(b,t)::l,P,q,e=>by
  rw[List.lookup_cons]at e
  by_cases hb:(P==b)=true
  .grind
  .rw[w2j.mpr hb]at e;exact .tail _ (jy e)
theorem ZL{h:Heap}(X:K.In h)(hT:∀P∈tabs.map (·.1),h.get? P=some (tabObj #[]))(hc:∀p∈tabs,∃c,codeHdIn K c p.1=true):∀P q,tabs.lookup P=some q->h.get? P=some (tabObj #[])/\isCodeTable h P:=λP q e=>by
 have m:=kF.jy e;obtain⟨c,hc⟩:=hc _ m;have g:=hT P (w0q.mpr ⟨_,m,rfl⟩);exact⟨g,((PySem.W.codeHd_of_K X hc).tab g).isCodeTable⟩
end
section
variable{ws aK:List W}{bR:Nat->Option Lm}{d:Den W}{j:Nat}{l:Lm}{w:W}{F:List W->FR}{js:List Nat}
theorem y7g:iu bR r i dA e=kN bR r dA e e[i]?:=rfl
theorem y3i:kN bR r dA e (some (.fr (.fn j l aK)))=(dA e).bind λws e1=>ir bR r j l aK ws e1:=rfl
def MZ(h1:bR j=some l)(h2:bA ws=true)(h3:bA aK=true)(h4:r j (ws++aK)=.ok (.fr w)):ir bR r j l aK ws e=.ok w e:=by
 simp_all [ir]
theorem x97:dJ F j l js d e=(d e).bind λw e1=>eO F j l w e1 (c_ js e1):=rfl
theorem K9:eO F j l w e (some aK)=iB e (F [w,.fn j l aK]):=rfl
theorem M0(h:noFn w=true):iB e (.ok (.fr w))=.ok w e:=if_pos h
theorem y7h:c_ [] e=some []:=rfl
end
end D
namespace L2
open PySem PySem.Spec PyProof.Rows
end L2
namespace D
open PySem L2
end D
namespace L2
open PySem PySem.Spec PyProof.Rows
end L2
namespace D
open PySem L2
section
variable{X:Cx}{Z:Zt}{EE:L2.St->XK}{e a b:Expr}{da db:Den W}{pos:Pos}
def S1:W->W->Option W
 |.str i,.str j=>match i.cps.toList with
  |[c]=>some (.bl (decide (c∈j.cps.toList)))
  |_=>none
 |_,_=>none
end
section
variable{X:Cx}{Z:Zt}{EE:L2.St->XK}{elt iter a:Expr}{ifs:List Expr}{scope sc:Scope}{pos pt:Pos}{x:Str}{Nf N:List Str}{js:List Nat}{di:Den W}{dA:Den (List W)}{c:Den Bool}{d:Den W}{kt:Nat}
theorem VA(hh:A.handled=none)(it l)(i0:l≠it)(items):
  Draws prog w A it [it,l] items.size (λi v=>items[i]?=some v) (λi h=>h.IsTupleIter it l i/\h.IsTuple l items) where
 live:=λ_ _ st=>let ⟨o,ho,_⟩:=st.1;⟨o,ho⟩
 frame:=λ_ _ _ st hk=>⟨st.1.at λo e=>hk it (by simp) o e,st.2.at λo e=>hk l (by simp) o e⟩
 item:=λi s Q E hi st hQ=>by
  refine LB st.1 st.2 (x:=items[i]) (by simp[hi]) λh' EY ph=>?_
  exact hQ _ h' s.toks (by simp[hi]) ⟨EY,st.2.extBut ph.extBut i0⟩ ph
 done:=λs Q E st hE=>GB hh st.1 st.2 (by simp) hE
theorem Xd(hh:A.handled=none)(it l)(items)(i)(hx:items[i]?=none):
  Draws prog w A it [it,l] i (λ_ _=>False) (λj h=>j=i/\h.IsTupleIter it l j/\h.IsTuple l items) where
 live:=λ_ _ st=>let ⟨o,ho,_⟩:=st.2.1;⟨o,ho⟩
 frame:=λ_ _ _ st hk=>⟨st.1,st.2.1.at λo e=>hk it (by simp) o e,st.2.2.at λo e=>hk l (by simp) o e⟩
 item:=λj s Q E hi st hQ=>absurd st.1 (w0m hi)
 done:=λs Q E st hE=>GB hh st.2.1 st.2.2 hx hE
def jD(dA:Den (List W)):Den (List (W×W)):=λe=>(dA e).bind λws e1=>match ws with
 |[.tup us]=>.ok (bZ 0 us) e1
 |_=>.no
def vg(K:Fg)(a:Addr):It:=
 ⟨λi H=>∃xs x,cZ K H a xs/\xs[i]?=some x,λi H x H'=>∃b y,x=.ref b/\H b=none/\(∀xs,cZ K H a xs->xs[i]?=some y)/\H'=upd H b (.tup [.int i,y]),λi H=>∃xs,cZ K H a xs/\xs.length<=i⟩
section
open AutoSeq1 (wpAny_loadPart')
theorem Tq(l)(items)(n)(Eo)(sl):
  Meets (Builtin.«enumerate.__new__» ⟨[.type "enumerate", .ref l],[]⟩) (λ_ R s=>s.heap.get? l=some {cls:=.type "tuple", dict:=Eo,data:=.seq items n,slots:=sl} /\
   R (.ok (.ret (.ref (s.heap.push {cls:=.type "tuple_iterator", data:=.fields #[.ref l,.int 0 0]}).objs.size)))
    {s with heap:=(s.heap.push {cls:=.type "tuple_iterator", data:=.fields #[.ref l,.int 0 0]}).push {cls:=.type "enumerate", data:=.fields #[.none,.bool false,.ref s.heap.objs.size,rawInt 0,.none,.none]}}):=
 .of_wp λprog w A R s h=>by
  obtain⟨hp,g,d,tk,os⟩:=s;obtain⟨hl,h⟩:=h;have qj:=sub_enumerate;have hL:Heap.IsTuple (Shared.heap ⟨hp,g,d,tk,os⟩) l items:=⟨_,hl,rfl,n,rfl⟩
  wp_walk using wpAny_loadPart' hl
  refine wpAny_stack_any λst=>wpAny_pure ?_
  split
  .rename_i c _ _ _ _ _;cases(c==Value.type "enumerate")
   .wp_walk using wpAny_loadPart' hl,wpAny_pyIter_tuple hL
    exact⟨_,rfl,h⟩
   .wp_walk using wpAny_loadPart' hl,wpAny_pyIter_tuple hL
    exact⟨_,rfl,h⟩
  .wp_walk using wpAny_loadPart' hl,wpAny_pyIter_tuple hL
   exact⟨_,rfl,h⟩
end
def Tr{s:Shared}(hL:s.heap.IsTuple l items)
  (h:∀h',IsEnum h' (s.heap.objs.size+1) s.heap.objs.size 0 .none->h'.IsTupleIter s.heap.objs.size l 0->h'.objs.size=s.heap.objs.size+2 ->
   (∀b o,s.heap.get? b=some o->h'.get? b=some o)->Q (.ref (s.heap.objs.size+1)) {s with heap:=h'}):
  wpAny (model prog w) A (call (.type "enumerate") [.ref l]) Q E s:=by
 obtain⟨⟨c,Eo,dt,sl⟩,hl,hc,n,hd⟩:=hL
 replace hc:c=.type "tuple":=hc
 replace hd:dt=.seq items n:=hd
 subst hc hd
 refine callType_new F.called_enumerate (by decide) (F.typeCall_enumerate_1 _) (F.newCall_enumerate_1 _) (λobj=>F.args_object_init_2 obj _) F.entry_enumerate_new
  (Tq l items n Eo sl) ⟨hl,?_⟩
 have hz:(s.heap.push {cls:=.type "tuple_iterator", data:=.fields #[.ref l,.int 0 0]}).objs.size=s.heap.objs.size+1:=Heap.size_push ..;show _/\_;rw[hz]
 have he:IsEnum ((s.heap.push {cls:=.type "tuple_iterator", data:=.fields #[.ref l,.int 0 0]}).push
   {cls:=.type "enumerate", data:=.fields #[.none,.bool false,.ref s.heap.objs.size,rawInt 0,.none,.none]}) (s.heap.objs.size+1) s.heap.objs.size 0 .none:=by
  have:=Heap.get?_push_size (s.heap.push {cls:=.type "tuple_iterator", data:=.fields #[.ref l,.int 0 0]})
   (o:={cls:=.type "enumerate", data:=.fields #[.none,.bool false,.ref s.heap.objs.size,rawInt 0,.none,.none]}) rfl
  grind
 refine⟨⟨_,he,rfl⟩,h _ he ⟨_,Heap.get?_push_of_some _ (Heap.get?_push_size _ rfl),rfl,rfl⟩ (by rw[Heap.size_push,hz]) λb o x=>Heap.get?_push_of_some _ (Heap.get?_push_of_some _ x)⟩
theorem VV(a e it)(i0:e≠it):Turn P w K (.Tuple elts kt pt) (vg K a) [e,it] e (λi h=>∃old,PySem.IsEnum h e it (i:Nat) old/\h.IsTupleIter it a i) where
 mem:=by simp
 obj:=λi h ⟨old,lC,iF⟩ b hb=>by
  simp only[w0e,w0y,or_false]at hb;rcases hb with rfl|rfl
  .grind
  .obtain⟨o,e,c,d⟩:=iF
   grind
 keep:=λi h h' ⟨old,lC,iF⟩ k=>⟨old,k e (by simp) _ lC,iF.at λo e=>k it (by simp) o e⟩
 item:=by
  intro X hP hw hK hc i pins s σ H E I hf st hg;subst hP hw hK;obtain⟨old,lC,iF⟩:=st;obtain⟨xs,x,hq,hx⟩:=hg;obtain⟨aw,rv,p,hz⟩:=I.tuple hq;obtain⟨u,hu,ru⟩:=rv.get hx
  have KG:a≠it:=λz=>by
   obtain⟨o,e1,c1,_⟩:=iF;obtain⟨o',e2,c2,_⟩:=p
   grind
  have R6:e≠a:=λz=>by
   obtain⟨o',e2,c2,_⟩:=p
   grind
  refine wpAny_pyNext_enum_itemD (VA (A:=X.A.in1) (I.ok.hd hc) it a KG aw.toArray) lC ⟨iF,p⟩ (by grind) i0 (by simp[i0,R6]) λu' h1 tk hu' sM l_ Fl KR qh=>⟨_,rfl,?_⟩
  obtain rfl:u'=u:=Option.some.inj (by grind);have vO:=l_.1;refine wpAny_letOwnedTupleGo_enum sM λh2 km iL=>?_
  have iL:Heap.SameBut e h1 h2:=iL;have cb:e<s.heap.objs.size:=Heap.lt_size lC;have l7:H s.heap.objs.size=none:=I.aG.fresh (w0c _);have zS:h2.get? s.heap.objs.size=some {cls:=.type "tuple", data:=.seq #[.int i tk,u']}:=(iL.2 _ (w2g cb)).trans Fl;refine⟨.ref s.heap.objs.size,upd H s.heap.objs.size (.tup [.int i,x]),?_,rfl,⟨_,x,rfl,l7,λys hy=>by rw[I.fX hy hq];exact hx,rfl⟩,⟨u',km,?_⟩,λb hb=>?_⟩
  .show L2.Inv X pins σ _ {s with heap:=h2,toks:=tk+1};refine Ht (fp:=[e,it]) I (λb o hb q=>?_) hf (w0c _) ⟨?_,[.int i tk,u'],.cons ⟨_,rfl⟩ (.cons ru .nil),⟨_,zS,rfl,?_⟩,⟨_,zS,rfl⟩⟩
   .simp only[w0e,w0y,or_false,not_or]at hb;exact(iL.2 b hb.1).trans (qh b o hb.1 hb.2 q)
   all_goals grind [sizeLine_eq]
  .exact vO.at λo q=>(iL.2 it (Ne.symm i0)).trans q
  .have:b≠s.heap.objs.size:=by
    obtain⟨o,q,_⟩:∃o,s.heap.get? b=some o/\True:=by
     simp only[w0e,w0y,or_false]at hb;rcases hb with rfl|rfl
     .grind
     .obtain⟨o,e,_⟩:=iF;grind
    exact w0m (Heap.lt_size q)
   rw[aU this];exact(hf b hb).1
 done:=by
  intro X hP hw hK hc i pins s σ H E I hf st hg;subst hP hw hK;obtain⟨old,lC,iF⟩:=st;obtain⟨xs,hq,hx⟩:=hg;obtain⟨aw,rv,p,hz⟩:=I.tuple hq;obtain⟨f0,f1,f2,f3,f4,f5⟩:=hf it (by simp);have hl:=rv.length
  have KG:a≠it:=λz=>by
   obtain⟨o,e1,c1,_⟩:=iF;obtain⟨o',e2,c2,_⟩:=p
   grind
  refine wpAny_pyNext_enum_endD (Xd (A:=X.A.in1) (I.ok.hd hc) it a aw.toArray i (by simp;omega)) lC ⟨rfl,iF,p⟩ λh' eb=>⟨rfl,I.turned (t':=s.toks) (λb o hb e=>eb b o hb e) f0 f1 f3 f4 f5⟩
 self:=λ_ _ _ _ _ ⟨old,lC,_⟩ h=>wpAny_pyIter_enum lC h
def vV(K:Fg)(ta:TA):TI:=λσ H R=>ta σ H λvs H1=>∃a,vs=[.ref a]/\(∃xs,cZ K H1 a xs)/\R (vg K a) H1
def Yx{elts:List Expr}{ta:TA}{p pos:Pos}(hg:Gl X "enumerate")(hm:X.mg "enumerate"=none)(ha:PA X [a] ta)(hs:autoParam (starEach [a] X.env=[(false,eval a X.env)]) jJ):PI X (.Tuple elts kt pt) (.Call (.Name "enumerate" p) [a] [] pos) (vV X.K ta):=by
 intro pins s σ H R I h;refine PyProof.Rows.Call_ (qJ I hg hm PyProof.Rows.boot_enumerate (PyProof.Rows.callWith_type1 (bt (ha pos pins s σ H _ I h) λus s1 ⟨vs,H1,I1,r1,q1⟩=>?_) hs rfl))
 obtain⟨l,e,⟨xs,hq⟩,q⟩:=q1;subst e;cases r1 with
 |cons r rr=>
  cases rr;cases r;obtain⟨aw,rv,p,hz⟩:=I1.tuple hq;refine Tr p λh' he hit hsz hk=>?_
  refine wpAny_pyIter_enum he ?_;refine⟨s1.heap.objs.size+1,[s1.heap.objs.size+1,s1.heap.objs.size],_,_,H1,rfl,I1.kept (t':=s1.toks) hk,VV l _ _ (w4c _),⟨_,he,hit⟩,λb hb=>?_,q⟩
  simp only[w0e,w0y,or_false]at hb;rcases hb with rfl|rfl
  .exact I1.jr (by omega) (I1.aG.fresh (by omega))
  .exact I1.jr (w0c _) (I1.aG.fresh (w0c _))
def VB(rp:ao K G1 ws xs)(hq:cZ K G1 b xs):jl K G1 (vg K b) (bZ 0 ws):=by
 have hx:=rp.length;have hl:=Hr 0 ws;refine⟨λi G H s s' h=>⟨xs,xs[i]'(by omega),ak.tup s' (ak.tup s hq),by simp⟩,λi G H x H' s s' hy u v h=>?_,λi G H s s' h=>⟨xs,ak.tup s' (ak.tup s hq),by omega⟩⟩
 obtain⟨c,y,rfl,hn,uH,rfl⟩:=hy;obtain⟨hu,hv⟩:=Hs 0 ws i u v h;obtain⟨w,hw,pw⟩:=rp.iZ (uH xs (ak.tup s' (ak.tup s hq)));rw[hv]at hw;cases hw;refine⟨aM.nu s' hn _,λm n σ Q hQ=>⟨c,[.int i,y],rfl,cZ.of bV,rfl,.int i,[y],rfl,y,[],rfl,rfl,hQ _ _ ?_ (Rep.mono s _ pw)⟩⟩
 rw[hu,w1y];exact rfl
def y7j{elts:List Expr}{p pos:Pos}(hm:X.mg "enumerate"=none)(ha:DA Z X EE [a] dA)(hg:autoParam (Gl X "enumerate") jJ)(hs:autoParam (starEach [a] X.env=[(false,eval a X.env)]) jJ):DI Z X EE (.Tuple elts kt pt) (.Call (.Name "enumerate" p) [a] [] pos) (jD dA):=by
 refine PI.mono (Yx hg hm ha hs) ?_;rintro σ H RR ⟨G,e,rel,h⟩;simp only[jD,R.au]at h;refine⟨G,e,rel,h.imp (λws e1 h G1 vs H1 r1 s1 p1=>?_) λ_ _ h=>h⟩
 split at h
 .rename_i us;obtain⟨y,r,rfl,e1,e2⟩:=p1;cases(show r=[]from e2);obtain⟨b,xs,rfl,hq,rp⟩:=e1;exact⟨b,rfl,⟨xs,r1.sub.tup hq⟩,h _ _ _ r1 s1 (VB rp hq)⟩
 .exact h.elim
end
theorem Q2o:S1 (.str ⟨#[c]⟩) (.str j)=some (.bl (decide (c∈j.cps.toList))):=rfl
def qW(e1:List S):List W->R (List (W×W))
 |[.tup us]=>.ok (bZ 0 us) e1
 |_=>.no
def z23:jD dA e=(dA e).bind λws e1=>qW e1 ws:=by
 unfold jD;congr 1
theorem y7k:qW e [.tup ws]=.ok (bZ 0 ws) e:=rfl
theorem Q2p:z9 (.a8 (.k kvs)) (.str x)=(lk kvs (.inr x)).map DD:=rfl
theorem y7l:jC i (.int n) (.str x) e (some (.a8 (.k kvs)))=if kvs.length<16777216/\mv i e=true then .nx (e.set i (.a8 (.k (putL kvs (.inr x) (.inl n)))))else .no:=rfl
def u9(e:List S):Option S->SR
 |some (.a8 d)=>.rt (.a8 d) e
 |_=>.no
def z24:yT i e=u9 e e[i]?:=by
 rfl
theorem z25:u9 e (some (.a8 dd))=.rt (.a8 dd) e:=rfl
end D
namespace L2
open PySem PySem.Spec PyProof.Rows
namespace sv
end sv
open PySem PySem.Spec PyProof.Rows
def Ts(a v):argsOk "list.sort" ⟨[a],[(Str.ofString "key", v)]⟩:=by unfold argsOk;kernel_rfl
def Ul(a v):argsOk "sorted" ⟨[a],[(Str.ofString "key", v)]⟩:=by unfold argsOk;kernel_rfl
def kZ(a:Addr)(f ks x:Value)(items:Array Value):Sem (ForInStep PUnit):=do
 match <- (call f [x]).attempt with
 |.ok k=>do
  Builtin.List.listUpdate ks (·.push k)
  pure (ForInStep.yield PUnit.unit)
 |.error e=>do
  rule "list.sort.key-raised"
  let made <- Builtin.List.listItems ks
  Builtin.List.listUpdate ks λ_=>#[]
  letGo made.toList.reverse [e]
  Builtin.List.listUpdate (.ref a) λ_=>items
  throw e
def UW(a f:Addr):Builtin.«list.sort» ⟨[.ref a],[(Str.ofString "key", .ref f)]⟩=(do
  let items <- Builtin.List.listItems (.ref a)
  Builtin.List.listUpdate (.ref a) λ_=>#[]
  let before <- seqEpoch a
  let held <- newTuple items.toList
  let hV <- newList []
  holding [held,hV] do
   rule "list.sort.key"
   let _ <- forIn items PUnit.unit λx (_:PUnit)=>kZ a (.ref f) hV x items
   let keys <- Builtin.List.listItems hV
   let kind <- if items.size<2 then pure general' else keyKind' keys
   let ((),s) <- (if items.size<2 then pure ()else sortRuns').run (SortSt.mk' kind (keys.zip items) #[] 7 none)
   let sorted:=(arrOf s).map (·.2)
   Builtin.List.listUpdate hV λ_=>#[]
   letGo ((arrOf s).map (·.1)).toList (failedOf s).toList
   let touched:=(<- seqEpoch a) != before
   Builtin.List.listUpdate (.ref a) λ_=>sorted
   if let some e:=failedOf s then rule "list.sort.comparison-raised";throw e
   if touched then rule "list.sort.modified";raiseError "ValueError" "list modified during sort"
   ret .none):=by
 first|rfl|(fail "not by rfl")
def ZM{σ:St}{Q:VK}
  (F:rC X.prog X.w X.K X.mg X.base (eA X.prog X.w) k sp)(hr:br k A)(hA:A.frames=X.A.frames)(I:Inv X pins σ H s)(hc:∀b o,cs.lookup b=some o->H b=none/\s.heap.get? b=some o)
  (hv:∀b o,cs.lookup b=some o->b∉fk X.stack)(hn:∀b o,cs.lookup b=some o->X.base.get? b=none)(r:Vals vs us)
  (h:sp (.ref f) vs (bT H cs) (λv H'=>Q v (dg H' cs)) λ_ _ _=>False):
  wpAny (model X.prog X.w) A (call (.ref f) us) (λu s'=>(∀b o,cs.lookup b=some o->s'.heap.get? b=some o)/\EP X pins σ (λv H'=>(∀b o,cs.lookup b=some o->H' b=none)/\Q v H') u s') E s:=by
 have e0:=I.pW
 have out:∀b,H b=none->(∀o,cs.lookup b≠some o)->bT H cs b=none:=λb n z=>by
  cases q:cs.lookup b with
  |some o=>exact absurd q (z o)
  |none=>rw[h9 q];exact n
 have e1:iU X.prog X.w X.K X.mg X.base A X.stack s (bT H cs):=by
  refine⟨hA.trans e0.frames,e0.mod,λb o q=>⟨(e0.bs b o q).1,out b (e0.bs b o q).2 λo' z=>?_⟩,e0.mM,e0.eM,λb hb=>out b (e0.oo b hb) λo z=>?_,e0.aG.add hc,e0.bare,λa q P m=>?_⟩
  .grind
  .exact hv b o z hb
  .obtain⟨ps,e,p⟩:=e0.tab a q P m;refine⟨ps,?_,p⟩;cases z:cs.lookup P with
   |some o=>grind
   |none=>rw[h9 z];exact e
 obtain⟨f',oc,od,fd,sl,u,ex,ef,run⟩:=F _ _ _ _ _ h;cases ex;refine wpAny_call (codeAny_mono (run A X.stack s us hr e1 r) λr s' hq=>?_)
 cases r with
 |error e=>
  obtain⟨_,_,_,_,_,_,_,_,_,_,hE⟩:=hq;exact hE.elim
 |ok fl=>
  cases fl with
  |ret u=>
   obtain⟨v,H',os,bare,un,aG,rv,q⟩:=hq;have CI:bu H' cs:=λb o z=>un.aW b o _ (o8 z)
   exact⟨λb o z=>(show s'.heap.get? b=some o/\_ from aG b _ (CI b o z)).1,I.after ⟨v,dg H' cs,os,bare,un.fW aG hc,aG.rm CI,rv,λb o z=>wW z,q⟩⟩
  |next=>exact False.elim hq
  |brk=>exact False.elim hq
  |cont=>exact False.elim hq
def mU(cs:Cs)(H:Hp)(h:Heap):Prop:=∀b o,cs.lookup b=some o->H b=none/\h.get? b=some o
end L2
namespace D
open PySem L2
variable{X:Cx}{pos:Pos}{x:Str}{O:Type}{Z:Zt}
def Bo(i:Nat)(d:List S->SR)(e:List S):Option S->SR
 |some (.dw sh ks ws)=>if(e.set i .no).all (λs=>!ql s)=true then d (e.set i (.fr (.dw false sh ks ws)))else .no
 |_=>.no
def T6:Option S->Option Int
 |some (.fr (.int n))=>some n
 |_=>none
theorem aM.write(g:aM G H G' H')(hn:H a=none)(hg:G' a=none):aM G H G' (upd H' a o) where
 hh:=λb u e=>by rw[aU (gA e hn)];exact g.hh b u e
 gg:=g.gg
 sub:=λb u e=>by rw[aU (gA e hg)];exact g.sub b u e
 new:=g.new
def jo(c:List S->Bool)(d1 d2:List S->SR):List S->SR:=λe=>if c e=true then d1 e else d2 e
def z89{X:L2.Cx}{Z:Zt}(c)(h1:DS Z X EE st d1)(h2:DS Z X EE st d2):DS Z X EE st (jo c d1 d2):=by
 intro pins s σ H D I q;obtain⟨G,e,rel,q⟩:=q;unfold jo at q;split at q
 .exact h1 pins s σ H D I ⟨G,e,rel,q⟩
 .exact h2 pins s σ H D I ⟨G,e,rel,q⟩
def we(m k:Int):Option S->Bool
 |some (.fr (.int n))=>decide (n%m=k)
 |_=>false
def iO(i:Nat)(m k:Int)(e:List S):Bool:=we m k e[i]?
def kwAt(i:Nat):Expr->Expr
 |.Call _ _ ks _=>match ks[i]? with
  |some k=>k.value
  |none=>wo
 |_=>wo
theorem z9a:Bo i f e (some (.dw sh ks ws))=if(e.set i .no).all (λs=>!ql s)=true then f (e.set i (.fr (.dw false sh ks ws)))else .no:=rfl
theorem Q2q:T6 (some (.fr (.int n)))=some n:=rfl
theorem z9b:jo c f1 f2 e=if c e=true then f1 e else f2 e:=rfl
theorem z27:iO i m k e=we m k e[i]?:=rfl
theorem z9c:we m k (some (.fr (.int n)))=decide (n%m=k):=rfl
end D
namespace L2
open PySem PySem.Spec PyProof.Rows
def fu(o:Option (Int×Int))(i n:Int):Option (Int×Int):=match o with
 |none=>some (i,n)
 |some (b,m)=>if n<m then some (i,n)else some (b,m)
def nH(sp:V->List V->Hp->VK->XK->Prop)(f:V)(cs:Cs)(K:Fg)(p:Addr)(xs:List V)(Q:VK):List Int->Option (Int×Int)->Hp->Prop
 |[],o,H=>∃b m,o=some (b,m)/\Q (.int b) H
 |i::is,o,H=>sp f [.int i] (bT H cs) (λv H'=>∃n,v=.int n/\bB K (dg H' cs) p xs/\nH sp f cs K p xs Q is (fu o i n) (dg H' cs)) λ_ _ _=>False
def pF(best:Array Value):Option (Int×Int)->Prop
 |none=>best=#[]
 |some (b,m)=>∃t u,best=#[.int b t,.int m u]
section
variable{X:Cx}{A:Around}{k:Nat}{sp:V->List V->Hp->VK->XK->Prop}{pins:List (Addr×Obj)}{σ:St}{f I S p:Addr}{cs:Cs}{Q:VK}{lJ:List Int}
theorem NN(F:rC X.prog X.w X.K X.mg X.base (eA X.prog X.w) k sp)(hr:br k A.in1)(hA:A.in1.frames=X.A.frames)(hh:A.in1.handled=none)(hv:∀b o,cs.lookup b=some o->b∉fk X.stack)(hn:∀b o,cs.lookup b=some o->X.base.get? b=none)
  (B4:S≠I)(Fe:p≠I)(Ko:∀b o,cs.lookup b=some o->b≠I/\b≠S):∀(is:List Int)(j:Nat)(o:Option (Int×Int))(best:Array Value)(c:Nat)(s:Shared)(H:Hp),lJ.drop j=is->j<=lJ.length->Inv X pins σ H s->eD X pins H I->eD X pins H S->bB X.K H p (lJ.map V.int)->s.heap.IsListIter I p j ->
   s.heap.get? S=some (seqObj "list" best c)->pF best o->mU cs H s.heap->nH sp (.ref f) cs X.K p (lJ.map V.int) Q is o H ->
   codeAny (model X.prog X.w) A (.builtin "min.loop" ⟨[.ref I,.ref f,.ref S],[]⟩) (λr s'=>match r with|.ok (.ret v)=>EP X pins σ Q v s'|.ok _=>False|.error e=>X.xe e s') s
 |[],j,o,best,c,s,H,hd,hj,In,fI,fS,hq,hit,hS,hb,hc,h=>by
  have zH:j=lJ.length:=by
   have:=congrArg List.length hd
   grind
  obtain⟨aw,rI,pl,hz⟩:=In.list hq;have EW:aw.length=lJ.length:=by rw[<- rI.length,w0a]
  obtain⟨b,m,rfl,q⟩:=h;obtain⟨t,u,rfl⟩:=hb;have W:=Walks.list (prog:=X.prog) (w:=X.w) (A:=A.in1) hh I p Fe aw.toArray;refine codeAny_builtin PySem.F.entry_min_loop ?_;rw[Around.under_plainId PySem.F.plain_min_loop _];show wpAny _ A.in1 (seqItems? (.ref S) >>= _) _ _ _;refine wpAny_bind (wpAny_seqItems hS rfl ?_);show wpAny _ A.in1 (tryCatch (pyNext (.ref I)) _ >>= _) _ _ _;refine wpAny_bind (wpAny_tryCatch (W.done _ _ _ ⟨by grind,pl.isList⟩ λh' Dz rL=>?_))
  have I1:=In.turned (t':=Dz) (it:=I) (h':=h') (λb o z e=>rL b o (by simpa using z) e) fI.1 fI.2.1 fI.2.2.2.1 fI.2.2.2.2.1 fI.2.2.2.2.2
  have zo:=rL S _ (by simpa using B4) hS;show wpAny _ A.in1 (updateSeq S (λ_=>#[]) >>= _) _ _ _
  refine wpAny_bind (wpAny_updateSeq zo rfl (wpAny_bind (wpAny_letGo (wpAny_pure ?_))));have I2:=I1.turned (t':=Dz) (it:=S) (h':=h'.update S (Obj.mapSeq λ_=>#[])) (λb o z e=>(Heap.get?_update_other _ _ (Ne.symm z)).trans e) fS.1 fS.2.1 fS.2.2.2.1 fS.2.2.2.2.1 fS.2.2.2.2.2
  exact⟨.int b,H,I2,⟨t,rfl⟩,q⟩
 |i::is,j,o,best,c,s,H,hd,hj,In,fI,fS,hq,hit,hS,hb,hc,h=>by
  have l8:(toString "min"++toString ".loop":String)="min.loop":=by decide
  have cb:j<lJ.length:=by
   grind
  have B_:lJ[j]?=some i:=by
   have:=congrArg List.head? hd
   grind [List.head?_drop]
  have Kr:lJ.drop (j+1)=is:=by
   rw[<- List.drop_drop,hd];rfl
  obtain⟨aw,rI,pl,hz⟩:=In.list hq;have EW:aw.length=lJ.length:=by rw[<- rI.length,w0a]
  have W:=Walks.list (prog:=X.prog) (w:=X.w) (A:=A.in1) hh I p Fe aw.toArray;refine codeAny_builtin PySem.F.entry_min_loop ?_;rw[Around.under_plainId PySem.F.plain_min_loop _];show wpAny _ A.in1 (seqItems? (.ref S) >>= _) _ _ _;refine wpAny_bind (wpAny_seqItems hS rfl ?_);show wpAny _ A.in1 (tryCatch (pyNext (.ref I)) _ >>= _) _ _ _;refine wpAny_bind (wpAny_tryCatch (W.item j _ _ _ (by grind) ⟨hit,pl.isList⟩ λv h' Dz hP Fj rL=>?_))
  have SK:aw[j]?=some v:=by simpa using hP
  obtain⟨t,rfl⟩:∃t,v=.int i t:=by
   obtain⟨u,hu,ru⟩:=rI.get (i:=j) (x:=V.int i) (by grind);rw[SK]at hu;cases hu;exact ru
  have I1:=In.turned (t':=Dz) (it:=I) (h':=h') (λb o z e=>rL b o (by simpa using z) e) fI.1 fI.2.1 fI.2.2.2.1 fI.2.2.2.2.1 fI.2.2.2.2.2
  have zo:=rL S _ (by simpa using B4) hS;obtain⟨As,E6,uF,KJ⟩:=id Fj.1;have dI:∀v,As.data≠.cell v:=λv z=>by rw[KJ]at z;cases z
  have dS:∀v,(seqObj "list" best c).data≠.cell v:=λv z=>nomatch z
  have I2:=I1.jb (pins':=(I,As)::(S,seqObj "list" best c)::pins) λq hq=>by
   rcases w0e.mp hq with rfl|hq
   .exact⟨E6,fI.1,fI.2.1,fI.2.2.1,dI⟩
   .rcases w0e.mp hq with rfl|hq
    .exact⟨zo,fS.1,fS.2.1,fS.2.2.1,dS⟩
    .exact I1.pin q (w0j _ hq)
  have xI:mU cs H h':=λb o z=>⟨(hc b o z).1,rL b o (by grind) (hc b o z).2⟩
  have tail:∀(u:Value)(s2:Shared)(n:Int)(H2:Hp),Inv X ((I,As)::(S,seqObj "list" best c)::pins) σ H2 s2->(∃t2,u=.int n t2)->(∀b o,cs.lookup b=some o->s2.heap.get? b=some o)->(∀b o,cs.lookup b=some o->H2 b=none)->bB X.K H2 p (lJ.map V.int) ->
    nH sp (.ref f) cs X.K p (lJ.map V.int) Q is (fu o i n) H2->∀(n6:Array Value)(c':Nat)(s3:Shared),pF n6 (fu o i n)->s3.os=s2.os->s3.gens=s2.gens->s3.drawn=s2.drawn->(∀b o,b≠S->s2.heap.get? b=some o->s3.heap.get? b=some o)->s3.heap.get? S=some (seqObj "list" n6 c') ->
    s3={s2 with heap:=s3.heap,toks:=s3.toks} ->
    codeAny (model X.prog X.w) A (.builtin "min.loop" ⟨[.ref I,.ref f,.ref S],[]⟩) (λr s'=>match r with|.ok (.ret v)=>EP X pins σ Q v s'|.ok _=>False|.error e=>X.xe e s') s3:=by
   intro u s2 n H2 I3 hu sJ EI Fi hm n6 c' s3 l5 _ _ _ E2 RU Rz;have pI:=I3.pin (I,As) (w0j _ w1b);have pS:=I3.pin (S,seqObj "list" best c) (w0j _ (w0p _ w1b));have I4:Inv X pins σ H2 s2:=I3.jb λq hq=>I3.pin q (w0j _ (w0p _ (w0p _ hq)))
   have RB:eD X pins H2 I:=⟨pI.2.1,fI.2⟩;have xE:eD X pins H2 S:=⟨pS.2.1,fS.2⟩;have I5:=I4.turned (t':=s3.toks) (it:=S) (h':=s3.heap) E2 xE.1 xE.2.1 xE.2.2.2.1 xE.2.2.2.2.1 xE.2.2.2.2.2;rw[<- Rz]at I5;exact NN F hr hA hh hv hn B4 Fe Ko is (j+1) _ n6 c' s3 H2 Kr cb I5 RB xE Fi ⟨As,E2 I _ (Ne.symm B4) pI.1,uF,KJ⟩ RU l5 (λb o z=>⟨EI b o z,E2 b o (Ko b o z).2 (sJ b o z)⟩) hm
  show wpAny _ A.in1 (tryCatch (holding [.int i t] (call (.ref f) [.int i t])) _ >>= _) _ _ _;refine wpAny_bind (wpAny_tryCatch (wpAny_holding (wpAny_mono (ZM (cs:=cs) (Q:=λv H'=>∃n,v=.int n/\bB X.K H' p (lJ.map V.int)/\nH sp (.ref f) cs X.K p (lJ.map V.int) Q is (fu o i n) H') F hr hA I2 xI hv hn (vs:=[.int i]) (.cons ⟨t,rfl⟩ .nil) h) (λw s2 Cg=>?_) (λ_ _ z=>z))))
  obtain⟨g1,v,H2,I3,rv,g2,n,rfl,e1,e2⟩:=Cg;obtain⟨t2,rfl⟩:=(show ∃t2,w=Value.int n t2 from rv);have pS:=(I3.pin (S,seqObj "list" best c) (w0j _ (w0p _ w1b))).1;cases o with
  |none=>
   cases(show best=#[]from hb);obtain⟨c2,b_⟩:∃c2,(s2.heap.update S (Obj.mapSeq λ_=>#[.int i t,.int n t2])).get? S=some (seqObj "list" #[.int i t,.int n t2] c2):=⟨_,get?_update_seq pS λ_=>#[.int i t,.int n t2]⟩
   show wpAny _ A.in1 (updateSeq S (λ_=>#[.int i t,.int n t2]) >>= _) _ _ _
   refine wpAny_bind (wpAny_updateSeq pS rfl ?_);rw[l8];exact wpAny_pure ⟨plainId_quiet PySem.F.plain_min_loop _,tail _ s2 n H2 I3 ⟨t2,rfl⟩ g1 g2 e1 e2 _ c2 _ ⟨t,t2,rfl⟩ rfl rfl rfl (λb o z e=>(Heap.get?_update_other _ _ (Ne.symm z)).trans e) b_ rfl⟩
  |some bm=>
   obtain⟨b,m⟩:=bm;obtain⟨tb,tm,rfl⟩:=(show ∃t u,best=#[.int b t,.int m u]from hb);show wpAny _ A.in1 (tryCatch (holding [.int i t,.int n t2] (richCompare .Lt (.int n t2) (.int m tm) >>= _)) _ >>= _) _ _ _;refine wpAny_bind (wpAny_tryCatch (wpAny_holding (wpAny_bind (CmpOf.ints_lt (prog:=X.prog) (w:=X.w) (A:=A.in1) (P:=λz v=>∃t,v=.int (if z=0 then n else m) t) (λz=>if z=0 then n else m) (λi v h=>h) 0 1 _ _ _ _ _ ⟨t2,rfl⟩ ⟨tm,rfl⟩ ?_))))
   refine wpAny_bind (wpAny_holding (wpAny_truthy_bool ?_));refine wpAny_bind (wpAny_letGo (wpAny_pure ?_))
   by_cases l5:n<m
   .obtain⟨c2,b_⟩:∃c2,(s2.heap.update S (Obj.mapSeq λ_=>#[.int i t,.int n t2])).get? S=some (seqObj "list" #[.int i t,.int n t2] c2):=⟨_,get?_update_seq pS λ_=>#[.int i t,.int n t2]⟩
    rw[if_pos (show decide ((if(0:Nat)=0 then n else m)<(if(1:Nat)=0 then n else m))=true by simp[l5])];refine wpAny_bind (wpAny_updateSeq pS rfl (wpAny_bind (wpAny_letGo ?_)));rw[l8];exact wpAny_pure ⟨plainId_quiet PySem.F.plain_min_loop _,tail _ s2 n H2 I3 ⟨t2,rfl⟩ g1 g2 e1 e2 _ c2 _ (by unfold fu;simp only[if_pos l5];exact⟨t,t2,rfl⟩) rfl rfl rfl (λb o z e=>(Heap.get?_update_other _ _ (Ne.symm z)).trans e) b_ rfl⟩
   .rw[if_neg (show ¬decide ((if(0:Nat)=0 then n else m)<(if(1:Nat)=0 then n else m))=true by simp[l5])];refine wpAny_bind (wpAny_letGo ?_);rw[l8];exact wpAny_pure ⟨plainId_quiet PySem.F.plain_min_loop _,tail _ s2 n H2 I3 ⟨t2,rfl⟩ g1 g2 e1 e2 _ c s2 (by unfold fu;grind) rfl rfl rfl (λb o _ e=>e) pS rfl⟩
def Xe(F:rC X.prog X.w X.K X.mg X.base (eA X.prog X.w) k sp)(hr:br (k+1) X.A)(zt:X.calm=true)(hv:∀b o,cs.lookup b=some o->b∉fk X.stack)(hn:∀b o,cs.lookup b=some o->X.base.get? b=none)
  (In:Inv X pins σ H s)(hc:mU cs H s.heap)(hq:bB X.K H p (lJ.map V.int))(h:nH sp (.ref f) cs X.K p (lJ.map V.int) Q lJ none H):
  wpAny (model X.prog X.w) X.A (call (.builtin "min") [.ref p] [(Str.ofString "key", .ref f)]) (EP X pins σ Q) X.xe s:=by
 have l8:(toString "min"++toString ".loop":String)="min.loop":=by decide
 obtain⟨aw,rI,pl,hz⟩:=In.list hq;have hl:=pl.isList;have cb:p<s.heap.objs.size:=by obtain⟨_,e,_⟩:=hl;exact Heap.lt_size e
 refine kmk_tree PySem.F.kind_min PySem.F.plain_min PySem.F.entry_min (kmk_min_key _ _) ?_;show wpAny _ X.A.in1 (Builtin.Builtins.bindParams "min" ["key", "default"] 0 ⟨[],[(Str.ofString "key", .ref f)]⟩ >>= _) _ _ s;refine wpAny_bind (wpAny_of_eq (show Builtin.Builtins.bindParams "min" ["key", "default"] 0 ⟨[],[(Str.ofString "key", .ref f)]⟩=pure [some (.ref f),none]from rfl) ?_);refine wpAny_bind (wpAny_pure ?_);refine wpAny_bind (wpAny_pyIter_list hl ?_);refine wpAny_bind (wpAny_newList ?_ (w1a _));rw[l8];have hS:(s.heap.push {cls:=.type "list_iterator", data:=.fields #[.ref p,.int 0 0]}).objs.size=s.heap.objs.size+1:=size_push' ..;have k2:∀b o,s.heap.get? b=some o->((s.heap.push {cls:=.type "list_iterator", data:=.fields #[.ref p,.int 0 0]}).push (seqObj "list" #[] 0)).get? b=some o:=λb o e=>Heap.get?_push_of_some _ (Heap.get?_push_of_some _ e)
 have I2:Inv X pins σ H {s with heap:=(s.heap.push {cls:=.type "list_iterator", data:=.fields #[.ref p,.int 0 0]}).push (seqObj "list" #[] 0)}:=In.kept (t':=s.toks) k2;refine wpAny_pure ⟨plainId_quiet PySem.F.plain_min_loop _,NN F hr.in1 rfl (In.ok.hd zt) hv hn (I:=s.heap.objs.size) (S:=(s.heap.push {cls:=.type "list_iterator", data:=.fields #[.ref p,.int 0 0]}).objs.size) (by grind) (w0m cb) (λb o z=>?_) lJ 0 none #[] 0 _ H rfl (w1a _) I2 (In.jr (w0c _) (In.aG.fresh (w0c _))) (In.jr (by grind) (In.aG.fresh (by grind))) hq ⟨_,Heap.get?_push_of_some _ (Heap.get?_push_size _ rfl),rfl,rfl⟩ (Heap.get?_push_size _ rfl) rfl (λb o z=>⟨(hc b o z).1,k2 b o (hc b o z).2⟩) h⟩
 have:=Heap.lt_size (hc b o z).2
 grind
end
def Bx(sp:V->List V->Hp->VK->XK->Prop)(X:Cx)(params:Arguments)(body:Expr)(scope:Scope)(Nf:List Str)(js:List Nat)(ta:TE):TE:=λσ H Q=>ta σ H λv H1=>∃(p:Addr)(is:List Int),v=.ref p /\
 ∀f aY H2,nZ X params body scope aY f H1 H2->∀cs,kJ aY Nf scope js σ H2 cs->bB X.K H2 p (is.map V.int)/\nH sp (.ref f) cs X.K p (is.map V.int) Q is none H2
section
variable{X:Cx}{k:Nat}{sp:V->List V->Hp->VK->XK->Prop}
def ZN{params:Arguments}{body a:Expr}{scope:Scope}{et p pos kp:Pos}{Nf:List Str}{js:List Nat}{ta:TE}(F:rC X.prog X.w X.K X.mg X.base (eA X.prog X.w) k sp)(hr:br (k+1) X.A)(hc:X.calm=true)(hg:Gl X "min")(hm:X.mg "min"=none)
  (M:Maker X)(qg:∀y,X.fn y=true)(ha:PE X a ta)(kR:defaultsOf params X.env=([],[]))
  (b7:∀x∈scope.names,x.2=.free->X.env.kindOf x.1=some .cell\/X.env.kindOf x.1=some .free)
  (nh:∀(i j:Nat) y,Nf[i]?=some y->js[i]?=some j->X.N[j]?=some y/\(y,NameKind.free)∈scope.names/\jI X.env.scope y/\X.env.kindOf y≠some .local)
  (he:autoParam (starEach [a] X.env=[(false,eval a X.env)]) jJ):
  PE X (.Call (.Name "min" p) [a] [⟨some "key", .Lambda params body scope et,kp⟩] pos) (Bx sp X params body scope Nf js ta):=by
 intro pins s σ H Q I h;refine wpAny_Call_Name_kw (qJ I hg hm PyProof.Rows.Boot.«min» ?_ (by decide) (by decide));refine callWith_kw ?_ (by rw[he];rfl) (by rw[he];rfl);rw[he];show wpAny _ _ (spliced ((false,eval a X.env)::[])) _ _ s;refine Calls.spliced_cons (bt (ha pins s σ H _ I h) λu s1 ⟨v,H1,I1,r1,q1⟩=>?_)
 obtain⟨pa,is,rfl,q⟩:=q1;obtain rfl:u=Value.ref pa:=r1;refine Calls.spliced_nil ?_;refine kws_cons (bt (Py M kR b7 _ _ σ H1 (λv H2=>∃f aY,v=.ref f/\nZ X params body scope aY f H1 H2) I1 (λf aY H2 z=>⟨f,aY,rfl,z⟩)) λfv s3 ⟨v3,H2,I3,TV,f,aY,ev,la⟩=>kws_nil ?_)
 subst ev;obtain rfl:fv=Value.ref f:=TV;obtain⟨eI,nq,f6,mP⟩:=AG (scope:=scope) (env:=X.env) λx hx hf=>I.ok.has x.1 (b7 x hx hf)
 obtain rfl:eI=aY:=jB (nq.symm.trans la.1)
 have look:∀b o,(dD eI s3.heap).lookup b=some o->∃x,X.env.cells.lookup x=some b/\s3.heap.get? b=some o:=λb o z=>by
  obtain⟨x,h1,h2⟩:=GA z;exact⟨x,f6 x b h1,h2⟩
 have kn:∀b o,(dD eI s3.heap).lookup b=some o->H2 b=none/\s3.heap.get? b=some o:=λb o z=>by
  obtain⟨x,h1,h2⟩:=look b o z;exact⟨I3.c7 x b h1,h2⟩
 have ur:∀b o,(dD eI s3.heap).lookup b=some o->X.ax.heap.objs.size<=b:=λb o z=>by
  obtain⟨x,h1,h2⟩:=look b o z;exact I3.ok.ue x b (qg x) h1
 have CO:kJ eI Nf scope js σ H2 (dD eI s3.heap):=by
  refine⟨λx y c e1 e2=>I3.ok.inj x y c (f6 x c e1) (f6 y c e2),mP,λx c e=>?_,λc o e=>⟨(kn c o e).1,?_⟩,λi y j z e1 e2 e3=>?_⟩
  .obtain⟨v,o,g,_⟩:=I3.cell x c (f6 x c e);exact⟨o,CQ e g⟩
  .obtain⟨x,h1,h2⟩:=look c o e;obtain⟨v,o',g,d⟩:=I3.cell x c h1;rw[h2]at g;cases g;exact⟨v,d⟩
  .obtain⟨n1,n2,n3,n4⟩:=nh i j y e1 e2;obtain⟨m,hm,hl⟩:=I3.loc;obtain⟨u,ru,l⟩:=hl j y z n1 e3 n3;rcases l with⟨k1,_⟩|⟨k1,c,ec,o,g,d⟩
   .exact absurd k1 n4
   .obtain⟨c',sH⟩:=mP y n2;have e4:=f6 y c' sH;rw[ec]at e4;cases e4;exact⟨c,o,u,sH,CQ sH g,d,ru⟩
 show wpAny _ _ (call (.builtin "min") [.ref pa] [(Str.ofString "key", .ref f)]) _ _ _;obtain⟨hq,zN⟩:=q f eI H2 la _ CO;refine Xe F hr hc ?_ (λb o z=>Heap.get?_none_of_le (w0s I3.ok.mM (ur b o z))) I3 (λb o z=>kn b o z) hq zN
 exact λb o z hb=>by
  rcases w0e.mp (I3.jG b hb)with e|zp
  .obtain⟨x,h1,_⟩:=look b o z;exact I3.rE x b h1 e
  .obtain⟨_,o',q',_⟩:=I3.ok.eM.mem zp
   exact absurd (Heap.lt_size q') (w3a.mpr (ur b o z))
end
end L2
namespace D
open PySem L2
def gu:FR->Option Int
 |.ok (.fr (.int n))=>some n
 |_=>none
def fL(F:Int->Option Int):List Int->Option (Int×Int)->Option Int
 |[],o=>o.map (·.1)
 |i::is,o=>match F i with
  |some n=>fL F is (fu o i n)
  |none=>none
def qy(r:Nat->List W->FR)(j:Nat)(e1:List S):W->Option (List W)->R W
 |.lst ws,some aK=>match dZ ws with
  |some is=>if bA aK=true then ba ((fL (λi=>gu (r j (.int i::aK))) is none).map .int) e1 else .no
  |none=>.no
 |_,_=>.no
def kc(r:Nat->List W->FR)(j:Nat)(js:List Nat)(d:Den W):Den W:=λe=>(d e).bind λw e1=>qy r j e1 w (c_ js e1)
theorem z29:kc r j js d e=(d e).bind λw e1=>qy r j e1 w (c_ js e1):=rfl
theorem OS{K:Fg}{bR:Nat->Option Lm}{r:Nat->List W->FR}{j:Nat}{lm:Lm}{aK:List W}{G1 H1:Hp}{cs:Cs}{f p:Addr}{xs:List V}{Q:VK}{out:Int}(hl:bR j=some lm)(Cd:bA aK=true)(hq:bB K G1 p xs)
  (hQ:∀Gc Hc,aM G1 H1 Gc Hc->Q (.int out) Hc):
  ∀(is:List Int)(o:Option (Int×Int))(Gc Hc:Hp),fL (λi=>gu (r j (.int i::aK))) is o=some out->aM G1 H1 Gc Hc->(∀b o,cs.lookup b=some o->Hc b=none)->Rep K (bT Gc cs) (.fn j lm aK) (.ref f) ->
   nH (yq K bR r) (.ref f) cs K p xs Q is o Hc
 |[],o,Gc,Hc,hm,g,hc,rf=>by
  cases o with
  |none=>cases hm
  |some bm=>
   obtain⟨b,m⟩:=bm;cases hm;exact⟨_,_,rfl,hQ Gc Hc g⟩
 |i::is,o,Gc,Hc,hm,g,hc,rf=>by
  obtain⟨n,hn,hm⟩:∃n,gu (r j (.int i::aK))=some n/\fL (λi=>gu (r j (.int i::aK))) is (fu o i n)=some out:=by
   grind [fL]
  have hn:r j (.int i::aK)=.ok (.fr (.int n)):=by
   unfold gu at hn
   grind
  refine⟨bT Gc cs,j,lm,aK,[.int i],.int n,C6 g.sub,rf,⟨_,_,rfl,rfl,rfl⟩,rfl,Cd,hl,hn,λG' H' v g' rv=>?_⟩
  cases(show v=V.int n from rv);have gn:=aM.fW g' hc g.sub;refine⟨n,rfl,gn.sub.seq ((g.gg.trans gn.gg).seq hq),OS hl Cd hq hQ is (fu o i n) (dg G' cs) _ hm (g.trans gn) (λb o z=>wW z) (Rep.mono (C6 gn.gg) _ rf)⟩
section
variable{X:Cx}{Z:Zt}{EE:L2.St->XK}{e body:Expr}{params:Arguments}{d:Den W}{et p pos kp:Pos}{k:Nat}{N nf:List Str}{js:List Nat}{sc scope:Scope}{bR:Nat->Option Lm}{r:Nat->List W->FR}
def Z7(j:Nat)(l:Lm)(F:rC X.prog X.w X.K X.mg X.base (eA X.prog X.w) k (yq X.K bR r))(hr:br (k+1) X.A)(hc:X.calm=true)(hm:X.mg "min"=none)(M:Maker X)(qg:∀y,X.fn y=true)(he:DE Z X EE e d)(Sl:bR j=some l)(ok:bX sc scope N nf js=true)
  (hl:autoParam (l=⟨X.env.qual++"<lambda>", params,body,scope,nf⟩) jJ)(kR:autoParam (defaultsOf params X.env=([],[])) jJ)(hsc:autoParam (X.env.scope=sc) jJ)(hN:autoParam (X.N=N) jJ)(hg:autoParam (Gl X "min") jJ)
  (jY:autoParam (starEach [e] X.env=[(false,eval e X.env)]) jJ):
  DE Z X EE (.Call (.Name "min" p) [e] [⟨some "key", .Lambda params body scope et,kp⟩] pos) (kc r j js d):=by
 unfold bX at ok;simp only[w0n,w0w,beq_iff_eq,bne_iff_ne,w1l,w0z]at ok;obtain⟨⟨⟨⟨⟨⟨k1,k2⟩,k3⟩,k4⟩,k5⟩,k6⟩,k7⟩:=ok;have kind:∀x,X.env.kindOf x=sc.names.lookup x:=λx=>by rw[<- hsc];rfl
 refine PE.mono (ZN (Nf:=nf) (js:=js) F hr hc hg hm M qg he kR (λx hx hf=>?_) (λi j y e1 e2=>?_) jY) ?_
 .rw[kind];rcases k4 x hx with(z|z)|z
  .exact absurd hf z
  .exact .inl z
  .exact .inr z
 .have cb:i<js.length:=(w0b.mp e2).1;have z:=k6 i cb;rw[e1,e2]at z;obtain⟨z1,z2⟩:=k7 y (w0u e1);refine⟨by rw[hN];simpa using z,PySem.mem_of_lookup z1,?_,?_⟩
  .rw[hsc];rcases z2 with z|z
   .exact .inr (.inl z)
   .exact .inr (.inr z)
  .rw[kind];rcases z2 with z|z<;>(rw[z];decide)
 .rintro σ H Q ⟨G,en,rel,h⟩;simp only[kc,R.au]at h;refine⟨G,en,rel,h.imp (λw e1 h G1 v1 H1 r1 s1 p1=>?_) λ_ _ h=>h⟩
  cases w with
  |lst ws=>
   cases kQ:c_ js e1 with
   |none=>rw[kQ]at h;exact h.elim
   |some aK=>
   rw[kQ]at h;simp only[qy]at h;cases hi:dZ ws with
   |none=>rw[hi]at h;exact h.elim
   |some is=>
   rw[hi]at h;simp only[]at h;split at h
   .rename_i Cd;cases ho:fL (λi=>gu (r j (.int i::aK))) is none with
    |none=>rw[ho]at h;exact h.elim
    |some out=>
    rw[ho]at h;obtain⟨pa,xs,rfl,q,rr⟩:=p1;cases Dh hi rr;refine⟨pa,is,rfl,λf aY H2 la cs co=>?_⟩
    obtain⟨eN,Hm,pm,eB,c',hH,hf,rfl⟩:=la
    have rm:Rel X.K Z G1 σ Hm e1:=by
     rcases hH with rfl|⟨c,oc,hc,rfl⟩
     .exact r1
     .exact r1.grow (aM.nu r1.sub hc _)
    have gl:=aM.laid rm.sub hf (lY (kla_obj "<lambda>" (X.env.qual++"<lambda>") params body scope aY pm c' eB) (X.env.qual++"<lambda>") c');have r2:=rm.grow gl;obtain⟨zs,rz,zl,zv⟩:=Hv r1 kQ;have ou:∀b o,cs.lookup b=some o->upd Hm f (lY (kla_obj "<lambda>" (X.env.qual++"<lambda>") params body scope aY pm c' eB) (X.env.qual++"<lambda>") c') b=none:=λb o z=>(co.oi b o z).1
    have y9:∀b o,cs.lookup b=some o->upd G1 f (lY (kla_obj "<lambda>" (X.env.qual++"<lambda>") params body scope aY pm c' eB) (X.env.qual++"<lambda>") c') b=none:=λb o z=>by
     cases q:upd G1 f (lY (kla_obj "<lambda>" (X.env.qual++"<lambda>") params body scope aY pm c' eB) (X.env.qual++"<lambda>") c') b with
     |none=>rfl
     |some u=>have:=r2.sub b u q;rw[ou b o z]at this;cases this
    have sA:=gl.gg.trans (HQ y9)
    have vF:cs.lookup f=none:=by
     cases q:cs.lookup f with
     |none=>rfl
     |some o=>have:=y9 f o q;rw[bV]at this;cases this
    have fc:fQ (bT (upd G1 f (lY (kla_obj "<lambda>" (X.env.qual++"<lambda>") params body scope aY pm c' eB) (X.env.qual++"<lambda>") c')) cs) aY l zs cs:=by
     subst hl;refine⟨co.inj,co.has,co.all,λc o z=>⟨o8 z,(co.oi c o z).2⟩,λi y z g1 g2=>?_,by rw[zl];exact k5⟩
     have hi:i<js.length:=by rw[<- zl];exact(w0b.mp g2).1
     have g3:js[i]?=some js[i]:=w0d hi;exact co.val i y js[i] z g1 g3 (zv i _ z g3 g2)
    have Iq:Rep X.K (bT (upd G1 f (lY (kla_obj "<lambda>" (X.env.qual++"<lambda>") params body scope aY pm c' eB) (X.env.qual++"<lambda>") c')) cs) (.fn j l aK) (.ref f):=by
     refine⟨f,aY,zs,cs,rfl,⟨pm,c',eB,?_⟩,fc,ao.mono sA aK rz⟩;rw[h9 vF,bV,hl]
    have q2:bB X.K (upd G1 f (lY (kla_obj "<lambda>" (X.env.qual++"<lambda>") params body scope aY pm c' eB) (X.env.qual++"<lambda>") c')) pa (is.map V.int):=gl.gg.seq q;refine⟨r2.sub.seq q2,OS Sl Cd q2 (λGc Hc g=>?_) is none _ _ ho (aM.refl r2.sub) ou Iq⟩
    exact h Gc _ Hc (r2.grow g) (s1.trans (gl.gg.trans g.gg)) rfl
   .exact h.elim
  |_=>exact h.elim
end
end D
namespace L2
open PySem PySem.Spec PyProof.Rows
def dn{α β:Type}(R:α->β->Prop):List α->List β->Prop
 |[],[]=>True
 |a::as,b::bs=>R a b/\dn R as bs
 |_,_=>False
def dn.perm{bs:List β}(h:J0.Perm bs):∀{as:List α},dn R as bs->∃BY,BY.Perm as/\dn R BY J0:=by
 induction h with
 |nil=>grind [List.Perm.refl]
 |cons x _ ih=>
  intro as r;cases as with
  |nil=>exact r.elim
  |cons a as=>
   obtain⟨BY,p,q⟩:=ih r.2;exact⟨a::BY,p.cons a,r.1,q⟩
 |swap x y l=>
  intro as r;cases as with
  |nil=>exact r.elim
  |cons a as=>
   cases as with
   |nil=>exact r.2.elim
   |cons b as=>exact⟨b::a::as,.swap ..,r.2.1,r.1,r.2.2⟩
 |trans _ _ SY S0=>
  intro as r;obtain⟨a2,p2,q2⟩:=S0 r;obtain⟨a1,p1,q1⟩:=SY q2;exact⟨a1,p1.trans p2,q1⟩
theorem dn.get{α β:Type}{R:α->β->Prop}:∀{as:List α}{bs:List β},dn R as bs->∀(i:Nat) a,as[i]?=some a->∃b,bs[i]?=some b/\R a b
 |a::as,b::bs,r,0,_,e=>by cases e;exact⟨b,rfl,r.1⟩
 |a::as,b::bs,r,i+1,x,e=>dn.get r.2 i x e
 |[],[],_,i,_,e=>by simp at e
theorem dn.length:∀{as:List α}{bs:List β},dn R as bs->as.length=bs.length
 |[],[],_=>rfl
 |_::_,_::_,r=>congrArg (·+1) (dn.length r.2)
theorem dn.map{f:α->γ}{g:β->δ}(h:∀a b,R a b->R' (f a) (g b)):∀{as:List α}{bs:List β},dn R as bs->dn R' (as.map f) (bs.map g)
 |[],[],_=>trivial
 |_::_,_::_,r=>⟨h _ _ r.1,dn.map h r.2⟩
def JT(a:Str×V)(b:Keyed):Prop:=(∃t,b.1=.str a.1 t)/\RelV a.2 b.2
theorem P2:∀{ns:List Str}{xs:List V}{ws us:List Value},Vals (ns.map V.str) ws->Vals xs us->dn JT (ns.zip xs) (ws.zip us)
 |[],_,_,us,h1,_=>by cases h1;exact trivial
 |_::_,[],_,_,h1,h2=>by cases h1;cases h2;exact trivial
 |n::ns,x::xs,_,_,h1,h2=>by
  cases h1 with
  |cons r1 h1=>
  cases h2 with
  |cons r2 h2=>exact⟨⟨r1,r2⟩,P2 h1 h2⟩
theorem NO:∀{xs:List V}{us:List Value},dn RelV xs us->Vals xs us
 |[],[],_=>.nil
 |_::_,_::_,r=>.cons r.1 (NO r.2)
theorem M1:∀{ns:List Str}{ws:List Value},Vals (ns.map V.str) ws->StrsAre ws ns
 |[],_,h=>by cases h;exact .nil
 |n::ns,_,h=>by
  cases h with
  |cons r h=>
   obtain⟨t,rfl⟩:=r;exact .cons n t (M1 h)
theorem Xf:∀{ws:List Value}{ns:List Str},StrsAre ws ns->2<=ws.length->keyKind' ws.toArray=pure oneType'
 |[],_,_,h=>absurd h (by simp)
 |[_],_,_,h=>absurd h (by simp)
 |_::_::_,_,hJ,_=>keyKind_strs hJ
abbrev vn(zs:List (Str×V)):Prop:=zs.Pairwise λa b=>¬b.1.cps.toList<a.1.cps.toList
def Xg(r:dn JT zs arr.toList)(h:SortedToK strKind arr arr.size):vn zs:=by
 have key:∀i (hi:i<zs.length),KK strKind arr i=zs[i].1.cps.toList:=λi hi=>by
  obtain⟨b,e,⟨t,hb⟩,_⟩:=r.get i zs[i] (w0d hi)
  simp_all [KK]
 refine w2p.mpr λi j hi hj B_=>?_
 have hl:zs.length=arr.size:=by rw[r.length];simp
 have:=h i j (w4g B_) (by omega);rw[key i hi,key j hj]at this;exact of_decide_eq_false this
def Z8{σ:St}(F:eC X.prog X.w X.K X.mg X.base (eA X.prog X.w) k f fd ps sp)(hr:br k A)(hA:A.frames=X.A.frames)(hb:Binds X.K fd ps [])
  (I:Inv X pins σ H s)(r:Vals vs us)(h:sp vs H Q λ_ _ _=>False):wpAny (model X.prog X.w) A (call (.ref f) us) (EP X pins σ Q) E s:=by
 have hl:(us++[]).length=ps.length:=by rw[w2d,<- r.length];exact F.len _ _ _ _ h
 have e0:=I.pW;have bd:=hb s us I.ky hl;rw[w2d]at bd;refine wpAny_call (codeAny_mono (F.run A X.stack s H ⟨us,[]⟩ us vs Q _ hr ⟨hA.trans e0.frames,e0.mod,e0.bs,e0.mM,e0.eM,e0.oo,e0.aG,e0.bare,e0.tab⟩ bd r h) λr s' hq=>?_)
 cases r with
 |error e=>
  obtain⟨_,_,_,_,_,_,_,_,_,_,hE⟩:=hq;exact hE.elim
 |ok fl=>
  cases fl with
  |ret u=>exact I.after hq
  |next=>exact False.elim hq
  |brk=>exact False.elim hq
  |cont=>exact False.elim hq
def me(sp:Sp)(l:Addr)(o:Obj)(ks:Addr)(K:List Str->Hp->Prop):List V->List Str->Hp->Prop
 |[],ns,H=>K ns H
 |x::xs,ns,H=>sp [x] H (λv H'=>∃n,v=.str n/\H' l=some (.cP o (.lst []))/\H' ks=some (.lst (ns.map V.str))/\me sp l o ks K xs (ns++[n]) (upd H' ks (.lst ((ns++[n]).map V.str)))) λ_ _ _=>False
section
variable{X:Cx}{A:Around}{k:Nat}{f:Addr}{fd:FuncData}{ps:List Str}{sp:Sp}{pins:List (Addr×Obj)}{σ:St}{l ks:Addr}{E:Value->Shared->Prop}{o:Obj}{K:List Str->Hp->Prop}
theorem Mi(F:eC X.prog X.w X.K X.mg X.base (eA X.prog X.w) k f fd ps sp)(hr:br k A)(hA:A.frames=X.A.frames)(hb:Binds X.K fd ps [])
  (uE:l≠ks)(items:Array Value):∀(xs:List V)(us:List Value)(ns:List Str)(s:Shared)(H:Hp),Vals xs us->Inv X pins σ H s->H l=some (.cP o (.lst []))->H ks=some (.lst (ns.map V.str))->ns.length+xs.length<=1000->me sp l o ks K xs ns H ->
  wpAny (model X.prog X.w) A (forIn us PUnit.unit λx (_:PUnit)=>kZ l (.ref f) (.ref ks) x items) (λ_ s'=>∃(H':Hp)(uN:List Str),Inv X pins σ H' s'/\H' l=some (.cP o (.lst []))/\H' ks=some (.lst (uN.map V.str))/\uN.length=ns.length+xs.length/\K uN H') E s
 |[],us,ns,s,H,r,I,hl,hk,hz,h=>by
  cases r;rw[w3t];exact wpAny_pure ⟨H,ns,I,hl,hk,rfl,h⟩
 |x::xs,us,ns,s,H,r,I,hl,hk,hz,h=>by
  cases r with
  | @cons _ u _ us r rr=>
   rw[w2s];refine wpAny_bind ?_;unfold kZ;refine wpAny_bind (wpAny_attempt ?_);refine wpAny_mono (Z8 (Q:=λv H'=>∃n,v=.str n/\H' l=some (.cP o (.lst []))/\H' ks=some (.lst (ns.map V.str))/\me sp l o ks K xs (ns++[n]) (upd H' ks (.lst ((ns++[n]).map V.str)))) F hr hA hb I (.cons r .nil) h) (λw s1 hq=>?_) (λ_ _ z=>z)
   obtain⟨v,H1,I1,rv,n,rfl,e1,e2,h2⟩:=hq;obtain⟨KR,aw,m,rI,eo⟩:=(show aN X.prog X.w H1 s1.heap ks (.lst (ns.map V.str))from I1.aG ks _ e2);have EW:aw.length=ns.length:=by rw[<- rI.length,w0a]
   refine wpAny_bind (listUpdate_at eo rfl ?_ (hsz:=by grind) (hsz2:=by grind))
   obtain⟨m2,J_⟩:∃m2,(s1.heap.update ks (Obj.mapSeq (·.push w))).get? ks=some {cls:=.type "list", data:=.seq (aw++[w]).toArray m2}:=by
    have z:=get?_update_seq eo (·.push w)
    grind
   have I2:Inv X pins σ (upd H1 ks (.lst ((ns++[n]).map V.str))) {s1 with heap:=s1.heap.update ks (Obj.mapSeq (·.push w))}:=by
    refine I1.write (t':=s1.toks) (by rw[e2];exact True.intro) (.inl rfl) (λb u hb q=>(Heap.get?_update_other _ _ (Ne.symm hb)).trans q) ⟨_,J_⟩ (show aN X.prog X.w _ _ _ (.lst _)from⟨by grind [sizeLine_eq],aw++[w],m2,?_,J_⟩)
    rw[w0x];exact rI.append (.cons rv .nil)
   refine wpAny_pure ?_;show wpAny _ _ (forIn us PUnit.unit _) _ _ _;refine wpAny_mono (Mi F hr hA hb uE items xs us (ns++[n]) _ _ rr I2 (by grind [aU]) bV (by grind) h2) (λ_ s' hq=>?_) (λ_ _ z=>z)
   grind
def oK(sp:Sp)(l:Addr)(xs:List V)(H:Hp)(Q:VK):Prop:=
 ∀o ks,upd H l (.cP o (.lst [])) ks=none->me sp l o ks (λns H'=>∀zs:List (Str×V),zs.Perm (ns.zip xs)->vn zs->Q (.ref l) (upd (upd H' ks (.lst [])) l (.lst (zs.map (·.2))))) xs [] (upd (upd H l (.cP o (.lst []))) ks (.lst []))
def Xh(F:eC X.prog X.w X.K X.mg X.base (eA X.prog X.w) k f fd ps sp)(hr:br k A)(hA:A.frames=X.A.frames)(hb:Binds X.K fd ps [])
  (I:Inv X pins σ H s)(el:H l=some (.lst xs))(hf:∀o v,X.aA l≠some (.cP o v))(EC:xs.length<64)(h:oK sp l xs H Q):
  wpAny (model X.prog X.w) A (Builtin.«list.sort» ⟨[.ref l],[(Str.ofString "key", .ref f)]⟩) (λfin s'=>fin=.done (.ret .none)/\EP X pins σ Q (.ref l) s') E s:=by
 rw[UW];obtain⟨_,us,m,rU,eo⟩:=(show aN X.prog X.w H s.heap l (.lst xs)from I.aG l _ el);have KN:us.length=xs.length:=by rw[<- rU.length]
 refine wpAny_bind (listItems_at eo rfl ?_);refine wpAny_bind (listUpdate_at eo rfl ?_ (hsz:=by grind));obtain⟨e1,B2⟩:∃e1,(s.heap.update l (Obj.mapSeq λ_=>#[])).get? l=some (seqObj "list" #[] e1):=⟨_,get?_update_seq eo (λ_=>#[])⟩
 have I1:Inv X pins σ (upd H l (.lst [])) {s with heap:=s.heap.update l (Obj.mapSeq λ_=>#[])}:=
  I.write (t':=s.toks) (by rw[el];exact True.intro) (.inl rfl) (λb u hb q=>(Heap.get?_update_other _ _ (Ne.symm hb)).trans q) ⟨_,B2⟩ (show aN X.prog X.w _ _ _ (.lst [])from⟨w1a _,[],e1,.nil,B2⟩)
 have I2:=I1.om (a:=l) (xs:=[]) (o:=seqObj "list" #[] e1) bV B2;rw[Dm]at I2;refine wpAny_bind (seqEpoch_at B2 rfl ?_);refine wpAny_bind (wpAny_newTuple ?_ (hsz:=by grind));have I3:=I2.kept (t':=s.toks) (h':=(s.heap.update l (Obj.mapSeq λ_=>#[])).push (seqObj "tuple" us.toArray.toList.toArray 0)) λb u q=>Heap.get?_push_of_some _ q
 refine wpAny_bind (wpAny_newList ?_);have fr:=I3.aG.fresh (w0c _)
 have I4:=I3.laid (t':=s.toks) (o:=.lst []) (h':=((s.heap.update l (Obj.mapSeq λ_=>#[])).push (seqObj "tuple" us.toArray.toList.toArray 0)).push (seqObj "list" #[] 0)) (λb u q=>Heap.get?_push_of_some _ q) (w0c _)
  (show aN X.prog X.w _ _ _ (.lst [])from⟨w1a _,[],0,.nil,Heap.get?_push_size _ rfl⟩)
 refine wpAny_holding ?_;refine wpAny_bind (wpAny_rule ?_);rw[List.forIn_toArray]
 have uE:l≠((s.heap.update l (Obj.mapSeq λ_=>#[])).push (seqObj "tuple" us.toArray.toList.toArray 0)).objs.size:=λz=>by
  grind [bV]
 refine wpAny_bind (wpAny_mono (Mi F hr hA hb uE us.toArray xs us [] _ _ rU I4 (by grind [aU,bV]) bV (by simp;omega) (h _ _ fr)) (λ_ s5 hq=>?_) (λ_ _ z=>z))
 obtain⟨H5,ns,I5,Rt,J8,l9,q⟩:=hq
 clear I1 I2 I3 I4
 generalize ((s.heap.update l (Obj.mapSeq λ_=>#[])).push (seqObj "tuple" us.toArray.toList.toArray 0)).objs.size=ks at *
 obtain⟨_,ws,mk,rW,ew⟩:=(show aN X.prog X.w H5 s5.heap _ (.lst (ns.map V.str))from I5.aG _ _ J8);have rO:ws.length=us.length:=by grind [Vals.length]
 have hJ:=M1 rW;have Rw:s5.heap.get? l=some (seqObj "list" #[] e1):=(show _/\_ from I5.aG _ _ Rt).1;refine wpAny_bind (listItems_at ew rfl ?_)
 have fin:∀arr:Array Keyed,arr.Perm (ws.toArray.zip us.toArray)->SortedToK strKind arr arr.size->wpAny (model X.prog X.w) A (do
   Builtin.List.listUpdate (.ref ks) λ_=>#[]
   letGo (arr.map (·.1)).toList ([]:List Value)
   let touched:=(<- seqEpoch l) != e1
   Builtin.List.listUpdate (.ref l) λ_=>arr.map (·.2)
   if touched then rule "list.sort.modified";raiseError "ValueError" "list modified during sort"
   ret .none) (λfin s'=>fin=.done (.ret .none)/\EP X pins σ Q (.ref l) s') E s5:=λarr hp hs=>by
  have KL:arr.toList.Perm (ws.zip us):=by
   grind [Array.perm_iff_toList_perm]
  obtain⟨zs,pz,rz⟩:=dn.perm KL (P2 rW rU);have up:=Xg rz hs
  have hy:Vals (zs.map (·.2)) (arr.map (·.2)).toList:=by
   rw[Array.toList_map];exact NO (dn.map (λ_ _ h=>h.2) rz)
  have SV:arr.size=us.length:=by rw[hp.size_eq];simp[rO]
  have hzl:zs.length=us.length:=by rw[rz.length];simp[SV]
  refine wpAny_bind (listUpdate_at ew rfl ?_ (hsz:=by grind));obtain⟨e6,Kc⟩:∃e6,(s5.heap.update ks (Obj.mapSeq λ_=>#[])).get? ks=some (seqObj "list" #[] e6):=⟨_,get?_update_seq ew (λ_=>#[])⟩
  have I6:Inv X pins σ (upd H5 ks (.lst [])) {s5 with heap:=s5.heap.update ks (Obj.mapSeq λ_=>#[])}:=
   I5.write (t':=s5.toks) (by rw[J8];exact True.intro) (.inl rfl) (λb u hb q=>(Heap.get?_update_other _ _ (Ne.symm hb)).trans q) ⟨_,Kc⟩ (show aN X.prog X.w _ _ _ (.lst [])from⟨w1a _,[],e6,.nil,Kc⟩)
  have Ru:upd H5 ks (.lst []) l=some (.cP (seqObj "list" #[] e1) (.lst [])):=by grind [aU]
  have Es:(s5.heap.update ks (Obj.mapSeq λ_=>#[])).get? l=some (seqObj "list" #[] e1):=(Heap.get?_update_other _ _ (Ne.symm uE)).trans Rw
  have I7:=I6.qx Ru hf;refine wpAny_bind (wpAny_letGo ?_);refine wpAny_bind (seqEpoch_at Es rfl ?_);refine wpAny_bind (listUpdate_at Es rfl ?_ (hsz2:=by grind));obtain⟨e8,J'⟩:∃e8,((s5.heap.update ks (Obj.mapSeq λ_=>#[])).update l (Obj.mapSeq λ_=>arr.map (·.2))).get? l=some (seqObj "list" (arr.map (·.2)) e8):=⟨_,get?_update_seq Es (λ_=>arr.map (·.2))⟩
  have I8:=I7.write (x:=l) (e:=l) (o:=.lst (zs.map (·.2))) (t':=s5.toks) (h':=(s5.heap.update ks (Obj.mapSeq λ_=>#[])).update l (Obj.mapSeq λ_=>arr.map (·.2))) (by rw[bV];exact True.intro) (.inl rfl) (λb u hb q=>(Heap.get?_update_other _ _ (Ne.symm hb)).trans q) ⟨_,J'⟩
   (show aN X.prog X.w _ _ _ (.lst (zs.map (·.2)))from⟨by grind,(arr.map (·.2)).toList,e8,hy,by rw[w3k];exact J'⟩)
  rw[Dm]at I8;simp only[bne_self_eq_false,w4r,if_false];exact wpAny_pure ⟨rfl,.ref l,_,I8,rfl,q zs pz up⟩
 have KS:(ws.toArray.zip us.toArray).size=us.length:=by simp[rO]
 by_cases h2:us.toArray.size<2
 .rw[if_pos h2,if_pos h2];refine wpAny_bind (wpAny_pure ?_);dsimp only;rw[StateT.run_pure];refine wpAny_bind (wpAny_pure ?_);refine fin (ws.toArray.zip us.toArray) (Array.Perm.refl _) λi j B_ hj=>?_
  grind [KeyOrd.kle_refl]
 .rw[if_neg h2,if_neg h2];have hsz:us.toArray.size=us.length:=by simp
  rw[Xf hJ (by omega)];refine wpAny_bind (wpAny_pure ?_)
  refine wpAny_bind (wpAny_mono (wpS_sortRunsK (a₀:=ws.toArray.zip us.toArray) (st:=SortSt.mk' oneType' (ws.toArray.zip us.toArray) #[] 7 none)
   (Q:=λ_ oI=>(arrOf oI).Perm (ws.toArray.zip us.toArray)/\failedOf oI=none/\SortedToK strKind (arrOf oI) (ws.toArray.zip us.toArray).size)
   strKind_oneLt (λp hp=>?_) ⟨Array.Perm.refl _,rfl,rfl,rfl⟩ (by rw[KS];omega) (by rw[KS];omega) λoI a1 a2 a3=>⟨a1,a2,a3⟩) ?_ λ_ _ e=>e)
  .have hm:p∈ws.zip us:=by simpa using hp
   have hw:=(w2t hm).1;obtain⟨i,hi,e⟩:=w3j.mp hw;have lI:i<ns.length:=by grind
   obtain⟨u,hu,t,ru⟩:=rW.get (i:=i) (x:=V.str ns[i]) (by grind);rw[w0d hi,e]at hu
   simp_all
  rintro⟨⟨⟩,oI⟩ s' ⟨rfl,hp,Kw,SD⟩;have z:=fin _ hp (by rw[hp.size_eq];exact SD)
  grind
end
def xl(sp:Sp)(K:Fg)(ta:TE):TE:=λσ H Q=>ta σ H λv H1=>∃(p:Addr)(xs:List V),v=.ref p/\bB K H1 p xs/\xs.length<64/\∀l,H1 l=none->oK sp l xs (upd H1 l (.lst xs)) Q
section
variable{X:Cx}{k:Nat}{f:Addr}{fd:FuncData}{ps:List Str}{sp:Sp}
def Yy{a:Expr}{x:Str}{np p pos kp:Pos}{ta:TE}(F:eC X.prog X.w X.K X.mg X.base (eA X.prog X.w) k f fd ps sp)(hr:br (k+2) X.A)(hb:Binds X.K fd ps [])(R9:X.mg x=some (.ref f))(EU:Gl X x)(hg:Gl X "sorted")(hm:X.mg "sorted"=none)
  (ha:PE X a ta)(he:autoParam (starEach [a] X.env=[(false,eval a X.env)]) jJ)(EM:autoParam ((x==("__debug__":Str))=false) jK):
  PE X (.Call (.Name "sorted" p) [a] [⟨some "key", .Name x np,kp⟩] pos) (xl sp X.K ta):=by
 intro pins s σ H Q I h;refine wpAny_Call_Name_kw (qJ I hg hm PyProof.Rows.Boot.«sorted» ?_ (by decide) (by decide));refine callWith_kw ?_ (by rw[he];rfl) (by rw[he];rfl);rw[he];show wpAny _ _ (spliced ((false,eval a X.env)::[])) _ _ s;refine Calls.spliced_cons (bt (ha pins s σ H _ I h) λu s1 ⟨v,H1,I1,r1,q1⟩=>?_)
 obtain⟨pa,xs,rfl,hq,EC,q⟩:=q1;obtain rfl:u=Value.ref pa:=r1;refine Calls.spliced_nil ?_;refine kws_cons (x8 I1 EU R9 (kws_nil ?_) EM);show wpAny _ _ (call (.builtin "sorted") [.ref pa] [(Str.ofString "key", .ref f)]) _ _ _;obtain⟨aw,rI,pl,hz⟩:=I1.list hq;have EW:aw.length=xs.length:=rI.length.symm;refine call_function_entry_kw kind_sorted plain_sorted entry_sorted (Ul _ _) ?_
 unfold Builtin.«sorted»;refine wpAny_bind (m:=checkCount "sorted" 1 1 _) (wpAny_pure ?_);refine wpAny_bind (collect_list pl.isList ?_);have k5:∀b o,s1.heap.get? b=some o->((s1.heap.push (seqObj "list" #[] 0)).update s1.heap.objs.size (Obj.mapSeq (·++aw.toArray))).get? b=some o:=λb o e=>(Heap.get?_update_other _ _ (w2g (Heap.lt_size e))).trans (Heap.get?_push_of_some _ e)
 have I5:Inv X pins σ H1 {s1 with heap:=(s1.heap.push (seqObj "list" #[] 0)).update s1.heap.objs.size (Obj.mapSeq (·++aw.toArray))}:=I1.kept (t':=s1.toks) k5;refine wpAny_bind (wpAny_newList ?_ (hsz:=by rw[sizeLine_eq];omega));have Ez:=I5.aG.fresh (w0c _)
 have I6:=I5.laid (t':=s1.toks) (o:=.lst xs) (h':=((s1.heap.push (seqObj "list" #[] 0)).update s1.heap.objs.size (Obj.mapSeq (·++aw.toArray))).push {cls:=.type "list", data:=.seq aw.toArray}) (λb o q=>Heap.get?_push_of_some _ q) (w0c _)
  (show aN X.prog X.w _ _ _ (.lst _)from⟨hz,aw,0,rI,Heap.get?_push_size _ rfl⟩)
 refine wpAny_bind (wpAny_holding (wpAny_call_entry_kw slot_list_sort ⟨_,Heap.get?_push_size _ rfl,rfl⟩ entry_list_sort (wpAny_mono (Xh (Q:=Q) (xs:=xs) F ((hr.in1).in1) rfl hb I6 bV ?_ EC (q _ Ez)) (λfin s' hq=>⟨_,hq.1,?_⟩) λ_ _ z=>z) (Ts _ _)))
 .intro o v z;have:=I5.base.aW _ o v z
  grind
 .exact wpAny_pure ⟨_,rfl,hq.2⟩
end
end L2
namespace yu
open PySem PySem.W PySem.Calls PyProof.Rows
theorem OT:∀{ns:List Int}{m:Nat},WData.weightAll (ns.map WData.int)<=m->∀i∈ns,Builtin.Int.intBits i<=m
 |[],_,_,_,h=>nomatch h
 |n::ns,m,hw,i,h=>by
  have e:WData.weightAll ((n::ns).map WData.int)=Builtin.Int.intBits n+1+WData.weightAll (ns.map WData.int):=rfl;rw[e]at hw;cases h with
  |head=>omega
  |tail _ h=>exact OT (by omega) i h
def Yz{ns:List Int}(h:WData.layableAll [WData.list (ns.map WData.int)]=true):∀i∈ns,Builtin.Int.intBits i<=1048576:=by
 have h1:(WData.layable (WData.list (ns.map WData.int))&&true)=true:=h;rw[Bool.and_true]at h1;unfold WData.layable at h1;rw[w0n]at h1;have h2:=of_decide_eq_true h1.2
 grind [WData.weight,OT]
def kL{l:OpenLaw}
  (hn:l.most=some n)(sL:d.params.defaults=[])
  (call:∀(w:World)(ax aD:Shared)(mg mb:Str->Option Value)(fa:Addr)(o:Obj)(pm cd doc:Value)(a:Addr)(vs:List Value)(ns:List Int),
   Ground q loose [] XP w ax mg mb aD.heap->YP w aD.heap ->
   aD.heap.get? fa=some o->o.data=.func (docDef d.name d.params d.body d.scope pm cd doc)->aD.heap.CodeRec cd d.name->mg d.name=some (.ref fa) ->
   aD.heap.get? a=some {cls:=.type "list", data:=.seq vs.toArray}->IntsAre vs ns->ns.length<=n->(∀i∈ns,Builtin.Int.intBits i<=1048576)->aD.gens=#[] ->
   codeAny (model l.prog w) callerA (.call (.ref fa) ⟨[.ref a],[]⟩) (λr s'=>r=.ok (.ret (.bool true))/\OldK aD.heap s'.heap/\s'.os=aD.os/\AllBare s'.gens) aD):
  WalkO q loose XP YP l.row.toRowW d [] (λf vs=>PySem.call f vs):=by
 intro w ax aD mg mb G Y fa o pm cd doc dV kV ho hd ei hD hmg hg args vals as oZ zL Sz rO Sm;obtain rfl:dV=.none:=Dflts.none hD sL;obtain rfl:kV=.none:=Dflts.noKw hD;obtain⟨a,vs,ns,rfl,rfl,nA,hints,hlen⟩:=MM hn oZ rO;refine enter_call (codeAny_mono (call w ax aD mg mb fa o pm cd doc a vs ns G Y ho (fd_plain hd) ei hmg nA hints hlen (Yz zL) hg) λr s' hq=>?_)
 obtain⟨rfl,h2,h3,h4⟩:=hq;exact⟨.inl ⟨.bool true,.bool true,[],rfl,λ_=>rfl,.bool true,MN l _,λ_=>⟨List.Pairwise.nil,λ_ hm=>(nomatch hm)⟩⟩,h2,h3,h4⟩
end yu
namespace L2
open PySem PySem.Spec PyProof.Rows
end L2
namespace D
open PySem L2
def BS(ns:List Int):Prop:=ns.length<=63/\∀i∈ns,Builtin.Int.intBits i<=1048576
def lB(K:Fg):Sp:=λvs H Q _=>∃(a:Addr)(ns:List Int),vs=[.ref a]/\bB K H a (ns.map V.int)/\BS ns/\∀H',Q (.bl true) H'
def Xi(hF:∀ns:List Int,BS ns->F [.lst (ns.map .int)]=.ok (.fr (.bl true)))(h:lB K vs H Q E):pB K F vs H Q E:=by
 obtain⟨a,ns,rfl,hS,hl,q⟩:=h;refine⟨λb=>if b=a then H a else none,[.lst (ns.map .int)],λb o z=>?_,⟨.ref a,[],rfl,⟨a,ns.map V.int,rfl,?_,MT ns⟩,rfl⟩,?_⟩
 .grind
 .rcases hS with(h|⟨o,h⟩)|h
  .exact .inl (.inl (by simpa using h))
  .exact .inl (.inr ⟨o,by simpa using h⟩)
  .exact .inr h
 .rw[hF ns hl];intro G' H' v g sl;obtain⟨u,h1,h2⟩:=sl;cases h1;cases(show v=V.bl true from h2);exact q H'
end D
namespace L2
open PySem PySem.Spec PyProof.Rows
end L2
namespace D
open PySem L2 PySem.Spec PyProof.Rows
open PyProof.Rows (envOfC)
open PySem L2
end D
namespace L2
open PySem PySem.Spec PyProof.Rows
end L2
namespace D
open PySem L2
open Classical in
noncomputable instance Ke (k:Kx) (sh:Sh):Decidable (fits k sh):=Classical.propDecidable _
end D
namespace L2
open PySem PySem.Spec PyProof.Rows
structure j8(x:Str)(Nf:List Str)(sc:Scope):Prop where
 kind:sc.kind=.function
 co:sc.isCoroutine=false
 gen:sc.isGenerator=false
 par:sc.names.lookup x=some .cell
 one:∀n cl,cellsFrom n sc.names cl=(x,n)::cl
 Au:∀h:Heap,pushCells h sc.names=h.push {cls:=.type "cell", data:=.cell none}
 only:∀y∈sc.names,y.2=.cell->y.1=x
 fr:∀y∈Nf,sc.names.lookup y=some .free
end L2
namespace D
open PySem L2
structure Eh(P:Program)(w:World)(K:Fg)(mg:Str->Option Value)(base:Heap)(n:Nat)(l:Lm)(x:Str)(F:List W->FR):Prop where
 sc:j8 x l.nf l.scope
 bind:∀(cl:List (Str×Addr))(pm:Value)(c':Addr)(eB u:Value),bindArgs (kla_fn "<lambda>" l.qual l.params l.body l.scope cl pm (.ref c') eB) ⟨[u],[]⟩=pure [(x,u)]
 len:∀ws,F ws≠.no->ws.length=1+l.nf.length
 body:∀ws,F ws≠.no->∀(Z:Zt)(f:Addr)(cd:Value)(cl:List (Str×Addr))(A:Around)(outer:List Env)(s:Shared)(H:Hp),br n (A.deeper (er l.qual l.scope f cd cl s)) ->
  ∃d,DE Z (j_ P w K mg base ([x]++l.nf) l.qual l.scope f cd cl A outer s H) (λ_=>E0) l.body d/\gD (d (ws.map .fr))=F ws
end D
namespace L2
open PySem PySem.Spec PyProof.Rows
def vv(P:Program)(w:World)(K:Fg)(mg:Str->Option Value)(base:Heap)(N:List Str)(qual:Str)(scope:Scope)(f:Addr)(cd:Value)(cl:List (Str×Addr))(A:Around)(outer:List Env)(s:Shared)(H:Hp)(E:XK):Cx:=
 {j_ P w K mg base N qual scope f cd cl A outer s H with xe:=λe s'=>wpAny (model P w) (A.deeper (er qual scope f cd cl s)) (leaving (er qual scope f cd cl s) e) (λ_ iE=>eA P w outer H s E e iE) (λe' iE=>eA P w outer H s E e' iE) s'}
end L2
namespace D
open PySem L2
variable{X:Cx}{EE:L2.St->XK}{p pos:Pos}{K:Fg}{x:Str}{Z:Zt}
structure BU(P:Program)(w:World)(K:Fg)(mg:Str->Option Value)(base:Heap)(n:Nat)(l:Lm)(x:Str)(F:List W->FR):Prop where
 sc:j8 x l.nf l.scope
 bind:∀(cl:List (Str×Addr))(pm:Value)(c':Addr)(eB u:Value),bindArgs (kla_fn "<lambda>" l.qual l.params l.body l.scope cl pm (.ref c') eB) ⟨[u],[]⟩=pure [(x,u)]
 len:∀ws,F ws≠.no->ws.length=1+l.nf.length
 body:∀ws,F ws≠.no->∀(Z:Zt)(f:Addr)(cd:Value)(cl:List (Str×Addr))(A:Around)(outer:List Env)(s:Shared)(H:Hp)(E:XK),br n (A.deeper (er l.qual l.scope f cd cl s)) ->
  ∃d,DE Z (vv P w K mg base ([x]++l.nf) l.qual l.scope f cd cl A outer s H E) (λ_=>E) l.body d/\gD (d (ws.map .fr))=F ws
open PySem L2 PySem.Spec PyProof.Rows
def jZ:Option Bool->Value->Bool
 |none,.none=>true
 |some b,.bool c=>b==c
 |_,_=>false
def FP:Option Bool->Value
 |none=>.none
 |some b=>.bool b
def uT(h:jZ k v=true):v=FP k:=by
 cases k with
 |none=>cases v<;>first|rfl|cases h
 |some b=>
  cases v with
  |bool c=>
   have:b=c:=beq_iff_eq.mp h;subst this;rfl
  |_=>cases h
def jA(w:World):Option Bool->Int
 |none=>kx w .aE
 |some b=>kx w (.bl b)
def Xj(k)(hv:jZ k v=true)(h:Q (jA w k) {s with toks:=s.toks+1}):wpAny (model prog w) A (pyHash v) Q E s:=by
 have:=uT hv;subst this;cases k with
 |none=>exact pyHash_slot (T:="NoneType") rfl F.slot_NoneType_hash F.entry_NoneType_hash (F.args_NoneType_hash_1 _) (beq_builtin_none _) (.inl rfl) (wpAny_bind (wpAny_pure (wpAny_bind (wpAny_mkInt (wpAny_pure ⟨_,_,rfl,h⟩)))))
 |some b=>
  refine pyHash_slot (T:="bool") rfl F.slot_bool_hash entry_int_hash (args_int_hash _) (beq_builtin_none _) (.inl rfl) ?_;cases b
  .exact(show wpAny _ _ (do ret (<- mkInt 0)) _ _ s from wpAny_bind (wpAny_mkInt (wpAny_pure ⟨_,_,rfl,h⟩)))
  .exact(show wpAny _ _ (do ret (<- mkInt 1)) _ _ s from wpAny_bind (wpAny_mkInt (wpAny_pure ⟨_,_,rfl,h⟩)))
def Ra(hu:jZ a u=true)(hv:jZ b v=true)(h:Q (decide (a=b)) s):wpAny (model prog w) A (eqBool u v) Q E s:=by
 have h1:=uT hu;have h2:=uT hv;subst h1;subst h2;cases a with
 |none=>
  cases b with
  |none=>exact SeqAt.EqAt.same _ prog w E Q (by simpa using h)
  |some c=>exact SeqAt.EqAt.none_bool c prog w E Q (by simpa using h)
 |some a=>
  cases b with
  |none=>exact SeqAt.EqAt.bool_none a prog w E Q (by simpa using h)
  |some c=>
   have e:decide (some a=some c)=(a==c):=by grind
   rw[e]at h;exact SeqAt.EqAt.bool_bool a c prog w E Q h
def qC(prog)(w):KeyKind prog w (Option Bool) where
 is:=jZ
 hash:=jA w
 inj:=λv a b ha hb=>by
  have h1:=uT ha;subst h1;cases a with
  |none=>cases b with
   |none=>rfl
   |some c=>cases hb
  |some a=>cases b with
   |none=>cases hb
   |some c=>have:c=a:=beq_iff_eq.mp hb;rw[this]
 byValue:=λk v h=>by
  have:=uT h;subst this;cases k<;>rfl
 pyHash:=λ{A E s k v Q} hv h=>Xj k hv h
 eqBool:=λ{A E s a b u v Q} hu hv h=>Ra hu hv h
 «strs»:=λk x t v h=>(by cases k<;>cases h)
def sgn:Option Bool->Str
 |none=>"-"
 |some true=>"1"
 |some false=>"0"
def oM(v:Value)(x:Str):Bool:=match v with
 |.str y _=>y==x
 |_=>false
def ox(w:World)(o:Obj):Bool:=match o.cls,o.dict,o.slots.toList,o.data with
 |.type c,none,[],.dict es _=>c=="dict"&&(match es.toList with
  |[e1,e2,e3]=>(jZ (some true) e1.key&&e1.hash==jA w (some true)&&oM e1.val "1")&&(jZ (some false) e2.key&&e2.hash==jA w (some false)&&oM e2.val "0")&&(jZ none e3.key&&e3.hash==jA w none&&oM e3.val "-")
  |_=>false)
 |_,_,_,_=>false
structure n5(w:World)(K:Fg)(d:Addr):Prop where
 obj:∃o,K.lookup d=some o/\ox w o=true
def GC(h:oM v x=true):∃t,v=.str x t:=by
 cases v with
 |str y t=>exact⟨t,by rw[show y=x from beq_iff_eq.mp h]⟩
 |_=>cases h
def Xk{prog:Program}{w:World}{d:Addr}(T:n5 w K d){h:Heap}(x:K.In h):∃f:Option Bool->Option Value,h.MapOf (qC prog w) d f/\∀k,∃t,f k=some (.str (sgn k) t):=by
 obtain⟨o,h1,h2⟩:=T.obj;unfold ox at h2;split at h2
 .rename_i c es ep hc hd hs zx;rw[w0n]at h2;obtain⟨ei,h2⟩:=h2;split at h2
  .rename_i e1 e2 e3 EN;simp only[w0n,beq_iff_eq]at h2;obtain⟨⟨⟨⟨a1,a2⟩,a3⟩,⟨b1,b2⟩,b3⟩,⟨c1,c2⟩,c3⟩:=h2;obtain⟨t1,v1⟩:=GC a3;obtain⟨t2,v2⟩:=GC b3;obtain⟨t3,v3⟩:=GC c3;have k1:=uT a1;have k2:=uT b1;have k3:=uT c1;have he:es=#[e1,e2,e3]:=by apply Array.toList_inj.mp;rw[EN]
   refine⟨findBy jZ es,⟨o,es,ep,x d o h1,⟨?_,hd,?_⟩,zx,λe hm=>?_,λ_=>rfl⟩,λk=>?_⟩
   .rw[hc,beq_iff_eq.mp ei]
   .apply Array.toList_inj.mp;rw[hs]
   .rw[he]at hm;simp only[List.mem_toArray,w0e,w0y,or_false]at hm;rcases hm with rfl|rfl|rfl
    .exact⟨some true,a1,a2⟩
    .exact⟨some false,b1,b2⟩
    .exact⟨none,c1,c2⟩
   .rw[he];unfold findBy;rw[List.find?_toArray];cases k with
    |none=>exact⟨t3,by simp only[w1u,k1,k2,k3];exact congrArg some v3⟩
    |some b=>
     cases b with
     |true=>exact⟨t1,by simp only[w1u,k1,k2,k3];exact congrArg some v1⟩
     |false=>exact⟨t2,by simp only[w1u,k1,k2,k3];exact congrArg some v2⟩
  .cases h2
 .cases h2
def tN:W->Option W
 |.aE=>some (.str (sgn none))
 |.bl b=>some (.str (sgn (some b)))
 |_=>none
section
variable{k:Expr}{dk:Den W}{d:Addr}
def Im(d:Addr):R2:=λx y H Q=>x=.ref d/\((y=.aE/\Q (.str (sgn none)) H)\/∃b,y=.bl b/\Q (.str (sgn (some b))) H)
def z9d(T:n5 X.w X.K d):pL X (Im d):=by
 intro value slice pins s σ H x y v u Q I rx ry h hs;obtain⟨rfl,h⟩:=h;cases rx;obtain⟨f,hm,hf⟩:=Xk (prog:=X.prog) T I.ky
 have key:∃k:Option Bool,u=FP k/\Q (.str (sgn k)) H:=by
  rcases h with⟨rfl,q⟩|⟨b,rfl,q⟩
  .exact⟨none,ry,q⟩
  .exact⟨some b,ry,q⟩
 obtain⟨k,rfl,q⟩:=key;obtain⟨t,ht⟩:=hf k
 have hk:jZ k (FP k)=true:=by
  cases k with
  |none=>rfl
  |some b=>exact beq_self_eq_true b
 exact PyProof.Rows.tail_any hm.typeIs F.slot_dict_getitem.lookup (wpAny_getItem_of (knd:=qC X.prog X.w) hk hm ht ⟨.str (sgn k),H,I.tok _,⟨t,rfl⟩,q⟩) hs
def z9e(T:∃d,X.mg x=some (.ref d)/\n5 X.w X.K d)(hk:DE Z X EE k dk)(hg:autoParam (Gl X x) jJ)(hd:autoParam ((x==("__debug__":Str))=false) jK)(hs:d7 k:=by intro _ _;rfl):
  DE Z X EE (.Subscript (.Name x p) k pos) (gm tN dk):=by
 obtain⟨d,hm,T⟩:=T;refine PE.mono (wY (z9d T) (Jc (v:=.ref d) hg hm rfl hd) hk hs) ?_;rintro σ H Q ⟨G,e,rel,h⟩;simp only[gm,R.au,aS]at h;refine⟨G,e,rel,h.imp (λw e1 h G1 v1 H1 r1 s1 p1=>?_) λ_ _ h=>h⟩
 obtain⟨w',hw,h⟩:=h;unfold tN at hw;split at hw
 .cases hw;cases p1;exact⟨rfl,.inl ⟨rfl,h G1 _ H1 r1 s1 rfl⟩⟩
 .rename_i b;cases hw;cases p1;exact⟨rfl,.inr ⟨b,rfl,h G1 _ H1 r1 s1 rfl⟩⟩
 .cases hw
end
def oJ:FR->Option Str
 |.ok (.fr (.str n))=>some n
 |_=>none
def iM(F:List W->FR):List W->Option (List Str)
 |[]=>some []
 |w::ws=>match oJ (F [w]),iM F ws with
  |some n,some ns=>some (n::ns)
  |_,_=>none
abbrev ua(zs:List (Str×W)):Prop:=zs.Pairwise λa b=>a.1.cps.toList<b.1.cps.toList
open Classical in
def nT(ns:List Str)(ws:List W):Option (List W):=if h:ns.length=ws.length/\∃zs:List (Str×W),zs.Perm (ns.zip ws)/\ua zs then some (h.2.choose.map (·.2))else none
theorem Jm:∀{l m:List (Str×W)},ua l->ua m->l.Perm m->l=m
 |[],m,_,_,p=>p.nil_eq
 |x::l,[],_,_,p=>(List.cons_ne_nil _ _ p.eq_nil).elim
 |x::l,y::m,hl,hm,p=>by
  have h1:=w3r.mp hl;have h2:=w3r.mp hm
  have e:x=y:=by
   grind
  subst e;rw[Jm h1.2 h2.2 (List.Perm.cons_inv p)]
def Z9(hl:ns.length=ws.length)(hp:zs.Perm (ns.zip ws))(hu:ua zs):nT ns ws=some (zs.map (·.2)):=by
 unfold nT;have h:ns.length=ws.length/\∃zs:List (Str×W),zs.Perm (ns.zip ws)/\ua zs:=⟨hl,zs,hp,hu⟩;rw[dif_pos h];obtain⟨c1,c2⟩:=h.2.choose_spec;rw[Jm c2 hu (c1.trans hp.symm)]
def YA(h:nT ns ws=some us):ns.length=ws.length/\∃zs:List (Str×W),zs.Perm (ns.zip ws)/\ua zs/\us=zs.map (·.2):=by
 unfold nT at h;split at h
 all_goals grind
def Z_{y:Str}(h:x.cps.toList=y.cps.toList):x=y:=by
 cases x;simp_all
def Rb(h:zs.Pairwise λa b=>¬b.1.cps.toList<a.1.cps.toList)(hp:zs.Perm ys)(hy:ua ys):ua zs:=by
 have ny:(ys.map (·.1)).Nodup:=by
  grind
 have nz:(zs.map (·.1)).Nodup:=(hp.map _).nodup_iff.mpr ny;have nz:=w3v.mp nz;refine(h.and nz).imp λ{a b} h=>?_
 by_cases l:a.1.cps.toList<b.1.cps.toList
 .exact l
 .exact(h.2 (Z_ (List.le_antisymm (List.not_lt.mp h.1) (List.not_lt.mp l)))).elim
def tP(F:List W->FR):W->Option (List W)
 |.lst ws=>if ws.length<64 then(iM F ws).bind λns=>nT ns ws else none
 |_=>none
def kj(F:List W->FR)(d:Den W):Den (List W):=λe=>(d e).bind λw e1=>ba (tP F w) e1
theorem z3e:kj F d e=(d e).bind λw e1=>ba (tP F w) e1:=rfl
def JS(K:Fg)(G:Hp)(a:Str×W)(b:Str×V):Prop:=a.1=b.1/\Rep K G a.2 b.2
theorem qU:∀{ns:List Str}{ws:List W}{xs:List V},ao K G ws xs->dn (JS K G) (ns.zip ws) (ns.zip xs)
 |[],_,_,_=>trivial
 |n::ns,[],xs,h=>by cases(show xs=[]from h);exact trivial
 |n::ns,w::ws,_,h=>by
  obtain⟨x,xs,rfl,h1,h2⟩:=h;exact⟨⟨rfl,h1⟩,qU h2⟩
theorem oH:∀{ws:List W}{xs:List V},dn (Rep K G) ws xs->ao K G ws xs
 |[],[],_=>rfl
 |w::ws,x::xs,h=>⟨x,xs,rfl,h.1,oH h.2⟩
def Bf(r:dn (JS K G) zw zs)(h:vn zs):zw.Pairwise λa b=>¬b.1.cps.toList<a.1.cps.toList:=by
 refine w2p.mpr λi j hi hj B_=>?_
 obtain⟨b1,e1,r1,_⟩:=r.get i zw[i] (w0d hi);obtain⟨b2,e2,r2,_⟩:=r.get j zw[j] (w0d hj)
 grind [List.pairwise_iff_getElem]
theorem M3{F:List W->FR}{G1 H1:Hp}{l ks:Addr}{o:Obj}{Kk:List Str->Hp->Prop}(uE:l≠ks)(n2:H1 ks=none)(all:List Str)
  (hK:∀Gc Hc,aM G1 H1 Gc Hc->Gc l=none->Gc ks=none->Hc l=some (.cP o (.lst []))->Hc ks=some (.lst (all.map V.str))->Kk all Hc):
  ∀(ws:List W)(xs:List V)(xR ns:List Str)(Gc Hc:Hp),ao K Gc ws xs->iM F ws=some ns->xR++ns=all->aM G1 H1 Gc Hc->Gc l=none->Gc ks=none->Hc l=some (.cP o (.lst []))->Hc ks=some (.lst (xR.map V.str)) ->
   me (pB K F) l o ks Kk xs xR Hc
 |[],xs,xR,ns,Gc,Hc,r,hk,ha,g,g1,g2,h1,h2=>by
  cases(show xs=[]from r);cases hk;rw[w2d]at ha;subst ha;exact hK Gc Hc g g1 g2 h1 h2
 |w::ws,xs,xR,ns,Gc,Hc,r,hk,ha,g,g1,g2,h1,h2=>by
  obtain⟨x,xs,rfl,r1,r2⟩:=r
  obtain⟨n,uN,hn,rL,rfl⟩:∃n uN,oJ (F [w])=some n/\iM F ws=some uN/\ns=n::uN:=by
   grind [iM]
  have hn:F [w]=.ok (.fr (.str n)):=by
   unfold oJ at hn
   grind
  refine⟨Gc,[w],g.sub,⟨x,[],rfl,r1,rfl⟩,?_⟩;rw[hn];intro G' H' v g' sl;obtain⟨v',e',rp⟩:=sl;cases e';cases(show v=V.str n from rp);have e1:=g'.hh _ _ h1;have e2:=g'.hh _ _ h2;have k1:G' l=none:=by rw[g'.new l (by grind)];exact g1
  have k2:G' ks=none:=by rw[g'.new ks (by grind)];exact g2
  refine⟨n,rfl,e1,e2,M3 uE n2 all hK ws xs (xR++[n]) uN G' _ (ao.mono g'.gg ws r2) rL (by grind) ((g.trans g').write n2 k2) k1 k2 (by grind [aU]) bV⟩
section
variable{e:Expr}{d:Den W}{np kp:Pos}{k:Nat}{ps:List Str}{F:List W->FR}
def z3f(C:tY X.prog X.w X.K X.mg X.base k x ps (pB X.K F))(hr:br (k+2) X.A)(hm:X.mg "sorted"=none)(he:DE Z X EE e d)(EU:autoParam (Gl X x) jJ)(hg:autoParam (Gl X "sorted") jJ)
  (jY:autoParam (starEach [e] X.env=[(false,eval e X.env)]) jJ)(EM:autoParam ((x==("__debug__":Str))=false) jK):
  DF Z X EE (.Call (.Name "sorted" p) [e] [⟨some "key", .Name x np,kp⟩] pos) (kj F d):=by
 obtain⟨fa,fd,FF,m,kpp,bd⟩:=C.ex;refine PE.mono (Yy FF hr bd m EU hg hm he jY EM) ?_;rintro σ H Q ⟨G,en,rel,h⟩;simp only[kj,R.au,aS]at h;refine⟨G,en,rel,h.imp (λw e1 h G1 v1 H1 r1 s1 p1=>?_) λ_ _ h=>h⟩
 obtain⟨out,hf,h⟩:=h;cases w with
 |lst ws=>
  simp only[tP]at hf;split at hf
  .rename_i EC;obtain⟨ns,l9,hf⟩:=w1d.mp hf;obtain⟨hl,ys,py,uy,rfl⟩:=YA hf;obtain⟨pa,xs,rfl,q,rr⟩:=p1;have hxl:xs.length=ws.length:=rr.length;refine⟨pa,xs,rfl,r1.sub.seq q,by omega,λlA zJ o ks Sg=>?_⟩
   rw[Dm]at Sg |-
   have uE:lA≠ks:=λz=>by grind [bV]
   have xJ:H1 ks=none:=by simp_all [aU,Ne.symm]
   have gl:G1 lA=none:=r1.sub.free zJ;have gk:G1 ks=none:=r1.sub.free xJ;refine M3 (G1:=G1) (H1:=H1) uE xJ ns (λGc Hc g c1 c2 c3 c4 zs pz uz=>?_) ws xs [] ns G1 _ rr l9 rfl (((aM.refl r1.sub).write zJ gl).write xJ gk) gl gk (by grind [aU,bV]) bV
   obtain⟨zw,pw,rz⟩:=dn.perm pz (qU (K:=X.K) (G:=Gc) (ns:=ns) (ao.mono g.gg ws rr));have uw:=Rb (Bf rz uz) (pw.trans py.symm) uy;cases Jm uw uy (pw.trans py.symm);have gw:=(g.write (o:=.lst []) xJ c2).write (o:=.lst (zs.map (·.2))) zJ c1;exact h Gc lA _ _ (r1.grow gw) (s1.trans g.gg) bV c1 (qK r1 zJ) (wO r1 zJ) (oH (dn.map (λ_ _ h=>h.2) rz))
  .cases hf
 |_=>cases hf
end
def yS{P:Program}{w:World}{mg:Str->Option Value}{base:Heap}{k:Nat}{st:Stmt}{ps:List Str}{F:List W->FR}(A:At K mg x st ps)(hF:∀ws,F ws=.no:=by intro _;rfl):tY P w K mg base k x ps (pB K F):=by
 obtain⟨f,fd,F0,m,b⟩:=A.ex;exact⟨f,fd,⟨λvs H Q E h=>(Pp hF h).elim,λA outer s H args us vs Q E _ _ _ _ h=>(Pp hF h).elim⟩,m,F0.kp,b⟩
end D
namespace L2
open PySem PySem.Spec PyProof.Rows
def Xl{l:PySem.W.OpenLaw}{K:Params->Fg}{CX:World->nY}{sp:World->Sp}{tabs:List (Addr×Str)}
  (hn:l.most=some n)(ou:n<=sizeLine)(sL:d.params.defaults=[])(hr:br k callerA)
  (hY:∀(w:World)(h:Heap),YP w h->(K w.params).In h)
  (F:∀(w:World)(mg:Str->Option Value)(fa:Addr)(h:Heap),(K w.params).In h->h.Ns mainGlobals mg->mg d.name=some (.ref fa) ->
   ∃fd:FuncData,(∀(s:Shared)(u:Value),BindsTo s fd ⟨[u],[]⟩ [(x,u)]) /\
    ∀base:Heap,(K w.params).In base->base.Ns mainGlobals mg->BMain base mg->eC l.prog w (K w.params) mg base (CX w) k fa fd [x] (sp w))
  (rN:∀(w:World)(H:Hp)(a:Addr)(ns:List Int),ns.length<=n->(∀i∈ns,Builtin.Int.intBits i<=1048576)->bB (K w.params) H a (ns.map V.int)->sp w [.ref a] H (λv _=>v=.bl true) λ_ _ _=>False)
  (vI:∀(w:World)(H:Hp)(s:Shared)(e:Value)(s':Shared),CX w [] H s (λ_ _ _=>False) e s'->False)
  (hM:∀(w:World) a q P,(a,iN P q)∈K w.params->tabs.lookup P=some q)(hT:∀(w:World)(h:Heap),YP w h->∀P q,tabs.lookup P=some q->h.get? P=some (tabObj #[])/\isCodeTable h P)(Ki:∀(w:World) P q,tabs.lookup P=some q->(K w.params).lookup P=none):
  PySem.W.WalkO q loose XP YP l.row.toRowW d [] (λf vs=>PySem.call f vs):=by
 refine yu.kL hn sL λw ax aD mg mb fa o pm cd doc a vs ns G Y ho hd ei hmg nA hints hlen zq hg=>?_
 have KX:=hY w _ Y;obtain⟨fd,hb,hF⟩:=F w mg fa _ KX G.T.g hmg;exact Xc KX G.T.g G.T.b G.T.builtins G.T.nolimit hg nA hints (w0s hlen ou) hr hF hb (λH hS=>rN w H a ns hlen zq hS) (λH e s'=>vI w H aD e s') G.T.bmain (hM w) (hT w _ Y) (Ki w)
end L2
namespace D
open PySem L2
variable{N:List Str}{x:Str}
variable{K:Fg}
def oT(ws:List W):List W->Option (List W)
 |[w]=>if ws.length<16777216 then some (ws++[w])else none
 |_=>none
def YB:yH oT lu:=by
 intro K G H l ws ws' as ys vs Q hl rw ra hf h;unfold oT at hf;split at hf
 .split at hf
  .rename_i hc;cases hf;obtain⟨v,r,rfl,pv,ra⟩:=ra;cases(show r=[]from ra);exact⟨l,ys,v,rfl,rfl,hl,by rw[rw.length,sizeLine_eq];exact hc,h _ _ (rw.append ⟨v,[],rfl,pv,rfl⟩)⟩
  .cases hf
 .cases hf
def z9f(h:ws.length<16777216):oT ws [w]=some (ws++[w]):=by
 show(if ws.length<16777216 then some (ws++[w])else none)=_;rw[if_pos h]
section
variable{X:Cx}{Z:Zt}{EE:L2.St->XK}{elt iter a b:Expr}{ifs:List Expr}{scope sc:Scope}{pos pt:Pos}{Nf:List Str}{js:List Nat}{di:Den W}{dA:Den (List W)}{c:Den Bool}{d:Den W}
def Xm{x0:Str}(S:i9 x0 scope){p1 p2:Pos}(hc:X.calm=true)(hm:X.mg "range"=none)(ha:DA Z X EE [a] dA)(ok:fU sc scope N Nf js=true)
  (ht:∀Z' cl C ax aA ex,rB Z' (X.cp ([x]++Nf) scope cl C ax aA ex) (λ_=>E0) ifs c)(he:∀Z' cl C ax aA ex,DE Z' (X.cp ([x]++Nf) scope cl C ax aA ex) (λ_=>E0) elt d)
  (hg:∀cl C ax aA ex,PG (X.cp ([x]++Nf) scope cl C ax aA ex) (.Name x pt) (bx 0))
  (ET:autoParam (Gl X "range") jJ)(kS:autoParam (starEach [a] X.env=[(false,eval a X.env)]) jJ)(hsc:autoParam (X.env.scope=sc) jJ)(hN:autoParam (X.N=N) jJ)(hs:∀x,foldedSetIterable (.Call (.Name "range" p1) [a] [] p2) X.env x=pure x:=by intro _;rfl):
  DF Z X EE (.ListComp elt [⟨.Name x pt,.Call (.Name "range" p1) [a] [] p2,ifs,0⟩] scope pos) (cQ f9 js dA c d):=by
 exact PE.mono (MS (Nl:=[x]) (tc:=cT X.K c) (te:=cE X.K d) hc (Hf ET hm ha kS) (.inr ⟨_,S⟩) ok hg (wZ ht) (yj he) hsc hN hs) LU
end
@[inline] def n9:Stmt->Str
 |.FunctionDef x _ _ _ _ _ _ _ _ _=>x
 |_=>""
def FQ(s:Stmt):List Str:=(ed s).args.map λx=>x.arg
def FO(s:Stmt):List Str:=(aZ s).names.filterMap λp=>match p.2 with
 |.local=>some p.1
 |.cell=>some p.1
 |_=>none
def Co(N:List Str)(js:List Nat):List Str:=js.map λj=>N.getD j ""
theorem nj(h:bX sc scope N (Co N js) js=true):bX sc scope N (Co N js) js=true:=h
theorem Tc(h:fU sc scope N (Co N js) js=true):fU sc scope N (Co N js) js=true:=h
theorem An(h:decide N.Nodup=true):N.Nodup:=of_decide_eq_true h
def vG(N P:List Str)(sc:Scope):Bool:=sc.kind==.function&&!sc.isCoroutine&&!sc.isGenerator&&decide N.Nodup&&N.take P.length==P&&P.all (λx=>sc.names.lookup x==some .local||sc.names.lookup x==some .cell)&&sc.names.all λy=>y.2 != .free
def z9g(h:vG N P sc=true):fR N P sc:=by
 simp only[vG,w0n,Bool.not_eq_true',w0w,beq_iff_eq,bne_iff_ne,w1l,decide_eq_true_eq]at h;obtain⟨⟨⟨⟨⟨⟨h1,h2⟩,h3⟩,h4⟩,h5⟩,h6⟩,h7⟩:=h;exact⟨h1,h2,h3,h4,h5,h6,h7⟩
def qF(k m:Nat)(d:List S->SR)(ws:List W):FR:=if ws.length=k then(d (init m ws)).fn else .no
def qL(k:Nat)(d:Den W)(ws:List W):FR:=if ws.length=k then gD (d (ws.map .fr))else .no
def DY{c:Prop} [Decidable c]{x:FR}(h:(if c then x else .no)≠.no):c/\(if c then x else .no)=x:=by
 split at h
 .rename_i q;exact⟨q,if_pos q⟩
 .exact absurd rfl h
section
variable{P:Program}{w:World}{K:Fg}{mg:Str->Option Value}{base:Heap}
def uf{st:Stmt}{ps:List Str}{k:Nat}{b:Bool}{d:List S->SR}{f:Addr}{fd:FuncData}(F0:yD K x x st f fd)(m:mg x=some (.ref f))(hm:b=true->∀f oc od fd sl,mg x=some (.ref f)->K.lookup f=some ⟨oc,od,.func fd,sl⟩->lO K x fd.code)(sc:fR N ps (aZ st))
  (hb:∀(f:Addr)(eG:Value)(A:Around)(outer:List Env)(s:Shared)(H:Hp)(E:XK)(Z:Zt),br k (A.deeper (PyProof.Rows.envOfC x (aZ st) s.heap.objs.size f eG))->(Z.H=H/\Z.io=[])->(b=true->lO K x eG) ->
   mK Z (gU (eA P w) P w K mg base N x (aZ st) f eG A outer s H E) (λ_=>E) (cD st) d):eC P w K mg base (eA P w) (k+1) f fd ps (pB K (qF ps.length N.length d)):=by
 obtain⟨oc,od,kV,doc,pm,an,eG,ct,wt,rfl,lk,ei⟩:=F0.ex;refine QT lk ei sc (λvs H Q E h=>?_) (λA outer s H vs Q E hr h=>?_)
 .obtain⟨G,ws,hn,r⟩:=PB h;exact r.length.trans (DY hn).1
 .obtain⟨G,ws,sg,rp,h⟩:=h;have hn:qF ps.length N.length d ws≠.no:=λz=>by rw[z]at h;exact h
  exact⟨_,hb f eG A outer s H E ⟨H,G,[]⟩ hr ⟨rfl,rfl⟩ (λz=>hm z f _ _ _ _ m lk),G,init N.length ws,Nz sg rp,Y4 (DY hn).2.symm h⟩
def En{st:Stmt}{ps:List Str}{k:Nat}{b:Bool}{d:List S->SR}(A:At K mg x st ps)(hm:b=true->∀f oc od fd sl,mg x=some (.ref f)->K.lookup f=some ⟨oc,od,.func fd,sl⟩->lO K x fd.code)(sc:fR N ps (aZ st))
  (hb:∀(f:Addr)(eG:Value)(A:Around)(outer:List Env)(s:Shared)(H:Hp)(E:XK)(Z:Zt),br k (A.deeper (PyProof.Rows.envOfC x (aZ st) s.heap.objs.size f eG))->(Z.H=H/\Z.io=[])->(b=true->lO K x eG) ->
   mK Z (gU (eA P w) P w K mg base N x (aZ st) f eG A outer s H E) (λ_=>E) (cD st) d):tY P w K mg base (k+1) x ps (pB K (qF ps.length N.length d)):=by
 obtain⟨f,fd,F0,m,bd⟩:=A.ex;exact⟨f,fd,uf F0 m hm sc hb,m,F0.kp,bd⟩
theorem v9{n:Nat}{l:Lm}{ps:List Str}{d:Den W}(h1:gQ ps l.nf l.scope)(h2:∀(cl:List (Str×Addr))(pm:Value)(c':Addr)(eB:Value)(us:List Value),us.length=ps.length->bindArgs (kla_fn "<lambda>" l.qual l.params l.body l.scope cl pm (.ref c') eB) ⟨us,[]⟩=pure (ps.zip us))
  (hb:∀(Z:Zt)(f:Addr)(cd:Value)(cl:List (Str×Addr))(A:Around)(outer:List Env)(s:Shared)(H:Hp),br n (A.deeper (er l.qual l.scope f cd cl s))->DE Z (j_ P w K mg base (ps++l.nf) l.qual l.scope f cd cl A outer s H) (λ_=>E0) l.body d):
  lM P w K mg base n l ps (qL (ps.length+l.nf.length) d):=
 ⟨h1,h2,λws h=>(DY h).1,λws h Z f cd cl A outer s H hr=>⟨d,hb Z f cd cl A outer s H hr,(DY h).2.symm⟩⟩
end
end D
namespace Ei
def tj(a:Int)(row:List Bool):Int:=row.foldl (λacc b=>2*acc+(if b=true then 1 else 0)) a
def num(row:List Bool):Int:=tj 0 row
def b2(b:Bool):Int:=if b=true then 1 else 0
def Xn(a)(row)(b):tj a (row++[b])=2*tj a row+b2 b:=by
 unfold tj;rw[List.foldl_append];rfl
theorem OU:num []=0:=rfl
theorem NP(row)(b):num (row++[b])=2*num row+b2 b:=Xn 0 row b
def YC(b):b2 b=0\/b2 b=1:=by cases b<;>simp[b2]
def YD{P:List Bool->Prop}(h0:P [])(h1:∀l b,P l->P (l++[b])):∀l,P l:=by
 intro l
 have:∀r:List Bool,P r.reverse:=by
  intro r
  induction r with
  |nil=>simpa using h0
  |cons b r ih=>grind
 have:=this l.reverse
 grind
def VW(row):0<=num row/\num row<2^row.length:=by
 induction row using YD with
 |h0=>simp[OU]
 |h1 l b ih=>
  rw[NP,w1x,List.length_singleton,w4j]
  grind [YC]
def bits:Nat->Int->List Bool
 |0,_=>[]
 |m+1,n=>decide (n%2=1)::bits m (n / 2)
def rest:Nat->Int->Int
 |0,n=>n
 |m+1,n=>rest m (n / 2)
theorem Di:∀m n,(bits m n).length=m
 |0,_=>rfl
 |m+1,n=>by rw[bits,w1e,Di m]
theorem M4:∀m n,bits (m+1) n=bits m n++[decide (rest m n%2=1)]
 |0,n=>rfl
 |m+1,n=>by rw[bits,M4 m (n / 2),bits,rest];rfl
theorem Ms:∀m n,rest (m+1) n=rest m n / 2
 |0,n=>rfl
 |m+1,n=>by rw[rest,Ms m (n / 2)];rfl
def NQ(m):∀n:Int,n=num (bits m n).reverse+2^m*rest m n:=by
 induction m with
 |zero=>grind [bits,rest,OU]
 |succ m ih=>
  intro n;rw[bits,rest,w2m,NP,w4j]
  grind [b2]
def YE(m):(0:Int)<2^m:=by
 induction m with
 |zero=>decide
 |succ m ih=>rw[w4j];omega
def Mt{m:Nat}{n:Int}(h0:0<=n)(h1:n<2^m):rest m n=0:=by
 have h:=NQ m n;have hb:=VW (bits m n).reverse;rw[w4o,Di]at hb;have hp:=YE m
 by_cases hr:rest m n=0
 .exact hr
 .exfalso;rcases Int.lt_or_gt_of_ne hr with h2|h2
  .have:2^m*rest m n<=2^m*(-1):=w3h (by omega) (by omega);omega
  .have:2^m*1<=2^m*rest m n:=w3h (by omega) (by omega);omega
def YF(h0:0<=n)(h1:n<2^m):num (bits m n).reverse=n:=by
 have h:=NQ m n;rw[Mt h0 h1,Int.mul_zero]at h;omega
def part(row:List Bool)(i:Nat):Int:=num (row.take i)*2^(row.length-i)
end Ei
namespace Q
open PySem L2 D
variable{base:Heap}{way:Int}{e:List S}{ws:List W}{i j n:Nat}{K:Fg}{mg:Str->Option Value}{α:Type}
seal DE DF DT DW DA DS mK rB DO QH PE PT PW PA PS lH PG yI PI PF rD PC fj yL pL cX yK xA xy t_ PO
theorem us1{P:List α->Prop}(h:∀x0,P [x0]):∀us:List α,us.length=1->P us
 |[x0],_=>h x0
theorem us2{P:List α->Prop}(h:∀x0 x1,P [x0,x1]):∀us:List α,us.length=2->P us
 |[x0,x1],_=>h x0 x1
theorem us3{P:List α->Prop}(h:∀x0 x1 x2,P [x0,x1,x2]):∀us:List α,us.length=3->P us
 |[x0,x1,x2],_=>h x0 x1 x2
theorem us4{P:List α->Prop}(h:∀x0 x1 x2 x3,P [x0,x1,x2,x3]):∀us:List α,us.length=4->P us
 |[x0,x1,x2,x3],_=>h x0 x1 x2 x3
@[inline] def t9(i:Nat):Stmt:=PySem.Challenge.pw_circuits_k68_made_refused.main.body.getD i (.Pass ⟨0,0,0,0⟩)
structure xv(P:Program)(w:World)(K:Fg)(mg:Str->Option Value):Prop where
 kM:mg "ValueError"=none
 JU:mg "all"=none
 JV:mg "any"=none
 uc:mg "enumerate"=none
 JW:mg "int"=none
 eV:mg "isinstance"=none
 JX:mg "len"=none
 Em:mg "list"=none
 JY:mg "max"=none
 yP:mg "min"=none
 sy:mg "range"=none
 vo:mg "reversed"=none
 yQ:mg "sorted"=none
 BZ:mg "tuple"=none
 JZ:mg "zip"=none
 Dy:∃d,mg "SIGNS"=some (.ref d)/\n5 w K d
structure aP where
 a9:Addr
 gS:Addr
 cS:Addr
 aH:Addr
 aC:Addr
 dz:Value
 dy:Value
 jj:Value
 gR:Value
 iG:Value
variable{a:aP}
structure pb(K:Fg)(mg:Str->Option Value)(a:aP):Prop where
 z:True
 jx:mg "CircuitError"=some (.ref a.a9)
 Cn:mg "NoRow"=some (.ref a.gS)
 xQ:mg "NoTable"=some (.ref a.cS)
 nG:mg "TooGreat"=some (.ref a.aH)
 mm:mg "NoMachine"=some (.ref a.aC)
 ml:mg "MOST_PLACES_tables"=some a.dz
 mj:mg "MOST_PLACES_covers"=some a.dy
 sY:mg "MOST_CELLS"=some a.jj
 qw:mg "MOST_ANSWERS"=some a.gR
 rR:mg "MOST_WISHED"=some a.iG
 l3:cO K (.int 10) a.dz=true
 lZ:cO K (.int 4) a.dy=true
 sI:cO K (.int 4) a.jj=true
 p_:cO K (.int 6) a.gR=true
 rJ:cO K (.int 4) a.iG=true
 uk:excIn K a.aC a.a9=true
 B1:excIn K a.gS a.a9=true
 xD:excIn K a.cS a.a9=true
 vy:excIn K a.aH a.a9=true
 fw:cH K a.aC=true
 ez:exmOne K (.ref a.aC) (.ref a.a9)=some true
 fg:kitOne K (.ref a.aC) (.ref a.aC)=some true
 e5:kitOne K (.ref a.aC) (.type "ValueError")=some true
 fJ:kitOne K (.ref a.aC) (.ref a.aH)=some false
 B0:cH K a.gS=true
 mJ:exmOne K (.ref a.gS) (.ref a.a9)=some true
 oy:kitOne K (.ref a.gS) (.ref a.aC)=some false
 nE:kitOne K (.ref a.gS) (.type "ValueError")=some true
 o3:kitOne K (.ref a.gS) (.ref a.aH)=some false
 xB:cH K a.cS=true
 lF:exmOne K (.ref a.cS) (.ref a.a9)=some true
 mR:kitOne K (.ref a.cS) (.ref a.aC)=some false
 md:kitOne K (.ref a.cS) (.type "ValueError")=some true
 nF:kitOne K (.ref a.cS) (.ref a.aH)=some false
 gC:cH K a.aH=true
 eT:exmOne K (.ref a.aH) (.ref a.a9)=some true
 fK:kitOne K (.ref a.aH) (.ref a.aC)=some false
 fh:kitOne K (.ref a.aH) (.type "ValueError")=some true
 f7:kitOne K (.ref a.aH) (.ref a.aH)=some true
 nt:eE K
abbrev AS:Nat:=0
abbrev qI:Nat:=1
abbrev GZ:Nat:=2
abbrev Hw:Nat:=3
abbrev AK:Nat:=4
abbrev AD:Nat:=5
abbrev GD:Nat:=6
abbrev rS:Nat:=7
abbrev CN:Nat:=8
abbrev Dk:Nat:=9
abbrev CV:Nat:=10
abbrev F1:Nat:=11
abbrev wC:Nat:=12
abbrev CH:Nat:=13
abbrev AE:Nat:=14
abbrev DN:Nat:=15
abbrev HR:Nat:=16
abbrev GF:Nat:=17
abbrev G5:Nat:=18
abbrev Gd:Nat:=19
abbrev Ge:Nat:=20
abbrev xT:Nat:=21
abbrev F2:Nat:=22
abbrev F7:Nat:=23
abbrev Cr:Nat:=24
abbrev Gv:Nat:=25
abbrev qG:Nat:=26
abbrev HS:Nat:=27
abbrev AU:Nat:=28
abbrev CB:Nat:=29
abbrev CS:Nat:=30
abbrev C7:Nat:=31
abbrev FU:Nat:=32
abbrev Ct:Nat:=33
abbrev AV:Nat:=34
abbrev F3:Nat:=35
abbrev uR:Nat:=36
abbrev uS:Nat:=37
abbrev wH:Nat:=38
abbrev xU:Nat:=39
abbrev CW:Nat:=40
abbrev GG:Nat:=41
abbrev F8:Nat:=42
abbrev mS:Nat:=43
abbrev Gw:Nat:=44
abbrev CY:Nat:=45
abbrev Cu:Nat:=46
abbrev nN:Nat:=47
abbrev JJ:Nat:=48
@[inline] def t8:List Nat:=[7,8,9,12,13,14,16,17,18,19,22,23,24,25,28,29,30,31,32,33,34,35,36,37,39,40,41,42,43,45,46,47,49,50,52,53,58,59,60,61,62,63,64,66,67,68,69,70,71]
@[inline] abbrev s8(i:Nat):Stmt:=t9 (t8.getD i 0)
@[inline] def n8(i:Nat):Str:=n9 (s8 i)
def ps(i:Nat):List Str:=FQ (s8 i)
def Ns:Nat->List Str
 |27=>["reaches", "left"]
 |34=>["machine", "states", "kinds", "found", "numbers", "number"]
 |i=>FO (s8 i)
def lv:Nat->Nat
 |24=>2
 |26=>1
 |27=>1
 |36=>2
 |37=>2
 |42=>2
 |47=>2
 |48=>2
 |_=>0
theorem Dw(h:i<49):fR (Ns i) (ps i) (aZ (s8 i)):=z9g ((by decide +kernel:∀i,i<49->vG (Ns i) (ps i) (aZ (s8 i))=true) i h)
abbrev G6:Expr:=(kwAt 0 (qY (xg 0 (s8 27))))
abbrev CT:Lm:=⟨("rarest"++".<locals>.")++"<lambda>", iA G6,k8 G6,jw G6,["reaches"]⟩
abbrev wI:Nat:=49
abbrev Hx:Expr:=(ub 1 (qY (xg 3 (s8 34))))
abbrev xW:Lm:=⟨("small"++".<locals>.")++"<lambda>", iA Hx,k8 Hx,jw Hx,["states", "kinds"]⟩
abbrev Gf:Nat:=50
abbrev Hy:Expr:=(ub 1 (xh (qY (xg 5 (s8 34)))))
abbrev xX:Lm:=⟨("small"++".<locals>.")++"<lambda>", iA Hy,k8 Hy,jw Hy,["states"]⟩
abbrev Gg:Nat:=51
def bR:Nat->Option Lm
 |49=>some CT
 |50=>some xW
 |51=>some xX
 |_=>none
theorem UX:bR 49=some CT:=rfl
theorem U_:bR 50=some xW:=rfl
theorem U':bR 51=some xX:=rfl
def CJ(K:Fg)(a:aP)(r:Nat->List W->FR):Den W:=
 (cU bS (ae (ar (r AU) (ae (af 1) (ae (af 0) ah))) ah))
def Cv(K:Fg)(a:aP)(r:Nat->List W->FR):Den W:=
 (ar (r F3) (ae (af 1) (ae (af 2) (ae (af 0) ah))))
def Cw(K:Fg)(a:aP)(r:Nat->List W->FR):Den W:=
 (av bh (af 1) (af 0))
def G7(K:Fg)(a:aP)(r:Nat->List W->FR):List S->SR:=
 (aq (fZ 2 (ae (av eq2 (av bU (af 3) (dC (.int 2))) (dC (.int 1))) ah))
  (aF 3 (av dj (af 3) (dC (.int 2)))))
def HU(K:Fg)(a:aP)(r:Nat->List W->FR):List S->SR:=
 (aq (bN 2 (cA ah))
  (aq (aF 3 (af 0))
  (aq (gc 4 f9 (ae (af 1) ah)
  (G7 K a r))
  (aq (aQ (ay (av ne2 (af 3) (dC (.int 0))))
  (cC a.gS (ae (dC (.str "no row of so many places has that number")) ah))
  cB)
  (aL (gm ig (af 2)))))))
def AF(K:Fg)(a:aP)(r:Nat->List W->FR):List S->SR:=
 (aF 1 (av i7 (dC (.int 2)) (af 1)))
def CZ(K:Fg)(a:aP)(r:Nat->List W->FR):List S->SR:=
 (aq (aF 1 (dC (.int 1)))
  (aq (gc 2 f9 (ae (af 0) ah)
  (AF K a r))
  (aL (af 1))))
def LD(K:Fg)(a:aP)(r:Nat->List W->FR):Den W:=
 (ar (r AS) (ae (af 0) (ae (af 1) ah)))
def G8(K:Fg)(a:aP)(r:Nat->List W->FR):List S->SR:=
 (dM (cQ f9 [0] (ae (ar (r qI) (ae (af 0) ah)) ah) bK (LD K a r)))
def GH(K:Fg)(a:aP)(r:Nat->List W->FR):Den W:=
 (jW (av kq (af 0) (dC .aE)) (av eq2 (af 0) (af 1)))
def Hz(K:Fg)(a:aP)(r:Nat->List W->FR):List S->SR:=
 (aq (aQ (ay (av ne2 (cU bS (ae (af 0) ah)) (cU bS (ae (af 1) ah))))
  (aL (dC (.bl false)))
  cB)
  (aL (cU all1 (ae (gN (dG [] (nR (ae (af 0) (ae (af 1) ah))) bK (GH K a r))) ah))))
def LL(K:Fg)(a:aP)(r:Nat->List W->FR):Den W:=
 (af 0)
def LM(K:Fg)(a:aP)(r:Nat->List W->FR):Den Bool:=
 (eY (ar (r Hw) (ae (af 2) (ae (af 1) ah))))
def HA(K:Fg)(a:aP)(r:Nat->List W->FR):List S->SR:=
 (dM (dG [0] (mB (ae (ar (r GZ) (ae (cU bS (ae (af 0) ah)) ah)) ah)) (LM K a r) (LL K a r)))
def Lq(K:Fg)(a:aP)(r:Nat->List W->FR):Den W:=
 (gm tN (af 0))
def GI(K:Fg)(a:aP)(r:Nat->List W->FR):List S->SR:=
 (aL (gf "str" ma (dC (.str "")) (ae (gN (bG [] (af 0) bK (Lq K a r))) ah)))
def GJ(K:Fg)(a:aP)(r:Nat->List W->FR):List S->SR:=
 (aq (aQ (ay (av eq2 (av bh (af 0) (dC (.int 0))) (dC (.str "is"))))
  (aL (aV (ae (dC (.str "is")) (ae (gY (av bh (af 0) (dC (.int 1)))) ah))))
  cB)
  (aL (aV (ae (dC (.str "not")) (ae (af 0) ah)))))
def Jn(K:Fg)(a:aP)(r:Nat->List W->FR):List S->SR:=
 (aq (aQ (ay (av eq2 (av bh (af 1) (dC (.int 0))) (dC (.str "is"))))
  (aL (ar (r CN) (ae (af 0) (ae (av bh (af 1) (dC (.int 1))) (ae (af 2) ah)))))
  cB)
  (aq (aQ (ay (av eq2 (av bh (af 2) (dC (.int 0))) (dC (.str "is"))))
  (aL (ar (r CN) (ae (af 0) (ae (av bh (af 2) (dC (.int 1))) (ae (af 1) ah)))))
  cB)
  (aL (aV (ae (af 0) (ae (af 1) (ae (af 2) ah)))))))
def Gx(K:Fg)(a:aP)(r:Nat->List W->FR):List S->SR:=
 (aq (aQ (ay (av eq2 (af 0) (dC (.str "and"))))
  (aL (ug (eY (af 1)) (af 2) (aV (ae (dC (.str "is")) (ae (dC (.bl false)) ah)))))
  cB)
  (aq (aQ (ay (av eq2 (af 0) (dC (.str "or"))))
  (aL (ug (eY (af 1)) (aV (ae (dC (.str "is")) (ae (dC (.bl true)) ah))) (af 2)))
  cB)
  (aL (ug (eY (af 1)) (ar (r GD) (ae (af 2) ah)) (af 2)))))
def HV(K:Fg)(a:aP)(r:Nat->List W->FR):List S->SR:=
 (aq (aF 3 (aV (ae (dC (.str "at")) (ae (af 0) ah))))
  (aq (aQ (ay (av eq2 (af 1) (aV (ae (dC (.str "is")) (ae (dC (.bl true)) ah)))))
  (aL (ar (r rS) (ae (dC (.str "or")) (ae (aV (ae (dC (.str "not")) (ae (af 3) ah))) (ae (af 2) ah)))))
  cB)
  (aq (aQ (ay (av eq2 (af 2) (aV (ae (dC (.str "is")) (ae (dC (.bl true)) ah)))))
  (aL (ar (r rS) (ae (dC (.str "or")) (ae (af 3) (ae (af 1) ah)))))
  cB)
  (aL (ar (r rS) (ae (dC (.str "or")) (ae (ar (r rS) (ae (dC (.str "and")) (ae (aV (ae (dC (.str "not")) (ae (af 3) ah))) (ae (af 1) ah)))) (ae (ar (r rS) (ae (dC (.str "and")) (ae (af 3) (ae (af 2) ah)))) ah))))))))
def Gh(K:Fg)(a:aP)(r:Nat->List W->FR):List S->SR:=
 (aQ (ay (av eq2 (cU bS (ae (af 0) ah)) (ar (r qI) (ae (af 1) ah))))
  (aL (af 1))
  cB)
def GK(K:Fg)(a:aP)(r:Nat->List W->FR):List S->SR:=
 (aq (gc 1 f9 (ae (av bH (dC (.int 10)) (dC (.int 1))) ah)
  (Gh K a r))
  (cC a.cS (ae (dC (.str "no table has that length")) ah)))
def F4(K:Fg)(a:aP)(r:Nat->List W->FR):List S->SR:=
 (aq (gX (ar (r CV) (ae (af 0) ah)))
  (aL (ar (r wC) (ae (af 0) (ae (dC (.int 0)) ah)))))
def Lr(K:Fg)(a:aP)(r:Nat->List W->FR):Den W:=
 (gY (af 0))
def C0(K:Fg)(a:aP)(r:Nat->List W->FR):List S->SR:=
 (aq (aQ (eY (ar (r CH) (ae (af 0) ah)))
  (aL (aV (ae (dC (.str "is")) (ae (av bh (af 0) (dC (.int 0))) ah))))
  cB)
  (aq (aF 2 (av dj (cU bS (ae (af 0) ah)) (dC (.int 2))))
  (aq (aF 3 (oU (af 0) b8 (eK (af 2))))
  (aq (aF 4 (oU (af 0) (eK (af 2)) b8))
  (aq (aF 5 (ar (r wC) (ae (af 3) (ae (av bH (af 1) (dC (.int 1))) ah))))
  (aq (aQ (ay (av eq2 (af 3) (af 4)))
  (aL (af 5))
  cB)
  (aq (aQ (jU (jV (eY (ar (r CH) (ae (af 3) ah)))) (ay (av eq2 (af 4) (gN (bG [] (af 3) bK (Lr K a r))))))
  (aL (aV (ae (dC (.str "odd")) (ae (af 5) (ae (aV (ae (dC (.str "at")) (ae (af 1) ah))) ah)))))
  cB)
  (aL (ar (r Dk) (ae (af 1) (ae (af 5) (ae (ar (r wC) (ae (af 4) (ae (av bH (af 1) (dC (.int 1))) ah))) ah))))))))))))
def Lc(K:Fg)(a:aP)(r:Nat->List W->FR):Den W:=
 (av eq2 (af 0) (av bh (af 1) (dC (.int 0))))
def F9(K:Fg)(a:aP)(r:Nat->List W->FR):List S->SR:=
 (aL (cU all1 (ae (gN (bG [0] (af 0) bK (Lc K a r))) ah)))
def Gi(K:Fg)(a:aP)(r:Nat->List W->FR):List S->SR:=
 (aq (aF 1 (ar (r CV) (ae (af 0) ah)))
  (aq (aQ (ay (av l4 (af 1) (dC (.int 4))))
  (cC a.cS (ae (dC (.str "no wish has that length")) ah))
  cB)
  (aL (af 1))))
def NR(K:Fg)(a:aP)(r:Nat->List W->FR):Den W:=
 (av gK (av bh (af 1) (af 0)) (dC (.bl false)))
def JC(K:Fg)(a:aP)(r:Nat->List W->FR):List S->SR:=
 (aq (aQ (ay (av ne2 (ar (r AE) (ae (af 1) ah)) (cU bS (ae (af 0) ah))))
  (aL (dC (.bl false)))
  cB)
  (aL (cU all1 (ae (gN (bG [1] (ar (r AK) (ae (af 0) ah)) bK (NR K a r))) ah))))
def Mj(K:Fg)(a:aP)(r:Nat->List W->FR):Den W:=
 (af 0)
def Ml(K:Fg)(a:aP)(r:Nat->List W->FR):Den Bool:=
 (eY (ar (r G5) (ae (af 0) (ae (af 1) ah))))
def HW(K:Fg)(a:aP)(r:Nat->List W->FR):List S->SR:=
 (dM (bG [0] (ar (r GF) (ae (ar (r AE) (ae (af 0) ah)) ah)) (Ml K a r) (Mj K a r)))
def Cy(K:Fg)(a:aP)(r:Nat->List W->FR):List S->SR:=
 (mZ 3 (ae (gN (cA (ae (av bH (af 4) (aV (ae (dC .aE) ah))) (ae (av bH (af 4) (aV (ae (dC (.bl false)) ah))) (ae (av bH (af 4) (aV (ae (dC (.bl true)) ah))) ah))))) ah))
def Gj(K:Fg)(a:aP)(r:Nat->List W->FR):List S->SR:=
 (aq (bN 3 (cA ah))
  (aq (iV 4 (af 1)
  (Cy K a r))
  (aF 1 (af 3))))
def GL(K:Fg)(a:aP)(r:Nat->List W->FR):List S->SR:=
 (aq (aF 1 (gN (cA (ae (aV ah) ah))))
  (aq (gc 2 f9 (ae (af 0) ah)
  (Gj K a r))
  (aL (af 1))))
def Lx(K:Fg)(a:aP)(r:Nat->List W->FR):Den W:=
 (ar (r DN) (ae (af 0) (ae (af 1) ah)))
def Ly(K:Fg)(a:aP)(r:Nat->List W->FR):Den W:=
 (av kq (av bh (af 1) (af 0)) (dC (.bl true)))
def G9(K:Fg)(a:aP)(r:Nat->List W->FR):List S->SR:=
 (aq (aQ (jV (eY (ar (r DN) (ae (af 0) (ae (af 1) ah)))))
  (aL (dC (.bl false)))
  cB)
  (aq (aQ (jV (eY (cU mX (ae (gN (bG [1] (ar (r AK) (ae (af 0) ah)) bK (Ly K a r))) ah))))
  (aL (dC (.bl false)))
  cB)
  (aL (gY (cU mX (ae (gN (bG [1] (ar (r Gd) (ae (af 0) ah)) bK (Lx K a r))) ah))))))
def K_(K:Fg)(a:aP)(r:Nat->List W->FR):Den W:=
 (av bH (av bH (oU (af 1) b8 (eK (af 0))) (aV (ae (dC .aE) ah))) (oU (af 1) (eK (av bH (af 0) (dC (.int 1)))) b8))
def K'(K:Fg)(a:aP)(r:Nat->List W->FR):Den Bool:=
 (ay (av gK (av bh (af 1) (af 0)) (dC .aE)))
def Gk(K:Fg)(a:aP)(r:Nat->List W->FR):List S->SR:=
 (dM (cQ f9 [0] (ae (cU bS (ae (af 0) ah)) ah) (K' K a r) (K_ K a r)))
def La(K:Fg)(a:aP)(r:Nat->List W->FR):Den W:=
 (af 0)
def Lb(K:Fg)(a:aP)(r:Nat->List W->FR):Den Bool:=
 (ay (av kq (af 1) (dC (.bl true))))
def Gm(K:Fg)(a:aP)(r:Nat->List W->FR):List S->SR:=
 (aq (gX (ar (r AE) (ae (af 0) ah)))
  (dM (dG [] (mB (ae (af 0) ah)) (Lb K a r) (La K a r))))
def Ls(K:Fg)(a:aP)(r:Nat->List W->FR):Den W:=
 (af 0)
def Lu(K:Fg)(a:aP)(r:Nat->List W->FR):Den Bool:=
 (ay (av j5 (af 0) (af 1)))
def GN(K:Fg)(a:aP)(r:Nat->List W->FR):List S->SR:=
 (dM (bG [1] (af 0) (Lu K a r) (Ls K a r)))
def AA(K:Fg)(a:aP)(r:Nat->List W->FR):List S->SR:=
 (aF 1 (ar (r rS) (ae (dC (.str "or")) (ae (af 1) (ae (ar (r F7) (ae (af 2) ah)) ah)))))
def F5(K:Fg)(a:aP)(r:Nat->List W->FR):List S->SR:=
 (aq (aF 1 (aV (ae (dC (.str "is")) (ae (dC (.bl false)) ah))))
  (aq (iV 2 (af 0)
  (AA K a r))
  (aL (af 1))))
def wG(K:Fg)(a:aP)(r:Nat->List W->FR):List S->SR:=
 (aQ (ay (av kq (af 3) (dC (.bl true))))
  (aF 1 (ar (r rS) (ae (dC (.str "and")) (ae (af 1) (ae (aV (ae (dC (.str "at")) (ae (af 2) ah))) ah)))))
  (aQ (ay (av kq (af 3) (dC (.bl false))))
  (aF 1 (ar (r rS) (ae (dC (.str "and")) (ae (af 1) (ae (aV (ae (dC (.str "not")) (ae (aV (ae (dC (.str "at")) (ae (af 2) ah))) ah))) ah)))))
  cB))
def FW(K:Fg)(a:aP)(r:Nat->List W->FR):List S->SR:=
 (aq (aF 1 (aV (ae (dC (.str "is")) (ae (dC (.bl true)) ah))))
  (aq (iJ 2 3 (jD (ae (af 0) ah))
  (wG K a r))
  (aL (af 1))))
def AB(K:Fg)(a:aP)(r:Nat->List W->FR):Den Bool:=
 (ay (av eq2 (av bh (af 5) (dC (.int 0))) (dC (.str "tree"))))
def CC(K:Fg)(a:aP)(r:Nat->List W->FR):List S->SR:=
 (aq (aF 4 (av bh (af 5) (dC (.int 1))))
  (aq (aF 3 (av bH (af 3) (dC (.int 1))))
  (aF 5 (ar (r qG) (ae (af 1) (ae (af 2) (ae (af 3) ah)))))))
def Gn(K:Fg)(a:aP)(r:Nat->List W->FR):List S->SR:=
 (aq (aF 1 (ar (r Gv) (ae (af 0) ah)))
  (aq (aF 2 (ar (r Ge) (ae (af 0) ah)))
  (aq (aF 3 (dC (.int 0)))
  (aq (aF 4 (dC .aE))
  (aq (aF 5 (ar (r qG) (ae (af 1) (ae (af 2) (ae (af 3) ah)))))
  (aq (bI (AB K a r)
  (CC K a r) 1000000)
  (aL (aV (ae (gN (kj (r AD) (av bh (af 5) (dC (.int 1))))) (ae (af 4) ah))))))))))
def Lf(K:Fg)(a:aP)(r:Nat->List W->FR):Den W:=
 (aV (ae (af 0) (ae (ar (r AK) (ae (af 0) ah)) ah)))
def Gy(K:Fg)(a:aP)(r:Nat->List W->FR):List S->SR:=
 (dM (bG [] (ar (r HR) (ae (af 0) ah)) bK (Lf K a r)))
def uP(K:Fg)(a:aP)(r:Nat->List W->FR):List S->SR:=
 (aq (aF 7 (ar (r qG) (ae (af 0) (ae (ar (r xT) (ae (af 1) (ae (af 6) ah))) (ae (av mF (af 2) (dC (.int 1))) ah)))))
  (aq (aQ (ay (av eq2 (av bh (af 7) (dC (.int 0))) (dC (.str "cover"))))
  (aL (aV (ae (dC (.str "cover")) (ae (av bH (gN (cA (ae (af 5) ah))) (av bh (af 7) (dC (.int 1)))) ah))))
  cB)
  (fZ 4 (ae (aV (ae (af 5) (ae (av bh (af 7) (dC (.int 1))) ah))) ah))))
def AW(K:Fg)(a:aP)(r:Nat->List W->FR):List S->SR:=
 (aq (aQ (ay (av eq2 (cU bS (ae (af 1) ah)) (dC (.int 0))))
  (aL (aV (ae (dC (.str "cover")) (ae (gN (cA ah)) ah))))
  cB)
  (aq (aF 3 (ar (r HS) (ae (af 0) (ae (af 1) ah))))
  (aq (aQ (ay (av eq2 (af 2) (dC (.int 0))))
  (aL (aV (ae (dC (.str "tree")) (ae (aV (ae (af 3) (ae (aV ah) ah))) ah))))
  cB)
  (aq (bN 4 (cA ah))
  (aq (iJ 5 6 (jE (ar (r AU) (ae (af 0) (ae (af 3) ah))))
  (uP K a r))
  (aL (aV (ae (dC (.str "tree")) (ae (aV (ae (af 3) (ae (cU j7 (ae (af 4) ah)) ah))) ah)))))))))
def HX(K:Fg)(a:aP)(r:Nat->List W->FR):List S->SR:=
 (aL (kc r 49 [0] (af 1)))
def Mm(K:Fg)(a:aP)(r:Nat->List W->FR):Den W:=
 (af 0)
def Mn(K:Fg)(a:aP)(r:Nat->List W->FR):Den Bool:=
 (ay (av vX (af 1) (av bh (af 0) (dC (.int 1)))))
def HY(K:Fg)(a:aP)(r:Nat->List W->FR):List S->SR:=
 (dM (bG [1] (af 0) (Mn K a r) (Mm K a r)))
def uQ(K:Fg)(a:aP)(r:Nat->List W->FR):List S->SR:=
 (aq (aQ (ay (av ne2 (cU bS (ae (af 4) ah)) (av bh (af 0) (dC (.int 1)))))
  (cC a.aC (ae (dC (.str "a state answers too many truths, or too few")) ah))
  cB)
  (aQ (jV (eY (ar (r CS) (ae (af 0) (ae (af 5) ah)))))
  (cC a.aC (ae (dC (.str "a state leads to none of the states")) ah))
  cB))
def wF(K:Fg)(a:aP)(r:Nat->List W->FR):List S->SR:=
 (aq (aQ (ay (av ne2 (cU bS (ae (af 3) ah)) (af 2)))
  (cC a.aC (ae (dC (.str "a state hasn't a pair for each row")) ah))
  cB)
  (iJ 4 5 (jE (af 3))
  (uQ K a r)))
def CD(K:Fg)(a:aP)(r:Nat->List W->FR):List S->SR:=
 (aq (aF 1 (av bh (af 0) (dC (.int 2))))
  (aq (aF 2 (ar (r qI) (ae (av bh (af 0) (dC (.int 0))) ah)))
  (aq (aQ (ay (av eq2 (cU bS (ae (af 1) ah)) (dC (.int 0))))
  (cC a.aC (ae (dC (.str "a machine has a state at least")) ah))
  cB)
  (iV 3 (af 1)
  (wF K a r)))))
def CU(K:Fg)(a:aP)(r:Nat->List W->FR):List S->SR:=
 (aL (gW (av wa (dC (.int 0)) (af 1)) (av rQ (af 1) (cU bS (ae (av bh (af 0) (dC (.int 2))) ah)))))
def xV(K:Fg)(a:aP)(r:Nat->List W->FR):List S->SR:=
 (aq (aQ (dE (ay (av sZ (af 8) (af 3))))
  (aq (kf 3 (fB 2 bS) (af 8))
  (fZ 2 (ae (af 8) ah)))
  cB)
  (fZ 6 (ae (aV (ae (af 7) (ae (bW (av z9 (af 3) (af 8))) ah))) ah)))
def C1(K:Fg)(a:aP)(r:Nat->List W->FR):Den Bool:=
 (ay (av rQ (fB 4 bS) (fB 2 bS)))
def C2(K:Fg)(a:aP)(r:Nat->List W->FR):List S->SR:=
 (aq (aF 5 (eX 2 (fB 4 bS)))
  (aq (bN 6 (cA ah))
  (aq (iJ 7 8 (jE (iu bR r 1 (ae (af 5) ah)))
  (xV K a r))
  (fZ 4 (ae (af 6) ah)))))
def G_(K:Fg)(a:aP)(r:Nat->List W->FR):List S->SR:=
 (aq (bN 2 (cA (ae (af 0) ah)))
  (aq (iw 3 0 (.inl 0))
  (aq (bN 4 (cA ah))
  (aq (bI (C1 K a r)
  (C2 K a r) 1000000)
  (aL (aV (ae (af 4) (ae (af 2) ah))))))))
def Cq(K:Fg)(a:aP)(r:Nat->List W->FR):Den Bool:=
 (ay (av l4 (cU k_ (ae (af 2) ah)) (cU k_ (ae (eX 1 (gm dq (dC (.int 1)))) ah))))
def FT(K:Fg)(a:aP)(r:Nat->List W->FR):List S->SR:=
 (aq (fZ 1 (ae (af 2) ah))
  (aF 2 (ar (r Ct) (ae (af 0) (ae (af 2) ah)))))
def FV(K:Fg)(a:aP)(r:Nat->List W->FR):List S->SR:=
 (aq (bN 1 (cA (ae (av o9 (gN (cA (ae (dC (.int 0)) ah))) (cU bS (ae (af 0) ah))) ah)))
  (aq (aF 2 (ar (r Ct) (ae (af 0) (ae (eX 1 (gm dq (dC (.int 1)))) ah))))
  (aq (bI (Cq K a r)
  (FT K a r) 1000000)
  (iK 1))))
def Li(K:Fg)(a:aP)(r:Nat->List W->FR):Den W:=
 (aV (ae (af 0) (ae (av bh (af 2) (af 1)) ah)))
def CF(K:Fg)(a:aP)(r:Nat->List W->FR):List S->SR:=
 (aq (aF 5 (cU j7 (ae (gN (dG [1] (jE (af 4)) bK (Li K a r))) ah)))
  (aq (aQ (dE (ay (av o4 (af 5) (af 2))))
  (lU 2 (bW (cU mf (ae (af 2) ah))) (af 5))
  cB)
  (fZ 3 (ae (bW (av vY (af 2) (af 5))) ah))))
def Gp(K:Fg)(a:aP)(r:Nat->List W->FR):List S->SR:=
 (aq (lV 2 (.many (.tup [.many .bl,.int])))
  (aq (bN 3 (cA ah))
  (aq (iV 4 (af 0)
  (CF K a r))
  (iK 3))))
def C9(K:Fg)(a:aP)(r:Nat->List W->FR):List S->SR:=
 (jX 4 (gf "list" iy (av bh (af 3) (dC (.int 1))) (ae (av bh (af 2) (af 5)) ah)) (af 5))
def Dr(K:Fg)(a:aP)(r:Nat->List W->FR):List S->SR:=
 (aq (gX (ar (r CB) (ae (af 0) ah)))
  (aq (aF 1 (av bh (af 0) (dC (.int 2))))
  (aq (aF 2 (av bh (ar (r FU) (ae (af 1) ah)) (gm dq (dC (.int 1)))))
  (aq (aF 3 (dJ (r C7) 50 xW [1,2] (av bh (af 2) (dC (.int 0)))))
  (aq (bN 4 (kg (gN (cA (ae (dC .aE) ah))) (cU bS (ae (af 1) ah))))
  (aq (iV 5 (av bh (dJ (r C7) 51 xX [1] (dC (.int 0))) (dC (.int 1)))
  (C9 K a r))
  (aL (aV (ae (aV (ae (av bh (af 0) (dC (.int 0))) (ae (av bh (af 0) (dC (.int 1))) (ae (av bh (af 3) (dC (.int 0))) ah)))) (ae (af 4) ah))))))))))
def K7(K:Fg)(a:aP)(r:Nat->List W->FR):Den W:=
 (aV (ae (af 0) (ae (av bh (af 2) (af 1)) ah)))
def F6(K:Fg)(a:aP)(r:Nat->List W->FR):List S->SR:=
 (dM (dG [1] (jE (av bh (af 0) (gf "list" iy (af 1) (ae (af 2) ah)))) bK (K7 K a r)))
def Lg(K:Fg)(a:aP)(r:Nat->List W->FR):Den W:=
 (aV (ae (dC (.bl false)) (ae (af 0) ah)))
def FX(K:Fg)(a:aP)(r:Nat->List W->FR):Den W:=
 (ar (r F8) (ae (af 0) ah))
def CP(K:Fg)(a:aP)(r:Nat->List W->FR):List S->SR:=
 (aq (aF 1 (ar (r wH) (ae (af 0) ah)))
  (aq (aF 2 (ar (r xU) (ae (af 1) ah)))
  (aq (aF 3 (gN (bG [] (ar (r CW) (ae (af 1) ah)) bK (FX K a r))))
  (aq (aF 4 (cU j7 (ae (gN (bG [] (oU (af 3) b8 (eK (af 2))) bK (Lg K a r))) ah)))
  (aL (aV (ae (av bh (af 1) (dC (.int 0))) (ae (af 4) (ae (cU j7 (ae (oU (af 3) (eK (af 2)) b8) ah)) ah)))))))))
def Gq(K:Fg)(a:aP)(r:Nat->List W->FR):Den W:=
 (ar (r Cr) (ae (af 0) ah))
def C3(K:Fg)(a:aP)(r:Nat->List W->FR):List S->SR:=
 (aq (aF 1 (ar (r wH) (ae (af 0) ah)))
  (aq (aQ (ay (av l4 (av bH (av bh (af 1) (dC (.int 0))) (ar (r xU) (ae (af 1) ah))) (dC (.int 4))))
  (cC a.aH (ae (dC (.str "the truths that come in and the cells are too many for covers")) ah))
  cB)
  (dM (bG [] (ar (r CW) (ae (af 1) ah)) bK (Gq K a r)))))
def CK(K:Fg)(a:aP)(r:Nat->List W->FR):List S->SR:=
 (aq (aF 1 (av bh (ar (r AV) (ae (af 0) ah)) (dC (.int 0))))
  (aq (aQ (ay (av l4 (ar (r xU) (ae (af 1) ah)) (dC (.int 4))))
  (cC a.aH (ae (dC (.str "the machine has too many unlike states")) ah))
  cB)
  (aq (aQ (ay (av l4 (av bh (af 1) (dC (.int 1))) (dC (.int 6))))
  (cC a.aH (ae (dC (.str "the machine answers too many truths")) ah))
  cB)
  (aL (af 1)))))
def Cz(K:Fg)(a:aP)(r:Nat->List W->FR):Den Bool:=
 (ay (av rQ (ar (r qI) (ae (af 1) ah)) (cU bS (ae (av bh (af 0) (dC (.int 2))) ah))))
def F_(K:Fg)(a:aP)(r:Nat->List W->FR):List S->SR:=
 (aF 1 (av bH (af 1) (dC (.int 1))))
def GO(K:Fg)(a:aP)(r:Nat->List W->FR):List S->SR:=
 (aq (aF 1 (dC (.int 0)))
  (aq (bI (Cz K a r)
  (F_ K a r) 1000000)
  (aL (af 1))))
def Lv(K:Fg)(a:aP)(r:Nat->List W->FR):Den W:=
 (av bh (af 0) (af 1))
def Lw(K:Fg)(a:aP)(r:Nat->List W->FR):Den W:=
 (gN (bG [0] (af 1) bK (Lv K a r)))
def Lj(K:Fg)(a:aP)(r:Nat->List W->FR):Den W:=
 (ar (r GG) (ae (af 1) (ae (af 2) (ae (af 0) ah))))
def GP(K:Fg)(a:aP)(r:Nat->List W->FR):List S->SR:=
 (aq (aF 1 (ar (r xU) (ae (af 0) ah)))
  (aq (aF 2 (gN (cQ f9 [0,1] (ae (ar (r qI) (ae (av bH (av bh (af 0) (dC (.int 0))) (af 1)) ah)) ah) bK (Lj K a r))))
  (dM (cQ f9 [2] (ae (av bH (af 1) (av bh (af 0) (dC (.int 1)))) ah) bK (Lw K a r)))))
def GQ(K:Fg)(a:aP)(r:Nat->List W->FR):List S->SR:=
 (aq (aF 3 (av bU (af 2) (ar (r qI) (ae (af 1) ah))))
  (aq (aQ (ay (av y0 (af 3) (cU bS (ae (av bh (af 0) (dC (.int 2))) ah))))
  (aL (av qR (aV (ae (dC .aE) ah)) (av bH (af 1) (av bh (af 0) (dC (.int 1))))))
  cB)
  (aq (aF 4 (av bh (av bh (av bh (af 0) (dC (.int 2))) (af 3)) (av dj (af 2) (ar (r qI) (ae (af 1) ah)))))
  (aL (av bH (ar (r AS) (ae (av bh (af 4) (dC (.int 1))) (ae (af 1) ah))) (av bh (af 4) (dC (.int 0))))))))
def Ld(K:Fg)(a:aP)(r:Nat->List W->FR):Den W:=
 (av kq (af 0) (dC (.bl true)))
def FY(K:Fg)(a:aP)(r:Nat->List W->FR):List S->SR:=
 (aq (aQ (ay (av wa (cU bS (ae (af 0) ah)) (ar (r qI) (ae (dC (.int 4)) ah))))
  (aL (ar (r F2) (ae (av bh (ar (r Cr) (ae (af 0) ah)) (dC (.int 0))) ah)))
  cB)
  (aL (ar (r F1) (ae (gN (bG [] (af 0) bK (Ld K a r))) ah))))
def FZ(K:Fg)(a:aP)(r:Nat->List W->FR):List S->SR:=
 (aq (aQ (ay (av rQ (af 1) (cU bS (ae (af 0) ah))))
  (aL (av bh (af 0) (af 1)))
  cB)
  (aL (dC (.int 0))))
def Gz(K:Fg)(a:aP)(r:Nat->List W->FR):List S->SR:=
 (aL (av bU (av qD (av bU (av bH (av i7 (af 0) (dC (.int 48271))) (av i7 (av bH (af 1) (dC (.int 1))) (dC (.int 1299721)))) (dC (.int 2147483647))) (dC (.int 5))) (dC (.int 2147483647))))
def Ga(K:Fg)(a:aP)(r:Nat->List W->FR):Den W:=
 (gW (av eq2 (af 3) (av bU (af 2) (af 1))) (av l4 (av bU (ar (r Gw) (ae (af 2) (ae (af 0) ah))) (dC (.int 3))) (dC (.int 0))))
def CA(K:Fg)(a:aP)(r:Nat->List W->FR):List S->SR:=
 (aq (aF 6 (cU j7 (ae (gN (cQ f9 [2,3,5] (ae (af 1) ah) bK (Ga K a r))) ah)))
  (aq (bN 7 (cA (ae (aV (ae (af 6) (ae (av bU (av bH (af 5) (dC (.int 1))) (af 2)) ah))) ah)))
  (aq (aQ (ay (av eq2 (af 0) (dC (.int 1))))
  (fZ 7 (ae (aV (ae (af 6) (ae (av bU (av bH (av bH (af 5) (dC (.int 1))) (av bU (av dj (af 3) (dC (.int 20))) (dC (.int 2)))) (af 2)) ah))) ah))
  cB)
  (fZ 4 (ae (af 7) ah)))))
def GR(K:Fg)(a:aP)(r:Nat->List W->FR):List S->SR:=
 (aq (bN 4 (cA ah))
  (aq (gc 5 f9 (ae (af 2) ah)
  (CA K a r))
  (aL (aV (ae (af 0) (ae (af 1) (ae (af 4) ah)))))))
def CG(K:Fg)(a:aP)(r:Nat->List W->FR):Den W:=
 (gN (dList (ae (af 0) ah)))
def Gb(K:Fg)(a:aP)(r:Nat->List W->FR):List S->SR:=
 (aq (jo (iO 1 6 1) (bN 3 (bG [] (av bh (af 0) (dC (.int 2))) bK (CG K a r))) (ki 3 [] (av bh (af 0) (dC (.int 2))) (dList (ae (af 0) ah))))
  (aq (jo (iO 1 6 1) (aF 4 (av bU (af 2) (fB 3 bS))) (aF 4 (av bU (af 2) (bW (fB 3 bS)))))
  (aq (jo (iO 1 6 1) (aF 5 (av bh (eX 3 (af 4)) (gm dq (dC (.int 1))))) (aF 5 (m6 3 (af 4) (gm dq (dC (.int 1))))))
  (aq (aQ (ay (av eq2 (af 1) (dC (.int 0))))
  (bN 3 (cA ah))
  cB)
  (aq (aQ (ay (av eq2 (af 1) (dC (.int 1))))
  (jX 3 (oU (eX 3 (af 4)) (eK (dC (.int 1))) b8) (af 4))
  cB)
  (aq (aQ (ay (av eq2 (af 1) (dC (.int 2))))
  (gh 3 oT (af 4) (ae (af 5) ah))
  cB)
  (aq (aQ (ay (av eq2 (af 1) (dC (.int 3))))
  (gj 3 (aV (ae (av bH (av bh (af 5) (dC (.int 0))) (aV (ae (dC (.bl true)) ah))) (ae (av bh (af 5) (dC (.int 1))) ah))) (af 4) (gm dq (dC (.int 1))))
  cB)
  (aq (aQ (ay (av eq2 (af 1) (dC (.int 4))))
  (gj 3 (aV (ae (av bh (af 5) (dC (.int 0))) (ae (av mF (gm dq (dC (.int 1))) (av bU (av dj (af 2) (dC (.int 20))) (dC (.int 7)))) ah))) (af 4) (gm dq (dC (.int 1))))
  cB)
  (aq (aQ (ay (av eq2 (af 1) (dC (.int 5))))
  (gj 3 (aV (ae (av bh (af 5) (dC (.int 0))) (ae (av bH (bW (fB 3 bS)) (av bU (av dj (af 2) (dC (.int 20))) (dC (.int 7)))) ah))) (af 4) (gm dq (dC (.int 1))))
  cB)
  (aL (aV (ae (av bh (af 0) (dC (.int 0))) (ae (av bh (af 0) (dC (.int 1))) (ae (af 3) ah))))))))))))))
def xS(K:Fg)(a:aP)(r:Nat->List W->FR):List S->SR:=
 (aq (m7 K a.a9 2 3
  (aQ (ay (av eq2 (af 0) (dC (.int 0))))
  (gX (ar (r uR) (ae (af 1) ah)))
  (gX (ar (r uS) (ae (af 1) ah))))
  (aq (aQ (vw (jV (eY (iW K (.type "ValueError") (af 2)))) (jU (eY (iW K (.ref a.aC) (af 2))) (eY (iW K (.ref a.aH) (af 2)))))
  (aL (gm dq (dC (.int 1))))
  cB)
  (aq (aQ (eY (iW K (.ref a.aC) (af 2)))
  (aL (dC (.int 1)))
  cB)
  (aL (av mF (av i7 (dC (.int 2)) (cU i5 (ae (iW K (.ref a.aH) (af 2)) ah))) (cU i5 (ae (gY (iW K (.ref a.aH) (af 2))) ah)))))))
  (aL (dC (.int 0))))
def Jo(K:Fg)(a:aP)(r:Nat->List W->FR):List S->SR:=
 (aF 7 (av bH (af 7) (cU i5 (ae (av rQ (af 8) (af 6)) ah))))
def JK(K:Fg)(a:aP)(r:Nat->List W->FR):List S->SR:=
 (aq (aF 1 (av bU (ar (r mS) (ae (af 0) (ae (dC (.int 0)) ah))) (dC (.int 2))))
  (aq (aF 2 (av bU (ar (r mS) (ae (af 0) (ae (dC (.int 1)) ah))) (dC (.int 13))))
  (aq (aF 3 (av bH (dC (.int 1)) (av bU (ar (r mS) (ae (af 0) (ae (dC (.int 2)) ah))) (dC (.int 20)))))
  (aq (aF 4 (ar (r mS) (ae (af 0) (ae (dC (.int 3)) ah))))
  (aq (aF 5 (ar (r CY) (ae (af 1) (ae (af 2) (ae (af 3) (ae (af 4) ah))))))
  (aq (aF 6 (af 3))
  (aq (aQ (ay (av j5 (dC (.bl true)) (av bh (av bh (av bh (av bh (af 5) (dC (.int 2))) (av bU (af 4) (af 3))) (dC (.int 0))) (dC (.int 0)))))
  (aF 6 (dC (.int 1)))
  cB)
  (aq (aQ (jU (ay (av eq2 (af 1) (dC (.int 1)))) (ay (av eq2 (av bU (av dj (af 4) (dC (.int 20))) (dC (.int 2))) (dC (.int 1)))))
  (aF 6 (gm dq (dC (.int 1))))
  cB)
  (aq (aF 7 (dC (.int 0)))
  (aq (iV 8 (gN (cA (ae (dC (.int 1)) (ae (dC (.int 2)) (ae (dC (.int 4)) (ae (dC (.int 8)) ah))))))
  (Jo K a r))
  (aq (bN 9 (cA (ae (av i7 (dC (.int 2)) (cU i5 (ae (jW (av l4 (af 6) (dC (.int 16))) (av l4 (af 2) (dC (.int 6)))) ah))) (ae (dC (.int 0)) ah))))
  (aq (jX 9 (av i7 (dC (.int 2)) (cU i5 (ae (jW (av eq2 (eX 9 (dC (.int 0))) (dC (.int 2))) (av l4 (av bH (af 1) (af 7)) (dC (.int 4)))) ah))) (dC (.int 1)))
  (aq (aQ (ay (av eq2 (av bU (ar (r mS) (ae (af 0) (ae (dC (.int 4)) ah))) (dC (.int 3))) (dC (.int 1))))
  (aq (aF 5 (ar (r Cu) (ae (af 5) (ae (av bU (av dj (ar (r mS) (ae (af 0) (ae (dC (.int 4)) ah))) (dC (.int 3))) (dC (.int 6))) (ae (ar (r mS) (ae (af 0) (ae (dC (.int 5)) ah))) ah)))))
  (bN 9 (cA (ae (dC (.int 1)) (ae (dC (.int 1)) ah)))))
  (aQ (ay (av eq2 (af 6) (gm dq (dC (.int 1)))))
  (aL (dC (.bl true)))
  cB))
  (aL (gW (av eq2 (ar (r nN) (ae (dC (.int 0)) (ae (af 5) ah))) (eX 9 (dC (.int 0)))) (av eq2 (ar (r nN) (ae (dC (.int 1)) (ae (af 5) ah))) (eX 9 (dC (.int 1)))))))))))))))))))
def dd:Nat->Fg->aP->(Nat->List W->FR)->List S->SR
 |0=>HU
 |1=>CZ
 |2=>G8
 |3=>Hz
 |4=>HA
 |5=>GI
 |6=>GJ
 |7=>Jn
 |8=>Gx
 |9=>HV
 |10=>GK
 |11=>F4
 |12=>C0
 |13=>F9
 |14=>Gi
 |15=>JC
 |16=>HW
 |17=>GL
 |18=>G9
 |19=>Gk
 |20=>Gm
 |21=>GN
 |22=>F5
 |23=>FW
 |24=>Gn
 |25=>Gy
 |26=>AW
 |27=>HX
 |28=>HY
 |29=>CD
 |30=>CU
 |31=>G_
 |32=>FV
 |33=>Gp
 |34=>Dr
 |35=>F6
 |36=>CP
 |37=>C3
 |38=>CK
 |39=>GO
 |40=>GP
 |41=>GQ
 |42=>FY
 |43=>FZ
 |44=>Gz
 |45=>GR
 |46=>Gb
 |47=>xS
 |48=>JK
 |_=>λ_ _ _ _=>.no
def FD(K:Fg)(a:aP)(r:Nat->List W->FR):Nat->List W->FR
 |49=>qL 2 (CJ K a r)
 |50=>qL 3 (Cv K a r)
 |51=>qL 2 (Cw K a r)
 |_=>λ_=>.no
def body(K:Fg)(a:aP)(r:Nat->List W->FR)(i:Nat):List W->FR:=if i<49 then qF (ps i).length (Ns i).length (dd i K a r)else FD K a r i
def run(K:Fg)(a:aP):Nat->Nat->List W->FR
 |0,_=>λ_=>.no
 |n+1,i=>body K a (run K a n) i
abbrev RR(i k m:Nat)(d:Fg->aP->(Nat->List W->FR)->List S->SR):Prop:=∀{K:Fg}{a:aP}{n:Nat}{ws:List W},run K a (n+1) i ws=if ws.length=k then(d K a (run K a n) (init m ws)).fn else .no
theorem Wb:RR AS 2 5 HU:=rfl
theorem Lk:RR qI 1 3 CZ:=rfl
theorem Va:RR GZ 1 1 G8:=rfl
theorem VC:RR Hw 2 2 Hz:=rfl
theorem VD:RR AK 1 1 HA:=rfl
theorem UY:RR AD 1 1 GI:=rfl
theorem UZ:RR GD 1 1 GJ:=rfl
theorem Xo:RR rS 3 3 Jn:=rfl
theorem UA:RR CN 3 3 Gx:=rfl
theorem Wc:RR Dk 3 4 HV:=rfl
theorem U0:RR CV 1 2 GK:=rfl
theorem Tu:RR F1 1 1 F4:=rfl
theorem Ll:RR wC 2 6 C0:=rfl
theorem TH:RR CH 1 1 F9:=rfl
theorem Um:RR AE 1 2 Gi:=rfl
theorem YG:RR DN 2 2 JC:=rfl
theorem Wd:RR HR 1 1 HW:=rfl
theorem U1:RR GF 1 5 GL:=rfl
theorem Vb:RR G5 2 2 G9:=rfl
theorem Uo:RR Gd 1 1 Gk:=rfl
theorem Up:RR Ge 1 1 Gm:=rfl
theorem U2:RR xT 2 2 GN:=rfl
theorem Tv:RR F2 1 3 F5:=rfl
theorem TJ:RR F7 1 4 FW:=rfl
theorem Uq:RR Cr 1 6 Gn:=rfl
theorem UB:RR Gv 1 1 Gy:=rfl
theorem Ha:RR qG 3 8 AW:=rfl
theorem We:RR HS 2 2 HX:=rfl
theorem Wf:RR AU 2 2 HY:=rfl
theorem K8:RR CB 1 6 CD:=rfl
theorem Lz:RR CS 2 2 CU:=rfl
theorem VE:RR C7 2 9 G_:=rfl
theorem Tp:RR FU 1 3 FV:=rfl
theorem Ur:RR Ct 2 6 Gp:=rfl
theorem Mu:RR AV 1 6 Dr:=rfl
theorem Tw:RR F3 3 3 F6:=rfl
theorem Lh:RR uR 1 5 CP:=rfl
theorem Ln:RR uS 1 2 C3:=rfl
theorem Le:RR wH 1 2 CK:=rfl
theorem U3:RR xU 1 2 GO:=rfl
theorem U4:RR CW 1 3 GP:=rfl
theorem UI:RR GG 3 5 GQ:=rfl
theorem TK:RR F8 1 1 FY:=rfl
theorem TL:RR mS 2 2 FZ:=rfl
theorem UC:RR Gw 2 2 Gz:=rfl
theorem UJ:RR CY 4 8 GR:=rfl
theorem Us:RR Cu 3 6 Gb:=rfl
theorem CL:RR nN 2 3 xS:=rfl
theorem z3g:RR JJ 1 10 JK:=rfl
theorem TM:run K a (n+1) wI ws=if ws.length=2 then gD (CJ K a (run K a n) (ws.map .fr))else .no:=rfl
theorem Ut:run K a (n+1) Gf ws=if ws.length=3 then gD (Cv K a (run K a n) (ws.map .fr))else .no:=rfl
theorem Uu:run K a (n+1) Gg ws=if ws.length=2 then gD (Cw K a (run K a n) (ws.map .fr))else .no:=rfl
abbrev MP(K:Fg)(mg:Str->Option Value)(i:Nat):Prop:=∀f oc od fd sl,mg (n8 i)=some (.ref f)->K.lookup f=some ⟨oc,od,.func fd,sl⟩->lO K (n8 i) fd.code
def FI:List Nat:=[27,34]
structure oO(P:Program)(w:World)(K:Fg)(mg:Str->Option Value)(base:Heap)(a:aP)(n:Nat):Prop where
 c:∀i,i<49->tY P w K mg base (n+lv i) (n8 i) (ps i) (pB K (run K a n i))
 lam:rC P w K mg base (eA P w) n (yq K bR (run K a n))
def OO(i:Nat):Prop:=∀{P:Program}{w:World}{K:Fg}{mg:Str->Option Value}{base:Heap}{a:aP}{n:Nat},xv P w K mg->pb K mg a->oO P w K mg base a n->BMain base mg->(Ns i).Nodup->∀(f:Addr)(eG:Value)(A:Around)(outer:List Env)(s:Shared)(H:Hp)(E:XK)(Z:Zt),br (n+lv i) (A.deeper (PyProof.Rows.envOfC (n8 i) (aZ (s8 i)) s.heap.objs.size f eG))->(Z.H=H/\Z.io=[])->((FI.contains i)=true->lO K (n8 i) eG)->mK Z (gU (eA P w) P w K mg base (Ns i) (n8 i) (aZ (s8 i)) f eG A outer s H E) (λ_=>E) (cD (s8 i)) (dd i K a (run K a n))
def cc{P:Program}{w:World}{x:Str}{q:List Str}(C:oO P w K mg base a n)(h:i<49)(hx:n8 i=x)(hp:ps i=q):tY P w K mg base (n+lv i) x q (pB K (run K a n i)):=by
 subst hx;subst hp;exact C.c i h
theorem lz{b c:Nat}(h:b<=c):n+b<=n+c:=Nat.add_le_add_left h n
set_option hygiene false
local macro_rules | `(tactic| try?) => do
 let l:=(("%0|dv _|y9w ? ?|z5m|z5b|y5o ? ?|y9y ?|z5t @ ? ? ?|Q0o ? ?|z5q _ nd ?|z5p ?|z5n ?|Q0m ? ? ?|z5d|y9x|Q00 # ? ?|z14 ? ?|Q0g|Q0l ?|z5o ?|z58 ? ?|VO|z6e B.JX ?|z5r _ nd ?|z5f ?|=y98 rfl ? ! ? ? ?|z6a ?|y90 ?|z52 _ ?|z0a ? ?|z50 _ ?|Q0u # ? ?|z5c|z0b|z0c ?|y5v ? ? ?|z0f _ B.JX|z57 ? ?|y97 ?|z5s _ nd PassesOwn.leaving rfl ? ?|y93 _ nd PassesOwn.leaving rfl B.sy ? ?|Q01 # ? ?|=y6g rfl ? ! ? ? ?|y9z ?|z5i ?|Q0y ? ?|y6h ?|y5w B.BZ ?|y2x ?|z1g B.JW ?|=y5u rfl B.sy ? ! ? ? ?|z5l ?|z1m _ _ nd PassesOwn.leaving rfl ? ?|y5q _ PassesOwn.leaving ? ?|q6d LY M.uk M.mm rfl ?|Q0t ? ?|Q0v ? ?|Q0j ? ?|z71 rfl B.JU ?|Q0k ? ? ?|y9v ?|z5h ? ?|Q02 ? ?|z56 ? ?|z5k ? ?|Q0w ? ?|z74 _ ? ?|q6d LY M.vy M.nG rfl ?|%1|%2|%3|z1o B.uc ?|q6d LY M.xD M.xQ rfl ?|z8n rfl B.JV ?|z70 # ? ?|Q0r ? ?|pv _|y2y ?|z2o rfl B.JY ?|y91 _|y2r ? ?|q7m M.rR M.rJ|z0g B.Em ?|%4|q6d LY M.B1 M.Cn rfl ?|y2d rfl B.BZ B.vo ?|z8j B.JZ ?|z9e B.Dy ?|z1j ? ?|q7m M.ml M.l3|q7m M.mj M.lZ|z6b ? ?|z73 _ ?|z6c ? ?|y7j B.uc ?|z3f @ ? B.yQ ?|%5|Q2f # ? ?|Q0s ? ?|y7d _ _ nd ?|%6|z2v # ? ?|z2x _ # ? ?|z83 # ? ?|z8e ? ?|%7|z2j M.nt # ? ?|z2k B.JX ?|z2m _ M.nt # ? ?|z8w M.nt # ? ?|%8|z86 ? ?|%9|=x9m _ nd rfl ? ! ? ? ?|q7m M.sY M.sI|q7m M.qw M.p_|Q0z ? ?|z1y ? ?|Q0x ? ?|z59 ? ?|=x9n _ nd rfl ? ! ? ? ?|=z19 _ nd rfl ? ! ? ?|z8o _ ? ?|%10|%11|z5g ?|Q0i ? ?|%12|z5j ?|Rp ?".splitOn "|").map fun s=>s.splitOn " ").reverse
 let q:=#[←`(tactic| refine Xm (hsc := rfl) (hN := rfl) ⟨rfl, λ_ _ => rfl, λ_ => rfl, by decide +kernel, by decide +kernel⟩ rfl B.sy ?_ (Tc (by kernel_rfl)) ?_ ?_ ?_),←`(tactic| refine z89 (iO _ _ _) ?_ ?_),←`(tactic| refine ZP _ hz.1 ?_ ?_ ?_),←`(tactic| refine Js (c0 := .ref _) rfl (OF M.nG) B.eV ?_),←`(tactic| refine Js (c0 := .ref _) rfl (OF M.mm) B.eV ?_),←`(tactic| refine Z7 (hsc := rfl) (hN := rfl) _ CT (by exact C.lam) ?_ rfl B.yP (by exact JE (zO rfl) BM) (λ_ => rfl) ?_ UX (nj (by kernel_rfl))),←`(tactic| refine Yw _ (by exact C.lam) ?_ ?_ ?_ ?_),←`(tactic| refine ZS _ (.many (.tup [.many .bl, .int])) nd),←`(tactic| refine Mh (hsc := rfl) (hN := rfl) _ xW (by exact cc C (by decide) (by rfl) (by rfl)) ?_ ?_ (by exact JE (zO rfl) BM) (λ_ => rfl) ?_ (nj (by kernel_rfl))),←`(tactic| refine Mh (hsc := rfl) (hN := rfl) _ xX (by exact cc C (by decide) (by rfl) (by rfl)) ?_ ?_ (by exact JE (zO rfl) BM) (λ_ => rfl) ?_ (nj (by kernel_rfl))),←`(tactic| refine ZO _ YB PySem.F.slot_list_append PySem.F.type_list_append C5 hz.1 ?_ ?_),←`(tactic| refine Js (c0 := .ty _) rfl (Zv PyProof.Rows.Boot.«ValueError» B.kM) B.eV ?_),←`(tactic| refine z5u M.jx nd (i := 2) rfl rfl ?_ ?_)]
 let mut x←`(tactic| first | exact rX 0 (An (by kernel_rfl)) | exact z8a (An (by kernel_rfl)) rfl | exact Ax | exact Ay | exact hr | exact hr.mono (lz (by decide)) | exact hr.mono (Nat.le_add_right _ _) | assumption | decide)
 for r in l do
  let s:=r.head!
  let a←r.tail!.toArray.mapM λa=>match a with|"?"=>`(?_)|"_"=>`(_)|"!"=>`((nj (by kernel_rfl)))|"@"=>`((by exact cc C (by decide) (by rfl) (by rfl)))|"#"=>`((To hr))|a=>pure ⟨Lean.mkIdent a.toName⟩
  let f:=Lean.mkIdent (s.dropWhile (·=='=')).toName
  let y:Lean.TSyntax `tactic←if s.startsWith "%" then pure q[(s.drop 1).toNat!]! else if s.startsWith "=" then `(tactic| refine $f:ident (hsc := rfl) (hN := rfl) $a*) else let z:=Lean.Syntax.mkApp f a; `(tactic| refine $z)
  x←`(tactic| first | $y:tactic | $x:tactic)
 `(tactic| (intros; $x:tactic) <;> try?)
local macro_rules | `(tactic| walk_at "o") => `(tactic| (intro P w K mg base a n B M C BM nd f eG A outer s H E Z hr hz zO; try?))
set_option hygiene true
seal jo jU gW fZ bW dE dC ar iu bG dG cQ ae gX mZ cU fB iV iJ gc gN ug aQ iW m6 eX dJ dList cA gf kc gh ah b8 jV gY cB av vw jW eK jX kf gj lU cC kg aL dM iK aq aF iw ki bN lV oU kj ay eY m7 aV gm af bK mB jD jE nR bI
def YH:OO 0:=by walk_at "o"
def VF:OO 1:=by walk_at "o"
def Wg:OO 2:=by walk_at "o"
def Xp:OO 3:=by walk_at "o"
def Xq:OO 4:=by walk_at "o"
def Vi:OO 5:=by walk_at "o"
def Vj:OO 6:=by walk_at "o"
def z3h:OO 7:=by walk_at "o"
def Vc:OO 8:=by walk_at "o"
def YI:OO 9:=by walk_at "o"
def Vk:OO 10:=by walk_at "o"
def Uv:OO 11:=by walk_at "o"
def Vl:OO 12:=by walk_at "o"
def UD:OO 13:=by walk_at "o"
def UK:OO 14:=by walk_at "o"
def z9h:OO 15:=by walk_at "o"
def YJ:OO 16:=by walk_at "o"
def Vm:OO 17:=by walk_at "o"
def Wh:OO 18:=by walk_at "o"
def UL:OO 19:=by walk_at "o"
def UM:OO 20:=by walk_at "o"
def Vn:OO 21:=by walk_at "o"
def Uw:OO 22:=by walk_at "o"
def UE:OO 23:=by walk_at "o"
def UN:OO 24:=by walk_at "o"
def Vd:OO 25:=by walk_at "o"
def z3i:OO 26:=by walk_at "o"
def YK:OO 27:=by walk_at "o"
def YL:OO 28:=by walk_at "o"
def Ux:OO 29:=by walk_at "o"
def Wi:OO 30:=by walk_at "o"
def Xr:OO 31:=by walk_at "o"
def Tx:OO 32:=by walk_at "o"
def UO:OO 33:=by walk_at "o"
def z3j:OO 34:=by walk_at "o"
def Uy:OO 35:=by walk_at "o"
def Ve:OO 36:=by walk_at "o"
def Vo:OO 37:=by walk_at "o"
def UG:OO 38:=by walk_at "o"
def Vp:OO 39:=by walk_at "o"
def Vq:OO 40:=by walk_at "o"
def Vr:OO 41:=by walk_at "o"
def UH:OO 42:=by walk_at "o"
def Uz:OO 43:=by walk_at "o"
def Vf:OO 44:=by walk_at "o"
def VG:OO 45:=by walk_at "o"
def UP:OO 46:=by walk_at "o"
def Vg:OO 47:=by walk_at "o"
def Rc:OO 48:=by walk_at "o"
theorem VH{P:Program}{w:World}(B:xv P w K mg)(M:pb K mg a)(C:oO P w K mg base a n):lM P w K mg base n CT ["number"] (qL 2 (CJ K a (run K a n))):=
 v9 ⟨rfl,rfl,rfl,by decide +kernel,by decide +kernel,by decide +kernel,by decide +kernel⟩ (λcl pm c' eB=>us1 λ_=>rfl) λZ f cd cl A outer s H hr=>by try?
theorem Wj{P:Program}{w:World}(B:xv P w K mg)(M:pb K mg a)(C:oO P w K mg base a n):lM P w K mg base n xW ["kind"] (qL 3 (Cv K a (run K a n))):=
 v9 ⟨rfl,rfl,rfl,by decide +kernel,by decide +kernel,by decide +kernel,by decide +kernel⟩ (λcl pm c' eB=>us1 λ_=>rfl) λZ f cd cl A outer s H hr=>by try?
theorem Wk{P:Program}{w:World}(B:xv P w K mg)(M:pb K mg a)(C:oO P w K mg base a n):lM P w K mg base n xX ["place"] (qL 2 (Cw K a (run K a n))):=
 v9 ⟨rfl,rfl,rfl,by decide +kernel,by decide +kernel,by decide +kernel,by decide +kernel⟩ (λcl pm c' eB=>us1 λ_=>rfl) λZ f cd cl A outer s H hr=>by try?
unseal jo jU gW fZ bW dE dC ar iu bG dG cQ ae gX mZ cU fB iV iJ gc gN ug aQ iW m6 eX dJ dList cA gf kc gh ah b8 jV gY cB av vw jW eK jX kf gj lU cC kg aL dM iK aq aF iw ki bN lV oU kj ay eY m7 aV gm af bK mB jD jE nR bI
theorem zz:∀i,i<49->OO i
 |0,_=>YH
 |1,_=>VF
 |2,_=>Wg
 |3,_=>Xp
 |4,_=>Xq
 |5,_=>Vi
 |6,_=>Vj
 |7,_=>z3h
 |8,_=>Vc
 |9,_=>YI
 |10,_=>Vk
 |11,_=>Uv
 |12,_=>Vl
 |13,_=>UD
 |14,_=>UK
 |15,_=>z9h
 |16,_=>YJ
 |17,_=>Vm
 |18,_=>Wh
 |19,_=>UL
 |20,_=>UM
 |21,_=>Vn
 |22,_=>Uw
 |23,_=>UE
 |24,_=>UN
 |25,_=>Vd
 |26,_=>z3i
 |27,_=>YK
 |28,_=>YL
 |29,_=>Ux
 |30,_=>Wi
 |31,_=>Xr
 |32,_=>Tx
 |33,_=>UO
 |34,_=>z3j
 |35,_=>Uy
 |36,_=>Ve
 |37,_=>Vo
 |38,_=>UG
 |39,_=>Vp
 |40,_=>Vq
 |41,_=>Vr
 |42,_=>UH
 |43,_=>Uz
 |44,_=>Vf
 |45,_=>VG
 |46,_=>UP
 |47,_=>Vg
 |48,_=>Rc
 |_+49,h=>absurd h (by omega)
section
variable{P:Program}{w:World}
theorem all(A:∀i,i<49->At K mg (n8 i) (s8 i) (ps i))(B:xv P w K mg)(M:pb K mg a)(BM:BMain base mg)(MK:∀i∈FI,MP K mg i):∀n,oO P w K mg base a n
 |0=>⟨λi h=>yS (A i h),Ey⟩
 |n+1=>⟨λi h=>by
  rw[show n+1+lv i=n+lv i+1 from Nat.add_right_comm n 1 (lv i),show run K a (n+1) i=_ from if_pos h];exact En (A i h) (λz=>MK i (w4k.mp z)) (Dw h) (zz i h B M (all A B M BM MK n) BM (Dw h).nd),z85 λi l h=>by
  unfold bR at h;split at h
  .cases h;exact⟨_,VH B M (all A B M BM MK n)⟩
  .cases h;exact⟨_,Wj B M (all A B M BM MK n)⟩
  .cases h;exact⟨_,Wk B M (all A B M BM MK n)⟩
  .cases h⟩
end
theorem at_k{h:Heap}{x:Str}{st:Stmt}{ps:List Str}{f:Addr}{od an:Option Addr}{sl:Array (Option Value)}{oc kV dc pm cd ct:Value}(X:K.In h)(G:h.Ns mainGlobals mg)(a:PySem.W.nsIn K mainGlobals x=some (some (.ref f)))(l:K.lookup f=some ⟨oc,od,.func (PySem.W.fnOf x x (ed st) (cD st) (aZ st) .none kV dc pm an cd ct),sl⟩)(c:PySem.W.codeIn K cd x=true)(k:keepIn K (.ref f)=true)(hb:∀(kV doc pm:Value)(an:Option Addr)(eG ct:Value)(us:List Value),us.length=ps.length->bindArgs (PySem.W.fnOf x x (ed st) (cD st) (aZ st) .none kV doc pm an eG ct) ⟨us,[]⟩=pure (ps.zip us)):At K mg x st ps:=
 ⟨⟨_,_,Pw l c k,PySem.W.mg_of X G a,(Pw l c k).binds hb⟩⟩
theorem mk_k{h:Heap}{x:Str}{st:Stmt}{f:Addr}{od an:Option Addr}{sl:Array (Option Value)}{oc kV dc pm cd ct:Value}{cc PP:Addr}(X:K.In h)(G:h.Ns mainGlobals mg)(a:PySem.W.nsIn K mainGlobals x=some (some (.ref f)))(l:K.lookup f=some ⟨oc,od,.func (PySem.W.fnOf x x (ed st) (cD st) (aZ st) .none kV dc pm an cd ct),sl⟩)(v:cd=.ref cc)(hh:codeHdIn K cc PP=true)(m:(mainGlobals,iN PP ((x++".<locals>.")++"<lambda>"))∈K):∀f oc od fd sl,mg x=some (.ref f)->K.lookup f=some ⟨oc,od,.func fd,sl⟩->lO K x fd.code:=λf oc od fd sl e1 e2=>by
 have z:=(PySem.W.mg_of X G a).symm.trans e1;cases z;rw[l]at e2;cases e2;exact⟨cc,PP,_,v,hh,m⟩
def mk{l:PySem.W.OpenLaw}{w:World}{fa:Addr}{p0 p1 p2 p3 p4:Addr}{p5 p6 p7 p8 p9:Value}(R8:mg "law"=some (.ref fa))(A:∀i,i<49->At K mg (n8 i) (s8 i) (ps i))(B:xv l.prog w K mg)(M:pb K mg ⟨p0,p1,p2,p3,p4,p5,p6,p7,p8,p9⟩)(MK:∀i∈FI,MP K mg i)(n:Nat)(hL:∀a:aP,pb K mg a->∀ns:List Int,BS ns->run K a (n+1) JJ [.lst (ns.map .int)]=.ok (.fr (.bl true))):
  ∃fd:FuncData,(∀(s:Shared)(v:Value),BindsTo s fd ⟨[v],[]⟩ [("_law_script", v)])/\∀base:Heap,K.In base->base.Ns mainGlobals mg->BMain base mg->eC l.prog w K mg base (eA l.prog w) (n+3) fa fd ["_law_script"] (lB K):=by
 obtain⟨f,fd,F,m,_⟩:=(A 48 (by decide)).ex;cases R8.symm.trans m;have F':=F;obtain⟨_,_,_,_,_,_,_,_,_,rfl,_⟩:=F.ex;exact⟨_,λs v=>.of_eq rfl,λbase _ _ BM=>(uf F' m (λz=>MK 48 (w4k.mp z)) (Dw (by decide)) (zz 48 (by decide) B M (all A B M BM MK n) BM (Dw (by decide)).nd)).imp λvs H Q E q=>Xi (hL _ M) q⟩
open Ei
local macro_rules | `(tactic| rw?) => do
 let l:=(("y7g y3i x97 K9 y7h y7e y7f z21 z2y z2z z20 y7a y7b z84 Q2m z2p z2q z2r z8z z2t z2c x92 x93 z8p z8q z8r z8s z2d z2e z2f z2g z8t y29 z1z z10 z11 z12 y6y y23 y24 y2z x9w y20 y21 x9x x9y x9z x6q y6w y22 y6x z1u z1v z8k y6r y6s y6t y6u z75 y6a y6b y2f z1k y2g y2h y6c z76 y6d y6e y2i z1l z77 z78 z79 z1p y6i y6j y6k y6l y6m y6n y2m z8b z1q z8c x9v y6o y6p z6i z6j z6k z6l z6m z6n z6o z0l z0h z0i z0j y5x Wx z6g z6h z0k Q03 Q04 Q05 Q06 z6p x9o x9p y14 z6q z6r z0m Ro Q07 Q08 z0n z0o z6s z6t Q09 z6u z0p z6v z6w Q1a z0q z6x Q1b z6y z0r z6z z60 Q1c Q1d z0s Q1e z0t z61 z0u z0v z0w z62 z63 z64 z0x z0y z0z y5z z00 z01 y50 y15 y51 y16 z65 z02 y17 xZ z04 z05 VP VQ z06 y52 z66 y18 Q1f z67 z68 z69 z07 z7a Q1g Q1h y53 Q1i y19 z08 y54 z7b z7c z7d z7e z7f z09 z1a z1b z1c y55 x9q x9r z7g y56 y2b z1d y57 z7h z7i z7j z7k z7l z1e z7m z7n Q1j Q1k Q1l Q1m Q1n Q1o Q1p Q1q Q1r Q1s Q1t Q1u Q1v Q1w Q1x Q1y Q1z Q10 z7o z7p z7q z7r z7s z7t z7u S3 S2 Q11 Q12 Q13 Q14 Q15 Q16 Q17 Q18 Q19 Q2a Q2b Q2c Q2d TZ TY T2 T1 T5 at0 at1 at2 z7w f9 TQ init Option.map_some Option.bind_some List.map_cons List.map_nil List.length_cons List.length_nil List.replicate_succ List.replicate_zero List.cons_append List.nil_append List.getElem?_cons_zero List.getElem?_cons_succ List.set_cons_zero List.set_cons_succ if_true if_false decide_eq_true_eq reduceIte Bool.false_eq_true ite_true ite_false Nat.reduceSub Nat.reduceAdd Nat.reduceLeDiff Nat.zero_add Nat.le_refl Int.reduceLT Int.reduceLE Int.reduceNeg true_and and_true true_or or_true false_and and_false false_or or_false not_true_eq_false not_false_eq_true decide_true decide_false Bool.not_true Bool.not_false String.reduceEq Nat.reduceEqDiff y58 Q2g Q2h Int.reduceToNat Int.reducePow Nat.reduceLT J2 J3 Int.reduceEq Int.reduceMod Int.reduceDiv Int.reduceAdd Int.reduceSub Int.reduceMul Q2o z23 y7k Q2p y7l z24 z25 y5y z9a Q2q z9b z27 z9c z29 z3e".splitOn " ").map fun s=>Lean.mkIdent s.toName).toArray
 `(tactic| try simp only [$[$l:ident],*])
section
def wQ(n)(ns:List Int)  (hk:0<=k):run K a (n+1) mS [.lst (ns.map .int),.int k]=.ok (.fr (.int (ns.getD k.toNat 0))):=by
 rw[TL];unfold FZ;rw?
 by_cases h:k<ns.length
 .rw[if_pos (by simpa using h),z7v hk]
  have e:(ns.map W.int)[k.toNat]?=some (.int (ns.getD k.toNat 0)):=by
   have:k.toNat<ns.length:=by omega
   simp[List.getD,this]
  rw[e];rw?
 grind
theorem Mv   (st:S->List S)(p)(rt:W->S):∀(ws:List W)(z:S),(∀w∈ws,∀z,(p w=true->∃e',b ((st z).set i (.fr w))=.rt (rt w) e')/\(p w=false->∃z',b ((st z).set i (.fr w))=.nx (st z'))) ->
  (∀w,ws.find? p=some w->∃e',cK i b ws (st z)=.rt (rt w) e')/\(ws.find? p=none->∃z',cK i b ws (st z)=.nx (st z'))
 |[],z,h=>⟨λw q=>by simp at q,λ_=>⟨z,rfl⟩⟩
 |w::ws,z,h=>by
  obtain⟨h1,h2⟩:=h w (by simp) z;cases q:p w with
  |true=>
   grind [pA,VP]
  |false=>
   obtain⟨z',h3⟩:=h2 q;have ih:=Mv st p rt ws z' λu hu=>h u (by simp[hu])
   rw[List.find?_cons_of_neg (by simp[q]),pA,h3,xZ];exact ih
def Lo(n)(m)(h0:0<=m)(h1:m<1000):run K a (n+1) qI [.int m]=.ok (.fr (.int (2^m.toNat))):=by
 rw[Lk];unfold CZ;rw?;rw[if_pos (pq (by omega) (by omega))];rw?
 obtain⟨e',h2,z,rfl⟩:=AH (b:=AF K a (run K a n)) (i:=2) (lo:=0) (hi:=m) m.toNat (by omega) (λj e=>∃z,e=[.fr (.int m),.fr (.int (2^j)),z]) [.fr (.int m),.fr (.int 1),.no] ⟨_,rfl⟩ (by
  rintro j e hj ⟨z,rfl⟩;unfold AF;rw?;exact⟨_,rfl,_,by rw[w4j,Int.mul_comm]⟩)
 rw[h2];rw?
def lg(n:Nat):Option Nat:=(List.range 11).find? λm=>decide (2^m=n)
def jc(a:aP):Option Nat->FR
 |some m=>.ok (.fr (.int m))
 |none=>.ex (.ref a.cS)
def Lp(n)(ws):run K a (n+2) CV [.lst ws]=jc a (lg ws.length):=by
 rw[U0];unfold GK;rw?;rw[if_pos (pq (by omega) (by omega))];rw?;have e:bM 0 11=(List.range 11).map fun(k:Nat)=>W.int (0+(k:Int)):=rfl
 have h:=Mv (i:=1) (b:=Gh K a (run K a (n+1))) (λz=>[.fr (.lst ws),z]) (λw=>match w with|.int k=>decide ((ws.length:Int)=2^k.toNat)|_=>false) (λw=>.fr w) (bM 0 11) .no (by
  intro w hw z;rw[e]at hw;obtain⟨k,hk,rfl⟩:=w0q.mp hw;rw[w0z]at hk;unfold Gh;rw?;rw[Lo n _ (by omega) (by omega)];rw?
  simp_all)
 have e2:(bM 0 11).find? (λw=>match w with|.int k=>decide ((ws.length:Int)=2^k.toNat)|_=>false)=(lg ws.length).map fun(k:Nat)=>W.int (0+(k:Int)):=by
  rw[e,List.find?_map];unfold lg;congr 2;funext k
  simp only[Function.comp];rw[show(0+(k:Int)).toNat=k by omega]
  grind
 rw[e2]at h;cases q:lg ws.length with
 |some m=>
  rw[q]at h;obtain⟨e',h1⟩:=h.1 _ rfl;rw[h1];rw?;simp[jc]
 |none=>
  rw[q]at h;obtain⟨z',h1⟩:=h.2 rfl;rw[h1];rw?;rfl
def z3k(n)(i m)(h0:0<=m)(h1:m<1000)(hi:i.natAbs<2^1000):run K a (n+1) AS [.int i,.int m]=if rest m.toNat i=0 then .ok (.fr (.tup ((bits m.toNat i).reverse.map .bl)))else .ex (.ref a.gS):=by
 rw[Wb];unfold HU;rw?;rw[if_pos (pq (by omega) (by omega))];rw?
 obtain⟨e',h2,z,rfl⟩:=AH (b:=G7 K a (run K a n)) (i:=4) (lo:=0) (hi:=m) m.toNat (by omega) (λj e=>∃z,e=[.fr (.int i),.fr (.int m),.own none ((bits j i).map .bl),.fr (.int (rest j i)),z]) [.fr (.int i),.fr (.int m),.own none [],.fr (.int i),.no] ⟨_,rfl⟩ (by
  rintro j e hj ⟨z,rfl⟩;unfold G7;rw?;rw[if_pos (by rw[w0a,Di];omega)];rw?;exact⟨_,rfl,_,by rw[M4,Ms,w0x];rfl⟩)
 rw[h2];rw?
 simp_all
def xc{i:Int}(h1:0<=i)(h2:i<100000):i.natAbs<2^1000:=by
 grind
def gM(m:Nat)(k:Nat):List Bool:=(bits m (k:Int)).reverse
def wR(m k):(gM m k).length=m:=by unfold gM;rw[w4o,Di]
def OV(n){k m:Nat}(hk:k<2^m)(hm:m<=10):run K a (n+1) AS [.int (k:Int),.int (m:Int)]=.ok (.fr (.tup ((gM m k).map .bl))):=by
 have vH:(2:Nat)^m<=2^10:=w0o (by decide) hm;have y_:(2:Nat)^10=1024:=by decide
 have Se:(k:Int)<2^m:=by exact_mod_cast hk
 rw[z3k n k m (by omega) (by omega) (xc (by omega) (by omega)),if_pos (Mt (by omega) (by simpa using Se))];rw[w1o];rfl
def z3l(m):(2:Int)^m=((2^m:Nat):Int):=by exact_mod_cast rfl
def Mw(q:Nat):bM 0 (q:Int)=(List.range q).map λk=>W.int ((k:Nat):Int):=by
 simp_all [bM]
def Vh(n){m:Nat}(hm:m<=10):run K a (n+2) GZ [.int (m:Int)]=.ok (.own none ((List.range (2^m)).map λk=>W.tup ((gM m k).map .bl))):=by
 have vH:(2:Nat)^m<=2^10:=w0o (by decide) hm;have y_:(2:Nat)^10=1024:=by decide
 have hp0:0<(2:Nat)^m:=Nat.pow_pos (by decide);rw[Va];unfold G8;rw?;rw[Lo n m (by omega) (by omega)];rw?;rw[w1o,z3l,if_pos (pq (by omega) (by omega))];rw?;rw[if_pos (by rw[Hq];omega)];simp only[d5,j6,w0f,w0k];rw[Mw,D.Nr (g:=λw=>match w with|.int k=>W.tup ((gM m k.toNat).map .bl)|w=>w)]
 .rw?;rw[w0t];rfl
 .intro w hw;obtain⟨k,hk,rfl⟩:=w0q.mp hw;rw[w0z]at hk;unfold LD;rw?;rw[OV n hk hm];rw?;exact⟨_,rfl⟩
def eo:Option Bool->W
 |none=>.aE
 |some b=>.bl b
def mt:List (Option Bool)->List Bool->Bool
 |o::c,b::r=>(o==none||o==some b)&&mt c r
 |_,_=>true
def d4(c:List (Option Bool)):List Nat:=(List.range (2^c.length)).filter λk=>mt c (gM c.length k)
theorem ya{cc:Den Bool}   {α:Type}{q:α->Bool}{g:α->W}{en:α->W}:∀(xs:List α),(∀x∈xs,∃e1,cc (.fr (en x)::pe)=.ok (q x) e1/\(q x=true->∃e2,d e1=.ok (g x) e2))->cz cc d pe (xs.map en)=some ((xs.filter q).map g)
 |[],_=>rfl
 |x::xs,h=>by
  obtain⟨e1,h1,h2⟩:=h x (by simp);have ih:=ya (cc:=cc) (d:=d) (pe:=pe) (q:=q) (g:=g) (en:=en) xs λu hu=>h u (by simp[hu])
  rw[w0l,MU,h1,ih]
  grind
def qH   {g:α->W}{en:α->W}(xs:List α)(h:∀x∈xs,∃e2,d (.fr (en x)::pe)=.ok (g x) e2):cz bK d pe (xs.map en)=some (xs.map g):=by
 rw[ya (cc:=bK) (q:=λ_=>true) (g:=g) xs λx hx=>⟨_,rfl,λ_=>h x hx⟩,w3n.mpr λ_ _=>rfl]
theorem pow10  (hm:m<=10):2^m<=1024:=w0s (w0o (by decide) hm) (by decide)
theorem LN(r0):∀(c:List (Option Bool))(r:List Bool),eJ bK (GH K a r0) [] ((c.map eo).zip (r.map .bl))=some (((c.zip r).map λp=>(p.1==none||p.1==some p.2)).map .bl)
 |[],_=>rfl
 |_::_,[]=>rfl
 |o::c,b::r=>by
  have ih:=LN r0 c r;simp only[w0l,w4s];rw[GY,ih];unfold GH;cases o with
  |none=>
   simp only[eo];rw?;rfl
  |some d=>
   simp only[eo];rw?;cases d<;>cases b<;>rfl
theorem P4:∀(c:List (Option Bool))(r:List Bool),((c.zip r).map λp=>(p.1==none||p.1==some p.2)).all id=mt c r
 |[],_=>by cases ‹List Bool›<;>rfl
 |_::_,[]=>rfl
 |o::c,b::r=>by
  simp only[w4s,w0l,w2e,id,mt];rw[P4 c r]
def VI(n)   (h:c.length=r.length)(hl:r.length<=1000):run K a (n+1) Hw [.tup (c.map eo),.tup (r.map .bl)]=.ok (.fr (.bl (mt c r))):=by
 rw[VC];unfold Hz;rw?;simp only[w0a,h];rw?;rw[if_pos (by simp[List.length_zip];omega),LN];rw?;rw[JH];rw?;rw[P4]
theorem Mx  : ∀(N j:Nat),bZ j ((List.range' j N).map f)=(List.range' j N).map fun(k:Nat)=>(W.int ((k:Nat):Int),f k)
 |0,_=>rfl
 |N+1,j=>by
  rw[List.range'_succ,w0l,w0l,<- Mx N (j+1)];rfl
def LO  (N):bZ 0 ((List.range N).map f)=(List.range N).map fun(k:Nat)=>(W.int ((k:Nat):Int),f k):=by
 rw[List.range_eq_range'];exact Mx N 0
theorem HZ{cc:Den Bool}{d:Den W}{pe:List S}{α:Type}{q:α->Bool}{g:α->W}{en:α->W×W}:∀(xs:List α),(∀x∈xs,∃e1,cc (.fr (en x).1::.fr (en x).2::pe)=.ok (q x) e1/\(q x=true->∃e2,d e1=.ok (g x) e2))->eJ cc d pe (xs.map en)=some ((xs.filter q).map g)
 |[],_=>rfl
 |x::xs,h=>by
  obtain⟨e1,h1,h2⟩:=h x (by simp);have ih:=HZ (cc:=cc) (d:=d) (pe:=pe) (q:=q) (g:=g) (en:=en) xs λu hu=>h u (by simp[hu])
  rw[w0l,GY,h1,ih];cases hq:q x with
  |true=>
   obtain⟨e2,h3⟩:=h2 hq;simp only[hq,h3,w3i,if_true];rfl
  |false=>simp[hq,w3i]
def GS(n)  (hc:c.length<=10):run K a (n+3) AK [.tup (c.map eo)]=.ok (.own none ((d4 c).map fun(k:Nat)=>W.int (k:Int))):=by
 have vH:=pow10 hc;rw[VD];unfold HA;rw?;rw[w0a,Vh n hc];rw?;rw[LO,if_pos (by rw[w0a,w0v];omega)];simp only[d5,j6,w0f,w0k];rw[HZ (q:=λk=>mt c (gM c.length k)) (g:=fun(k:Nat)=>W.int (k:Int))]
 .rw?;rfl
 .intro k hk;unfold LM LL;rw?;rw[VI (n+1) (by rw[wR]) (by rw[wR];omega)];rw?;exact⟨_,rfl,λ_=>⟨_,rfl⟩⟩
def jf   : k∈d4 c↔k<2^c.length/\mt c (gM c.length k)=true:=by
 unfold d4;rw[w1h,w0z]
def OW(c):(d4 c).length<=2^c.length:=by
 unfold d4
 grind
def z9i{m:Nat}(h:m<=10):lg (2^m)=some m:=by
 have:m=0\/m=1\/m=2\/m=3\/m=4\/m=5\/m=6\/m=7\/m=8\/m=9\/m=10:=by omega
 rcases this with h|h|h|h|h|h|h|h|h|h|h<;>(subst h;decide)
def IU(n)  {m:Nat}(hw:ws.length=2^m)(hm:m<=4):run K a (n+3) AE [.lst ws]=.ok (.fr (.int m)):=by
 rw[Um];unfold Gi;rw?;rw[Lp n,hw,z9i (by omega)];unfold jc;rw?;rw[if_neg (by omega)]
def jq(c w:List (Option Bool)):Bool:=(d4 c).all λk=>w.getD k none != some false
def W5(o):gK (eo o) (.bl false)=some (.bl (o != some false)):=by
 cases o with
 |none=>rfl
 |some b=>cases b<;>rfl
def JL{w:List (Option Bool)}  (h:k<w.length):bY (w.map eo) (k:Int)=some (eo (w.getD k none)):=by
 refine tG ?_;simp[List.getD,h]
def NS(n)  (hw:w.length=2^c.length)(hc:c.length<=4):run K a (n+4) DN [.tup (c.map eo),.lst (w.map eo)]=.ok (.fr (.bl (jq c w))):=by
 have vH:=pow10 (show c.length<=10 by omega);rw[YG];unfold JC;rw?;rw[IU n (by rw[w0a];exact hw) hc];rw?;simp only[w0a];rw?;rw[GS n (by omega)];rw?;rw[if_pos (by rw[w0a];have:=OW c;omega)];simp only[d5,j6,w0f,w0k];rw[qH (g:=λk=>W.bl (w.getD k none != some false))]
 .rw?;have e:(d4 c).map (λk=>W.bl (w.getD k none != some false))=((d4 c).map λk=>w.getD k none != some false).map .bl:=by rw[w0t];rfl
  rw[e,JH];rw?;unfold jq;rw[w4h];rfl
 .intro k hk;have h1:=jf.mp hk;unfold NR;rw?;rw[JL (by omega)];rw?;rw[W5];exact⟨_,rfl⟩
def aR(c:List (Option Bool)):W:=.tup (c.map eo)
def mI(c:List (Option Bool)):List (List (Option Bool)):=[c++[none],c++[some false],c++[some true]]
def bq:Nat->List (List (Option Bool))
 |0=>[[]]
 |m+1=>(bq m).flatMap mI
theorem AI:∀m,(bq m).length=3^m
 |0=>rfl
 |m+1=>by
  show((bq m).flatMap mI).length=_;rw[List.length_flatMap]
  have:∀l:List (List (Option Bool)),(l.map λc=>(mI c).length).sum=3*l.length:=by
   intro l
   induction l with
   |nil=>rfl
   |cons c l ih=>rw[w0l,List.sum_cons,ih,w1e];show 3+3*l.length=_;omega
  rw[this,AI m,w1p,Nat.mul_comm]
theorem tF:∀(m:Nat)(c:List (Option Bool)),c∈bq m↔c.length=m
 |0,c=>by
  show c∈[[]]↔_;rw[w1g];exact w3z.symm
 |m+1,c=>by
  show c∈(bq m).flatMap mI↔_;rw[List.mem_flatMap];constructor
  .rintro⟨d,hd,h⟩;have:=(tF m d).mp hd;simp only[mI,w0e,w0y,or_false]at h;rcases h with rfl|rfl|rfl<;>simp[this]
  .intro h;rcases List.eq_nil_or_concat c with rfl|⟨d,o,rfl⟩
   .simp at h
   .rw[List.concat_eq_append]at h |-
    refine⟨d,(tF m d).mpr (by simpa using h),?_⟩;cases o with
    |none=>simp[mI]
    |some b=>cases b<;>simp[mI]
def Ym  {p:Option Bool}(h:c++[o]=d++[p]):c=d/\o=p:=by
 have:=List.append_inj' h rfl;exact⟨this.1,by simpa using this.2⟩
theorem LA:∀m,(bq m).Nodup
 |0=>by decide
 |m+1=>by
  show((bq m).flatMap mI).Nodup;rw[w3p,w4l];refine⟨λc _=>?_,(w3p.mp (LA m)).imp λ{c d} i0 x hx y hy e=>?_⟩
  .simp[mI]
  .simp only[mI,w0e,w0y,or_false]at hx hy;subst e;rcases hx with rfl|rfl|rfl<;>rcases hy with h|h|h<;>exact i0 (Ym h).1
theorem NT(r0:Nat->List W->FR)(x0 x1 x2:S):∀(cs acc:List (List (Option Bool)))(z:S),(∀c∈cs,c.length<=10)->acc.length+3*cs.length<=1000 ->
  ∃z',cK 4 (Cy K a r0) (cs.map aR) [x0,x1,x2,.own none (acc.map aR),z]=.nx [x0,x1,x2,.own none ((acc++cs.flatMap mI).map aR),z']
 |[],acc,z,_,_=>⟨z,by simp[cK]⟩
 |c::cs,acc,z,hc,hl=>by
  have h1:=hc c (by simp);rw[w1e]at hl;obtain⟨z',ih⟩:=NT r0 x0 x1 x2 cs (acc++mI c) (.fr (aR c)) (λd h=>hc d (by simp[h])) (by rw[w1x];show acc.length+3+_<=_;omega)
  refine⟨z',?_⟩;rw[w0l,pA]
  have e1:Cy K a r0 [x0,x1,x2,.own none (acc.map aR),.fr (aR c)]=.nx [x0,x1,x2,.own none ((acc++mI c).map aR),.fr (aR c)]:=by
   unfold Cy aR;rw?;have l1:(c.map eo).length<=16777215:=by rw[w0a];omega
   have l2:(acc.map λc=>W.tup (c.map eo)).length<=16777213:=by rw[w0a];omega
   simp_all [mI,eo]
  simp_all [xZ]
theorem C_  (h:m<=4):3^m<=81:=w0s (w0o (by decide) h) (by decide)
def UQ(n){m:Nat}(hm:m<=4):run K a (n+1) GF [.int (m:Int)]=.ok (.fr (.lst ((bq m).map aR))):=by
 rw[U1];unfold GL;rw?;rw[if_pos (pq (by omega) (by omega))];rw?
 obtain⟨e',h5,z2,z3,z4,rfl⟩:=AH (b:=Gj K a (run K a n)) (i:=2) (lo:=0) (hi:=(m:Int)) m (by omega) (λj e=>∃(z2 z3 z4:S),e=[.fr (.int (m:Int)),.fr (.lst ((bq j).map aR)),z2,z3,z4]) [.fr (.int (m:Int)),.fr (.lst [.tup []]),.no,.no,.no] ⟨_,_,_,rfl⟩ (by
  rintro j e hj ⟨z2,z3,z4,rfl⟩;unfold Gj;rw?;obtain⟨z',h⟩:=NT (K:=K) (a:=a) (run K a n) (.fr (.int (m:Int))) (.fr (.lst ((bq j).map aR))) (.fr (.int (0+(j:Int)))) (bq j) [] z4 (λc h=>by rw[(tF j c).mp h];omega) (by rw[AI];have:=C_ (show j<=4 by omega);simp only[List.length_nil];omega)
  simp only[w3q,List.nil_append]at h;rw[h];rw?;exact⟨_,rfl,_,_,_,rfl⟩)
 rw[h5];rw?
open Ei
def wide(c:List (Option Bool))(k:Nat):List (Option Bool):=c.take k++none::c.drop (k+1)
def AL   (h:k<c.length):(wide c k).length=c.length:=by
 unfold wide;simp;omega
def BH(c w:List (Option Bool)):Bool:=(d4 c).any λk=>w.getD k none==some true
def r8(c:List (Option Bool)):List (List (Option Bool)):=((List.range c.length).filter λk=>c.getD k none != none).map (wide c)
def oB(c w:List (Option Bool)):Bool:=jq c w&&(BH c w&&!((r8 c).any λd=>jq d w))
def z3m(o):gK (eo o) .aE=some (.bl (o != none)):=by
 cases o with
 |none=>rfl
 |some b=>rfl
def OX(o):kq (eo o) (.bl true)=some (.bl (o==some true)):=by
 cases o with
 |none=>rfl
 |some b=>cases b<;>rfl
def PR  {k:Nat}(h:k<=xs.length):fY xs none (some (k:Int))=xs.take k:=by
 unfold fY;rw[HT.mz,HT.h_,Nat.min_eq_left h];simp
def NU  {k:Nat}(h:k<=xs.length):fY xs (some (k:Int)) none=xs.drop k:=by
 unfold fY;rw[HT.mz,HT.h_,Nat.min_eq_left h];exact w2x (by simp)
def Rf{c:List (Option Bool)}  (h:k<c.length):yp (.tup (c.map eo)) none (some (k:Int))=some (.tup ((c.take k).map eo)):=by
 show(if ¬(HT.cn (c.map eo).length 0 none=0/\HT.cn (c.map eo).length (c.map eo).length (some (k:Int))=(c.map eo).length)then some (W.tup (fY (c.map eo) none (some (k:Int))))else none)=_;rw[HT.h_,if_pos (by rw[w0a];omega),PR (by rw[w0a];omega),List.map_take]
def z3n{c:List (Option Bool)}  (h:k<c.length):yp (.tup (c.map eo)) (some ((k:Int)+1)) none=some (.tup ((c.drop (k+1)).map eo)):=by
 rw[show(k:Int)+1=((k+1:Nat):Int)from rfl];show(if ¬(HT.cn (c.map eo).length 0 (some ((k+1:Nat):Int))=0/\HT.cn (c.map eo).length (c.map eo).length none=(c.map eo).length)then some (W.tup (fY (c.map eo) (some ((k+1:Nat):Int)) none))else none)=_;rw[HT.h_,if_pos (by rw[w0a];omega),NU (by rw[w0a];omega),w4t]
def Yn(c)(k):(c.take k).map eo++[W.aE]++(c.drop (k+1)).map eo=(wide c k).map eo:=by
 unfold wide;simp[eo]
def W6(n)  (hc:c.length<=10):run K a (n+1) Gd [.tup (c.map eo)]=.ok (.own none ((r8 c).map aR)):=by
 rw[Uo];unfold Gk;rw?;rw[w0a,if_pos (pq (by omega) (by omega))];rw?;rw[if_pos (by rw[Hq];omega)];simp only[d5,j6,w0f,w0k];rw[Mw,ya (q:=λk=>c.getD k none != none) (g:=λk=>aR (wide c k)) (en:=λk=>W.int ((k:Nat):Int)) (List.range c.length)]
 .unfold r8;rw[w0t];rfl
 .intro k hk;rw[w0z]at hk;unfold K' K_;rw?;rw[JL hk];rw?;rw[z3m];rw?;refine⟨_,rfl,λ_=>?_⟩
  rw?;rw[Rf hk];rw?;rw[if_pos (by rw[w0a,w3f];omega)];rw?;rw[z3n hk];rw?;rw[if_pos (by grind)];rw[Yn];exact⟨_,rfl⟩
def z3o  (h:d∈r8 c):d.length=c.length:=by
 unfold r8 at h;obtain⟨k,hk,rfl⟩:=w0q.mp h;have:=(w1h.mp hk).1;rw[w0z]at this;exact AL this
theorem PU(bs:List Bool):mX [.lst (bs.map .bl)]=some (.bl (bs.any id)):=Q6
def z3p(c):(r8 c).length<=c.length:=by
 unfold r8
 grind
def U9(n)  (hw:w.length=2^c.length)(hc:c.length<=4):run K a (n+5) G5 [.tup (c.map eo),.lst (w.map eo)]=.ok (.fr (.bl (oB c w))):=by
 have vH:=pow10 (show c.length<=10 by omega);have hr:=OW c;have rO:=z3p c;rw[Vb];unfold G9;rw?;rw[NS n hw hc];unfold oB;cases hf:jq c w with
 |false=>rw?;rfl
 |true=>
  rw?;rw[GS (n+1) (by omega)];rw?;rw[if_pos (by rw[w0a];omega)];simp only[d5,j6,w0f,w0k];rw[qH (g:=λk=>W.bl (w.getD k none==some true))]
  .rw?;have e:(d4 c).map (λk=>W.bl (w.getD k none==some true))=((d4 c).map λk=>w.getD k none==some true).map .bl:=by rw[w0t];rfl
   rw[e,PU];rw?;have e2:((d4 c).map λk=>w.getD k none==some true).any id=BH c w:=by unfold BH;rw[w4i];rfl
   rw[e2];cases ht:BH c w with
   |false=>rw?;rfl
   |true=>
    rw?;rw[W6 (n+3) (by omega)];rw?;rw[if_pos (by rw[w0a];omega)];simp only[d5,j6,w0f,w0k];rw[qH (g:=λd=>W.bl (jq d w)) (en:=aR)]
    .rw?;have e3:(r8 c).map (λd=>W.bl (jq d w))=((r8 c).map λd=>jq d w).map .bl:=by rw[w0t];rfl
     rw[e3,PU];rw?;rw[w4i];rfl
    .intro d hd;have hl:=z3o hd;unfold Lx aR;rw?;rw[NS n (by rw[hl];exact hw) (by omega)];exact⟨_,rfl⟩
  .intro k hk;have h1:=jf.mp hk;unfold Ly;rw?;rw[JL (by omega)];rw?;rw[OX];exact⟨_,rfl⟩
def Wl(n)   (hw:w.length=2^m)(hm:m<=4):run K a (n+6) HR [.lst (w.map eo)]=.ok (.own none (((bq m).filter λc=>oB c w).map aR)):=by
 have h81:=C_ hm;have hl:=AI m;rw[Wd];unfold HW;rw?;rw[IU (n+2) (by rw[w0a];exact hw) hm];rw?;rw[UQ (n+4) hm];rw?;rw[if_pos (by rw[w0a];omega)];simp only[d5,j6,w0f,w0k];rw[ya (q:=λc=>oB c w) (g:=aR) (en:=aR) (bq m)]
 .rfl
 .intro c hc;have h1:=(tF m c).mp hc;unfold Ml Mj aR;rw?;rw[U9 n (by rw[h1];exact hw) (by omega)];rw?;exact⟨_,rfl,λ_=>⟨_,rfl⟩⟩
def nI(k:Nat):W:=.int (k:Int)
def wr(w:List (Option Bool)):List Nat:=(List.range w.length).filter λk=>w.getD k none==some true
theorem IV:∀ts:List Nat,(ts.map nI).all a_=true
 |[]=>rfl
 |_::ts=>by rw[w0l,w2e,IV ts];rfl
theorem PV(k:Nat):∀ts:List Nat,((ts.map nI).any λy=>mO y (.int (k:Int)))=ts.contains k
 |[]=>rfl
 |t::ts=>by
  rw[w0l,w2l,PV k ts,List.contains_cons];congr 1;show(((t:Int)==(k:Int)):Bool)=(k==t);apply w1t.mpr;simp only[beq_iff_eq];omega
def z9j(k)(ts:List Nat):j5 (nI k) (.lst (ts.map nI))=some (.bl (!ts.contains k)):=by
 show(if a_ (.int (k:Int))=true/\(ts.map nI).all a_=true then some (W.bl (!(ts.map nI).any λy=>mO y (.int (k:Int))))else none)=_
 rw[if_pos ⟨rfl,IV ts⟩,PV]
def UR(n){ns ts:List Nat}(h:ns.length<=2000):run K a (n+1) xT [.lst (ns.map nI),.lst (ts.map nI)]=.ok (.own none ((ns.filter λk=>!ts.contains k).map nI)):=by
 rw[U2];unfold GN;rw?;rw[if_pos (by rw[w0a];omega)];simp only[d5,j6,w0f,w0k];rw[ya (q:=λk=>!ts.contains k) (g:=nI) (en:=nI) ns]
 .rfl
 .intro k _;unfold Lu Ls;rw?;rw[z9j];rw?;exact⟨_,rfl,λ_=>⟨_,rfl⟩⟩
def z3q(w:List (Option Bool)):bZ 0 (w.map eo)=(List.range w.length).map fun(k:Nat)=>(W.int ((k:Nat):Int),eo (w.getD k none)):=by
 have e:w.map eo=(List.range w.length).map λk=>eo (w.getD k none):=by
  apply w2y;intro k
  by_cases h:k<w.length
  .simp[w4p h,h,List.getD]
  .simp[h,Nat.le_of_not_lt h]
 rw[e,LO]
def Wm(n)   (hw:w.length=2^m)(hm:m<=4):run K a (n+4) Ge [.lst (w.map eo)]=.ok (.own none ((wr w).map nI)):=by
 have vH:=pow10 (show m<=10 by omega);rw[Up];unfold Gm;rw?;rw[IU n (by rw[w0a];exact hw) hm];rw?;rw[z3q,if_pos (by rw[w0a,w0v];omega)];rw[HZ (q:=λk=>w.getD k none==some true) (g:=nI)]
 .rfl
 .intro k hk;unfold Lb La;rw?;rw[OX];rw?;exact⟨_,rfl,λ_=>⟨_,rfl⟩⟩
def z9k(w):(wr w).length<=w.length:=by
 unfold wr
 grind
abbrev Cb:=List (Option Bool)
def vW(n:Int)(l:List Nat):Bool:=l.any λk=>decide ((k:Int)=n)
def eU(c:Cb):W:=.tup [aR c,.lst ((d4 c).map nI)]
def hv(P:List Cb)(n:Int):List Cb:=P.filter λc=>vW n (d4 c)
def lf(l:List Nat)(c:Cb):List Nat:=l.filter λk=>!(d4 c).contains k
theorem OY(n):∀ts:List Nat,((ts.map nI).any λy=>mO y (.int n))=vW n ts
 |[]=>rfl
 |t::ts=>by
  show(mO (.int (t:Int)) (.int n)||(ts.map nI).any λy=>mO y (.int n))=(decide ((t:Int)=n)||vW n ts)
  rw[OY n ts];congr 1
def z9l(n)(ts):vX (.int n) (.lst (ts.map nI))=some (.bl (vW n ts)):=by
 show(if a_ (.int n)=true/\(ts.map nI).all a_=true then some (W.bl ((ts.map nI).any λy=>mO y (.int n)))else none)=_
 rw[if_pos ⟨rfl,IV ts⟩,OY]
def Mo(n)  (hP:P.length<=1000)(x):run K a (n+1) AU [.lst (P.map eU),.int x]=.ok (.own none ((hv P x).map eU)):=by
 rw[Wf];unfold HY;rw?
 rw[w0a,if_pos (by omega),ya (q:=λc=>vW x (d4 c)) (g:=eU) (en:=eU) P λc _=>by
  simp only[fM,aW,d5,j6,w0l,w3q,w2c,List.foldl_nil,w0f,w0k];refine⟨[.fr (eU c),.fr (.int x)],?_,λ_=>⟨[.fr (eU c),.fr (.int x)],?_⟩⟩
  .unfold Mn;rw?;rw[show bh (eU c) (.int 1)=some (.lst ((d4 c).map nI))from rfl];rw?;rw[z9l];rw?
  .unfold Mm;rw?]
 rw?;rfl
def VJ(n){w:Cb}  (hw:w.length=2^m)(hm:m<=4):run K a (n+7) Gv [.lst (w.map eo)]=.ok (.own none (((bq m).filter λc=>oB c w).map eU)):=by
 have hl:((bq m).filter λc=>oB c w).length<=81:=by
  grind [AI,C_]
 have hc:∀c∈(bq m).filter λc=>oB c w,c.length=m:=λc h=>(tF m c).mp (w1h.mp h).1
 have pr:=Wl (K:=K) (a:=a) n hw hm;rw[UB];unfold Gy;rw?;rw[pr];rw?;generalize (bq m).filter (λc=>oB c w)=P at hl hc
 rw[w0a,if_pos (by omega),qH (g:=eU) (en:=aR) P λc h=>by
  unfold Lf aR;rw?;rw[GS (n+3) (c:=c) (by rw[hc c h];omega)];rw?;exact⟨_,rfl⟩]
 rw?
theorem Yo(l)(c):(lf l c).length<=l.length:=w3e _ _
def z3r(k:Nat)(l):vW (k:Int) l=l.contains k:=by
 unfold vW
 grind
def Pm(w:Cb)(m:Nat):List Cb:=(bq m).filter λc=>oB c w
def Qm(w)  (hm:m<=4):(Pm w m).length<=81/\∀c∈Pm w m,c.length=m:=by
 refine⟨?_,λc h=>(tF m c).mp (w1h.mp h).1⟩
 have:=w3e (λc=>oB c w) (bq m)
 rw[AI]at this;have:=C_ hm;exact w0s ‹_› this
def tx(cs:List Nat):Str:=⟨cs.toArray⟩
def z3s(cs):(tx cs).cps.toList=cs:=by simp[tx]
def PX(as bs):tx as++tx bs=tx (as++bs):=by
 show Str.mk (as.toArray++bs.toArray)=_;simp[tx]
def z3t:("":Str)=tx []:=by decide +kernel
theorem OZ:∀cs:List Nat,Str.join "" (cs.map λc=>tx [c])=tx cs
 |[]=>rfl
 |[c]=>rfl
 |c::d::cs=>by
  show tx [c]++""++Str.join "" ((d::cs).map λc=>tx [c])=_
  rw[OZ (d::cs),z3t,PX,PX];rfl
theorem Yp(cs):Txt.join "" (cs.map λc=>tx [c])=tx cs:=(StrLaws.glued_eq_join _ _).trans (OZ cs)
theorem O0:∀xs:List Str,iR (xs.map .str)=some xs
 |[]=>rfl
 |x::xs=>by
  show(iR (xs.map W.str)).map (x::·)=_;rw[O0 xs];rfl
def Yq(c:List (Option Bool)):iR (c.map λo=>.str (sgn o))=some (c.map sgn):=by
 have:=O0 (c.map sgn)
 rwa [w0t]at this
def z3u(o):(sgn o).length=1:=by
 cases o with
 |none=>rfl
 |some b=>cases b<;>rfl
theorem O1:∀c:List (Option Bool),((c.map sgn).map λx=>x.length).sum=c.length
 |[]=>rfl
 |o::c=>by
  rw[w0l,w0l,List.sum_cons,O1 c,z3u];simp;omega
def Yr(c:List (Option Bool))(h:c.length<=1000):ma (.str "") [.lst (c.map λo=>.str (sgn o))]=some (.str (Txt.join "" (c.map sgn))):=by
 show(match iR (c.map λo=>W.str (sgn o))with
   |some ys=>if jv "" ys=true then some (W.str (Txt.join "" ys))else none
   |none=>none)=_
 rw[Yq];show(if jv "" (c.map sgn)=true then some (W.str (Txt.join "" (c.map sgn)))else none)=_;rw[if_pos];unfold jv;rw[O1,w0a];have:("":Str).length=0:=rfl;rw[this,Nat.mul_zero,Nat.ble_eq];omega
def Ys(n){c:List (Option Bool)}(h:c.length<=1000):run K a (n+1) AD [.tup (c.map eo)]=.ok (.fr (.str (Txt.join "" (c.map sgn)))):=by
 rw[UY];unfold GI;rw?
 rw[if_pos (by rw[w0a];omega),qH (g:=λo=>W.str (sgn o)) c λo _=>⟨[.fr (eo o)],by
  unfold Lq;rw?;rw[show tN (eo o)=some (.str (sgn o))from by cases o<;>rfl];rw?⟩]
 rw?;rw[Yr c h];rw?
def gH(P:List Cb)(k:Nat):Nat:=(hv P (k:Int)).length
def lx(P:List Cb):Nat->List Nat->Nat
 |b,[]=>b
 |b,k::l=>if gH P k<gH P b then lx P k l else lx P b l
end
def rY(P:List Cb):List Nat->Nat
 |[]=>0
 |k::l=>lx P k l
theorem H_(P):∀(l:List Nat)(b:Nat),lx P b l=b\/lx P b l∈l
 |[],b=>.inl rfl
 |k::l,b=>by
  unfold lx;split
  .rcases H_ P l k with h|h
   all_goals grind
  .rcases H_ P l b with h|h
   .exact .inl h
   .exact .inr (w0p _ h)
def O2(P)(k)(l):rY P (k::l)∈k::l:=by
 rcases H_ P l k with h|h
 .exact w0e.mpr (.inl h)
 .exact w0p _ h
def sC(go:Cb->List Cb ⊕ W)(num:Nat):List Cb->List W->List Cb ⊕ W
 |[],acc=>.inr (.tup [nI num,.tup acc])
 |c::cs,acc=>match go c with
  |.inl d=>.inl (c::d)
  |.inr t=>sC go num cs (acc++[.tup [aR c,t]])
def cM(P:List Cb):Nat->List Nat->List Cb ⊕ W
 |_,[]=>.inl []
 |0,k::l=>.inr (.tup [nI (rY P (k::l)),.tup []])
 |n+1,k::l=>sC (λc=>cM P n (lf (k::l) c)) (rY P (k::l)) (hv P (rY P (k::l):Int)) []
def bJ:List Cb ⊕ W->W
 |.inl cs=>.tup [.str "cover", .lst (cs.map aR)]
 |.inr t=>.tup [.str "tree", t]
def Ea(cs:List Cb)(l:List Nat):Prop:=∀k∈l,∃c∈cs,k∈d4 c
def k9    : k∈lf l c↔k∈l/\k∉d4 c:=by
 unfold lf;rw[w1h];simp
def nC  {k:Nat}  : c∈hv P (k:Int)↔c∈P/\k∈d4 c:=by
 unfold hv;rw[w1h,z3r];simp
theorem O4{go:Cb->List Cb ⊕ W}{num:Nat}:∀{cs:List Cb}{acc:List W}{t:W},sC go num cs acc=.inr t->∀c∈cs,∃u,go c=.inr u
 |[],_,_,_,_,h=>nomatch h
 |c::cs,acc,t,e,d,h=>by
  unfold sC at e;cases q:go c with
  |inl x=>rw[q]at e;cases e
  |inr u=>
   rw[q]at e;rcases w0e.mp h with rfl|h
   .exact⟨u,q⟩
   .exact O4 e d h
theorem O5  {num:Nat}:∀{cs:List Cb}{acc:List W}{x:List Cb},sC go num cs acc=.inl x->∃c∈cs,∃d,go c=.inl d/\x=c::d
 |[],_,_,e=>by cases e
 |c::cs,acc,x,e=>by
  unfold sC at e;cases q:go c with
  |inl d=>rw[q]at e;exact⟨c,w1b,d,q,(Sum.inl.inj e).symm⟩
  |inr u=>
   rw[q]at e;obtain⟨c',h,r⟩:=O5 e;exact⟨c',w0p _ h,r⟩
theorem Mz(P:List Cb):∀(n:Nat)(l:List Nat)(t:W),cM P n l=.inr t->∀cs:List Cb,(∀c∈cs,c∈P)->cs.length<=n->¬Ea cs l
 |n,[],t,e=>by unfold cM at e;cases e
 |0,k::l,t,_=>λcs _ hl hc=>by
  obtain⟨c,h,_⟩:=hc k w1b;cases cs with
  |nil=>cases h
  |cons x y=>simp at hl
 |n+1,k::l,t,e=>λcs hP hl hc=>by
  unfold cM at e;obtain⟨c,h1,h2⟩:=hc _ (O2 P k l);obtain⟨u,hu⟩:=O4 e c (nC.mpr ⟨hP c h1,h2⟩);refine Mz P n _ u hu (cs.erase c) (λd hd=>hP d (List.mem_of_mem_erase hd)) (by rw[w3w h1];omega) λj hj=>?_
  obtain⟨h3,h4⟩:=k9.mp hj;obtain⟨d,h5,h6⟩:=hc j h3
  grind
theorem Ia(P):∀(n:Nat)(l:List Nat)(cs:List Cb),cM P n l=.inl cs->(∀c∈cs,c∈P/\∃k∈l,k∈d4 c)/\cs.length<=n/\Ea cs l/\cs.Nodup
 |n,[],cs,e=>by
  unfold cM at e;cases Sum.inl.inj e;exact⟨λ_ h=>(by cases h),w1a _,λ_ h=>(by cases h),List.nodup_nil⟩
 |0,k::l,cs,e=>by unfold cM at e;cases e
 |n+1,k::l,cs,e=>by
  unfold cM at e;obtain⟨c,h1,d,h2,rfl⟩:=O5 e;obtain⟨xI,b_⟩:=nC.mp h1;obtain⟨a1,a2,a3,a4⟩:=Ia P n _ d h2;refine⟨λx hx=>?_,by rw[w1e];omega,λj hj=>?_,w2b.mpr ⟨λz=>?_,a4⟩⟩
  .rcases w0e.mp hx with rfl|hx
   .exact⟨xI,_,O2 P k l,b_⟩
   .obtain⟨b1,i,b2,b3⟩:=a1 x hx;exact⟨b1,i,(k9.mp b2).1,b3⟩
  .by_cases h:j∈d4 c
   .exact⟨c,w1b,h⟩
   .obtain⟨x,b1,b2⟩:=a3 j (k9.mpr ⟨hj,h⟩);exact⟨x,w0p _ b1,b2⟩
  .obtain⟨_,i,b2,b3⟩:=a1 c z;exact(k9.mp b2).2 b3
theorem NB(P:List Cb):∀(l:List Nat),(∀k∈l,∃c∈P,k∈d4 c)->∃cs:List Cb,(∀c∈cs,c∈P)/\cs.length<=l.length/\Ea cs l
 |[],_=>⟨[],λ_ h=>(by cases h),w0c _,λ_ h=>(by cases h)⟩
 |k::l,h=>by
  obtain⟨cs,h1,h2,h3⟩:=NB P l λj hj=>h j (w0p _ hj)
  obtain⟨c,hc,hk⟩:=h k w1b;refine⟨c::cs,λd hd=>?_,by simp;omega,λj hj=>?_⟩
  .rcases w0e.mp hd with rfl|hd
   .exact hc
   .exact h1 d hd
  .rcases w0e.mp hj with rfl|hj
   .exact⟨c,w1b,hk⟩
   .obtain⟨d,d1,d2⟩:=h3 j hj;exact⟨d,w0p _ d1,d2⟩
theorem MA{β:Type}(f:Nat->α ⊕ β):∀(n:Nat),(∃x,f n=.inl x)->∃d,d<=n/\(∃x,f d=.inl x)/\∀i,i<d->∃t,f i=.inr t
 |0,h=>⟨0,w0c _,h,λi hi=>absurd hi (Nat.not_lt_zero _)⟩
 |n+1,h=>by
  by_cases z:∃i,i<=n/\∃x,f i=.inl x
  .obtain⟨i,h1,h2⟩:=z;obtain⟨d,d1,d2,d3⟩:=MA f i h2;exact⟨d,by omega,d2,d3⟩
  .refine⟨n+1,w0c _,h,λi hi=>?_⟩
   cases q:f i with
   |inl x=>exact(z ⟨i,by omega,x,q⟩).elim
   |inr t=>exact⟨t,rfl⟩
termination_by n=>n
structure LC(P:List Cb)(l:List Nat)(N:Nat)(cs:List Cb)(T:W):Prop where
 cov:cM P N l=.inl cs
 aE:N=0->T=.aE
 tree:∀n,N=n+1->cM P n l=.inr T
def z3v{P:List Cb}  (h:∀k∈l,∃c∈P,k∈d4 c):∃d,d<=l.length/\(∃x,cM P d l=.inl x)/\∀i,i<d->∃t,cM P i l=.inr t:=by
 refine MA (λn=>cM P n l) l.length ?_
 obtain⟨cs,h1,h2,h3⟩:=NB P l h;cases q:cM P l.length l with
 |inl x=>exact⟨x,rfl⟩
 |inr t=>exact(Mz P _ l t q cs h1 h2 h3).elim
def nn(c:Cb):Nat:=(c.filter λo=>o==none).length
theorem O6:∀{c:Cb}{r:List Bool}{j:Nat},mt c r=true->mt (wide c j) r=true\/c.length<=j
 |[],r,j,_=>.inr (w1a _)
 |o::c,[],j,_=>.inl (by cases j<;>rfl)
 |o::c,b::r,0,h=>by
  have h:((o==none||o==some b)&&mt c r)=true:=h;rw[w0n]at h;refine .inl ?_;show((none==(none:Option Bool)||none==some b)&&mt c r)=true;rw[h.2];rfl
 |o::c,b::r,j+1,h=>by
  have h:((o==none||o==some b)&&mt c r)=true:=h;rw[w0n]at h;rcases O6 (j:=j) h.2 with z|z
  .refine .inl ?_;show((o==none||o==some b)&&mt (wide c j) r)=true;rw[h.1,z];rfl
  .exact .inr (by simp;exact z)
theorem O7:∀{c:Cb}{j:Nat},(c.getD j none != none)=true->nn (wide c j)=nn c+1
 |[],j,h=>by simp at h
 |o::c,0,h=>by
  have h:(o != none)=true:=h;cases o with
  |none=>cases h
  |some b=>rfl
 |o::c,j+1,h=>by
  have ih:=O7 (c:=c) (j:=j) h;show((o::wide c j).filter λo=>o==none).length=((o::c).filter λo=>o==none).length+1
  rw[w3i,w3i];unfold nn at ih;split
  .rw[w1e,w1e,ih]
  .exact ih
theorem Rg(c):nn c<=c.length:=w3e _ _
theorem Ma{w:Cb}{k:Nat}(hk:w.getD k none=some true):∀(f:Nat)(c:Cb),c.length<=nn c+f->jq c w=true->k∈d4 c->∃d:Cb,d.length=c.length/\oB d w=true/\k∈d4 d/\∀i∈d4 c,i∈d4 d
 |f,c,hf,h1,h2=>by
  by_cases ha:(r8 c).any (λd=>jq d w)=true
  .obtain⟨d,d1,d2⟩:=w3g.mp ha;obtain⟨j,j1,rfl⟩:=w0q.mp d1;obtain⟨j2,j3⟩:=w1h.mp j1;have zH:=w0z.mp j2;have hnn:=O7 j3;have hle:=Rg (wide c j);rw[AL zH]at hle
   have qj:∀i∈d4 c,i∈d4 (wide c j):=λi hi=>by
    grind [jf,AL,O6]
   cases f with
   |zero=>omega
   |succ f=>
    obtain⟨d,e1,e2,e3,e4⟩:=Ma hk f (wide c j) (by rw[AL zH];omega) d2 (qj k h2);exact⟨d,by rw[e1,AL zH],e2,e3,λi hi=>e4 i (qj i hi)⟩
  .refine⟨c,rfl,?_,h2,λi hi=>hi⟩
   have ht:BH c w=true:=w3g.mpr ⟨k,h2,by rw[hk];rfl⟩;unfold oB;rw[h1,ht,w2j.mpr ha];rfl
theorem O8:∀r s:List Bool,r.length=s.length->(mt (r.map some) s=true↔r=s)
 |[],[],_=>⟨λ_=>rfl,λ_=>rfl⟩
 |a::r,b::s,h=>by
  have ih:=O8 r s (by simpa using h)
  simp_all [mt]
def z3w  (hk:k<2^m)(hj:j<2^m)(h:gM m k=gM m j):k=j:=by
 grind [gM,YF]
def W7{w:Cb}  (hw:w.length=2^m)  (hk:k∈wr w):∃c∈Pm w m,k∈d4 c:=by
 obtain⟨h1,h2⟩:=w1h.mp hk;have cb:k<2^m:=by rw[<- hw];exact w0z.mp h1
 have h2:w.getD k none=some true:=by simpa using h2
 have hl:((gM m k).map some).length=m:=by rw[w0a,wR]
 have lI:∀i,i∈d4 ((gM m k).map some)↔i=k:=λi=>by
  rw[jf,hl,O8 _ _ (by rw[wR,wR])];exact⟨fun⟨a1,a2⟩=>(z3w cb a1 a2).symm,λe=>by subst e;exact⟨cb,rfl⟩⟩
 have hf:jq ((gM m k).map some) w=true:=w0w.mpr λi hi=>by
  rw[(lI i).mp hi,h2];rfl
 obtain⟨d,e1,e2,e3,_⟩:=Ma h2 m _ (by rw[hl];omega) hf ((lI k).mpr rfl);exact⟨d,w1h.mpr ⟨(tF m d).mpr (by rw[e1,hl]),e2⟩,e3⟩
theorem MB:∀l:List Nat,bA (l.map nI)=true
 |[]=>rfl
 |_::l=>MB l
theorem Ib:∀c:Cb,bA (c.map eo)=true
 |[]=>rfl
 |none::c=>Ib c
 |some _::c=>Ib c
theorem MC:∀P:List Cb,bA (P.map eU)=true
 |[]=>rfl
 |c::P=>by
  show((bA (c.map eo)&&(bA ((d4 c).map nI)&&true))&&bA (P.map eU))=true;rw[Ib,MB,MC P];rfl
def Yt(n)  (hP:P.length<=1000)(k:Nat):run K a (n+2) wI [.int (k:Int),.lst (P.map eU)]=.ok (.fr (.int (gH P k:Int))):=by
 have hh:=Mo (K:=K) (a:=a) n hP (k:Int);rw[TM,if_pos (show[W.int (k:Int),.lst (P.map eU)].length=2 from rfl)];unfold CJ;generalize run K a (n+1)=r at hh |-
 simp only[w0l,w3q];rw?;rw[hh];rw?;rw[w0a];rfl
theorem O9:∀l:List Nat,dZ (l.map nI)=some (l.map fun(k:Nat)=>(k:Int))
 |[]=>rfl
 |k::l=>by
  show(dZ (l.map nI)).map ((k:Int)::·)=_;rw[O9 l];rfl
theorem Hb   (hF:∀k:Nat,F (k:Int)=some (gH P k:Int)):∀(l:List Nat)(b:Nat),fL F (l.map fun(k:Nat)=>(k:Int)) (some ((b:Int),(gH P b:Int)))=some (lx P b l:Int)
 |[],b=>rfl
 |k::l,b=>by
  show(match F (k:Int)with
   |some n=>fL F (l.map fun(k:Nat)=>(k:Int)) (fu (some ((b:Int),(gH P b:Int))) (k:Int) n)
   |none=>none)=_
  rw[hF];show fL F (l.map fun(k:Nat)=>(k:Int)) (if(gH P k:Int)<(gH P b:Int)then some ((k:Int),(gH P k:Int))else some ((b:Int),(gH P b:Int)))=some ((if gH P k<gH P b then lx P k l else lx P b l:Nat):Int)
  by_cases h:gH P k<gH P b
  .rw[if_pos (by omega),if_pos h,Hb hF l k]
  .rw[if_neg (by omega),if_neg h,Hb hF l b]
def Mb(n)  (hP:P.length<=1000)(k)(l):run K a (n+3) HS [.lst (P.map eU),.lst ((k::l).map nI)]=.ok (.fr (nI (rY P (k::l)))):=by
 have lr:=λk=>Yt (K:=K) (a:=a) n hP k
 rw[We];unfold HX;generalize run K a (n+2)=r at lr |-
 rw?;show SR.fn (R.cq (qy r wI _ (.lst ((k::l).map nI)) (some [.lst (P.map eU)])) _)=_;unfold qy;simp only[O9];rw[if_pos (show bA [W.lst (P.map eU)]=true by show(bA (P.map eU)&&true)=true;rw[MC];rfl)];have hF:∀j:Nat,gu (r wI [.int (j:Int),.lst (P.map eU)])=some (gH P j:Int):=λj=>by rw[lr j];rfl
 have e:fL (λi=>gu (r wI [.int i,.lst (P.map eU)])) ((k::l).map fun(k:Nat)=>(k:Int)) none=some (rY P (k::l):Int):=by
  show(match gu (r wI [.int (k:Int),.lst (P.map eU)])with
   |some n=>fL (λi=>gu (r wI [.int i,.lst (P.map eU)])) (l.map fun(k:Nat)=>(k:Int)) (fu none (k:Int) n)
   |none=>none)=_
  rw[hF k];exact Hb hF l k
 rw[e];rfl
def iX(P:List Cb)(l:List Nat)(cnt num:Nat)(acc:List W)(z5 z6 z7:S):List S:=[.fr (.lst (P.map eU)),.fr (.lst (l.map nI)),.fr (.int ((cnt+1:Nat):Int)),.fr (nI num),.own none acc,z5,z6,z7]
def IJ(P:List Cb)(l:List Nat)(cnt num:Nat)(acc:List W)(c:Cb):List Cb ⊕ W->SR
 |.inl d=>.rt (.fr (bJ (.inl (c::d)))) (iX P l cnt num acc (.fr (aR c)) (.fr (.lst ((d4 c).map nI))) (.fr (bJ (.inl d))))
 |.inr t=>.nx (iX P l cnt num (acc++[.tup [aR c,t]]) (.fr (aR c)) (.fr (.lst ((d4 c).map nI))) (.fr (bJ (.inr t))))
def Wn(r)   {cnt num:Nat}  {c:Cb}(h1:r xT [.lst (l.map nI),.lst ((d4 c).map nI)]=.ok (.own none ((lf l c).map nI)))
  (h2:r qG [.lst (P.map eU),.lst ((lf l c).map nI),.int (cnt:Int)]=.ok (.fr (bJ g)))(hg:∀d,g=.inl d->d.length<=1000)(acc)(ha:acc.length<=1000)(z7):
  uP K a r (iX P l cnt num acc (.fr (aR c)) (.fr (.lst ((d4 c).map nI))) z7)=IJ P l cnt num acc c g:=by
 unfold uP iX;rw?;rw[h1];rw?;rw[show((cnt+1:Nat):Int)-1=(cnt:Int) by omega,h2];rw?;cases g with
 |inl d=>
  have:=hg d rfl;unfold IJ iX bJ;rw?;rw[w0a,if_pos (by omega)];rw?
  first|done|rfl
 |inr t=>
  unfold IJ iX bJ;rw?;rw[if_pos (by omega)]
theorem Md(r:Nat->List W->FR){P:List Cb}{l:List Nat}{cnt num:Nat}{go:Cb->List Cb ⊕ W}(h1:∀c∈P,r xT [.lst (l.map nI),.lst ((d4 c).map nI)]=.ok (.own none ((lf l c).map nI)))
  (h2:∀c∈P,r qG [.lst (P.map eU),.lst ((lf l c).map nI),.int (cnt:Int)]=.ok (.fr (bJ (go c))))(hg:∀c d,go c=.inl d->d.length<=1000):∀(cs:List Cb)(acc:List W)(z5 z6 z7:S),(∀c∈cs,c∈P)->acc.length+cs.length<=1000 ->
  (∃d e,sC go num cs acc=.inl d/\df 5 6 (uP K a r) (cs.map λc=>(aR c,.lst ((d4 c).map nI))) (iX P l cnt num acc z5 z6 z7)=.rt (.fr (bJ (.inl d))) e) \/
  ∃oS sf z6' yt,oS.length<=1000/\sC go num cs acc=.inr (.tup [nI num,.tup oS])/\df 5 6 (uP K a r) (cs.map λc=>(aR c,.lst ((d4 c).map nI))) (iX P l cnt num acc z5 z6 z7)=.nx (iX P l cnt num oS sf z6' yt)
 |[],acc,z5,z6,z7,_,hl=>.inr ⟨acc,z5,z6,z7,by simpa using hl,rfl,rfl⟩
 |c::cs,acc,z5,z6,z7,hc,hl=>by
  simp only[w1e]at hl;have Kq:=hc c w1b;have e:=Wn (K:=K) (a:=a) r (num:=num) (h1 c Kq) (h2 c Kq) (hg c) acc (by omega) z7;have u:∀x,uP K a r (iX P l cnt num acc (.fr (aR c)) (.fr (.lst ((d4 c).map nI))) z7)=x->df 5 6 (uP K a r) ((c::cs).map λc=>(aR c,.lst ((d4 c).map nI))) (iX P l cnt num acc z5 z6 z7)=x.dm (df 5 6 (uP K a r) (cs.map λc=>(aR c,.lst ((d4 c).map nI)))):=λx h=>by rw[<- h];rfl
  rw[u _ e];unfold sC;cases q:go c with
  |inl d=>exact .inl ⟨_,_,rfl,rfl⟩
  |inr t=>exact Md r h1 h2 hg cs (acc++[.tup [aR c,t]]) _ _ _ (λd hd=>hc d (w0p _ hd)) (by rw[w1x];simp;omega)
theorem NC:∀cs:List Cb,cR (cs.map eU)=some (cs.map λc=>(aR c,.lst ((d4 c).map nI)))
 |[]=>rfl
 |c::cs=>by
  show(cR (cs.map eU)).map ((aR c,.lst ((d4 c).map nI))::·)=_;rw[NC cs];rfl
theorem Wo     (hn:n<=1000)(h:cM P n l=.inl d):d.length<=1000:=w0s (Ia P n l d h).2.1 hn
theorem M5{P:List Cb}(hP:P.length<=81):∀(cnt n:Nat)(l:List Nat),l.length<=100->cnt<=100->run K a (n+cnt+4) qG [.lst (P.map eU),.lst (l.map nI),.int (cnt:Int)]=.ok (.fr (bJ (cM P cnt l)))
 |cnt,n,[],_,_=>by
  rw[Ha];unfold AW cM bJ;rw?
 |0,n,k::l,_,_=>by
  have rr:=Mb (K:=K) (a:=a) n (P:=P) (by omega) k l;rw[Ha];unfold AW cM bJ;generalize run K a (n+0+3)=r at rr |-
  have e1:cU bS (ae (af 1) ah) (init 8 [.lst (P.map eU),.lst ((k::l).map nI),.int ((0:Nat):Int)])=.ok (.int ((l.length+1:Nat):Int)) (init 8 [.lst (P.map eU),.lst ((k::l).map nI),.int ((0:Nat):Int)]):=by
   unfold init;rw?;rw[w0a]
  rw?;rw[w0a,if_neg (by omega)];rw[w0l]at rr;rw[rr];rw?
 |cnt+1,n,k::l,hl,R4=>by
  have rr:=Mb (K:=K) (a:=a) (n+cnt+1) (P:=P) (by omega) k l;have hh:=Mo (K:=K) (a:=a) (n+cnt+3) (P:=P) (by omega) (rY P (k::l):Int);have h1:∀c∈P,run K a (n+cnt+4) xT [.lst ((k::l).map nI),.lst ((d4 c).map nI)]=.ok (.own none ((lf (k::l) c).map nI)):=λc _=>UR (K:=K) (a:=a) (n+cnt+3) (by omega)
  have h2:∀c∈P,run K a (n+cnt+4) qG [.lst (P.map eU),.lst ((lf (k::l) c).map nI),.int (cnt:Int)]=.ok (.fr (bJ (cM P cnt (lf (k::l) c)))):=λc _=>M5 hP cnt n _ (w0s (Yo _ c) hl) (by omega)
  have lp:=Md (K:=K) (a:=a) (run K a (n+cnt+4)) (num:=rY P (k::l)) h1 h2 (λc d h=>Wo (by omega) h) (hv P (rY P (k::l):Int)) [] .no .no .no (λc hc=>(nC.mp hc).1) (by
   grind [hv])
  rw[show n+(cnt+1)+4=n+cnt+4+1 by omega,Ha];unfold AW cM;rw[show n+cnt+1+3=n+cnt+4 by omega]at rr;generalize run K a (n+cnt+4)=r at rr hh lp |-
  unfold iX at lp;rw[w0l]at rr lp |-
  rw?;rw[w0a,if_neg (by omega),rr];rw?;rw[if_neg (show ¬(((cnt+1:Nat):Int)=0) by omega)];rw[show r AU [.lst (P.map eU),nI (rY P (k::l))]=_ from hh];rw?;rw[NC];rw?;rcases lp with⟨d,e,b1,b2⟩|⟨oS,z5,z6,z7,b0,b1,b2⟩
  .rw[b2,b1];rfl
  .rw[b2,b1];unfold bJ;rw?
def sc:Option Bool->Nat
 |none=>45
 |some false=>48
 |some true=>49
def z9m(o):sgn o=tx [sc o]:=by
 cases o with
 |none=>decide +kernel
 |some b=>cases b<;>decide +kernel
def join_list(c:Cb):(Txt.join "" (c.map sgn)).cps.toList=c.map sc:=by
 rw[show c.map sgn=(c.map sc).map λc=>tx [c] by rw[w0t];exact w1m λo _=>z9m o,Yp,z3s]
theorem Jx  (h:u<v):∀x:List Nat,x++u<x++v
 |[]=>h
 |a::x=>w2i.mpr (.inr ⟨rfl,Jx h x⟩)
theorem PY:∀{x y:List Nat}(u v:List Nat),x.length=y.length->x<y->x++u<y++v
 |[],[],_,_,_,h=>(List.lt_irrefl _ h).elim
 |a::x,b::y,u,v,hl,h=>by
  rcases w2i.mp h with h|⟨e,h⟩
  .exact w2i.mpr (.inl h)
  .exact w2i.mpr (.inr ⟨e,PY u v (by simpa using hl) h⟩)
theorem M6:∀m,(bq m).Pairwise λc d=>c.map sc<d.map sc
 |0=>List.pairwise_singleton _ _
 |m+1=>by
  show((bq m).flatMap mI).Pairwise _;rw[w4l];refine⟨λc _=>?_,?_⟩
  .unfold mI;simp only[w3r,w0e,w0y,or_false,w0x,List.Pairwise.nil,and_true];refine⟨λx hx=>?_,λx hx=>?_,λ_ h=>(by cases h)⟩
   .rcases hx with rfl|rfl<;>(rw[w0x];exact Jx (by decide) _)
   .subst hx;rw[w0x];exact Jx (by decide) _
  .refine List.Pairwise.imp_of_mem (λ{c d} hc hd h x hx y hy=>?_) (M6 m)
   have lc:=(tF m c).mp hc;have ld:=(tF m d).mp hd;simp only[mI,w0e,w0y,or_false]at hx hy
   grind [PY]
def jH(c:Cb):Str:=Txt.join "" (c.map sgn)
theorem PZ  (hF:∀c:Cb,c.length<=1000->F [aR c]=.ok (.fr (.str (jH c)))):∀cs:List Cb,(∀c∈cs,c.length<=1000)->iM F (cs.map aR)=some (cs.map jH)
 |[],_=>rfl
 |c::cs,h=>by
  show(match oJ (F [aR c]),iM F (cs.map aR)with
   |some n,some ns=>some (n::ns)
   |_,_=>none)=_
  rw[hF c (h c w1b),PZ hF cs λd hd=>h d (w0p _ hd)]
  rfl
def nS(P cs:List Cb):List Cb:=P.filter λc=>cs.contains c
theorem Wq(w)(m)(cs):(nS (Pm w m) cs).Nodup:=List.Pairwise.filter _ (List.Pairwise.filter _ (LA m))
def qX   : c∈nS P cs↔c∈P/\c∈cs:=by
 unfold nS;rw[w1h];simp
theorem W8    (h1:∀c∈cs,c∈Pm w m)(h2:cs.Nodup):(nS (Pm w m) cs).Perm cs:=
 (List.perm_ext_iff_of_nodup (Wq w m cs) h2).mpr λc=>qX.trans ⟨λh=>h.2,λh=>⟨h1 c h,h⟩⟩
def z3x  (hF:∀c:Cb,c.length<=1000->F [aR c]=.ok (.fr (.str (jH c))))   (hm:m<=4)  (h1:∀c∈cs,c∈Pm w m)(h2:cs.Nodup)(h3:cs.length<64):tP F (.lst (cs.map aR))=some ((nS (Pm w m) cs).map aR):=by
 have hlen:∀c∈cs,c.length<=1000:=λc hc=>by rw[(Qm w hm).2 c (h1 c hc)];omega
 show(if(cs.map aR).length<64 then(iM F (cs.map aR)).bind λns=>nT ns (cs.map aR)else none)=_
 rw[w0a,if_pos h3,PZ hF cs hlen];show nT (cs.map jH) (cs.map aR)=_
 have hz:(cs.map jH).zip (cs.map aR)=cs.map λc=>(jH c,aR c):=by
  rw[List.zip_map',]
 have pm:=W8 h1 h2;rw[Z9 (zs:=(nS (Pm w m) cs).map λc=>(jH c,aR c)) (by rw[w0a,w0a]) (by rw[hz];exact pm.map _) ?_,w0t]
 .rfl
 .refine w3v.mpr (List.Pairwise.imp (λ{c d} h=>?_) (List.Pairwise.filter _ (List.Pairwise.filter _ (M6 m))))
  show(jH c).cps.toList<(jH d).cps.toList;unfold jH;rw[join_list,join_list];exact h
theorem ND(R:Nat->List W->FR){P:List Cb}{l:List Nat}(A:W)(hR:∀cnt:Nat,cnt<=100->R qG [.lst (P.map eU),.lst (l.map nI),.int (cnt:Int)]=.ok (.fr (bJ (cM P cnt l)))):∀(d j fuel:Nat)(T:W),(∃x,cM P (j+d) l=.inl x)->(∀i,i<d->∃t,cM P (j+i) l=.inr t)->j+d<=100->d<fuel ->
  ∃T',(d=0->T'=T)/\(∀e,d=e+1->cM P (j+e) l=.inr T')/\bI (AB K a R) (CC K a R) fuel [.fr A,.fr (.lst (P.map eU)),.fr (.lst (l.map nI)),.fr (.int (j:Int)),.fr T,.fr (bJ (cM P j l))]=.nx [.fr A,.fr (.lst (P.map eU)),.fr (.lst (l.map nI)),.fr (.int ((j+d:Nat):Int)),.fr T',.fr (bJ (cM P (j+d) l))]
 |0,j,fuel+1,T,h1,_,_,_=>by
  obtain⟨x,hx⟩:=h1;refine⟨T,λ_=>rfl,λe he=>by omega,?_⟩
  simp only[w4u]at hx |-
  rw[AZ,hx,show bJ (.inl x)=.tup [.str "cover", .lst (x.map aR)]from rfl];unfold AB;rw?
 |d+1,j,fuel+1,T,h1,h2,h3,h4=>by
  obtain⟨t,ht⟩:=h2 0 (by omega);rw[w4u]at ht;have e1:j+(d+1)=j+1+d:=by omega
  rw[e1]at h1 |-
  obtain⟨T',a1,a2,a3⟩:=ND R A hR d (j+1) fuel t h1 (λi hi=>by
   grind) (by omega) (by omega)
  refine⟨T',λz=>by omega,λe he=>?_,?_⟩
  .cases e with
   |zero=>
    have:d=0:=by omega
    rw[a1 this,w4u];exact ht
   |succ e=>
    grind
  .rw[<- a3,AZ,ht];have hr:=hR (j+1) (by omega)
   have ew:AB K a R [.fr A,.fr (.lst (P.map eU)),.fr (.lst (l.map nI)),.fr (.int (j:Int)),.fr T,.fr (bJ (.inr t))]=.ok true [.fr A,.fr (.lst (P.map eU)),.fr (.lst (l.map nI)),.fr (.int (j:Int)),.fr T,.fr (bJ (.inr t))]:=by
    unfold AB bJ;rw?
   have el:CC K a R [.fr A,.fr (.lst (P.map eU)),.fr (.lst (l.map nI)),.fr (.int (j:Int)),.fr T,.fr (bJ (.inr t))]=.nx [.fr A,.fr (.lst (P.map eU)),.fr (.lst (l.map nI)),.fr (.int ((j+1:Nat):Int)),.fr t,.fr (bJ (cM P (j+1) l))]:=by
    unfold CC;rw[show bJ (.inr t)=.tup [.str "tree", t]from rfl];rw?;rw[show(j:Int)+1=((j+1:Nat):Int) by omega,hr];rw?
   rw[ew,Wx,if_pos rfl,el];rfl
def M7(n:Nat){w:Cb}{m:Nat}(hw:w.length=2^m)(hm:m<=4):∃N cs T,N<=16/\LC (Pm w m) (wr w) N cs T/\run K a (n+120) Cr [.lst (w.map eo)]=.ok (.fr (.tup [.lst ((nS (Pm w m) cs).map aR),T])):=by
 have h16:(wr w).length<=16:=by
  have:=z9k w;have:2^m<=16:=w0s (w0o (by decide) hm) (by decide);omega
 have hP:=(Qm w hm).1;obtain⟨N,hN,⟨cs,sJ⟩,ht⟩:=z3v (P:=Pm w m) (l:=wr w) λk hk=>W7 hw hk
 have rr:=VJ (K:=K) (a:=a) (n+112) hw hm;have wi:=Wm (K:=K) (a:=a) (n+115) hw hm
 have tr:∀cnt:Nat,cnt<=100->run K a (n+119) qG [.lst ((Pm w m).map eU),.lst ((wr w).map nI),.int (cnt:Int)]=.ok (.fr (bJ (cM (Pm w m) cnt (wr w)))):=λcnt hc=>by
  have:=M5 (K:=K) (a:=a) hP cnt (n+115-cnt) (wr w) (by omega) hc
  rwa [show n+115-cnt+cnt+4=n+119 by omega]at this
 have tx:∀c:Cb,c.length<=1000->run K a (n+119) AD [aR c]=.ok (.fr (.str (jH c))):=λc hc=>Ys (K:=K) (a:=a) (n+118) hc
 obtain⟨T,a1,a2,a3⟩:=ND (K:=K) (a:=a) (run K a (n+119)) (.lst (w.map eo)) tr N 0 1000000 .aE (by rw[w1y];exact⟨cs,sJ⟩) (λi hi=>by rw[w1y];exact ht i hi) (by omega) (by omega)
 rw[w1y]at a3;have L:LC (Pm w m) (wr w) N cs T:=⟨sJ,a1,λe he=>by have:=a2 e he;rwa [w1y]at this⟩
 obtain⟨b1,b2,b3,b4⟩:=Ia _ _ _ _ sJ;refine⟨N,cs,T,by omega,L,?_⟩;have sr:=z3x (F:=run K a (n+119) AD) tx hm (λc hc=>(b1 c hc).1) b4 (by omega)
 rw[Uq];unfold Gn;rw[show n+112+7=n+119 by omega]at rr;rw[show n+115+4=n+119 by omega]at wi;have t0:=tr 0 (by omega);generalize run K a (n+119)=r at rr wi t0 a3 sr |-
 rw?;rw[rr];rw?;rw[wi];rw?;rw[show r qG [.lst (((bq m).filter λc=>oB c w).map eU),.lst ((wr w).map nI),.int 0]=_ from t0]
 rw?;rw[show((bq m).filter λc=>oB c w)=Pm w m from rfl,show(0:Int)=((0:Nat):Int)from rfl,a3,sJ]
 rw[show bJ (.inl cs)=.tup [.str "cover", .lst (cs.map aR)]from rfl];rw?;rw[sr];rw?
set_option genInjectivity true in
inductive Fm where
 |is (b:Bool)|at (p:Nat)|not (f:Fm)|and (f g:Fm)|or (f g:Fm)|odd (f g:Fm)
def enc:Fm->W
 |.is b=>.tup [.str "is", .bl b]
 |.at p=>.tup [.str "at", .int p]
 |.not f=>.tup [.str "not", enc f]
 |.and f g=>.tup [.str "and", enc f,enc g]
 |.or f g=>.tup [.str "or", enc f,enc g]
 |.odd f g=>.tup [.str "odd", enc f,enc g]
def Fm.depth:Fm->Nat
 |.is _=>1
 |.at _=>1
 |.not f=>f.depth+1
 |.and f g=>max f.depth g.depth+1
 |.or f g=>max f.depth g.depth+1
 |.odd f g=>max f.depth g.depth+1
inductive O3 where
 |a|o|d
def wd:O3->Str
 |.a=>"and"
 |.o=>"or"
 |.d=>"odd"
def FH:O3->Fm->Fm->Fm
 |.a=>.and
 |.o=>.or
 |.d=>.odd
def Fm.vx:Fm->Fm
 |.is b=>.is (!b)
 |f=>.not f
def kH:O3->Bool->Fm->Fm
 |.a,true,f=>f
 |.a,false,_=>.is false
 |.o,true,_=>.is true
 |.o,false,f=>f
 |.d,true,f=>f.vx
 |.d,false,f=>f
def Fm.gZ(o:O3)(f g:Fm):Fm:=match f with
 |.is b=>kH o b g
 |f=>match g with
  |.is b=>kH o b f
  |g=>FH o f g
def Yu(n)(f):run K a (n+1) GD [enc f]=.ok (.fr (enc f.vx)):=by
 rw[UZ];unfold GJ;cases f<;>simp only[enc,Fm.vx]<;>rw?
def NF(n)(o)(b)(f):run K a (n+2) CN [.str (wd o),.bl b,enc f]=.ok (.fr (enc (kH o b f))):=by
 rw[UA];unfold Gx;have h:=Yu (K:=K) (a:=a) n f;cases o<;>cases b<;>simp only[wd,kH]<;>rw?<;>first|rfl|(rw[h];rw?)
def Fm.hd:Fm->Str
 |.is _=>"is"
 |.at _=>"at"
 |.not _=>"not"
 |.and _ _=>"and"
 |.or _ _=>"or"
 |.odd _ _=>"odd"
def O_(f):bh (enc f) (.int 0)=some (.str f.hd):=by cases f<;>rfl
def DZ(f:Fm):f.hd="is"↔∃b,f=.is b:=by
 cases f with
 |is b=>exact⟨λ_=>⟨b,rfl⟩,λ_=>rfl⟩
 |_=>exact⟨λh=>absurd h (by simp only[Fm.hd];decide),fun⟨b,h⟩=>by cases h⟩
theorem z3y    : Fm.gZ o (.is b) g=kH o b g:=rfl
def Ic    (hf:¬∃b,f=.is b):Fm.gZ o f (.is b)=kH o b f:=by
 cases f with
 |is b=>exact absurd ⟨b,rfl⟩ hf
 |_=>rfl
def wK   (hf:¬∃b,f=.is b)(hg:¬∃b,g=.is b):Fm.gZ o f g=FH o f g:=by
 cases f with
 |is b=>exact absurd ⟨b,rfl⟩ hf
 |_=>cases g with
  |is b=>exact absurd ⟨b,rfl⟩ hg
  |_=>rfl
def z3z   : enc (FH o f g)=.tup [.str (wd o),enc f,enc g]:=by cases o<;>rfl
def Dl(n)(o)(f g):run K a (n+3) rS [.str (wd o),enc f,enc g]=.ok (.fr (enc (f.gZ o g))):=by
 rw[Xo];unfold Jn;rw?;rw[O_];rw?
 by_cases hf:∃b,f=.is b
 .obtain⟨b,rfl⟩:=hf;rw[if_pos ((DZ (.is b)).mpr ⟨b,rfl⟩),z3y];simp only[enc];rw?;rw[NF n o b g];rw?
 .rw[if_neg (by rw[DZ];exact hf),O_];rw?
  by_cases hg:∃b,g=.is b
  .obtain⟨b,rfl⟩:=hg;rw[if_pos ((DZ (.is b)).mpr ⟨b,rfl⟩),Ic hf];simp only[enc];rw?;rw[NF n o b f];rw?
  .rw[if_neg (by rw[DZ];exact hg),wK hf hg,z3z]
def Fm.size:Fm->Nat
 |.is _=>1
 |.at _=>1
 |.not f=>f.size+1
 |.and f g=>f.size+g.size+1
 |.or f g=>f.size+g.size+1
 |.odd f g=>f.size+g.size+1
def Fm.has(p:Nat):Fm->Bool
 |.is _=>false
 |.at q=>decide (q=p)
 |.not f=>f.has p
 |.and f g=>f.has p||g.has p
 |.or f g=>f.has p||g.has p
 |.odd f g=>f.has p||g.has p
theorem uU:∀(f:Fm),cj (enc f)<=f.depth
 |.is b=>by simp[enc,cj,c5,Fm.depth]
 |.at p=>by simp[enc,cj,c5,Fm.depth]
 |.not f=>by have:=uU f;simp[enc,cj,c5,Fm.depth];omega
 |.and f g=>by have:=uU f;have:=uU g;simp[enc,cj,c5,Fm.depth];omega
 |.or f g=>by have:=uU f;have:=uU g;simp[enc,cj,c5,Fm.depth];omega
 |.odd f g=>by have:=uU f;have:=uU g;simp[enc,cj,c5,Fm.depth];omega
def Yv(ws)(k:Nat):fY ws none (some (k:Int))=ws.take k:=by
 unfold fY;rw[HT.h_];simp[HT.cn]
def YO(ws)(k:Nat)(h:k<=ws.length):fY ws (some (k:Int)) none=ws.drop k:=by
 grind [fY,HT.cn,List.take_of_length_le]
def cst(bs:List Bool):Bool:=bs.all λb=>b==bs.getD 0 false
def Fm.mQ:Fm->Bool
 |.is true=>true
 |_=>false
def fA(p:Nat)(l h:Fm):Fm:=
 if l.mQ=true then Fm.gZ .o (.not (.at p)) h
 else if h.mQ=true then Fm.gZ .o (.at p) l
 else Fm.gZ .o (Fm.gZ .a (.not (.at p)) l) (Fm.gZ .a (.at p) h)
def ff:Nat->Nat->List Bool->Fm
 |0,_,bs=>.is (bs.getD 0 false)
 |m+1,p,bs=>
  if cst bs=true then .is (bs.getD 0 false)
  else if bs.take (2^m)=bs.drop (2^m)then ff m (p+1) (bs.take (2^m))
  else if cst (bs.take (2^m))=false/\bs.drop (2^m)=(bs.take (2^m)).map not then .odd (ff m (p+1) (bs.take (2^m))) (.at p)
  else fA p (ff m (p+1) (bs.take (2^m))) (ff m (p+1) (bs.drop (2^m)))
def fq(f:Fm):Prop:=¬∃b,f=.is b
theorem P6  (h:cst bs=true):∀b∈bs,b=bs.getD 0 false:=λb hb=>by
 have:=w0w.mp h b hb
 simpa using this
def Jy   (h:∀b∈bs,b=c):cst bs=true:=by
 unfold cst;rw[w0w];intro b hb;cases bs with
 |nil=>cases hb
 |cons x xs=>
  have h1:=h x (by simp);have h2:=h b hb;simp[h1,h2]
def M8(p)(l h)(hn:∀b,¬(l=.is b/\h=.is b)):
  (l=.is true/\h=.is false/\fA p l h=.not (.at p))\/(l=.is true/\fq h/\fA p l h=.or (.not (.at p)) h) \/
  (l=.is false/\h=.is true/\fA p l h=.at p)\/(fq l/\h=.is true/\fA p l h=.or (.at p) l) \/
  (l=.is false/\fq h/\fA p l h=.and (.at p) h)\/(fq l/\h=.is false/\fA p l h=.and (.not (.at p)) l) \/
  (fq l/\fq h/\fA p l h=.or (.and (.not (.at p)) l) (.and (.at p) h)):=by
 have nt:fq (.not (.at p)):=fun⟨b,e⟩=>by cases e
 have at':fq (.at p):=fun⟨b,e⟩=>by cases e
 have kT:∀f:Fm,fq f->f.mQ=false:=λf hf=>by
  cases f with
  |is b=>exact absurd ⟨b,rfl⟩ hf
  |_=>rfl
 by_cases hl:∃b,l=.is b
 .obtain⟨b,rfl⟩:=hl
  by_cases hh:∃c,h=.is c
  .obtain⟨c,rfl⟩:=hh;cases b<;>cases c
   .exact absurd ⟨rfl,rfl⟩ (hn false)
   .exact .inr (.inr (.inl ⟨rfl,rfl,rfl⟩))
   .exact .inl ⟨rfl,rfl,rfl⟩
   .exact absurd ⟨rfl,rfl⟩ (hn true)
  .have hT:=kT h hh;cases b with
   |true=>
    refine .inr (.inl ⟨rfl,hh,?_⟩);unfold fA;rw[if_pos (show(Fm.is true).mQ=true from rfl),wK nt hh];rfl
   |false=>
    refine .inr (.inr (.inr (.inr (.inl ⟨rfl,hh,?_⟩))));unfold fA;rw[if_neg (by decide),if_neg (by rw[hT];decide),Ic nt,wK at' hh];rfl
 .have lT:=kT l hl
  by_cases hh:∃c,h=.is c
  .obtain⟨c,rfl⟩:=hh;cases c with
   |true=>
    refine .inr (.inr (.inr (.inl ⟨hl,rfl,?_⟩)));unfold fA;rw[if_neg (by rw[lT];decide),if_pos (show(Fm.is true).mQ=true from rfl),wK at' hl];rfl
   |false=>
    refine .inr (.inr (.inr (.inr (.inr (.inl ⟨hl,rfl,?_⟩)))));unfold fA;rw[if_neg (by rw[lT];decide),if_neg (by decide),Ic at',wK nt hl];rfl
  .have hT:=kT h hh;refine .inr (.inr (.inr (.inr (.inr (.inr ⟨hl,hh,?_⟩)))));unfold fA;rw[if_neg (by rw[lT];decide),if_neg (by rw[hT];decide),wK nt hl,wK at' hh];rfl
def DG  {bs:List Bool}(h:bs.length=2^(m+1)):(bs.take (2^m)).length=2^m/\(bs.drop (2^m)).length=2^m:=by
 grind
theorem DH(m):0<2^m:=w2v m
theorem yk:∀(m p:Nat)(bs:List Bool),bs.length=2^m->∀b,ff m p bs=.is b->∀x∈bs,x=b
 |0,p,bs,hl,b,h,x,hx=>by
  have:bs.getD 0 false=b:=by injection h
  obtain⟨y,rfl⟩:∃y,bs=[y]:=by
   match bs,hl with
   |[y],_=>exact⟨y,rfl⟩
  simp at hx this;rw[hx,this]
 |m+1,p,bs,hl,b,h,x,hx=>by
  obtain⟨t1,t2⟩:=DG hl;unfold ff at h
  by_cases c1:cst bs=true
  .rw[if_pos c1]at h;have e:bs.getD 0 false=b:=by injection h
   rw[<- e];exact P6 c1 x hx
  .rw[if_neg c1]at h
   by_cases c2:bs.take (2^m)=bs.drop (2^m)
   .rw[if_pos c2]at h;have ih:=yk m (p+1) _ t1 b h
    grind [List.take_append_drop]
   .rw[if_neg c2]at h;exfalso
    by_cases c3:cst (bs.take (2^m))=false/\bs.drop (2^m)=(bs.take (2^m)).map not
    .rw[if_pos c3]at h;cases h
    .rw[if_neg c3]at h
     have nn:∀b,¬(ff m (p+1) (bs.take (2^m))=.is b/\ff m (p+1) (bs.drop (2^m))=.is b):=λb ⟨z1,z2⟩=>by
      have q1:=yk m (p+1) _ t1 b z1;have q2:=yk m (p+1) _ t2 b z2;refine c1 (Jy (c:=b) λy hy=>?_)
      grind [List.take_append_drop]
     grind [M8]
theorem Rh   (hl:bs.length=2^(m+1))(c1:¬cst bs=true):∀b,¬(ff m (p+1) (bs.take (2^m))=.is b/\ff m (p+1) (bs.drop (2^m))=.is b):=λb ⟨z1,z2⟩=>by
 obtain⟨t1,t2⟩:=DG hl;have q1:=yk m (p+1) _ t1 b z1;have q2:=yk m (p+1) _ t2 b z2;refine c1 (Jy (c:=b) λy hy=>?_)
 grind [List.take_append_drop]
theorem Jz{C:Nat->Nat->List Bool->Fm->Prop}(h0:∀m p bs,bs.length=2^m->(∀x∈bs,x=bs.getD 0 false)->C m p bs (.is (bs.getD 0 false)))
  (h1:∀m p (bs l:List Bool),bs=l++l->l.length=2^m->C m (p+1) l (ff m (p+1) l)->C (m+1) p bs (ff m (p+1) l))
  (h2:∀m p (bs l:List Bool),bs=l++l.map not->l.length=2^m->cst l=false->C m (p+1) l (ff m (p+1) l)->C (m+1) p bs (.odd (ff m (p+1) l) (.at p)))
  (h3:∀m p (bs l h:List Bool),bs=l++h->l.length=2^m->h.length=2^m->l≠h->C m (p+1) l (ff m (p+1) l)->C m (p+1) h (ff m (p+1) h)->(∀b,¬(ff m (p+1) l=.is b/\ff m (p+1) h=.is b))->C (m+1) p bs (fA p (ff m (p+1) l) (ff m (p+1) h))):
  ∀(m p:Nat)(bs:List Bool),bs.length=2^m->C m p bs (ff m p bs)
 |0,p,bs,hl=>by
  refine h0 0 p bs hl λx hx=>?_
  match bs,hl with
  |[y],_=>simpa using hx
 |m+1,p,bs,hl=>by
  obtain⟨t1,t2⟩:=DG hl;have e:bs=bs.take (2^m)++bs.drop (2^m):=(w1z _ _).symm;have i1:=Jz h0 h1 h2 h3 m (p+1) _ t1;have i2:=Jz h0 h1 h2 h3 m (p+1) _ t2;unfold ff
  by_cases c1:cst bs=true
  .rw[if_pos c1];exact h0 _ _ _ hl (P6 c1)
  .rw[if_neg c1]
   by_cases c2:bs.take (2^m)=bs.drop (2^m)
   .rw[if_pos c2];exact h1 m p bs _ (by rw[<- c2]at e;exact e) t1 i1
   .rw[if_neg c2]
    by_cases c3:cst (bs.take (2^m))=false/\bs.drop (2^m)=(bs.take (2^m)).map not
    .rw[if_pos c3];exact h2 m p bs _ (by rw[<- c3.2];exact e) t1 c3.1 i1
    .rw[if_neg c3];exact h3 m p bs _ _ e t1 t2 c2 i1 i2 (Rh hl c1)
def Fm.kD:Fm->Nat->Nat
 |.is _,_=>0
 |.at _,_=>0
 |.not f,l=>f.kD 3+(if 3<l then 1 else 0)
 |.and f g,l=>max (f.kD 2) (g.kD 3)+(if 2<l then 1 else 0)
 |.or f g,l=>max (f.kD 0) (g.kD 1)+(if 0<l then 1 else 0)
 |.odd f g,l=>max (f.kD 1) (g.kD 2)+(if 1<l then 1 else 0)
def A0(f:Fm)(l):f.kD l<=f.kD 0+1:=by
 cases f<;>simp only[Fm.kD]<;>first|omega|(split<;>simp<;>omega)
structure yA(m p:Nat)(F:Fm):Prop where
 d:F.depth<=3*m+1
 z:(∃b,F=.is b)\/(F.size+6<=4*2^m)
 o:F.kD 0<=m
 i:∀q,F.has q=true->p<=q/\q<p+m
def O'(m p)(bs)(hl:bs.length=2^m):yA m p (ff m p bs):=by
 refine Jz (C:=λm p bs F=>yA m p F) ?_ ?_ ?_ ?_ m p bs hl
 .intro m p bs _ _;exact⟨by simp[Fm.depth],.inl ⟨_,rfl⟩,by simp[Fm.kD],λq h=>by cases h⟩
 .intro m p bs l _ _ ih;have:=DH m;refine⟨by have:=ih.d;omega,ih.z.imp id λh=>by rw[w1p];omega,by have:=ih.o;omega,λq h=>by have:=ih.i q h;omega⟩
 .intro m p bs l _ E3 hc ih;have h0:=DH m;have h1:=A0 (ff m (p+1) l) 1;refine⟨by have:=ih.d;simp only[Fm.depth];omega,.inr ?_,by have:=ih.o;simp(config:={decide:=true}) only[Fm.kD,if_true,if_false];omega,λq h=>?_⟩
  .rw[w1p];simp only[Fm.size];rcases ih.z with⟨b,hb⟩|hz
   .have:=Jy (yk m (p+1) l E3 b hb);rw[hc]at this;cases this
   .omega
  .have h:((ff m (p+1) l).has q||decide (p=q))=true:=h;rcases w1l _ _ ▸ h with z|z
   .have:=ih.i q z;omega
   .have:=of_decide_eq_true z;omega
 .intro m p bs l h _ _ _ _ il ih nn;have h0:=DH m;have a1:=A0 (ff m (p+1) l) 1;have a3:=A0 (ff m (p+1) l) 3;have b1:=A0 (ff m (p+1) h) 1;have b3:=A0 (ff m (p+1) h) 3;have dl:=il.d;have dh:=ih.d;have ol:=il.o;have oh:=ih.o;have zl:fq (ff m (p+1) l)->(ff m (p+1) l).size+6<=4*2^m:=λn=>il.z.resolve_left n
  have zh:fq (ff m (p+1) h)->(ff m (p+1) h).size+6<=4*2^m:=λn=>ih.z.resolve_left n
  have kl:=il.i;have kh:=ih.i;rcases M8 p _ _ nn with⟨e1,e2,e⟩|⟨e1,e2,e⟩|⟨e1,e2,e⟩|⟨e1,e2,e⟩|⟨e1,e2,e⟩|⟨e1,e2,e⟩|⟨e1,e2,e⟩<;>rw[e]
  .refine⟨by simp only[Fm.depth];omega,.inr (by simp only[Fm.size];rw[w1p];omega),by simp(config:={decide:=true}) only[Fm.kD,if_true,if_false];omega,λq hq=>?_⟩
   have:=of_decide_eq_true (show decide (p=q)=true from hq);omega
  .have:=zh e2;refine⟨by simp only[Fm.depth];omega,.inr (by simp only[Fm.size];rw[w1p];omega),by simp(config:={decide:=true}) only[Fm.kD,if_true,if_false];omega,λq hq=>?_⟩
   rcases w1l _ _ ▸ (show(decide (p=q)||(ff m (p+1) h).has q)=true from hq)with z|z
   .have:=of_decide_eq_true z;omega
   .have:=kh q z;omega
  .refine⟨by simp only[Fm.depth];omega,.inr (by simp only[Fm.size];rw[w1p];omega),by simp(config:={decide:=true}) only[Fm.kD,if_true,if_false];omega,λq hq=>?_⟩
   have:=of_decide_eq_true (show decide (p=q)=true from hq);omega
  .have:=zl e1;refine⟨by simp only[Fm.depth];omega,.inr (by simp only[Fm.size];rw[w1p];omega),by simp(config:={decide:=true}) only[Fm.kD,if_true,if_false];omega,λq hq=>?_⟩
   rcases w1l _ _ ▸ (show(decide (p=q)||(ff m (p+1) l).has q)=true from hq)with z|z
   .have:=of_decide_eq_true z;omega
   .have:=kl q z;omega
  .have:=zh e2;refine⟨by simp only[Fm.depth];omega,.inr (by simp only[Fm.size];rw[w1p];omega),by simp(config:={decide:=true}) only[Fm.kD,if_true,if_false];omega,λq hq=>?_⟩
   rcases w1l _ _ ▸ (show(decide (p=q)||(ff m (p+1) h).has q)=true from hq)with z|z
   .have:=of_decide_eq_true z;omega
   .have:=kh q z;omega
  .have:=zl e1;refine⟨by simp only[Fm.depth];omega,.inr (by simp only[Fm.size];rw[w1p];omega),by simp(config:={decide:=true}) only[Fm.kD,if_true,if_false];omega,λq hq=>?_⟩
   rcases w1l _ _ ▸ (show(decide (p=q)||(ff m (p+1) l).has q)=true from hq)with z|z
   .have:=of_decide_eq_true z;omega
   .have:=kl q z;omega
  .have:=zl e1;have:=zh e2;refine⟨by simp only[Fm.depth];omega,.inr (by simp only[Fm.size];rw[w1p];omega),by simp(config:={decide:=true}) only[Fm.kD,if_true,if_false];omega,λq hq=>?_⟩
   rcases w1l _ _ ▸ (show((decide (p=q)||(ff m (p+1) l).has q)||(decide (p=q)||(ff m (p+1) h).has q))=true from hq)with z|z
   all_goals grind
theorem DJ   (g):∀(ws:List W),(∀w∈ws,∃e,d (.fr w::pe)=.ok (g w) e)->cz bK d pe ws=some (ws.map g)
 |[],_=>rfl
 |w::ws,h=>by
  obtain⟨e,h1⟩:=h w (by simp);rw[MU];show(match d (.fr w::pe)with|.ok y _=>(cz bK d pe ws).map (y::·)|_=>none)=_;rw[h1,DJ g ws λu hu=>h u (by simp[hu])]
  rfl
theorem Pa:∀as bs:List Bool,eL (as.map .bl) (bs.map .bl)=some (decide (as=bs))
 |[],[]=>rfl
 |[],b::bs=>by simp[eL]
 |x::as,[]=>by simp[eL]
 |x::as,b::bs=>by
  rw[w0l,w0l];show(match iY (.bl x) (.bl b),eL (as.map .bl) (bs.map .bl)with|some a,some b=>some (a&&b)|_,_=>none)=_;rw[Pa as bs];show some ((x==b)&&decide (as=bs))=_;congr 1;rw[w1t];simp
theorem NG:∀r:List Bool,c5 (r.map .bl)=0
 |[]=>rfl
 |b::r=>by show max 0 (c5 (r.map .bl))=0;rw[NG r];rfl
def Qn(as bs:List Bool):eq2 (.lst (as.map .bl)) (.lst (bs.map .bl))=some (.bl (decide (as=bs))):=by
 show(if c5 (as.map .bl)+1<=150 then(eL (as.map .bl) (bs.map .bl)).map W.bl else none)=_;rw[NG,if_pos (by omega),Pa];rfl
def IW(n)(bs)(hl:bs.length<=100000):run K a (n+1) CH [.lst (bs.map .bl)]=.ok (.fr (.bl (cst bs))):=by
 rw[TH];unfold F9;rw?;rw[if_pos (by rw[w0a];omega)];simp only[d5,j6,w0f,w0k];rw[DJ (λw=>.bl (match w with|.bl b=>b==bs.getD 0 false|_=>false))]
 .rw?;have e:(bs.map W.bl).map (λw=>W.bl (match w with|.bl b=>b==bs.getD 0 false|_=>false))=(bs.map λb=>b==bs.getD 0 false).map W.bl:=by rw[w0t,w0t];rfl
  rw[e,JH];rw?;unfold cst;rw[w4h];rfl
 .intro w hw;obtain⟨b,hb,rfl⟩:=w0q.mp hw;unfold Lc;rw?;have h0:0<bs.length:=w4f hb;have hx:(bs.map W.bl)[0]?=some (.bl (bs.getD 0 false)):=by simp[List.getD,h0]
  rw[hx];rw?
  grind
def eqT:∀f:Fm,iY (enc f) (.tup [.str "is", .bl true])=some f.mQ:=by
 intro f
 match f with
 |.is b=>cases b<;>rfl
 |.at p=>rfl
 |.not f=>cases f<;>rfl
 |.and f g=>cases f<;>rfl
 |.or f g=>cases f<;>rfl
 |.odd f g=>cases f<;>rfl
def yX(f)(hd:f.depth<=149):eq2 (enc f) (.tup [.str "is", .bl true])=some (.bl f.mQ):=by
 have:=uU f;show(if cj (enc f)<=150 then(iY (enc f) (.tup [.str "is", .bl true])).map W.bl else none)=_;rw[if_pos (by omega),eqT];rfl
def ZX(n)(p:Nat)(l h)(hd:l.depth<=149)(hd2:h.depth<=149):run K a (n+4) Dk [.int (p:Int),enc l,enc h]=.ok (.fr (enc (fA p l h))):=by
 rw[Wc];unfold HV;rw?;rw[yX l hd];rw?;unfold fA;have eo:=λf g=>Dl (K:=K) (a:=a) n .o f g
 have ea:=λf g=>Dl (K:=K) (a:=a) n .a f g
 simp only[wd]at eo ea;have ent:(W.tup [.str "not", .tup [.str "at", .int (p:Int)]])=enc (.not (.at p)):=rfl;have J7:(W.tup [.str "at", .int (p:Int)])=enc (.at p):=rfl;cases l.mQ with
 |true=>
  rw[if_pos rfl];rw?;rw[ent,eo];rw?
 |false=>
  rw[if_neg (by decide)];rw?;rw[yX h hd2];rw?;cases h.mQ with
  |true=>
   rw[if_pos rfl];rw?;rw[J7,eo];rw?
  |false=>
   rw[if_neg (by decide)];rw?;rw[ent,ea];rw?;rw[J7,ea];rw?;rw[eo];rw?
theorem Hd:∀(m n p:Nat)(bs:List Bool),bs.length=2^m->m<=10->run K a (n+m+6) wC [.lst (bs.map .bl),.int (p:Int)]=.ok (.fr (enc (ff m p bs)))
 |0,n,p,bs,hl,hm=>by
  rw[show n+0+6=n+5+1 by omega,Ll];unfold C0;rw?
  obtain⟨y,rfl⟩:∃y,bs=[y]:=by
   match bs,hl with
   |[y],_=>exact⟨y,rfl⟩
  rw[IW (n+4) [y] (by simp),show cst [y]=true by cases y<;>rfl];rw?;rfl
 |m+1,n,p,bs,hl,hm=>by
  have vH:2^(m+1)<=2^10:=w0o (by decide) hm;obtain⟨t1,t2⟩:=DG hl;have hp:=DH m;rw[show n+(m+1)+6=n+m+6+1 by omega,Ll];unfold C0;rw?;rw[IW (n+m+5) bs (by omega)];rw?;unfold ff;cases hc:cst bs with
  |true=>
   rw[if_pos rfl];rw?;have h0:0<bs.length:=by omega
   have hx:(bs.map W.bl)[0]?=some (.bl (bs.getD 0 false)):=by simp[List.getD,h0]
   rw[hx];rw?;rfl
  |false=>
   rw[if_neg (by decide)];rw?;rw[w0a,hl];rw[show((2^(m+1):Nat):Int) / 2=((2^m:Nat):Int) by rw[w1p];omega];rw[Yv,YO _ _ (by rw[w0a];omega),<- List.map_take,<- w4t];rw?;have i1:=Hd m n (p+1) (bs.take (2^m)) t1 (by omega);have i2:=Hd m n (p+1) (bs.drop (2^m)) t2 (by omega);rw[show((p+1:Nat):Int)=(p:Int)+1 by omega]at i1 i2;rw[i1];rw?;rw[Qn];rw?
   by_cases c2:bs.take (2^m)=bs.drop (2^m)
   .rw[if_pos c2,if_pos c2]
   .rw[if_neg c2,if_neg c2];rw?;rw[IW (n+m+5) _ (by omega)];have d1:=(O' m (p+1) _ t1).d;have d2:=(O' m (p+1) _ t2).d
    have last:((((aL (ar (run K a (n+m+6) Dk) (ae (af 1) (ae (af 5) (ae (ar (run K a (n+m+6) wC) (ae (af 4) (ae (av bH (af 1) (dC (.int 1))) ah))) ah)))))):List S->SR) [.fr (.lst (bs.map .bl)),.fr (.int (p:Int)),.fr (.int ((2^m:Nat):Int)),.fr (.lst ((bs.take (2^m)).map .bl)),.fr (.lst ((bs.drop (2^m)).map .bl)),.fr (enc (ff m (p+1) (bs.take (2^m))))]).fn=.ok (.fr (enc (fA p (ff m (p+1) (bs.take (2^m))) (ff m (p+1) (bs.drop (2^m)))))):=by
     rw?;rw[i2];rw?;rw[ZX (n+m+2) p _ _ (by omega) (by omega)];rw?
    cases c3:cst (bs.take (2^m))with
    |true=>
     rw[if_neg (λz=>by cases z.1)]
     revert last;rw?;exact id
    |false=>
     rw?;rw[if_pos (by rw[w0a];omega)];rw[DJ (λw=>match w with|.bl b=>.bl (!b)|w=>w)]
     .rw?;have e:((bs.take (2^m)).map W.bl).map (λw=>match w with|.bl b=>W.bl (!b)|w=>w)=((bs.take (2^m)).map not).map W.bl:=by rw[w0t,w0t];rfl
      rw[e,Qn];rw?
      by_cases c4:bs.drop (2^m)=(bs.take (2^m)).map not
      .rw[if_pos c4,if_pos (by first|exact c4|exact⟨rfl,c4⟩)];rw?;rfl
      .rw[if_neg c4,if_neg (by first|exact c4|exact λz=>c4 z.2)]
       revert last;rw?;exact id
     .intro w hw;obtain⟨b,hb,rfl⟩:=w0q.mp hw;unfold Lr;rw?;exact⟨_,rfl⟩
def YQ(n:Nat){m:Nat}{bs:List Bool}(hl:bs.length=2^m)(hm:m<=10):run K a (n+17) F1 [.lst (bs.map .bl)]=.ok (.fr (enc (ff m 0 bs))):=by
 rw[Tu];unfold F4;rw?
 have e:lg (bs.map W.bl).length=some m:=by
  rw[w0a,hl];have:m=0\/m=1\/m=2\/m=3\/m=4\/m=5\/m=6\/m=7\/m=8\/m=9\/m=10:=by omega
  rcases this with rfl|rfl|rfl|rfl|rfl|rfl|rfl|rfl|rfl|rfl|rfl<;>decide
 rw[Lp (n+14),e];simp only[jc];rw?;have z:=Hd (K:=K) (a:=a) m (n+(10-m)) 0 bs hl hm;rw[show n+(10-m)+m+6=n+16 by omega]at z;have z:run K a (n+16) wC [.lst (bs.map .bl),.int 0]=_:=z;rw[z];rw?
def rH:Nat->Fm->List (Option Bool)->Fm
 |_,f,[]=>f
 |p,f,none::c=>rH (p+1) f c
 |p,f,some true::c=>rH (p+1) (Fm.gZ .a f (.at p)) c
 |p,f,some false::c=>rH (p+1) (Fm.gZ .a f (.not (.at p))) c
def Ew:Fm->List (List (Option Bool))->Fm
 |f,[]=>f
 |f,c::cs=>Ew (Fm.gZ .o f (rH 0 (.is true) c)) cs
def P7(o):kq (eo o) (.bl true)=some (.bl (o==some true)):=by
 cases o with
 |none=>rfl
 |some b=>cases b<;>rfl
def P8(o):kq (eo o) (.bl false)=some (.bl (o==some false)):=by
 cases o with
 |none=>rfl
 |some b=>cases b<;>rfl
theorem Me(n)(cu):∀(c:List (Option Bool))(p:Nat)(f:Fm)(z2 z3:S),∃y2 y3,df 2 3 (wG K a (run K a (n+3))) (bZ p (c.map eo)) [.fr cu,.fr (enc f),z2,z3]=.nx [.fr cu,.fr (enc (rH p f c)),y2,y3]
 |[],p,f,z2,z3=>⟨_,_,rfl⟩
 |o::c,p,f,z2,z3=>by
  have ea:=λf g=>Dl (K:=K) (a:=a) n .a f g
  simp only[wd]at ea
  have e1:wG K a (run K a (n+3)) [.fr cu,.fr (enc f),.fr (.int p),.fr (eo o)]=.nx [.fr cu,.fr (enc (rH p f [o])),.fr (.int p),.fr (eo o)]:=by
   unfold wG;rw?;rw[P7];rw?;cases o with
   |none=>
    rw[if_neg (by decide)];rw[P8];rw?;rfl
   |some b=>
    cases b with
    |true=>
     rw[if_pos (by decide)];rw[show W.tup [W.str "at", W.int (p:Int)]=enc (.at p)from rfl,ea];rw?;rfl
    |false=>
     rw[if_neg (by decide),P8];rw?;rw[if_pos (by decide),show W.tup [W.str "not", W.tup [W.str "at", W.int (p:Int)]]=enc (.not (.at p))from rfl,ea];rw?;rfl
  obtain⟨y2,y3,ih⟩:=Me n cu c (p+1) (rH p f [o]) (.fr (.int p)) (.fr (eo o));refine⟨y2,y3,?_⟩;rw[w0l];show df 2 3 (wG K a (run K a (n+3))) ((W.int (p:Int),eo o)::bZ (p+1) (c.map eo)) _=_;rw[WV];simp only[w1j,w1k];rw[e1];show df 2 3 (wG K a (run K a (n+3))) (bZ (p+1) (c.map eo)) _=_;rw[ih];cases o with
  |none=>rfl
  |some b=>cases b<;>rfl
def XB(n)(c):run K a (n+4) F7 [.tup (c.map eo)]=.ok (.fr (enc (rH 0 (.is true) c))):=by
 rw[TJ];unfold FW;rw?;obtain⟨y2,y3,h⟩:=Me (K:=K) (a:=a) n (.tup (c.map eo)) c 0 (.is true) .no .no;rw[show df 2 3 (wG K a (run K a (n+3))) (bZ 0 (c.map eo)) [S.fr (W.tup (c.map eo)),S.fr (W.tup [W.str "is", W.bl true]),S.no,S.no]=_ from h];rw?
theorem LP(n)(co):∀(cs:List (List (Option Bool)))(f:Fm)(z:S),∃z',cK 2 (AA K a (run K a (n+4))) (cs.map aR) [co,.fr (enc f),z]=.nx [co,.fr (enc (Ew f cs)),z']
 |[],f,z=>⟨_,rfl⟩
 |c::cs,f,z=>by
  have J9:=λf g=>Dl (K:=K) (a:=a) (n+1) .o f g
  simp only[wd]at J9
  have e1:AA K a (run K a (n+4)) [co,.fr (enc f),.fr (aR c)]=.nx [co,.fr (enc (Fm.gZ .o f (rH 0 (.is true) c))),.fr (aR c)]:=by
   unfold AA aR;rw?;rw[XB n];rw?;rw[J9];rw?
  obtain⟨z',ih⟩:=LP n co cs (Fm.gZ .o f (rH 0 (.is true) c)) (.fr (aR c));refine⟨z',?_⟩;rw[w0l,pA];simp only[w1j,w1k];rw[e1,xZ];exact ih
def Wr(n)(cs):run K a (n+5) F2 [.lst (cs.map aR)]=.ok (.fr (enc (Ew (.is false) cs))):=by
 rw[Tv];unfold F5;rw?;obtain⟨z',h⟩:=LP (K:=K) (a:=a) n (.fr (.lst (cs.map aR))) cs (.is false) .no;rw[show cK 2 (AA K a (run K a (n+4))) (cs.map aR) [S.fr (W.lst (cs.map aR)),S.fr (W.tup [W.str "is", W.bl false]),S.no]=_ from h];rw?
theorem IX{i:Nat}{b:List S->SR}(I:Nat->List S->Prop):∀(ws:List W)(k:Nat)(e:List S),I k e->(∀(j:Nat)(w:W)(e:List S),w∈ws->I j e->∃e',b (e.set i (.fr w))=.nx e'/\I (j+1) e')->∃e',cK i b ws e=.nx e'/\I (k+ws.length) e'
 |[],k,e,h0,_=>⟨e,rfl,h0⟩
 |w::ws,k,e,h0,h=>by
  obtain⟨e1,h1,h2⟩:=h k w e (by simp) h0;obtain⟨e2,h3,h4⟩:=IX I ws (k+1) e1 h2 λj u e hu=>h j u e (by simp[hu])
  grind [pA,xZ]
def bQ(bs:List Bool):W:=.tup (bs.map .bl)
abbrev Pr:=List Bool×Nat
structure Mc where
 m:Nat
 wide:Nat
 ag:List (List Pr)
structure Mc.Og(c:Mc):Prop where
 lX:c.m<=3
 wg:c.wide<=40
 pos:0<c.ag.length
 mo:c.ag.length<=700
 st:∀s∈c.ag,s.length=2^c.m
 pr:∀s∈c.ag,∀p∈s,p.1.length=c.wide/\p.2<c.ag.length
def M9{l:List α}(h):l.take (j+1)=l.take j++[l[j]]:=by
 simp_all
def bg(p:Pr):W:=.tup [bQ p.1,.int (p.2:Int)]
def aB(s:List Pr):W:=.lst (s.map bg)
def aJ(c:Mc):W:=.tup [.int (c.m:Int),.int (c.wide:Int),.lst (c.ag.map aB)]
def wU(n m:Nat)(hm:m<=100):run K a (n+1) qI [.int (m:Int)]=.ok (.fr (.int ((2^m:Nat):Int))):=by
 rw[Lk];unfold CZ;rw?;rw[if_pos (pq (by omega) (by omega))];rw?
 obtain⟨e',h2,z,rfl⟩:=AH (b:=AF K a (run K a n)) (i:=2) (lo:=0) (hi:=(m:Int)) m (by omega) (λj e=>∃z,e=[.fr (.int (m:Int)),.fr (.int ((2^j:Nat):Int)),z]) [.fr (.int (m:Int)),.fr (.int 1),.no] ⟨.no,rfl⟩ (by
  rintro j e hj ⟨z,rfl⟩;unfold AF;rw?
  simp_all [w1p,Int.mul_comm])
 rw[h2];rw?
def VL(n)(c:Mc)(h:s<c.ag.length):run K a (n+1) CS [aJ c,.int (s:Int)]=.ok (.fr (.bl true)):=by
 rw[Lz];unfold CU aJ;rw?
 grind
def C4(l:List Pr):cR (l.map bg)=some (l.map λp=>(bQ p.1,W.int (p.2:Int))):=by
 induction l with
 |nil=>rfl
 |cons p l ih=>
  grind [cR,bg]
theorem Ie{i:Nat}{b:List S->SR}(I:List S->Prop):∀(ps:List (W×W))(e:List S),I e->(∀p∈ps,∀e,I e->∃e',b ((e.set i (.fr p.1)).set j (.fr p.2))=.nx e'/\I e')->∃e',df i j b ps e=.nx e'/\I e'
 |[],e,h,_=>⟨e,rfl,h⟩
 |p::ps,e,h,st=>by
  obtain⟨e1,h1,h2⟩:=st p (by simp) e h;obtain⟨e2,h3,h4⟩:=Ie I ps e1 h2 (λq hq=>st q (by simp[hq]))
  refine⟨e2,?_,h4⟩;show(b ((e.set i (.fr p.1)).set j (.fr p.2))).dm (df i j b ps)=_;rw[h1];exact h3
theorem qM(c):bh (aJ c) (.int 0)=some (.int (c.m:Int)):=rfl
theorem qN(c):bh (aJ c) (.int 1)=some (.int (c.wide:Int)):=rfl
theorem uW(c):bh (aJ c) (.int 2)=some (.lst (c.ag.map aB)):=rfl
def XC(n)(c)(hc:c.Og):run K a (n+2) CB [aJ c]=.ok (.fr .aE):=by
 rw[K8];unfold CD;rw?;rw[uW];rw?;rw[qM];rw?;rw[wU n c.m (by have:=hc.lX;omega)];rw?;rw[w0a,if_neg (by have:=hc.pos;omega)];rw?
 obtain⟨e',k1,z3,z4,z5,k2⟩:=IX (i:=3) (b:=wF K a (run K a (n+1))) (λ_ e=>∃z3 z4 z5,e=[.fr (aJ c),.fr (.lst (c.ag.map aB)),.fr (.int ((2^c.m:Nat):Int)),z3,z4,z5]) (c.ag.map aB) 0 [.fr (aJ c),.fr (.lst (c.ag.map aB)),.fr (.int ((2^c.m:Nat):Int)),.no,.no,.no] ⟨_,_,_,rfl⟩ (by
  rintro j w e hw ⟨z3,z4,z5,rfl⟩;obtain⟨s,hs,rfl⟩:=w0q.mp hw;unfold wF;simp only[aB];rw?;rw[w0a,hc.st s hs,if_neg (by simp)];rw?;rw[C4];rw?
  obtain⟨e1,h1,z4,z5,rfl⟩:=Ie (i:=4) (j:=5) (b:=uQ K a (run K a (n+1))) (λe=>∃z4 z5,e=[.fr (aJ c),.fr (.lst (c.ag.map aB)),.fr (.int ((2^c.m:Nat):Int)),.fr (.lst (s.map bg)),z4,z5]) (s.map λp=>(bQ p.1,W.int (p.2:Int))) [.fr (aJ c),.fr (.lst (c.ag.map aB)),.fr (.int ((2^c.m:Nat):Int)),.fr (.lst (s.map bg)),z4,z5] ⟨_,_,rfl⟩ (by
   rintro q hq e ⟨z4,z5,rfl⟩;obtain⟨p,hp,rfl⟩:=w0q.mp hq;obtain⟨p1,p2⟩:=hc.pr s hs p hp;unfold uQ;simp only[bQ];rw?;rw[qN];rw?;rw[w0a,p1,if_neg (by simp)];rw?;rw[VL n c p2];rw?;exact⟨_,rfl,_,_,rfl⟩)
  rw[h1];exact⟨_,rfl,_,_,_,rfl⟩)
 rw[k1,k2];rfl
def yl{c:Mc}(hs:s<c.ag.length):bY (c.ag.map aB) (s:Int)=some (aB (c.ag.getD s [])):=by
 grind [tG]
def posK:List Kx->Kx->Nat
 |[],_=>0
 |k::l,x=>if k=x then 0 else posK l x+1
theorem Ig:∀{l:List Kx},x∈l->l[posK l x]?=some x
 |[],h=>nomatch h
 |k::l,h=>by
  unfold posK
  by_cases e:k=x
  .rw[if_pos e,e];rfl
  .rw[if_neg e,w0f];exact Ig ((w0e.mp h).resolve_left λz=>e z.symm)
theorem Pb(h:x∈l):posK l x<l.length:=(w0b.mp (Ig h)).1
theorem Ih:∀{l:List Kx},x∈l->posK (l++m) x=posK l x
 |[],h=>nomatch h
 |k::l,h=>by
  show(if k=x then 0 else posK (l++m) x+1)=(if k=x then 0 else posK l x+1)
  by_cases e:k=x
  .rw[if_pos e,if_pos e]
  .rw[if_neg e,if_neg e,Ih ((w0e.mp h).resolve_left λz=>e z.symm)]
theorem NH:∀{l:List Kx},x∉l->posK (l++[x]) x=l.length
 |[],_=>by show(if x=x then 0 else _)=0;rw[if_pos rfl]
 |k::l,h=>by
  show(if k=x then 0 else posK (l++[x]) x+1)=l.length+1;rw[if_neg (λe=>h (by simp[e])),NH (λz=>h (by simp[z]))]
def YR(hx:x∈l)(hy:y∈l)(h:posK l x=posK l y):x=y:=by
 grind [Ig]
def ee(o:Nat):Nat->List W
 |0=>[]
 |n+1=>.int (o:Int)::ee (o+1) n
theorem M_:∀(n o:Nat),ee o n++[.int ((o+n:Nat):Int)]=ee o (n+1)
 |0,o=>rfl
 |n+1,o=>by
  show W.int (o:Int)::(ee (o+1) n++[W.int ((o+(n+1):Nat):Int)])=W.int (o:Int)::ee (o+1) (n+1);rw[show o+(n+1)=(o+1)+n by omega,M_ n (o+1)]
theorem Ds:∀(l:List Kx)(o:Nat),mi l (ee o l.length) x=if x∈l then some (.int ((o+posK l x:Nat):Int))else none
 |[],o=>by rw[if_neg (by simp)];rfl
 |k::l,o=>by
  show(if k=x then some (W.int (o:Int))else mi l (ee (o+1) l.length) x)=_
  by_cases e:k=x
  .simp_all [posK]
  .rw[if_neg e,Ds l (o+1),show posK (k::l) x=posK l x+1 from if_neg e]
   grind
def b9(l:List Kx)(x:Kx):List Kx:=if x∈l then l else l++[x]
def YS(l)(x):∃m,b9 l x=l++m:=by
 unfold b9;split
 all_goals simp_all
def Pc(l)(x):x∈b9 l x:=by
 grind [b9]
def YT(l)(x):(b9 l x).length<=l.length+1:=by
 unfold b9;split<;>simp
theorem Ik:∀(xs l:List Kx),∃m,xs.foldl b9 l=l++m
 |[],l=>⟨[],by simp⟩
 |x::xs,l=>by
  obtain⟨m1,h1⟩:=YS l x;obtain⟨m2,h2⟩:=Ik xs (b9 l x)
  grind
theorem AX:∀(xs l:List Kx),∀x∈xs,x∈xs.foldl b9 l
 |[],_,_,h=>nomatch h
 |y::xs,l,x,h=>by
  rw[w2c];rcases w0e.mp h with rfl|h
  .obtain⟨m,e⟩:=Ik xs (b9 l x)
   grind [Pc]
  .exact AX xs _ x h
theorem fE:∀(xs l:List Kx),(xs.foldl b9 l).length<=l.length+xs.length
 |[],l=>by simp
 |x::xs,l=>by
  rw[w2c];have:=fE xs (b9 l x)
  grind [YT]
def oC(ks:List Nat)(p:Pr):Kx:=.tup [.tup (p.1.map .bl),.int ((ks.getD p.2 0:Nat):Int)]
def stK(ks:List Nat)(s:List Pr):Kx:=.tup (s.map (oC ks))
def fin(c:Mc)(ks:List Nat):List Nat:=c.ag.map λs=>posK ((c.ag.map (stK ks)).foldl b9 []) (stK ks s)
def ZY(c)(ks):(fin c ks).length=c.ag.length:=by simp[fin]
def Pd    (h:i<c.ag.length):(fin c ks).getD i 0=posK ((c.ag.map (stK ks)).foldl b9 []) (stK ks (c.ag.getD i [])):=by
 unfold fin;simp[List.getD,h]
def lq{c:Mc}(h:i<c.ag.length):c.ag.getD i []∈c.ag:=by
 grind
def z9n(hi:i<c.ag.length)(hj:j<c.ag.length):(fin c ks).getD i 0=(fin c ks).getD j 0↔stK ks (c.ag.getD i [])=stK ks (c.ag.getD j []):=by
 rw[Pd hi,Pd hj];refine⟨λh=>YR (AX _ _ _ (w1v (lq hi))) (AX _ _ _ (w1v (lq hj))) h,λh=>by rw[h]⟩
def z9o:∀k∈fin c ks,k<c.ag.length:=by
 intro k hk;unfold fin at hk;obtain⟨s,hs,rfl⟩:=w0q.mp hk;have h1:=Pb (AX (c.ag.map (stK ks)) [] _ (w1v hs))
 grind [fE]
def cm(c:Mc):Nat->List Nat
 |0=>List.replicate c.ag.length 0
 |t+1=>fin c (cm c t)
theorem rT(c):∀t,(cm c t).length=c.ag.length
 |0=>w2h
 |t+1=>ZY c _
theorem DK(h:0<c.ag.length):∀t,∀k∈cm c t,k<c.ag.length
 |0,k,hk=>by
  have:=w3x hk;omega
 |t+1,k,hk=>z9o k hk
def kd(c:Mc)(t i:Nat):Nat:=(cm c t).getD i 0
def told(c:Mc)(i r:Nat):List Bool:=((c.ag.getD i []).getD r ([],0)).1
def nJ(c:Mc)(i r:Nat):Nat:=((c.ag.getD i []).getD r ([],0)).2
def ye(hc:c.Og)(hi:i<c.ag.length)(hr:r<2^c.m):nJ c i r<c.ag.length:=by
 have hs:=lq hi;have hl:=hc.st _ hs;unfold nJ;have zQ:r<(c.ag.getD i []).length:=by omega
 have e:(c.ag.getD i []).getD r ([],0)=(c.ag.getD i [])[r]:=by grind
 rw[e];exact(hc.pr _ hs _ (w1n zQ)).2
def wL(c)(i):kd c 0 i=0:=by
 grind [kd,cm]
def ZZ:oC ks p=oC ks q↔p.1=q.1/\ks.getD p.2 0=ks.getD q.2 0:=by
 grind [oC,List.map_inj_right]
def wM(hc:c.Og)(hi:i<c.ag.length)(hj:j<c.ag.length):kd c (t+1) i=kd c (t+1) j↔∀r,r<2^c.m->told c i r=told c j r/\kd c t (nJ c i r)=kd c t (nJ c j r):=by
 show(fin c (cm c t)).getD i 0=(fin c (cm c t)).getD j 0↔_;rw[z9n hi hj];have l1:=hc.st _ (lq hi);have l2:=hc.st _ (lq hj);unfold stK told nJ kd;generalize c.ag.getD i []=s at l1;generalize c.ag.getD j []=s' at l2
 have key:∀(s s':List Pr),s.length=s'.length->(s.map (oC (cm c t))=s'.map (oC (cm c t))↔∀r,r<s.length->oC (cm c t) (s.getD r ([],0))=oC (cm c t) (s'.getD r ([],0))):=by
  intro s s' hl;constructor
  .intro h r hr;have z:=congrArg (λl=>l[r]?) h
   grind
  .intro h;apply w2y
   grind
 grind [ZZ]
theorem He{c:Mc}(hc:c.Og):∀(t:Nat){i j:Nat},i<c.ag.length->j<c.ag.length->kd c (t+1) i=kd c (t+1) j->kd c t i=kd c t j
 |0,i,j,_,_,_=>by rw[wL,wL]
 |t+1,i,j,hi,hj,h=>by
  rw[wM hc hi hj]at h |-
  exact λr hr=>⟨(h r hr).1,He hc t (ye hc hi hr) (ye hc hj hr) (h r hr).2⟩
theorem wV:∀(n:Nat){l:List Nat},l.Nodup->(∀x∈l,x<n)->l.length<=n
 |0,l,_,h=>by
  cases l with
  |nil=>simp
  |cons x l=>exact absurd (h x (by simp)) (by omega)
 |n+1,l,hn,h=>by
  by_cases m:n∈l
  .have e:=w3w m
   have:=wV n (hn.erase n) (λx hx=>by
    grind)
   grind
  .have:=wV n hn (λx hx=>by
    grind)
   omega
theorem z9p{l:List Nat}(hn:l.Nodup)(h:∀x∈l,x<n)(hl:n<=l.length)(hy:y<n):y∈l:=Classical.byContradiction λz=>by
 have:=wV n (l:=y::l) (w2b.mpr ⟨z,hn⟩) (λx hx=>by
  grind)
 simp at this;omega
def bD(l:List Nat)(x:Nat):List Nat:=if x∈l then l else l++[x]
def YU(l)(x):∃m,bD l x=l++m:=by
 unfold bD;split
 all_goals simp_all
def Pe(l)(x):x∈bD l x:=by
 grind [bD]
def Z0(h:l.Nodup)(x):(bD l x).Nodup:=by
 grind [bD]
theorem C':∀(xs l:List Nat),∃m,xs.foldl bD l=l++m
 |[],l=>⟨[],by simp⟩
 |x::xs,l=>by
  obtain⟨m1,h1⟩:=YU l x;obtain⟨m2,h2⟩:=C' xs (bD l x)
  grind
theorem NV:∀(xs l:List Nat),∀x∈xs,x∈xs.foldl bD l
 |[],_,_,h=>nomatch h
 |y::xs,l,x,h=>by
  rw[w2c];rcases w0e.mp h with rfl|h
  .obtain⟨m,e⟩:=C' xs (bD l x)
   grind [Pe]
  .exact NV xs _ x h
theorem NW:∀(xs:List Nat){l:List Nat},l.Nodup->(xs.foldl bD l).Nodup
 |[],_,h=>h
 |x::xs,l,h=>NW xs (Z0 h x)
theorem Na{B:Nat->Prop}:∀(xs l:List Nat),(∀x∈l,B x)->(∀x∈xs,B x)->∀x∈xs.foldl bD l,B x
 |[],_,h,_=>h
 |y::xs,l,h,g=>Na xs (bD l y) (λx hx=>by
   grind [bD]) λx hx=>g x (by simp[hx])
def z9q{m:List Nat}(h:x∈l):(l++m).idxOf x=l.idxOf x:=by
 grind
theorem Ri{l:List Nat}(h:x∈l):l.idxOf x<l.length:=List.idxOf_lt_length_iff.mpr h
def P9{l:List Nat}(h:x∈l):l.getD (l.idxOf x) 0=x:=by
 grind
def bf(g:Nat->List Pr)(b:Nat):Nat->List Nat
 |0=>[b]
 |i+1=>if i<(bf g b i).length then((g ((bf g b i).getD i 0)).map (·.2)).foldl bD (bf g b i)else bf g b i
def DL(g)(b i):∃m,bf g b (i+1)=bf g b i++m:=by
 show ∃m,(if i<(bf g b i).length then((g ((bf g b i).getD i 0)).map (·.2)).foldl bD (bf g b i)else bf g b i)=_;split
 all_goals simp_all [C']
theorem Pf(g)(b i):∀d,∃m,bf g b (i+d)=bf g b i++m
 |0=>⟨[],by simp⟩
 |d+1=>by
  obtain⟨m1,h1⟩:=Pf g b i d;obtain⟨m2,h2⟩:=DL g b (i+d)
  grind
theorem BO(g)(b):∀i,(bf g b i).Nodup
 |0=>by simp[bf]
 |i+1=>by
  unfold bf;split
  .exact NW _ (BO g b i)
  .exact BO g b i
theorem uX{B:Nat->Prop}(h0:B b)(hs:∀x,B x->∀p∈g x,B p.2):∀i,∀x∈bf g b i,B x
 |0=>λx hx=>by
  grind [bf]
 |i+1=>by
  unfold bf;split
  .rename_i hi;refine Na _ _ (uX h0 hs i) λx hx=>?_
   obtain⟨p,hp,rfl⟩:=w0q.mp hx;refine hs _ (uX h0 hs i _ ?_) p hp
   grind
  .exact uX h0 hs i
def IY(g)(b i):∃m,bf g b i=b::m:=by
 obtain⟨m,h⟩:=Pf g b 0 i;rw[w1y]at h;exact⟨m,by rw[h];rfl⟩
def bP(T:List Nat)(s:List Pr):List Pr:=s.map λp=>(p.1,T.idxOf p.2)
def XD(h:∀p∈s,p.2∈T):bP (T++m) s=bP T s:=by
 grind [bP,List.map_congr_left]
theorem JM{g:Nat->List Pr}{b:Nat}:∀i,i<=(bf g b i).length->∀x∈(bf g b i).take i,∀p∈g x,p.2∈bf g b i
 |0,_,x,hx=>by simp at hx
 |i+1,hl,x,hx=>by
  obtain⟨m,hm⟩:=DL g b i;intro p hp
  by_cases hi:i<(bf g b i).length
  .have uH:x∈(bf g b i).take (i+1):=by
    grind
   rw[w2w hi]at uH;rcases w3l.mp uH with z|z
   .rw[hm];exact w2a _ (JM i (by omega) x z p hp)
   .rw[w1g]at z;subst z;unfold bf;rw[if_pos hi]
    grind [NV]
  .have e:bf g b (i+1)=bf g b i:=by
    simp_all [bf,if_neg]
   rw[e]at hl;omega
def Rj(hi:i<(bf g b i).length):((bf g b (i+1)).take (i+1)).map (λx=>bP (bf g b (i+1)) (g x))=((bf g b i).take i).map (λx=>bP (bf g b i) (g x))++[bP (bf g b (i+1)) (g ((bf g b i).getD i 0))]:=by
 obtain⟨m,hm⟩:=DL g b i;have e:(bf g b i).getD i 0=(bf g b i)[i]:=by simp[List.getD,hi]
 have h1:(bf g b (i+1)).take (i+1)=(bf g b i).take i++[(bf g b i)[i]]:=by
  grind [List.take_succ_eq_append_getElem]
 rw[h1,w0x,e];congr 1;refine w1m λx hx=>?_
 rw[hm];exact XD (JM i (by omega) x hx)
theorem NX:∀{ks:List Nat},k∈ks->l' (k:Int) (ks.map λk:Nat=>(k:Int))=some (ks.idxOf k)
 |[],h=>nomatch h
 |y::ks,h=>by
  show(if(y:Int)=(k:Int)then some 0 else(l' (k:Int) (ks.map λk:Nat=>(k:Int))).map (·+1))=_
  by_cases e:y=k
  .grind
  .rw[if_neg (by omega),NX ((w0e.mp h).resolve_left λz=>e z.symm),List.idxOf_cons,beq_false_of_ne e]
   rfl
def bL(k:Nat):W:=.int (k:Int)
def bC(ks:List Nat):W:=.lst (ks.map bL)
theorem Qo:∀bs:List Bool,hW (bs.map .bl)=some (bs.map .bl)
 |[]=>rfl
 |b::bs=>by
  show(match xP (.bl b),hW (bs.map .bl)with|some k,some ks=>some (k::ks)|_,_=>none)=_;rw[Qo bs];rfl
def gB(ks:List Nat)(p:Pr):W:=.tup [bQ p.1,bL (ks.getD p.2 0)]
def Rk(ks)(p):xP (gB ks p)=some (oC ks p):=by
 show(hW [bQ p.1,bL (ks.getD p.2 0)]).map Kx.tup=_
 have e:hW [bQ p.1,bL (ks.getD p.2 0)]=some [.tup (p.1.map .bl),.int ((ks.getD p.2 0:Nat):Int)]:=by
  show(match(hW (p.1.map .bl)).map Kx.tup,(some [Kx.int ((ks.getD p.2 0:Nat):Int)]:Option (List Kx))with|some k,some ks=>some (k::ks)|_,_=>none)=_;rw[Qo];rfl
 rw[e];rfl
theorem P_(ks):∀s:List Pr,hW (s.map (gB ks))=some (s.map (oC ks))
 |[]=>rfl
 |p::s=>by
  show(match xP (gB ks p),hW (s.map (gB ks))with|some k,some ks=>some (k::ks)|_,_=>none)=_;rw[Rk,P_ ks s];rfl
def JD(ks)(s):j0 (.tup (s.map (gB ks)))=some (stK ks s):=by
 show(hW (s.map (gB ks))).map Kx.tup=_;rw[P_];rfl
theorem Pg:∀bs:List Bool,lK (bs.map .bl) .bl
 |[]=>trivial
 |_::bs=>⟨trivial,Pg bs⟩
theorem Qa:∀bs:List Bool,Kx.de (bs.map .bl)=0
 |[]=>rfl
 |b::bs=>by show max 0 (Kx.de (bs.map .bl))=0;rw[Qa bs];rfl
def IZ(ks)(s):fits (stK ks s) (.many (.tup [.many .bl,.int])):=by
 have h1:∀s:List Pr,lK (s.map (oC ks)) (.tup [.many .bl,.int]):=λs=>by
  induction s with
  |nil=>trivial
  |cons p s ih=>exact⟨⟨Pg p.1,trivial,trivial⟩,ih⟩
 have h2:∀s:List Pr,Kx.de (s.map (oC ks))<=2:=λs=>by
  induction s with
  |nil=>exact w1a _
  |cons p s ih=>
   show max (max (Kx.de (p.1.map .bl)+1) (max 0 0)+1) (Kx.de (s.map (oC ks)))<=2;rw[Qa];omega
 refine⟨h1 s,?_⟩;show Kx.de (s.map (oC ks))+1<=7;have:=h2 s;omega
def Dj(c:Mc)(ks:List Nat)(j:Nat):List Kx:=((c.ag.take j).map (stK ks)).foldl b9 []
def OH(h):Dj c ks (j+1)=b9 (Dj c ks j) (stK ks c.ag[j]):=by
 grind [Dj,M9]
def z9r(j):(Dj c ks j).length<=j:=by
 grind [fE,Dj]
def z9s(h:x∈Dj c ks j):posK ((c.ag.map (stK ks)).foldl b9 []) x=posK (Dj c ks j) x:=by
 have e:(c.ag.map (stK ks)).foldl b9 []=(((c.ag.drop j).map (stK ks)).foldl b9 (Dj c ks j)):=by
  grind [Dj,List.take_append_drop]
 rw[e];obtain⟨m,hm⟩:=Ik ((c.ag.drop j).map (stK ks)) (Dj c ks j)
 grind [Ih]
def pZ(c:Mc)(ks:List Nat)(s:List Pr):Nat:=posK ((c.ag.map (stK ks)).foldl b9 []) (stK ks s)
def wN{ks:List Nat}(h:i<ks.length):bY (ks.map bL) (i:Int)=some (bL (ks.getD i 0)):=by
 grind [tG]
def XE{c:Mc}(h:(c.ag.map aB)[j]?=some w):∃hj:j<c.ag.length,w=aB c.ag[j]:=by
 grind
def XF(n)(c)(hc:c.Og)(ks)(hk:ks.length=c.ag.length)(j)(hj)(out)(ho:out.length<=1000)(w0)(z5):
  ∃sf,CF K a (run K a n) [.fr w0,.fr (bC ks),.dw (.many (.tup [.many .bl,.int])) (Dj c ks j) (ee 0 (Dj c ks j).length),.own none (out.map bL),.fr (aB c.ag[j]),z5] =
   .nx [.fr w0,.fr (bC ks),.dw (.many (.tup [.many .bl,.int])) (Dj c ks (j+1)) (ee 0 (Dj c ks (j+1)).length),.own none ((out++[pZ c ks c.ag[j]]).map bL),.fr (aB c.ag[j]),sf]:=by
 have jt:=hc.mo;have hs:=hc.st _ (w1n hj);have xN:=hc.pr _ (w1n hj);have p8:2^c.m<=8:=w0s (w0o (by decide) hc.lX) (by decide);have lI:=Pc (Dj c ks j) (stK ks c.ag[j]);have i3:=z9s (c:=c) (ks:=ks) (j:=j+1) (x:=stK ks c.ag[j]) (by grind [OH]);have Kv:=z9r (c:=c) (ks:=ks) j;have uG:=OH (c:=c) (ks:=ks) hj;generalize jY:c.ag[j]=s at *
 have zR:List.map (λp:W×W=>W.tup [p.1,(bh (bC ks) p.2).getD .aE]) (List.filter (λ_=>true) (s.map λp=>(bQ p.1,W.int (p.2:Int))))=s.map (gB ks):=by
  rw[w3n.mpr (λ_ _=>rfl),w0t]
  refine w1m λp hp=>?_
  show W.tup [bQ p.1,(bY (ks.map bL) (p.2:Int)).getD .aE]=gB ks p;rw[wN (by grind)];rfl
 unfold CF;unfold aB;rw?;rw[C4];rw?;rw[if_pos (by grind)];simp only[d5,j6,w0f,w0k];rw[Hu (q:=λ_=>true) (g:=λp=>.tup [p.1,(bh (bC ks) p.2).getD .aE])]
 .rw?;rw[zR,z8y (JD ks s) (IZ ks s),Ds]
  have app:∀D:List Kx,D=b9 (Dj c ks j) (stK ks s)->∃sf,(fZ 3 (ae (bW (av vY (af 2) (af 5))) ah)) [.fr w0,.fr (bC ks),.dw (.many (.tup [.many .bl,.int])) D (ee 0 D.length),.own none (out.map bL),.fr (.lst (s.map bg)),.fr (.tup (s.map (gB ks)))] =
    .nx [.fr w0,.fr (bC ks),.dw (.many (.tup [.many .bl,.int])) (Dj c ks (j+1)) (ee 0 (Dj c ks (j+1)).length),.own none ((out++[pZ c ks s]).map bL),.fr (.lst (s.map bg)),sf]:=by
   rintro D rfl;rw?;rw[Q9 (JD ks s) (IZ ks s),Ds,if_pos lI];rw?;rw[if_pos (by grind),uG];refine⟨.fr (.tup (s.map (gB ks))),?_⟩;rw[uG]at i3;rw[<- i3,w0x];rfl
  by_cases hm:stK ks s∈Dj c ks j
  .rw[if_pos hm];have e:b9 (Dj c ks j) (stK ks s)=Dj c ks j:=if_pos hm;have q:=app (Dj c ks j) e.symm;revert q;rw?;exact id
  .rw[if_neg hm];have e:b9 (Dj c ks j) (stK ks s)=Dj c ks j++[stK ks s]:=if_neg hm;have q:=app _ e.symm;revert q;rw?;intro q;rw[ZU (JD ks s) (by omega) (by rfl) (IZ ks s) (by rw[Ds,if_neg hm])];rw?;rw[show ee 0 (Dj c ks j).length++[W.int ((Dj c ks j).length:Int)]=ee 0 (Dj c ks j++[stK ks s]).length by rw[w1x];have:=M_ (Dj c ks j).length 0;grind];exact q
 .intro q hq;obtain⟨p,hp,rfl⟩:=w0q.mp hq;refine⟨_,rfl,λ_=>?_⟩
  unfold Li bC;rw?;rw[wN (by grind)];rw?;exact⟨_,rfl⟩
def Nb(n)(c)(hc:c.Og)(ks)(hk:ks.length=c.ag.length):run K a (n+1) Ct [.lst (c.ag.map aB),bC ks]=.ok (.own none ((fin c ks).map bL)):=by
 have jt:=hc.mo;rw[Ur];unfold Gp;rw?
 obtain⟨e',h1,z4,z5,h2⟩:=Jt (b:=CF K a (run K a n)) (i:=4) (λj e=>∃z4 z5,e=[.fr (.lst (c.ag.map aB)),.fr (bC ks),.dw (.many (.tup [.many .bl,.int])) (Dj c ks j) (ee 0 (Dj c ks j).length),.own none (((c.ag.take j).map (pZ c ks)).map bL),z4,z5]) (c.ag.map aB) 0 [.fr (.lst (c.ag.map aB)),.fr (bC ks),.dw (.many (.tup [.many .bl,.int])) [] [],.own none [],.no,.no] ⟨_,_,rfl⟩ (by
  rintro j w e hw ⟨z4,z5,rfl⟩;obtain⟨hj,rfl⟩:=XE hw;rw[w1y]at *;obtain⟨sf,q⟩:=XF (K:=K) (a:=a) n c hc ks hk j hj ((c.ag.take j).map (pZ c ks)) (by simp;omega) _ z5;refine⟨_,q,.fr (aB c.ag[j]),sf,?_⟩;rw[M9 hj,w0x (f:=pZ c ks)];rfl)
 rw[h1,h2];rw?;rw[w0a,w2x (by omega)];rfl
def i6(c:Mc)(t:Nat):List W:=(List.range (t+1)).map λs=>bC (cm c s)
def Nd(c)(t):i6 c (t+1)=i6 c t++[bC (cm c (t+1))]:=by
 grind [i6,List.range_succ]
def YV(c)(t):(i6 c t).length=t+1:=by unfold i6;simp
def I_{x:α}:bY (l++[x]) (-1)=some x:=by
 unfold bY gG;rw[if_neg (by decide),if_pos (by simp;omega)];have e:(-1+((l++[x]).length:Int)).toNat=l.length:=by simp;omega
 simp_all
def Ng(c)(t):bY (i6 c t) (-1)=some (bC (cm c t)):=by
 cases t with
 |zero=>exact I_ (l:=[])
 |succ t=>rw[Nd];exact I_
def QY(m:Nat)(h:m<=1000):o9 (.lst [.int 0]) (.int (m:Int))=some (bC (List.replicate m 0)):=by
 rw[z8f,if_pos ⟨pq (by omega) (by omega),by simp;omega⟩,w1o]
 simp_all [bC,bL]
theorem Qb(hc:c.Og)(t):cm c t≠[]:=λh=>by
 grind [rT,Mc.Og.pos]
def lP(c:Mc)(L:Nat):Prop:=∀i j,i<c.ag.length->j<c.ag.length->kd c L i=kd c L j->kd c (L+1) i=kd c (L+1) j
theorem NY{c:Mc}(hc:c.Og){L:Nat}(h:lP c L):∀(t i j:Nat),i<c.ag.length->j<c.ag.length->kd c L i=kd c L j->kd c t i=kd c t j
 |0,i,j,_,_,_=>by rw[wL,wL]
 |t+1,i,j,hi,hj,e=>by
  have e1:=(wM hc hi hj).mp (h i j hi hj e);exact(wM hc hi hj).mpr λr hr=>⟨(e1 r hr).1,NY hc h t _ _ (ye hc hi hr) (ye hc hj hr) (e1 r hr).2⟩
theorem Nh:∀(xs D:List Kx),(∀k,k<D.length->∃x∈D,posK D x=k)->∀k,k<(xs.foldl b9 D).length->∃x∈xs.foldl b9 D,posK (xs.foldl b9 D) x=k
 |[],D,h=>h
 |y::xs,D,h=>by
  rw[w2c];refine Nh xs (b9 D y) λk hk=>?_
  unfold b9 at hk |-
  by_cases hy:y∈D
  .grind
  .rw[if_neg hy]at hk |-
   by_cases rL:k<D.length
   .obtain⟨x,hx,e⟩:=h k rL;exact⟨x,w2a _ hx,by rw[Ih hx,e]⟩
   grind [NH]
theorem Ni:∀(xs D:List Kx),∀x∈xs.foldl b9 D,x∈D\/x∈xs
 |[],D,x,h=>.inl h
 |y::xs,D,x,h=>by
  rw[w2c]at h;rcases Ni xs (b9 D y) x h with z|z
  all_goals grind [b9]
def yf(h:i<c.ag.length):kd c t i∈cm c t:=by
 grind [rT,kd]
def Qc(h:k∈cm c t):∃i,i<c.ag.length/\kd c t i=k:=by
 obtain⟨i,hi,e⟩:=w2r h;refine⟨i,by grind [rT],?_⟩
 grind [kd]
theorem YW{c:Mc}(hc:c.Og):∀(t:Nat){M k:Nat},M∈cm c t->k<=M->∃i,i<c.ag.length/\kd c t i=k
 |0,M,k,hM,hk=>by
  have e:M=0:=w3x hM;exact⟨0,hc.pos,by rw[wL];omega⟩
 |t+1,M,k,hM,hk=>by
  have B5:M∈fin c (cm c t):=hM;unfold fin at B5;obtain⟨s,hs,e⟩:=w0q.mp B5;have h1:=Pb (AX (c.ag.map (stK (cm c t))) [] _ (w1v hs));obtain⟨x,hx,e2⟩:=Nh (c.ag.map (stK (cm c t))) [] (λk hk=>by simp at hk) k (by omega)
  rcases Ni _ _ x hx with z|z
  .simp at z
  .obtain⟨s',ph,rfl⟩:=w0q.mp z;refine Qc (t:=t+1) ?_
   grind [fin,cm]
def Z1  (hc:c.Og)  (hM:M∈cm c L)(Kj:∀k∈cm c L,k<=M)(Kl:∀k∈cm c (L+1),k<=M')(hle:M'<=M):lP c L:=by
 have T8:=λk (hk:k<=M)=>YW hc L hM hk
 let rep:Nat->Nat:=λk=>Classical.epsilon λi=>i<c.ag.length/\kd c L i=k
 have sP:∀k,k<=M->rep k<c.ag.length/\kd c L (rep k)=k:=λk hk=>Classical.epsilon_spec (p:=λi=>i<c.ag.length/\kd c L i=k) (T8 k hk)
 have Ce:((List.range (M+1)).map λk=>kd c (L+1) (rep k)).Nodup:=by
  refine w3v.mpr (List.Pairwise.imp_of_mem (R:=(·≠·)) ?_ List.nodup_range);intro x y hx hy i0 e;refine i0 ?_;have hx:=sP x (by have:=w0z.mp hx;omega);have hy:=sP y (by have:=w0z.mp hy;omega);have:=He hc L hx.1 hy.1 e;rw[hx.2,hy.2]at this;exact this
 have key:∀i,i<c.ag.length->kd c (L+1) i=kd c (L+1) (rep (kd c L i)):=λi hi=>by
  have hm:=z9p (n:=M+1) Ce (λx hx=>by
   obtain⟨k,hk,rfl⟩:=w0q.mp hx;have hk:=sP k (by have:=w0z.mp hk;omega);have:=Kl _ (yf (t:=L+1) hk.1);omega) (by simp) (y:=kd c (L+1) i) (by have:=Kl _ (yf (t:=L+1) hi);omega)
  obtain⟨k,hk,e⟩:=w0q.mp hm;have hk:=sP k (by have:=w0z.mp hk;omega);have:=He hc L hk.1 hi e;rw[hk.2]at this;rw[<- this];exact e.symm
 intro i j hi hj e;rw[key i hi,key j hj,e]
def Qd(h:ks≠[]):∃M:Nat,k_ [bC ks]=some (.int (M:Int))/\M∈ks/\∀k∈ks,k<=M:=by
 cases ks with
 |nil=>exact absurd rfl h
 |cons k ks=>
  have e:k_ [bC (k::ks)]=some (.int (e7 (k:Int) (ks.map λx:Nat=>(x:Int)))):=by
   have:=z8x (n:=(k:Int)) (ns:=ks.map λx:Nat=>(x:Int))
   rw[w0l,w0t]at this;exact this
  obtain⟨h1,h2,h3⟩:=Jj (ks.map λx:Nat=>(x:Int)) (k:Int)
  have vJ:∀M:Nat,e7 (k:Int) (ks.map λx:Nat=>(x:Int))=(M:Int)->∀x∈k::ks,x<=M:=λM hM x hx=>by
   rcases w0e.mp hx with rfl|hx
   all_goals simp_all
  grind
def rep(c:Mc)(L k:Nat):Nat:=(cm c L).idxOf k
def tI(h:k∈cm c L):rep c L k<c.ag.length:=by
 rw[<- rT c L];exact Ri h
theorem Qe(h:k∈cm c L):kd c L (rep c L k)=k:=P9 h
def fm(c:Mc)(L k:Nat):List Pr:=(c.ag.getD (rep c L k) []).map λp=>(p.1,kd c L p.2)
theorem OI(hc:c.Og)(h:k∈cm c L):∀p∈fm c L k,p.2∈cm c L:=λp hp=>by
 unfold fm at hp;obtain⟨q,hq,rfl⟩:=w0q.mp hp;exact yf (hc.pr _ (lq (tI h)) q hq).2
def qt(c:Mc)(L:Nat)(T:List Nat):Mc:=⟨c.m,c.wide,T.map λk=>bP T (fm c L k)⟩
structure Cl(c:Mc)(L:Nat)(T:List Nat):Prop where
 nd:T.Nodup
 mem:∀k∈T,k∈cm c L
 pos:0<T.length
 cl:∀k∈T,∀p∈fm c L k,p.2∈T
theorem Cl.len(hc:c.Og)(h:Cl c L T):T.length<=c.ag.length:=wV _ h.nd λk hk=>DK hc.pos L k (h.mem k hk)
theorem Cl.ok(hc:c.Og)(h:Cl c L T):(qt c L T).Og where
 lX:=hc.lX
 wg:=hc.wg
 pos:=by show 0<(T.map _).length;grind [pos]
 mo:=by
  show(T.map _).length<=700;rw[w0a];have:=h.len hc;have:=hc.mo;omega
 st:=λs hs=>by
  obtain⟨k,hk,rfl⟩:=w0q.mp hs;unfold bP fm;rw[w0a,w0a];exact hc.st _ (lq (tI (h.mem k hk)))
 pr:=λs hs p hp=>by
  obtain⟨k,hk,rfl⟩:=w0q.mp hs;have KL:=hp;unfold bP at hp;obtain⟨q,hq,rfl⟩:=w0q.mp hp;have h2:=h.cl k hk q hq;unfold fm at hq;obtain⟨q',Sy,rfl⟩:=w0q.mp hq;refine⟨(hc.pr _ (lq (tI (h.mem k hk))) q' Sy).1,?_⟩;show _<(T.map _).length
  grind
def nD:Nat->List Nat->List (Key×Sv)
 |_,[]=>[]
 |o,x::T=>(.inl (x:Int),.inl (o:Int))::nD (o+1) T
theorem OJ:∀(T:List Nat)(o:Nat),nD o (T++[x])=nD o T++[(.inl (x:Int),.inl ((o+T.length:Nat):Int))]
 |[],o=>rfl
 |y::T,o=>by
  show _::nD (o+1) (T++[x])=_::(nD (o+1) T++_);rw[OJ T (o+1),show o+1+T.length=o+(y::T).length by simp;omega]
theorem Qf:∀(T:List Nat)(o:Nat),(nD o T).length=T.length
 |[],_=>rfl
 |_::T,o=>by show(nD (o+1) T).length+1=_;rw[Qf T];rfl
theorem JN{x:Nat}:∀(T:List Nat)(o:Nat),lk (nD o T) (.inl (x:Int))=if x∈T then some (.inl ((o+T.idxOf x:Nat):Int))else none
 |[],o=>by rw[if_neg (by simp)];rfl
 |y::T,o=>by
  unfold lk;rw[nD,w1u]
  by_cases e:y=x
  .subst e;simp
  .rw[decide_eq_false (λz=>e (by grind))]
   show lk (nD (o+1) T) (.inl (x:Int))=_;rw[JN T (o+1)]
   grind
def z9t{T:List Nat}(h:x∉T):putL (nD 0 T) (.inl (x:Int)) (.inl (T.length:Int))=nD 0 (T++[x]):=by
 have e:∀(T:List Nat)(o:Nat),x∉T->((nD o T).any λp=>decide (p.1=.inl (x:Int)))=false:=λT=>by
  induction T with
  |nil=>intro _ _;rfl
  |cons y T ih=>
   intro o h;show(decide ((Sum.inl (y:Int):Key)=.inl (x:Int))||(nD (o+1) T).any _)=false
   grind
 unfold putL;rw[if_neg (by grind),OJ,w1y]
theorem YX{n:Int}:jC i (.int m) (.int n) e (some (.a8 (.k kvs)))=if kvs.length<16777216/\mv i e=true then .nx (e.set i (.a8 (.k (putL kvs (.inl n) (.inl m)))))else .no:=rfl
def XG(r)(w0 w1)(T)(hT:T.length<=1000)(bF)(z5)(st:List Pr)(jY:st.length<=1000)(t)(f:Nat):
  xV K a r [.fr w0,.fr w1,.own none (T.map bL),.a8 (.k (nD 0 T)),.own none bF,.fr z5,.own none (st.map bg),.fr (bQ t),.fr (.int (f:Int))] =
   .nx [.fr w0,.fr w1,.own none ((bD T f).map bL),.a8 (.k (nD 0 (bD T f))),.own none bF,.fr z5,.own none ((st++[(t,(bD T f).idxOf f)]).map bg),.fr (bQ t),.fr (.int (f:Int))]:=by
 unfold xV;rw?;rw[JN]
 by_cases h:f∈T
 .have e:bD T f=T:=if_pos h;rw[if_pos h,if_neg (by simp)];rw?;rw[if_pos (by rfl),if_pos (by grind),w0x,e];rfl
 .have e:bD T f=T++[f]:=if_neg h;rw[if_neg h,if_pos (by rfl),YX,if_pos ⟨by rw[Qf];omega,by rfl⟩,w0a,z9t h];rw?;rw[if_pos (by grind)];rw?;rw[JN,if_pos (by simp)];rw?;rw[if_pos (by rfl),if_pos (by grind),w0x,e,w0x];rfl
theorem NZ(r:Nat->List W->FR)(w0 w1:W)(bF:List W)(z5:W):∀(ps:List Pr)(T:List Nat)(st:List Pr)(z7 z8:S),T.length+ps.length<=1000->st.length+ps.length<=100 ->
  ∃yt D7,df 7 8 (xV K a r) (ps.map λp=>(bQ p.1,W.int (p.2:Int))) [.fr w0,.fr w1,.own none (T.map bL),.a8 (.k (nD 0 T)),.own none bF,.fr z5,.own none (st.map bg),z7,z8] =
   .nx [.fr w0,.fr w1,.own none (((ps.map (·.2)).foldl bD T).map bL),.a8 (.k (nD 0 ((ps.map (·.2)).foldl bD T))),.own none bF,.fr z5,.own none ((st++bP ((ps.map (·.2)).foldl bD T) ps).map bg),yt,D7]
 |[],T,st,z7,z8,_,_=>⟨z7,z8,by show SR.nx _=_;simp[bP]⟩
 |p::ps,T,st,z7,z8,h1,h2=>by
  have q:=XG (K:=K) (a:=a) r w0 w1 T (by simp at h1;omega) bF z5 st (by simp at h2;omega) p.1 p.2;have hl:(bD T p.2).length<=T.length+1:=by unfold bD;split<;>simp
  obtain⟨yt,D7,g⟩:=NZ r w0 w1 bF z5 ps (bD T p.2) (st++[(p.1,(bD T p.2).idxOf p.2)]) (.fr (bQ p.1)) (.fr (.int (p.2:Int))) (by simp at h1;omega) (by simp at h2 |-;omega);refine⟨yt,D7,?_⟩;show(xV K a r [.fr w0,.fr w1,.own none (T.map bL),.a8 (.k (nD 0 T)),.own none bF,.fr z5,.own none (st.map bg),.fr (bQ p.1),.fr (.int (p.2:Int))]).dm (df 7 8 (xV K a r) (ps.map λp=>(bQ p.1,W.int (p.2:Int))))=_
  rw[q];rw?;rw[g];show _=SR.nx [.fr w0,.fr w1,.own none (((ps.map (·.2)).foldl bD (bD T p.2)).map bL),.a8 (.k (nD 0 ((ps.map (·.2)).foldl bD (bD T p.2)))),.own none bF,.fr z5,.own none ((st++bP ((ps.map (·.2)).foldl bD (bD T p.2)) (p::ps)).map bg),yt,D7];obtain⟨m,hm⟩:=C' (ps.map (·.2)) (bD T p.2)
  have e:(st++[(p.1,(bD T p.2).idxOf p.2)])++bP ((ps.map (·.2)).foldl bD (bD T p.2)) ps=st++bP ((ps.map (·.2)).foldl bD (bD T p.2)) (p::ps):=by
   unfold bP;rw[w0l,w3b];congr 2;rw[hm,z9q (Pe T p.2)];rfl
  rw[e]
structure kK(K:Fg)(a:aP)(n:Nat)(j:Nat)(l:Lm)(aK:List W)(g:Nat->List Pr)(B:Nat->Prop):Prop where
 call:∀x,B x->∀e,ir bR (run K a n) j l aK [.int (x:Int)] e=.ok (aB (g x)) e
 next:∀x,B x->∀p∈g x,B p.2
 lX:∀x,B x->x<700
 len:∀x,B x->(g x).length<=8
def jS(w0 w1:W)(g:Nat->List Pr)(b i:Nat)(z5 z6 z7 z8:S):List S:=[.fr w0,.fr w1,.own none ((bf g b i).map bL),.a8 (.k (nD 0 (bf g b i))),.own none ((((bf g b i).take i).map λx=>bP (bf g b i) (g x)).map aB),z5,z6,z7,z8]
theorem Nj(n:Nat){l:Lm}{aK:List W}{g:Nat->List Pr}{B:Nat->Prop}(H:kK K a n j l aK g B)(w0:W)(b:Nat)(hb:B b):∀(fuel i:Nat)(z5 z6 z7 z8:S),i<=(bf g b i).length->701<=i+fuel ->
  ∃(I:Nat)(y5 y6 y7 y8:S),(bf g b I).length=I/\bI (C1 K a (run K a n)) (C2 K a (run K a n)) (fuel+1) (jS w0 (.fn j l aK) g b i z5 z6 z7 z8)=.nx (jS w0 (.fn j l aK) g b I y5 y6 y7 y8)
 |0,i,z5,z6,z7,z8,hi,hf=>by
  have:=wV 700 (BO g b i) (λx hx=>H.lX x (uX hb H.next i x hx))
  omega
 |fuel+1,i,z5,z6,z7,z8,hi,hf=>by
  have hl:=wV 700 (BO g b i) (λx hx=>H.lX x (uX hb H.next i x hx))
  have ht:(((bf g b i).take i).map λx=>bP (bf g b i) (g x)).length=i:=by grind
  have hw:C1 K a (run K a n) (jS w0 (.fn j l aK) g b i z5 z6 z7 z8)=.ok (decide (i<(bf g b i).length)) (jS w0 (.fn j l aK) g b i z5 z6 z7 z8):=by
   unfold C1 jS;rw?
   simp_all
  rw[AZ,hw]
  by_cases h:i<(bf g b i).length
  .have hB:B ((bf g b i).getD i 0):=uX hb H.next i _ (by grind);have hgl:=H.len _ hB
   have he:bf g b (i+1)=((g ((bf g b i).getD i 0)).map (·.2)).foldl bD (bf g b i):=by
    simp_all [bf]
   obtain⟨y7,y8,q⟩:=NZ (K:=K) (a:=a) (run K a n) w0 (.fn j l aK) ((((bf g b i).take i).map λx=>bP (bf g b i) (g x)).map aB) (.int ((bf g b i).getD i 0:Int)) (g ((bf g b i).getD i 0)) (bf g b i) [] z7 z8 (by omega) (by grind)
   rw[<- he]at q
   have RY:C2 K a (run K a n) (jS w0 (.fn j l aK) g b i z5 z6 z7 z8)=.nx (jS w0 (.fn j l aK) g b (i+1) (.fr (.int ((bf g b i).getD i 0:Int))) (.fr (aB (bP (bf g b (i+1)) (g ((bf g b i).getD i 0))))) y7 y8):=by
    unfold C2 jS;rw?;rw[w0a,ht,wN h];unfold bL at q |-
    rw?;rw[H.call _ hB];unfold aB at q |-
    rw?;rw[C4];rw?;rw[show([]:List W)=([]:List Pr).map bg from rfl,q];rw?;rw[if_pos (by grind),Rj h,w0x];rfl
   rw[decide_eq_true h];rw?;rw[RY];rw?;obtain⟨m,hm⟩:=DL g b i
   exact Nj n H w0 b hb fuel (i+1) _ _ _ _ (by
    grind) (by omega)
  .rw[decide_eq_false h];rw?
   grind
def N0(n)(H:kK K a n j l aK g B)(b)(hb:B b):∃I:Nat,(bf g b I).length=I /\
  run K a (n+1) C7 [.int (b:Int),.fn j l aK]=.ok (.fr (.tup [.lst (((bf g b I).map λx=>bP (bf g b I) (g x)).map aB),.lst ((bf g b I).map bL)])):=by
 rw[VE];unfold G_;rw?;obtain⟨I,y5,y6,y7,y8,h1,h2⟩:=Nj (K:=K) (a:=a) n H (.int (b:Int)) b hb 999999 0 .no .no .no .no (by simp) (by omega);rw[show(1000000:Nat)=999999+1 from rfl];have e:([S.fr (W.int (b:Int)),.fr (.fn j l aK),.own none [W.int (b:Int)],.a8 (.k [(.inl (b:Int),.inl 0)]),.own none [],.no,.no,.no,.no]:List S)=jS (.int (b:Int)) (.fn j l aK) g b 0 .no .no .no .no:=rfl;rw[e,h2];unfold jS;rw?
 grind
theorem z9u(t)(hi:i<c.ag.length):bY ((cm c t).map bL) (i:Int)=some (.int ((kd c t i:Nat):Int)):=wN (by rw[rT];exact hi)
def Ws(n:Nat)(c:Mc)(hc:c.Og):∀(fuel t M:Nat),k_ [bC (cm c t)]=some (.int (M:Int))->M∈cm c t->(∀k∈cm c t,k<=M)->t<=M->M<c.ag.length->c.ag.length<=t+fuel ->
  ∃(L:Nat)(z:S),lP c L/\L<c.ag.length/\bI (Cq K a (run K a (n+1))) (FT K a (run K a (n+1))) (fuel+1) [.fr (.lst (c.ag.map aB)),.own none (i6 c t),.fr (bC (cm c (t+1)))]=.nx [.fr (.lst (c.ag.map aB)),.own none (i6 c L),z]:=by
 intro fuel
 induction fuel with
 |zero=>grind
 |succ fuel ih=>
  intro t M h1 RM Kj h2 h3 h4;have jt:=hc.mo;obtain⟨M',m1,m2,m3⟩:=Qd (Qb hc (t+1));have B5:=DK hc.pos (t+1) M' m2
  have hw:Cq K a (run K a (n+1)) [.fr (.lst (c.ag.map aB)),.own none (i6 c t),.fr (bC (cm c (t+1)))]=.ok (decide ((M:Int)<(M':Int))) [.fr (.lst (c.ag.map aB)),.own none (i6 c t),.fr (bC (cm c (t+1)))]:=by
   unfold Cq;rw?;rw[m1];rw?;rw[Ng];rw?;rw[h1];rw?
  rw[AZ,hw];rw?
  by_cases cb:(M:Int)<(M':Int)
  .rw[if_pos cb];unfold FT;rw?;rw[if_pos (by rw[YV];omega)];rw?;rw[Nb n c hc (cm c (t+1)) (rT c (t+1))];rw?;have q:=ih (t+1) M' m1 m2 m3 (by omega) B5 (by omega);rw[Nd]at q;exact q
  .rw[if_neg cb];exact⟨t,_,Z1 hc RM Kj m3 (by omega),by omega,rfl⟩
def YY(n)(c)(hc:c.Og):∃L:Nat,lP c L/\L<c.ag.length/\run K a (n+2) FU [.lst (c.ag.map aB)]=.ok (.own none (i6 c L)):=by
 have jt:=hc.mo;have i3:=hc.pos;rw[Tp];unfold FV;rw?;rw[w0a,QY _ (by omega)];rw?;rw[show bY [bC (List.replicate c.ag.length 0)] (-1)=some (bC (cm c 0)) by exact I_ (l:=[])];rw?;rw[Nb n c hc (cm c 0) (rT c 0)];rw?;obtain⟨M,m1,m2,m3⟩:=Qd (Qb hc 0);have hM:=DK hc.pos 0 M m2;obtain⟨L,z,q0,q1,q2⟩:=Ws (K:=K) (a:=a) n c hc 999999 0 M m1 m2 m3 (by omega) hM (by omega);have e:([bC (List.replicate c.ag.length 0)]:List W)=i6 c 0:=rfl;rw[e];rw[show(W.lst (List.map bL (fin c (cm c 0))))=bC (cm c 1)from rfl];rw[show(1000000:Nat)=999999+1 from rfl];rw[q2];rw?
 grind
theorem OK:∀ks:List Nat,dZ (ks.map bL)=some (ks.map λk:Nat=>(k:Int))
 |[]=>rfl
 |k::ks=>by
  show(dZ (ks.map bL)).map _=_;rw[OK ks];rfl
def Nk{ks:List Nat}(h:k∈ks):iy (.lst (ks.map bL)) [.int (k:Int)]=some (.int ((ks.idxOf k:Nat):Int)):=by
 show(match dZ (ks.map bL)with
  |some ys=>match l' (k:Int) ys with
   |some j=>some (W.int (j:Int))
   |none=>none
  |none=>none)=_
 grind [OK,NX]
theorem Qp:∀bs:List Bool,bA (bs.map .bl)=true
 |[]=>rfl
 |b::bs=>by show(true&&bA (bs.map .bl))=true;rw[Qp bs];rfl
def QZ(p):noFn (bg p)=true:=by
 show(bA (p.1.map .bl)&&(true&&true))=true;rw[Qp];rfl
theorem DP{f:α->W}(h:∀x,noFn (f x)=true):∀l:List α,bA (l.map f)=true
 |[]=>rfl
 |x::l=>by show(noFn (f x)&&bA (l.map f))=true;rw[h x,DP h l];rfl
theorem Q0(s):noFn (aB s)=true:=DP QZ s
theorem DQ(l:List (List Pr)):noFn (.lst (l.map aB))=true:=DP Q0 l
theorem wm(ks:List Nat):noFn (.lst (ks.map bL))=true:=DP (λ_=>rfl) ks
def z9v(n)(c)(hc:c.Og)(L k)(hk:k∈cm c L):run K a (n+1) F3 [.lst (c.ag.map aB),bC (cm c L),.int (k:Int)]=.ok (.own none ((fm c L k).map bg)):=by
 have hr:=tI hk;have hs:=lq hr;have xN:=hc.pr _ hs;have hl:=hc.st _ hs;have p8:2^c.m<=8:=w0s (w0o (by decide) hc.lX) (by decide);rw[Tw];unfold F6 bC;rw?;rw[Nk hk];rw?;rw[show(((cm c L).idxOf k:Nat):Int)=((rep c L k:Nat):Int)from rfl,yl hr];unfold fm;generalize c.ag.getD (rep c L k) []=s at *;unfold aB;rw?;rw[C4];rw?;rw[if_pos (by grind)];simp only[d5,j6,w0f,w0k];rw[Hu (q:=λ_=>true) (g:=λp=>.tup [p.1,(bh (bC (cm c L)) p.2).getD .aE])]
 .rw?;rw[w3n.mpr (λ_ _=>rfl),w0t,w0t]
  congr 2;refine w1m λp hp=>?_
  show W.tup [bQ p.1,(bY ((cm c L).map bL) (p.2:Int)).getD .aE]=_;rw[wN (by rw[rT];exact(xN p hp).2)];rfl
 .intro q hq;obtain⟨p,hp,rfl⟩:=w0q.mp hq;refine⟨_,rfl,λ_=>?_⟩
  unfold K7 bC;rw?;rw[wN (by rw[rT];exact(xN p hp).2)];rw?;exact⟨_,rfl⟩
theorem z9w(n)(c)(hc:c.Og)(L):kK K a (n+2) Gf xW [.lst (c.ag.map aB),bC (cm c L)] (fm c L) (·∈cm c L) where
 call:=λx hx e=>by
  refine MZ U_ rfl (by show(noFn (.lst (c.ag.map aB))&&(noFn (bC (cm c L))&&true))=true;grind [DQ,bC,wm]) ?_;show run K a (n+2) Gf [.int (x:Int),.lst (c.ag.map aB),bC (cm c L)]=_;rw[Ut];unfold Cv;rw?;rw[z9v n c hc L x hx];rw?;rfl
 next:=λx hx=>OI hc hx
 lX:=λx hx=>by
  have:=DK hc.pos L x hx;have:=hc.mo;omega
 len:=λx hx=>by
  have p8:2^c.m<=8:=w0s (w0o (by decide) hc.lX) (by decide);unfold fm;rw[w0a,hc.st _ (lq (tI hx))];exact p8
theorem z9x(n)(c:Mc)(hc:c.Og):kK K a (n+1) Gg xX [.lst (c.ag.map aB)] (λx=>c.ag.getD x []) (·<c.ag.length) where
 call:=λx hx e=>by
  refine MZ U' rfl (by show(noFn (.lst (c.ag.map aB))&&true)=true;rw[DQ];rfl) ?_;show run K a (n+1) Gg [.int (x:Int),.lst (c.ag.map aB)]=_;rw[Uu];unfold Cw;rw?;rw[yl hx];rw?;rfl
 next:=λx hx p hp=>(hc.pr _ (lq hx) p hp).2
 lX:=λx hx=>by
  have:=hc.mo;omega
 len:=λx hx=>by
  have p8:2^c.m<=8:=w0s (w0o (by decide) hc.lX) (by decide);rw[hc.st _ (lq hx)];exact p8
theorem D0(hc:c.Og)(h:(bf (fm c L) (kd c L 0) I).length=I):Cl c L (bf (fm c L) (kd c L 0) I) where
 nd:=BO _ _ _
 mem:=uX (B:=(·∈cm c L)) (yf hc.pos) (λx hx=>OI hc hx) I
 pos:=by
  obtain⟨m,e⟩:=IY (fm c L) (kd c L 0) I;rw[e];simp
 cl:=λk hk=>JM I (by omega) k (by grind)
theorem Z2(hc:c.Og)(hs:lP c L)(h:Cl c L T)(h0:kd c L 0∈T)(i):∀x∈bf (λx=>c.ag.getD x []) 0 i,x<c.ag.length/\kd c L x∈T:=
 uX (B:=λx=>x<c.ag.length/\kd c L x∈T) ⟨hc.pos,h0⟩ (λx hx p hp=>by
  have hl:=hc.st _ (lq hx.1);have Fd:=(hc.pr _ (lq hx.1) p hp).2;refine⟨Fd,?_⟩;obtain⟨r,hr,e⟩:=w2r hp;have hk:=yf (t:=L) hx.1
  have e1:nJ c x r=p.2:=by
   grind [nJ]
  have q:=((wM hc (tI hk) hx.1).mp (hs _ _ (tI hk) hx.1 (Qe hk)) r (by omega)).2;rw[e1]at q;rw[<- q];have E3:=hc.st _ (lq (tI hk));refine h.cl _ hx.2 (((c.ag.getD (rep c L (kd c L x)) []).getD r ([],0)).1,kd c L (nJ c (rep c L (kd c L x)) r)) ?_
  grind [fm,nJ]) i
def Z3(m:Nat)(h:m<=1000):tK (.lst [.aE]) (.int (m:Int))=some (List.replicate m .aE):=by
 show(if pk (m:Int)=true/\([W.aE]:List W).length*(m:Int).toNat<=16777216 then some (List.replicate (m:Int).toNat [W.aE]).flatten else none)=_;rw[if_pos ⟨pq (by omega) (by omega),by rw[w1o];simp;omega⟩,w1o,List.flatten_replicate_singleton]
def XI(n)(c)(L)(T:List Nat)(w0 w1 w3)(x)(hx:x<c.ag.length)(hk:kd c L x∈T)(ws)(hw:ws.length=c.ag.length):
  ∃ws':List W,ws'.length=c.ag.length/\C9 K a (run K a n) [.fr w0,.fr w1,.fr (bC (cm c L)),.fr (.tup [w3,.lst (T.map bL)]),.own none ws,.fr (.int (x:Int))]=.nx [.fr w0,.fr w1,.fr (bC (cm c L)),.fr (.tup [w3,.lst (T.map bL)]),.own none ws',.fr (.int (x:Int))]:=by
 unfold C9 bC;rw?;rw[z9u L hx];rw?;rw[Nk hk];rw?;rw[show gG ws.length (x:Int)=some x by simp_all [gG]];rw?
 grind
def XJ(n)(c)(hc:c.Og):∃(L I:Nat)(ws:List W),lP c L/\(bf (fm c L) (kd c L 0) I).length=I/\run K a (n+4) AV [aJ c]=.ok (.fr (.tup [aJ (qt c L (bf (fm c L) (kd c L 0) I)),.lst ws])):=by
 have jt:=hc.mo;have i3:=hc.pos;obtain⟨L,hS,hL,k1⟩:=YY (K:=K) (a:=a) (n+1) c hc;obtain⟨I,hI,c1⟩:=N0 (K:=K) (a:=a) (n+2) (z9w n c hc L) (kd c L 0) (yf hc.pos);obtain⟨J,hJ,c2⟩:=N0 (K:=K) (a:=a) (n+2) (z9x (n+1) c hc) 0 hc.pos;have f6:=D0 hc hI
 have h0:kd c L 0∈bf (fm c L) (kd c L 0) I:=by
  obtain⟨m,e⟩:=IY (fm c L) (kd c L 0) I;rw[e];simp
 have R3:=Z2 hc hS f6 h0 J;rw[Mu];unfold Dr;rw?;rw[XC (n+1) c hc];rw?;rw[uW];rw?;rw[k1];rw?;rw[Ng];rw?;rw[show bh (bC (cm c L)) (.int 0)=some (.int ((kd c L 0:Nat):Int))from wN (i:=0) (by rw[rT];exact i3)];rw?;generalize hT:bf (fm c L) (kd c L 0) I=T at *;rw[show c_ [1,2] [S.fr (aJ c),S.fr (W.lst (List.map aB c.ag)),S.fr (bC (cm c L)),S.no,S.no,S.no]=some [.lst (c.ag.map aB),bC (cm c L)]from rfl,K9,c1,M0 (by show(noFn (.lst ((T.map λx=>bP T (fm c L x)).map aB))&&(noFn (.lst (T.map bL))&&true))=true;rw[DQ,wm];rfl)]
 rw?;rw[w0a,Z3 _ (by omega)];rw?;rw[show ∀s3 s4:S,c_ [1] [S.fr (aJ c),S.fr (W.lst (List.map aB c.ag)),S.fr (bC (cm c L)),s3,s4,S.no]=some [.lst (c.ag.map aB)]from λ_ _=>rfl,K9]
 rw[show(W.int 0)=W.int ((0:Nat):Int)from rfl,c2,M0 (by show(noFn (.lst _)&&(noFn (.lst _)&&true))=true;rw[DQ,wm];rfl)];rw?
 obtain⟨e',f1,ws,z5,f2,rfl⟩:=IX (b:=C9 K a (run K a (n+3))) (i:=5) (λ_ e=>∃(ws:List W)(z5:S),ws.length=c.ag.length/\e=[S.fr (aJ c),S.fr (W.lst (List.map aB c.ag)),S.fr (bC (cm c L)),S.fr (W.tup [W.lst (List.map aB (List.map (λx=>bP T (fm c L x)) T)),W.lst (List.map bL T)]),S.own none ws,z5])
  (List.map bL (bf (λx=>c.ag.getD x []) 0 J)) 0 [S.fr (aJ c),S.fr (W.lst (List.map aB c.ag)),S.fr (bC (cm c L)),S.fr (W.tup [W.lst (List.map aB (List.map (λx=>bP T (fm c L x)) T)),W.lst (List.map bL T)]),S.own none (List.replicate c.ag.length W.aE),S.no] ⟨_,_,w2h,rfl⟩ (by
  rintro j w e hw ⟨ws,z5,h1,rfl⟩;obtain⟨x,hx,rfl⟩:=w0q.mp hw;obtain⟨x1,x2⟩:=R3 x hx;obtain⟨ws',w1,w2⟩:=XI (K:=K) (a:=a) (n+3) c L T (aJ c) (W.lst (List.map aB c.ag)) (W.lst (List.map aB (List.map (λx=>bP T (fm c L x)) T))) x x1 x2 ws h1
  exact⟨_,w2,ws',_,w1,rfl⟩)
 rw[f1];rw?;rw[qM];rw?;rw[qN];rw?;refine⟨L,I,ws,hS,by rw[hT];exact hI,?_⟩;rw[hT];rfl
abbrev n0:=List Bool×Int
def dP(p:n0):W:=.tup [bQ p.1,.int p.2]
def c6(s:List n0):W:=.lst (s.map dP)
def bE(m wide:Nat)(bF:List (List n0)):W:=.tup [.int (m:Int),.int (wide:Int),.lst (bF.map c6)]
def mV(wide size:Nat)(p:n0):Prop:=p.1.length=wide/\0<=p.2/\p.2<(size:Int)
def mW(m wide size:Nat)(s:List n0):Prop:=s.length=2^m/\∀p∈s,mV wide size p
def pE(m wide:Nat)(bF:List (List n0)):Prop:=bF=[]\/∃s∈bF,¬mW m wide bF.length s
def tU(p:Pr):n0:=(p.1,(p.2:Int))
def yr(c:Mc):List (List n0):=c.ag.map λs=>s.map tU
def Z4(s):aB s=c6 (s.map tU):=by
 unfold aB c6;rw[w0t];rfl
theorem z9y(m wide)(bF):bh (bE m wide bF) (.int 0)=some (.int (m:Int)):=rfl
theorem z9z(m wide)(bF):bh (bE m wide bF) (.int 1)=some (.int (wide:Int)):=rfl
theorem Qg(m wide)(bF):bh (bE m wide bF) (.int 2)=some (.lst (bF.map c6)):=rfl
theorem OL{i:Nat}{b:List S->SR}{v:Value}(I:Nat->List S->Prop)(B:W->Prop):∀(ws:List W)(k:Nat)(e:List S),I k e->(∀(j:Nat)(w:W)(e:List S),w∈ws->j<k+ws.length->I j e->(∃e',b (e.set i (.fr w))=.nx e'/\I (j+1) e'/\¬B w)\/(∃e',b (e.set i (.fr w))=.ex v e'))->(∃w∈ws,B w)->∃e',cK i b ws e=.ex v e'
 |[],_,_,_,_,⟨_,hw,_⟩=>nomatch hw
 |w::ws,k,e,h0,h,hB=>by
  rcases h k w e (by simp) (by simp) h0 with⟨e1,h1,h2,h3⟩|⟨e1,h1⟩
  .obtain⟨u,hu,hb⟩:=hB;rcases w0e.mp hu with rfl|hu
   .exact absurd hb h3
   .obtain⟨e2,h4⟩:=OL I B ws (k+1) e1 h2 (λj u e hu hj=>h j u e (by simp[hu]) (by simp only[w1e];omega)) ⟨u,hu,hb⟩
    exact⟨e2,by rw[pA,h1,xZ,h4]⟩
  .exact⟨e1,by rw[pA,h1,VQ]⟩
theorem N1{i:Nat}{b:List S->SR}{v:Value}(I:List S->Prop)(B:W×W->Prop):∀(ps:List (W×W))(e:List S),I e->(∀p∈ps,∀e,I e->(∃e',b ((e.set i (.fr p.1)).set j (.fr p.2))=.nx e'/\I e'/\¬B p)\/(∃e',b ((e.set i (.fr p.1)).set j (.fr p.2))=.ex v e'))->(∃p∈ps,B p)->∃e',df i j b ps e=.ex v e'
 |[],_,_,_,⟨_,hw,_⟩=>nomatch hw
 |p::ps,e,h0,h,hB=>by
  rcases h p (by simp) e h0 with⟨e1,h1,h2,h3⟩|⟨e1,h1⟩
  .obtain⟨u,hu,hb⟩:=hB;rcases w0e.mp hu with rfl|hu
   .exact absurd hb h3
   .obtain⟨e2,h4⟩:=N1 I B ps e1 h2 (λq hq=>h q (by simp[hq])) ⟨u,hu,hb⟩
    refine⟨e2,?_⟩;show(b ((e.set i (.fr p.1)).set j (.fr p.2))).dm (df i j b ps)=_;rw[h1];exact h4
  .refine⟨e1,?_⟩;show(b ((e.set i (.fr p.1)).set j (.fr p.2))).dm (df i j b ps)=_;rw[h1];rfl
def Vs(n m wide)(bF)(f):run K a (n+1) CS [bE m wide bF,.int f]=.ok (.fr (.bl (decide (0<=f/\f<(bF.length:Int))))):=by
 rw[Lz];unfold CU;rw?
 by_cases h:(0:Int)<=f
 .rw[if_pos h];rw[Qg];rw?;rw[w0a];simp[h]
 .rw[if_neg h];simp[h]
def VM(l:List n0):cR (l.map dP)=some (l.map λp=>(bQ p.1,W.int p.2)):=by
 induction l with
 |nil=>rfl
 |cons p l ih=>
  rw[w0l,w0l];show(cR (l.map dP)).map _=_;rw[ih];rfl
def HK(n m wide)(bF)(p)(z1 z2 z3):(mV wide bF.length p->uQ K a (run K a (n+1)) [.fr (bE m wide bF),z1,z2,z3,.fr (bQ p.1),.fr (.int p.2)]=.nx [.fr (bE m wide bF),z1,z2,z3,.fr (bQ p.1),.fr (.int p.2)]) /\
  (¬mV wide bF.length p->∃e',uQ K a (run K a (n+1)) [.fr (bE m wide bF),z1,z2,z3,.fr (bQ p.1),.fr (.int p.2)]=.ex (.ref a.aC) e'):=by
 unfold uQ bQ;rw?;rw[z9z];rw?;rw[w0a]
 by_cases h:(p.1.length:Int)=(wide:Int)
 .rw[if_neg (by simpa using h)];rw?;rw[Vs n];rw?
  by_cases hf:0<=p.2/\p.2<(bF.length:Int)
  .rw[decide_eq_true hf];rw?;exact⟨λ_=>trivial,λhn=>absurd ⟨by omega,hf⟩ hn⟩
  .rw[decide_eq_false hf];rw?;exact⟨λhn=>absurd hn.2 hf,λ_=>⟨_,rfl⟩⟩
 .rw[if_pos (by simpa using h)];rw?;exact⟨λhn=>absurd (by have:=hn.1;omega) h,λ_=>⟨_,rfl⟩⟩
def Mp(n m wide)(hm:m<=100)(bF)(s)(z1 z4 z5):(mW m wide bF.length s->∃QD sf,wF K a (run K a (n+1)) [.fr (bE m wide bF),z1,.fr (.int ((2^m:Nat):Int)),.fr (c6 s),z4,z5]=.nx [.fr (bE m wide bF),z1,.fr (.int ((2^m:Nat):Int)),.fr (c6 s),QD,sf]) /\
  (¬mW m wide bF.length s->∃e',wF K a (run K a (n+1)) [.fr (bE m wide bF),z1,.fr (.int ((2^m:Nat):Int)),.fr (c6 s),z4,z5]=.ex (.ref a.aC) e'):=by
 generalize hP:2^m=P;unfold wF c6;rw?;rw[w0a]
 by_cases h:(s.length:Int)=(P:Int)
 .rw[if_neg (by simpa using h)];rw?;rw[VM];rw?
  have inv:∀q∈s.map (λp=>(bQ p.1,W.int p.2)),∃p∈s,q=(bQ p.1,W.int p.2):=λq hq=>by
   obtain⟨p,hp,rfl⟩:=w0q.mp hq;exact⟨p,hp,rfl⟩
  constructor
  .intro hs
   obtain⟨e1,h1,z4,z5,rfl⟩:=Ie (i:=4) (j:=5) (b:=uQ K a (run K a (n+1))) (λe=>∃z4 z5,e=[.fr (bE m wide bF),z1,.fr (.int (P:Int)),.fr (.lst (s.map dP)),z4,z5]) (s.map λp=>(bQ p.1,W.int p.2)) [.fr (bE m wide bF),z1,.fr (.int (P:Int)),.fr (.lst (s.map dP)),z4,z5] ⟨_,_,rfl⟩ (by
    rintro q hq e ⟨z4,z5,rfl⟩;obtain⟨p,hp,rfl⟩:=inv q hq;exact⟨_,(HK n m wide bF p z1 _ _).1 (hs.2 p hp),_,_,rfl⟩)
   rw[h1];exact⟨_,_,rfl⟩
  .intro hs;have hb:∃p∈s,¬mV wide bF.length p:=Classical.byContradiction λhn=>hs ⟨by omega,λp hp=>Classical.byContradiction λhq=>hn ⟨p,hp,hq⟩⟩
   obtain⟨e1,h1⟩:=N1 (i:=4) (j:=5) (b:=uQ K a (run K a (n+1))) (v:=.ref a.aC) (λe=>∃z4 z5,e=[.fr (bE m wide bF),z1,.fr (.int (P:Int)),.fr (.lst (s.map dP)),z4,z5]) (λq=>∀p∈s,q=(bQ p.1,W.int p.2)->¬mV wide bF.length p) (s.map λp=>(bQ p.1,W.int p.2)) [.fr (bE m wide bF),z1,.fr (.int (P:Int)),.fr (.lst (s.map dP)),z4,z5] ⟨_,_,rfl⟩ (by
    rintro q hq e ⟨z4,z5,rfl⟩;obtain⟨p,hp,rfl⟩:=inv q hq
    by_cases hk:mV wide bF.length p
    .exact .inl ⟨_,(HK n m wide bF p z1 _ _).1 hk,⟨_,_,rfl⟩,λhn=>hn p hp rfl hk⟩
    .exact .inr ((HK n m wide bF p z1 _ _).2 hk)) (by
    obtain⟨p,hp,hb⟩:=hb;refine⟨(bQ p.1,W.int p.2),w1v hp,λq _ he=>?_⟩
    have h1:p.1=q.1:=by
     have:=(Prod.mk.inj he).1
     grind [bQ,List.map_inj_right]
    grind)
   rw[h1];exact⟨_,rfl⟩
 .rw[if_pos (by simpa using h)];rw?;exact⟨λhn=>absurd (by have:=hn.1;omega) h,λ_=>⟨_,rfl⟩⟩
def Wt(n m wide)(hm:m<=100)(bF)(hb:pE m wide bF):run K a (n+2) CB [bE m wide bF]=.ex (.ref a.aC):=by
 rw[K8];unfold CD;rw?;rw[Qg];rw?;rw[z9y];rw?;rw[wU n m hm];rw?;rw[w0a];rcases hb with rfl|⟨s,hs,hb⟩
 .rw[if_pos (by rfl)]
 .have hp:0<bF.length:=w4f hs;rw[if_neg (by omega)];rw?
  obtain⟨e1,h1⟩:=OL (i:=3) (b:=wF K a (run K a (n+1))) (v:=.ref a.aC) (λ_ e=>∃z3 z4 z5,e=[.fr (bE m wide bF),.fr (.lst (bF.map c6)),.fr (.int ((2^m:Nat):Int)),z3,z4,z5]) (λw=>∀s∈bF,w=c6 s->¬mW m wide bF.length s) (bF.map c6) 0 [.fr (bE m wide bF),.fr (.lst (bF.map c6)),.fr (.int ((2^m:Nat):Int)),.no,.no,.no] ⟨_,_,_,rfl⟩ (by
   rintro j w e hw _ ⟨z3,z4,z5,rfl⟩;obtain⟨s,hs,rfl⟩:=w0q.mp hw
   by_cases hk:mW m wide bF.length s
   .obtain⟨QD,sf,h1⟩:=(Mp n m wide hm bF s (.fr (.lst (bF.map c6))) z4 z5).1 hk;exact .inl ⟨_,h1,⟨_,_,_,rfl⟩,λhn=>hn s hs rfl hk⟩
   .exact .inr ((Mp n m wide hm bF s (.fr (.lst (bF.map c6))) z4 z5).2 hk)) (by
   refine⟨c6 s,w1v hs,λt _ he=>?_⟩
   grind [dP,bQ,List.map_inj_right,c6])
  rw[h1];rfl
def cG(s:Nat):Nat->Nat->Nat
 |k,0=>k
 |k,f+1=>if s<=2^k then k else cG s (k+1) f
def cN(s:Nat):Nat:=cG s 0 12
theorem OM(s):∀(f k:Nat),s<=2^(k+f)->s<=2^cG s k f/\cG s k f<=k+f/\∀j,k<=j->j<cG s k f->2^j<s
 |0,k,h=>⟨h,w0c _,λj h1 h2=>absurd h2 (by simp only[cG];omega)⟩
 |f+1,k,h=>by
  unfold cG;split
  .rename_i q;exact⟨q,by omega,λj h1 h2=>by omega⟩
  .rename_i q;obtain⟨a1,a2,a3⟩:=OM s f (k+1) (by rw[show k+1+f=k+(f+1) by omega];exact h)
   grind
theorem u_  (h:s<=700):s<=2^(0+12):=w0s h (by decide)
def Z5  (h:s<=700):s<=2^cN s/\cN s<=12/\∀j,j<cN s->2^j<s:=by
 obtain⟨a1,a2,a3⟩:=OM s 12 0 (u_ h);exact⟨a1,by unfold cN;omega,λj hj=>a3 j (w1a _) hj⟩
theorem Mq(n:Nat)(c:Mc):∀(f k fuel:Nat),c.ag.length<=2^(k+f)->f<fuel->k+f<=50 ->
  bI (Cz K a (run K a (n+1))) (F_ K a (run K a (n+1))) fuel [.fr (aJ c),.fr (.int (k:Int))]=.nx [.fr (aJ c),.fr (.int ((cG c.ag.length k f:Nat):Int))]
 |f,k,0,_,h,_=>by omega
 |f,k,fuel+1,h1,h2,h3=>by
  have e:Cz K a (run K a (n+1)) [.fr (aJ c),.fr (.int (k:Int))]=.ok (decide (2^k<c.ag.length)) [.fr (aJ c),.fr (.int (k:Int))]:=by
   unfold Cz;rw?;rw[wU n k (by omega)];rw?;rw[uW];rw?;simp only[w0a,Int.ofNat_lt]
  rw[AZ,e]
  by_cases q:c.ag.length<=2^k
  .rw[decide_eq_false (by omega)];rw?;cases f with
   |zero=>rfl
   |succ f=>unfold cG;rw[if_pos q]
  .cases f with
   |zero=>exact absurd (by simpa using h1) q
   |succ f=>
    rw[decide_eq_true (by omega)];rw?;unfold F_;rw?;unfold cG;rw[if_neg q];exact Mq n c f (k+1) fuel (by rw[show k+1+f=k+(f+1) by omega];exact h1) (by omega) (by omega)
def Dc(n)(c)(h:c.ag.length<=700):run K a (n+2) xU [aJ c]=.ok (.fr (.int ((cN c.ag.length:Nat):Int))):=by
 rw[U3];unfold GO;rw?;rw[show S.fr (W.int 0)=S.fr (W.int ((0:Nat):Int))from rfl,Mq n c 12 0 1000000 (u_ h) (by omega) (by omega)];rw?;rfl
def tr(c:Mc)(k q:Nat):List (Option Bool):=if q%2^k<c.ag.length then(gM k (nJ c (q%2^k) (q / 2^k))++told c (q%2^k) (q / 2^k)).map some else List.replicate (k+c.wide) none
def N2  (hc:c.Og)(hi:i<c.ag.length)(hr:r<2^c.m):(told c i r).length=c.wide:=by
 have hs:=lq hi;have hl:=hc.st _ hs;unfold told;have zQ:r<(c.ag.getD i []).length:=by omega
 rw[show(c.ag.getD i []).getD r ([],0)=(c.ag.getD i [])[r] by grind];exact(hc.pr _ hs _ (w1n zQ)).1
def A3  (h:q<2^(m+k)):q / 2^k<2^m:=by
 rw[Nat.pow_add]at h;exact Nat.div_lt_of_lt_mul (by rwa [Nat.mul_comm]at h)
def z90  (hc:c.Og)  (hq:q<2^(c.m+k)):(tr c k q).length=k+c.wide:=by
 grind [tr,wR,N2,A3]
def w4(m:Nat)(h:m<=1000):qR (.tup [.aE]) (.int (m:Int))=some (.tup ((List.replicate m none).map eo)):=by
 show(if pk (m:Int)=true/\[W.aE]≠[]/\[W.aE].length*(m:Int).toNat<=16777216 then some (W.tup (List.replicate (m:Int).toNat [W.aE]).flatten)else none)=_;rw[if_pos ⟨pq (by omega) (by omega),by simp,by simp;omega⟩];simp[eo]
def Z6(l:List Bool):(l.map some).map eo=l.map .bl:=by
 rw[w0t];rfl
def Q2{c:Mc}{r:Nat}(hc:c.Og)(hi:i<c.ag.length)(hr:r<2^c.m):bY ((c.ag.getD i []).map bg) (r:Int)=some (.tup [.tup ((told c i r).map .bl),.int (nJ c i r:Int)]):=by
 have hs:=lq hi;have hl:=hc.st _ hs;have zQ:r<(c.ag.getD i []).length:=by omega
 refine tG ?_;rw[w1i,w0d zQ];unfold told nJ;rw[show(c.ag.getD i []).getD r ([],0)=(c.ag.getD i [])[r] by grind];rfl
def z91{x:Nat}(h:x<=2^5):(x:Int)<1073741824:=by
 have:(2:Nat)^5=32:=by decide
 omega
theorem JO{x:Nat}(h:x<=1000000000):pk (x:Int)=true:=pq (by omega) (by omega)
def Wu(n)(c:Mc)(hc:c.Og){q:Nat}(hk:k<=5)(hs:c.ag.length<=2^k)(hq:q<2^(c.m+k)):run K a (n+2) GG [aJ c,.int (k:Int),.int (q:Int)]=.ok (.fr (.tup ((tr c k q).map eo))):=by
 have hw:=hc.wg;have hm:=hc.lX;have hp:0<2^k:=w2v k;have h1:2^(c.m+k)<=2^8:=w0o (by decide) (by omega);have h2:2^k<=2^5:=w0o (by decide) hk;rw[UI];unfold GQ;rw?;rw[wU n k (by omega)];rw?;rw[uW];rw?;rw[if_pos (Int.natCast_pos.mpr hp),w0a];have hb:q%2^k<2^k:=w4n _ hp
 by_cases h:q%2^k<c.ag.length
 .have hd:=A3 hq;have tl:=N2 hc h hd;have nl:=ye hc h hd;rw[if_neg (by rw[<- w4d];omega),uW];rw?;rw[<- w4d,yl h];rw?;rw[wU n k (by omega)];unfold aB;rw?;rw[if_pos ⟨Int.natCast_pos.mpr hp,z91 h2⟩];rw?;rw[<- Int.natCast_ediv,Q2 hc h hd];rw?;rw[OV n (by omega) (by omega)];rw?;rw[if_pos (by rw[w0a,w0a,wR,tl];omega),<- w0x];unfold tr;rw[if_pos h,Z6]
 .rw[if_pos (by rw[<- w4d];omega),qN];rw?;rw[show((k:Int)+(c.wide:Int))=((k+c.wide:Nat):Int)from rfl,w4 _ (by omega)];rw?;unfold tr;rw[if_neg h]
def xr(c:Mc)(k p:Nat):List (Option Bool):=(List.range (2^(c.m+k))).map λq=>(tr c k q).getD p none
def ON(c)(k p):(xr c k p).length=2^(c.m+k):=by unfold xr;rw[w0a,w0v]
def HL(m:Nat):bM 0 (m:Int)=(List.range m).map fun(q:Nat)=>W.int (q:Int):=by
 unfold bM;simp
def z4a{l:List (Option Bool)}  (h:p<l.length):bY (l.map eo) (p:Int)=some (eo (l.getD p none)):=by
 refine tG ?_;rw[w1i,w0d h]
 grind
def Mr(n)(c)(hc:c.Og)(hk:cN c.ag.length<=4)(hs:c.ag.length<=700):
  run K a (n+3) CW [aJ c]=.ok (.own none ((List.range (cN c.ag.length+c.wide)).map λp=>W.lst ((xr c (cN c.ag.length) p).map eo))):=by
 have hw:=hc.wg;have hm:=hc.lX;have ph:=(Z5 hs).1;have ck:=Dc (K:=K) (a:=a) n c hs;generalize cN c.ag.length=k at hk ph ck |-
 have h8:2^(c.m+k)<=2^7:=w0o (by decide) (by omega);rw[U4];unfold GP;rw?;rw[ck];rw?;rw[qM];rw?;rw[show((c.m:Int)+(k:Int))=((c.m+k:Nat):Int)from rfl,wU (n+1) (c.m+k) (by omega)];rw?;have h7:(2:Nat)^7=128:=by decide
 rw[if_pos (JO (by omega)),HL];rw?
 rw[if_pos (by rw[w0a,w0v];omega),qH (g:=λq=>W.tup ((tr c k q).map eo)) (List.range (2^(c.m+k))) (λq hq=>⟨_,by
  unfold Lj;rw?;simp only[d5,j6,w0f,w0k,w1k,w1j];rw?;rw[Wu n c hc (by omega) ph (w0z.mp hq)];rw?;rfl⟩)]
 rw?;simp only[d5,j6,w0f,w0k,w1k,w1j];rw?;rw[qN];rw?;rw[show((k:Int)+(c.wide:Int))=((k+c.wide:Nat):Int)from rfl,if_pos (pq (by omega) (by omega)),HL];rw?
 rw[if_pos (by rw[w0a,w0v];omega),qH (g:=λp=>W.lst ((xr c k p).map eo)) (List.range (k+c.wide)) (λp hp=>⟨_,by
  unfold Lw;rw?;simp only[d5,j6,w0f,w0k,w1k,w1j];rw?
  rw[if_pos (by rw[w0a,w0v];omega),qH (g:=λq=>eo ((tr c k q).getD p none)) (List.range (2^(c.m+k))) (λq hq=>⟨_,by
   unfold Lv;rw?;simp only[d5,j6,w0f,w0k,w1k,w1j];rw?;rw[z4a (by rw[z90 hc (w0z.mp hq)];exact w0z.mp hp)];rfl⟩)]
  rw?;unfold xr;rw[w0t];rfl⟩)]
 rw?
def YZ(n){w : List (Option Bool)}  (hw : w.length = 2 ^ m)(hm : m <= 10) : ∃ f : Fm, run K a (n + 121) F8 [.lst (w.map eo)] = .ok (.fr (enc f)) := by
  have vH : (2 : Nat) ^ 10 = 1024 := by decide
  have hp : 2 ^ m <= 2 ^ 10 := w0o (by decide) hm;rw [TK];unfold FY;rw?;rw [show W.int 4 = W.int ((4 : Nat) : Int) from rfl, wU (n + 119) 4 (by decide)];rw?;rw [w0a, hw]
  by_cases h : m <= 4
  . have h4 : 2 ^ m <= 2 ^ 4 := w0o (by decide) h
    rw [if_pos (by omega)];obtain ⟨N, cs, T, _, L, k1⟩ := M7 (K := K) (a := a) n hw h;rw [k1];rw?;rw [Wr (n + 115)];rw?;exact ⟨_, rfl⟩
  . have h5 : 2 ^ 5 <= 2 ^ m := w0o (by decide) (by omega)
    rw [if_neg (by have : (2 : Nat) ^ 5 = 32 := by decide
                   omega)]
    rw?
    rw [if_pos (by omega), qH (g := λo => W.bl (o == some true)) w (λo _ => ⟨_, by
      unfold Ld;rw?;rw [P7];rfl⟩)]
    rw?;rw [show (w.map λo => W.bl (o == some true)) = (w.map λo => (o == some true)).map W.bl by rw [w0t]; rfl, YQ (n + 103) (by rw [w0a, hw]) hm]
    rw?;exact ⟨_, rfl⟩
def TN(n)   (hs:run K a (n+2) AV [aJ c]=.ok (.fr (.tup [aJ l,x])))(hl:l.ag.length<=700):
  run K a (n+3) wH [aJ c]=if 4<cN l.ag.length\/6<l.wide then .ex (.ref a.aH)else .ok (.fr (aJ l)):=by
 rw[Le];unfold CK;rw?;rw[hs];rw?;rw[Dc n l hl];rw?
 by_cases h:4<cN l.ag.length
 .grind
 .rw[if_neg (by omega)];rw?;rw[qN];rw?
  grind
theorem Ja   {en:α->W}{P:W->Prop}:∀(xs:List α),(∀x∈xs,∃w,(∃e2,d (.fr (en x)::pe)=.ok w e2)/\P w)->∃ws,cz bK d pe (xs.map en)=some ws/\ws.length=xs.length/\∀w∈ws,P w
 |[],_=>⟨[],rfl,rfl,λ_ h=>nomatch h⟩
 |x::xs,h=>by
  obtain⟨w,⟨e2,h1⟩,p⟩:=h x (by simp);obtain⟨ws,h2,h3,h4⟩:=Ja xs λy hy=>h y (by simp[hy])
  simp_all [cz,bK]
def VN(n)  (hl:l.Og)(h:run K a (n+121) wH [aJ c]=if 4<cN l.ag.length\/6<l.wide then .ex (.ref a.aH)else .ok (.fr (aJ l))):
  if 4<cN l.ag.length\/6<l.wide then run K a (n+122) uR [aJ c]=.ex (.ref a.aH)else ∃w,run K a (n+122) uR [aJ c]=.ok (.fr w):=by
 have hw:=hl.wg;have hm:=hl.lX;rw[Lh];unfold CP;rw?;rw[h]
 by_cases hg:4<cN l.ag.length\/6<l.wide
 .rw[if_pos hg,if_pos hg];rw?
 .rw[if_neg hg,if_neg hg];rw?;rw[Dc (n+119) l hl.mo];rw?;rw[Mr (n+118) l hl (by omega) hl.mo];generalize cN l.ag.length=k at hg |-
  rw?
  obtain⟨ws,h1,h2,_⟩:=Ja (d:=FX K a (run K a (n+121))) (pe:=[]) (en:=λp=>W.lst ((xr l k p).map eo)) (P:=λ_=>True) (List.range (k+l.wide)) (λp _=>by
   obtain⟨f,hf⟩:=YZ (K:=K) (a:=a) n (ON l k p) (by omega)
   exact⟨enc f,⟨_,by
    unfold FX;rw?;rw[hf];rfl⟩,trivial⟩)
  rw[w0v]at h2;rw[if_pos (by rw[w0a,w0v];omega),h1];rw?;rw[PR (by omega)]
  rw[if_pos (by rw[w3f];omega),DJ (λw=>.tup [.bl false,w]) (ws.take k) (λw _=>⟨_,by
   unfold Lg;rw?;rfl⟩)]
  rw?;rw[qM];rw?
  grind
def Wv(n)  (hl:l.Og)(h:run K a (n+121) wH [aJ c]=if 4<cN l.ag.length\/6<l.wide then .ex (.ref a.aH)else .ok (.fr (aJ l))):
  if(4<cN l.ag.length\/6<l.wide)\/4<l.m+cN l.ag.length then run K a (n+122) uS [aJ c]=.ex (.ref a.aH)else ∃ws,run K a (n+122) uS [aJ c]=.ok (.own none ws):=by
 have hw:=hl.wg;have hm:=hl.lX;rw[Ln];unfold C3;rw?;rw[h]
 by_cases hg:4<cN l.ag.length\/6<l.wide
 .rw[if_pos (Or.inl hg),if_pos hg];rw?
 .rw[if_neg hg];rw?;rw[qM];rw?;rw[Dc (n+119) l hl.mo];rw?
  by_cases h4:4<l.m+cN l.ag.length
  .rw[if_pos (Or.inr h4),if_pos (by omega)]
  .rw[if_neg (by omega),if_neg (by omega)];rw?;rw[Mr (n+118) l hl (by omega) hl.mo];generalize cN l.ag.length=k at hg h4 |-
   rw?
   obtain⟨ws,h1,h2,_⟩:=Ja (d:=Gq K a (run K a (n+121))) (pe:=[]) (en:=λp=>W.lst ((xr l k p).map eo)) (P:=λ_=>True) (List.range (k+l.wide)) (λp _=>by
    obtain⟨N,cs,T,_,L,hf⟩:=M7 (K:=K) (a:=a) (n+1) (ON l k p) (by omega)
    exact⟨_,⟨_,by
     unfold Gq;rw?;rw[hf];rfl⟩,trivial⟩)
   rw[if_pos (by rw[w0a,w0v];omega),h1];rw?;exact⟨_,rfl⟩
def XM(n)  (h0:run K a (n+1) uR [m]=.ok (.fr w)):run K a (n+2) nN [.int 0,m]=.ok (.fr (.int 0)):=by
 rw[CL];unfold xS;rw?;rw[h0];rw?
def XN(n)   (h0:run K a (n+1) uS [m]=.ok (.own none ws)):run K a (n+2) nN [.int 1,m]=.ok (.fr (.int 0)):=by
 rw[CL];unfold xS;rw?;rw[h0];rw?
def N4  (M:pb K mg a)(n)   (h0:w0=0/\run K a (n+1) uR [m]=.ex (.ref a.aC)\/w0=1/\run K a (n+1) uS [m]=.ex (.ref a.aC)):run K a (n+2) nN [.int w0,m]=.ok (.fr (.int 1)):=by
 rw[CL];unfold xS;rw?;rcases h0 with⟨rfl,h0⟩|⟨rfl,h0⟩
 all_goals
  first|rw[if_pos rfl]|rw[if_neg (by decide)]|skip
  rw?;rw[h0];rw?;rw[PM M.ez];rw?
  repeat (simp only[x_ M.fw M.e5,x_ M.fw M.fg,x_ M.fw M.fJ];rw?)
def LF  (M:pb K mg a)(n)   (h0:w0=0/\run K a (n+1) uR [m]=.ex (.ref a.aH)\/w0=1/\run K a (n+1) uS [m]=.ex (.ref a.aH)):run K a (n+2) nN [.int w0,m]=.ok (.fr (.int 2)):=by
 rw[CL];unfold xS;rw?;rcases h0 with⟨rfl,h0⟩|⟨rfl,h0⟩
 all_goals
  first|rw[if_pos rfl]|rw[if_neg (by decide)]|skip
  rw?;rw[h0];rw?;rw[PM M.eT];rw?
  repeat (simp only[x_ M.gC M.fh,x_ M.gC M.fK,x_ M.gC M.f7];rw?)
def z4b(n m wide)(hm:m<=100)(bF)(hb:pE m wide bF):run K a (n+5) uR [bE m wide bF]=.ex (.ref a.aC)/\run K a (n+5) uS [bE m wide bF]=.ex (.ref a.aC):=by
 have h:run K a (n+4) wH [bE m wide bF]=.ex (.ref a.aC):=by
  rw[Le];unfold CK;rw?
  rw[show run K a (n+3) AV [bE m wide bF]=.ex (.ref a.aC) by
   rw[Mu];unfold Dr;rw?;rw[Wt n m wide hm bF hb];rw?]
  rw?
 constructor
 .rw[Lh];unfold CP;rw?;rw[h];rw?
 .rw[Ln];unfold C3;rw?;rw[h];rw?
def o_(wide s:Nat)(t:List Bool)(k:Nat):List Bool:=if k=s then t else List.replicate wide false
def qS(m wide count s b:Nat)(t:List Bool)(k:Nat):List Pr:=(o_ wide s t k,(k+1)%count)::if m=1 then[(o_ wide s t k,(k+1+b)%count)]else[]
def rg(m wide count s b:Nat)(t:List Bool):Mc:=⟨m,wide,(List.range count).map (qS m wide count s b t)⟩
def OP{wide:Nat}  (ht:t.length=wide)(s k):(o_ wide s t k).length=wide:=by
 unfold o_;split
 .exact ht
 .exact w2h
theorem Q3{wide:Nat}  (hm:m<=1)(hw:wide<=12)(h0:0<count)(h1:count<=20)(ht:t.length=wide):(rg m wide count s b t).Og where
 lX:=by show m<=3;omega
 wg:=by show wide<=40;omega
 pos:=by show 0<((List.range count).map _).length;rw[w0a,w0v];exact h0
 mo:=by show((List.range count).map _).length<=700;rw[w0a,w0v];omega
 st:=λx hx=>by
  obtain⟨k,_,rfl⟩:=w0q.mp hx;show(qS m wide count s b t k).length=2^m;unfold qS;rcases(show m=0\/m=1 by omega)with rfl|rfl<;>rfl
 pr:=λx hx p hp=>by
  obtain⟨k,_,rfl⟩:=w0q.mp hx;show p.1.length=wide/\p.2<((List.range count).map _).length;rw[w0a,w0v];unfold qS at hp
  have q:p=(o_ wide s t k,(k+1)%count)\/p=(o_ wide s t k,(k+1+b)%count):=by
   grind
  rcases q with rfl|rfl
  .exact⟨OP ht s k,w4n _ h0⟩
  .exact⟨OP ht s k,w4n _ h0⟩
def mx(c k:Int):Int:=((c*48271+(k+1)*1299721)%2147483647)^5%2147483647
theorem Rv(x):-18446744073709551616<x%2147483647/\x%2147483647<18446744073709551616:=⟨by omega,by omega⟩
def XO(n)(c k):run K a (n+1) Gw [.int c,.int k]=.ok (.fr (.int (mx c k))):=by
 rw[UC];unfold Gz;rw?;rw[if_pos (Rv _)];rfl
def z92(n)(c){count s:Nat}(h0:0<count)(hc:count<=1000)(hs:c%(count:Int)=(s:Int))(k q:Nat)(hk:k<=1000):∃e',Ga K a (run K a (n+1)) [.fr (.int (q:Int)),.fr (.int (count:Int)),.fr (.int c),.fr (.int (k:Int))]=.ok (.bl (decide (k=s)&&decide (0<mx c (q:Int)%3))) e':=by
 unfold Ga;rw?;rw[if_pos (show(0:Int)<(count:Int) by omega)];rw?;rw[hs]
 by_cases h:k=s
 .rw[if_pos (by rw[h]),decide_eq_true h];rw?;rw[XO n];rw?;exact⟨_,rfl⟩
 .rw[if_neg (by omega),decide_eq_false h];rw?;exact⟨_,rfl⟩
def tR(c:Int)(wide:Nat):List Bool:=(List.range wide).map fun(q:Nat)=>decide (0<mx c (q:Int)%3)
def z4c(c)(wide s k):((List.range wide).map fun(q:Nat)=>W.bl (decide (k=s)&&decide (0<mx c (q:Int)%3)))=(o_ wide s (tR c wide) k).map .bl:=by
 unfold o_ tR
 by_cases h:k=s
 all_goals simp_all [List.map_const']
def XQ(n)(c){m wide count s b:Nat}(hm:m<=1)(hw:wide<=12)(h0:0<count)(hc:count<=20)(hs:c%(count:Int)=(s:Int))(hb:c / 20%2=(b:Int))  (hk:k<count)(bF)(hl:bF.length<=100)(z6 z7):
  CA K a (run K a (n+1)) [.fr (.int (m:Int)),.fr (.int (wide:Int)),.fr (.int (count:Int)),.fr (.int c),.own none bF,.fr (.int (k:Int)),z6,z7]=.nx [.fr (.int (m:Int)),.fr (.int (wide:Int)),.fr (.int (count:Int)),.fr (.int c),.own none (bF++[aB (qS m wide count s b (tR c wide) k)]),.fr (.int (k:Int)),.fr (bQ (o_ wide s (tR c wide) k)),.fr (aB (qS m wide count s b (tR c wide) k))]:=by
 unfold CA;rw?;rw[if_pos (JO (by omega)),HL];rw?
 rw[if_pos (by rw[w0a,w0v];omega),qH (g:=fun(q:Nat)=>W.bl (decide (k=s)&&decide (0<mx c (q:Int)%3))) (List.range wide) (λq _=>by
  simp only[fM,aW,d5,j6,w0f,w0k,w1k,w1j,w0l,w3q];exact z92 n c h0 (by omega) hs k q (by omega))]
 rw?;rw[z4c];simp only[d5,w0f,w0k,w1k,w1j];rw?;rw[if_pos (show(0:Int)<(count:Int) by omega)];rw?;rcases(show m=0\/m=1 by omega)with rfl|rfl
 .rw[if_neg (by decide)];rw?;rw[if_pos (by omega)];rfl
 .rw[if_pos (by decide)];rw?;rw[if_pos (show(0:Int)<(count:Int) by omega)];rw?;rw[hb,if_pos (by omega)];rfl
def Y0(n)(c){m wide count s b:Nat}(hm:m<=1)(hw:wide<=12)(h0:0<count)(hc:count<=20)(hs:c%(count:Int)=(s:Int))(hb:c / 20%2=(b:Int)):
  run K a (n+2) CY [.int (m:Int),.int (wide:Int),.int (count:Int),.int c]=.ok (.fr (aJ (rg m wide count s b (tR c wide)))):=by
 rw[UJ];unfold GR;rw?;rw[if_pos (JO (by omega))];rw?
 obtain⟨e',h2,z5,z6,z7,rfl⟩:=AH (b:=CA K a (run K a (n+1))) (i:=5) (lo:=0) (hi:=(count:Int)) count (by omega) (λj e=>∃z5 z6 z7,e=[.fr (.int (m:Int)),.fr (.int (wide:Int)),.fr (.int (count:Int)),.fr (.int c),.own none ((List.range j).map λk=>aB (qS m wide count s b (tR c wide) k)),z5,z6,z7]) [.fr (.int (m:Int)),.fr (.int (wide:Int)),.fr (.int (count:Int)),.fr (.int c),.own none [],.no,.no,.no] ⟨.no,.no,.no,rfl⟩ (by
  rintro j e hj ⟨z5,z6,z7,rfl⟩;simp only[w1k,w1j,Int.zero_add];rw[XQ n c hm hw h0 hc hs hb hj _ (by rw[w0a,w0v];omega)];rw[List.range_succ,w0x];exact⟨_,rfl,_,_,_,rfl⟩)
 rw[h2];rw?;unfold rg aJ;rw[w0t];rfl
def L':W->List W
 |.lst ws=>ws
 |_=>[]
def jQ(c:Mc):List (List W):=c.ag.map λs=>s.map bg
def OQ(c):(jQ c).map W.lst=c.ag.map aB:=by
 unfold jQ;rw[w0t];rfl
def z93  (hj:j<c.ag.length):bY (jQ c) (j:Int)=some ((c.ag.getD j []).map bg):=by
 grind [tG,jQ]
def z94  (hj:j<c.ag.length):gG (jQ c).length (j:Int)=some j:=by
 unfold jQ;rw[w0a];unfold gG;rw[if_pos (by omega),if_pos (by omega)];rfl
def OR(c)(j)(s'):((jQ c).set j (s'.map dP)).map W.lst=((yr c).set j s').map c6:=by
 rw[w4m,w4m,OQ];congr 1;unfold yr;rw[w0t];exact w1m λs _=>Z4 s
def Jb(s:List Pr):s.map bg=(s.map tU).map dP:=by
 rw[w0t];rfl
def Jp(c):(yr c).length=c.ag.length:=by unfold yr;rw[w0a]
def z4d  {l:List α}(h:0<l.length):bY l (-1)=l[l.length-1]?:=by
 show((gG l.length (-1)).bind λj=>l[j]?)=_
 rw[show gG l.length (-1)=some (l.length-1) by unfold gG;grind];rfl
def D1(K:Fg)(a:aP)(r:Nat->List W->FR):List S->SR:=
 (aq (aQ (ay (av eq2 (af 1) (dC (.int 5))))
  (gj 3 (aV (ae (av bh (af 5) (dC (.int 0))) (ae (av bH (bW (fB 3 bS)) (av bU (av dj (af 2) (dC (.int 20))) (dC (.int 7)))) ah))) (af 4) (gm dq (dC (.int 1))))
  cB)
  (aL (aV (ae (av bh (af 0) (dC (.int 0))) (ae (av bh (af 0) (dC (.int 1))) (ae (af 3) ah))))))
def D2(K:Fg)(a:aP)(r:Nat->List W->FR):List S->SR:=
 (aq (aQ (ay (av eq2 (af 1) (dC (.int 4))))
  (gj 3 (aV (ae (av bh (af 5) (dC (.int 0))) (ae (av mF (gm dq (dC (.int 1))) (av bU (av dj (af 2) (dC (.int 20))) (dC (.int 7)))) ah))) (af 4) (gm dq (dC (.int 1))))
  cB)
  (D1 K a r))
def D3(K:Fg)(a:aP)(r:Nat->List W->FR):List S->SR:=
 (aq (aQ (ay (av eq2 (af 1) (dC (.int 3))))
  (gj 3 (aV (ae (av bH (av bh (af 5) (dC (.int 0))) (aV (ae (dC (.bl true)) ah))) (ae (av bh (af 5) (dC (.int 1))) ah))) (af 4) (gm dq (dC (.int 1))))
  cB)
  (D2 K a r))
def D4(K:Fg)(a:aP)(r:Nat->List W->FR):List S->SR:=
 (aq (aQ (ay (av eq2 (af 1) (dC (.int 2))))
  (gh 3 oT (af 4) (ae (af 5) ah))
  cB)
  (D3 K a r))
def D5(K:Fg)(a:aP)(r:Nat->List W->FR):List S->SR:=
 (aq (aQ (ay (av eq2 (af 1) (dC (.int 1))))
  (jX 3 (oU (eX 3 (af 4)) (eK (dC (.int 1))) b8) (af 4))
  cB)
  (D4 K a r))
def JI(K:Fg)(a:aP)(r:Nat->List W->FR):List S->SR:=
 (aq (aQ (ay (av eq2 (af 1) (dC (.int 0))))
  (bN 3 (cA ah))
  cB)
  (D5 K a r))
def yb(s:S){k:Int}{X rest:List S->SR}(hk:way≠k):aq (aQ (ay (av eq2 (af 1) (dC (.int k)))) X cB) rest (s::.fr (.int way)::e)=rest (s::.fr (.int way)::e):=by
 rw?;rw[if_neg hk]
theorem Bh(r)(s:S):way≠0->JI K a r (s::.fr (.int way)::e)=D5 K a r (s::.fr (.int way)::e):=yb s
theorem Bi(r)(s:S):way≠1->D5 K a r (s::.fr (.int way)::e)=D4 K a r (s::.fr (.int way)::e):=yb s
theorem Bj(r)(s:S):way≠2->D4 K a r (s::.fr (.int way)::e)=D3 K a r (s::.fr (.int way)::e):=yb s
theorem Bk(r)(s:S):way≠3->D3 K a r (s::.fr (.int way)::e)=D2 K a r (s::.fr (.int way)::e):=yb s
theorem Bl(r)(s:S):way≠4->D2 K a r (s::.fr (.int way)::e)=D1 K a r (s::.fr (.int way)::e):=yb s
theorem Bm(r)(s:S):way≠5->D1 K a r (s::.fr (.int way)::e)=(aL (aV (ae (av bh (af 0) (dC (.int 0))) (ae (av bh (af 0) (dC (.int 1))) (ae (af 3) ah))))) (s::.fr (.int way)::e):=yb s
theorem Tz(K:Fg)(a:aP)(r:Nat->List W->FR):Gb K a r =
 (aq (jo (iO 1 6 1) (bN 3 (bG [] (av bh (af 0) (dC (.int 2))) bK (CG K a r))) (ki 3 [] (av bh (af 0) (dC (.int 2))) (dList (ae (af 0) ah))))
  (aq (jo (iO 1 6 1) (aF 4 (av bU (af 2) (fB 3 bS))) (aF 4 (av bU (af 2) (bW (fB 3 bS)))))
  (aq (jo (iO 1 6 1) (aF 5 (av bh (eX 3 (af 4)) (gm dq (dC (.int 1))))) (aF 5 (m6 3 (af 4) (gm dq (dC (.int 1))))))
  (JI K a r)))):=rfl
def V9(n)(c)(hc:c.Og)(hm:c.m<=1)(jt:c.ag.length<=20)(way)(h0:0<=way)(h6:way<6)(cell):∃mE:List (List n0),pE c.m c.wide mE/\run K a (n+1) Cu [aJ c,.int way,.int cell]=.ok (.fr (bE c.m c.wide mE)):=by
 have i3:=hc.pos;have hwg:=hc.wg;rw[Us];rw[Tz]
 obtain⟨j,KD,hj⟩:∃j:Nat,cell%(c.ag.length:Int)=(j:Int)/\j<c.ag.length:=by
  have h1:=w3o cell (show(c.ag.length:Int)≠0 by omega);have h2:=w3s cell (show(0:Int)<(c.ag.length:Int) by omega);exact⟨(cell%(c.ag.length:Int)).toNat,by omega,by omega⟩
 have uD:(List.map W.lst (jQ c)).length=c.ag.length:=by rw[w0a];unfold jQ;rw[w0a]
 have kS:=lq hj;have hlen:=hc.st _ kS;have xN:=hc.pr _ kS;have B6:=z93 (c:=c) hj;have B':=z94 (c:=c) hj;have pr0:0<(c.ag.getD j []).length:=by rw[hlen];exact w2v _
 obtain⟨p,hp1,hp⟩:∃p,(c.ag.getD j [])[(c.ag.getD j []).length-1]?=some p/\p∈c.ag.getD j []:=⟨_,w0d (by omega),w1n (by omega)⟩
 have uC:bY ((c.ag.getD j []).map bg) (-1)=some (bg p):=by
  grind [z4d]
 have h21:2^c.m<=2^1:=w0o (by decide) hm
 by_cases Fo:way=1
 .subst Fo;rw?;rw[uW];rw?
  have zu:cz bK (CG K a (run K a n)) [] (c.ag.map aB)=some (c.ag.map aB):=qH (g:=aB) c.ag λs hs=>⟨_,by
   have hl:=hc.st s hs;have:2^c.m<=2^1:=w0o (by decide) hm;unfold CG aB;rw?;rfl⟩
  rw[if_pos (by rw[w0a];omega),zu];rw?;rw[w0a,if_pos (by omega)];rw?;rw[KD,yl hj];unfold aB;rw?;rw[uC];rw?;rw[Bh _ _ (by decide)];unfold D5;rw?;rw[show(λs=>W.lst (List.map bg s))=aB from rfl,yl hj]
  unfold aB;rw?;rw[show(λs=>W.lst (List.map bg s))=aB from rfl,show gG (c.ag.map aB).length (j:Int)=some j by grind]
  rw?;rw[Bj _ _ (by decide),Bk _ _ (by decide),Bl _ _ (by decide),Bm _ _ (by decide)];rw?;rw[qM];rw?;rw[qN];rw?
  have xI:fY ((c.ag.getD j []).map bg) (some 1) none=(((c.ag.getD j []).map tU).drop 1).map dP:=by
   grind [NU,Jb,List.map_drop]
  have i0:¬mW c.m c.wide ((yr c).set j (((c.ag.getD j []).map tU).drop 1)).length (((c.ag.getD j []).map tU).drop 1):=λhn=>by
   have:=hn.1;rw[w4a,w0a]at this;omega
  refine⟨_,.inr ⟨_,w4v (by rw[Jp];exact hj) _,i0⟩,?_⟩;rw[xI];unfold bE;rw[<- OR,w4m,OQ]
 .have fG:(bY (jQ c) (j:Int)).isSome=true:=by rw[B6];rfl
  have fin:∀s':List n0,¬mW c.m c.wide c.ag.length s'->∀R:FR,R=.ok (.fr (.tup [.int (c.m:Int),.int (c.wide:Int),.lst (((jQ c).set j (s'.map dP)).map W.lst)]))->∃mE:List (List n0),pE c.m c.wide mE/\R=.ok (.fr (bE c.m c.wide mE)):=by
   intro s' h3 R hR;refine⟨(yr c).set j s',.inr ⟨s',w4v (by rw[Jp];exact hj) _,by rw[List.length_set,Jp];exact h3⟩,?_⟩;rw[hR,OR];rfl
  have nL:∀w:W,(bY (jQ c) (j:Int)).bind (λws=>D.nM w ws [.int (-1)])=some (((c.ag.getD j []).map bg).set ((c.ag.getD j []).length-1) w):=λw=>by
   rw[B6,w4e];show(gG ((c.ag.getD j []).map bg).length (-1)).map _=_
   grind [gG]
  have xb:∀q:n0,¬mV c.wide c.ag.length q->∀R:FR,R=.ok (.fr (.tup [.int (c.m:Int),.int (c.wide:Int),.lst (((jQ c).set j (((c.ag.getD j []).map bg).set ((c.ag.getD j []).length-1) (dP q))).map W.lst)]))->∃mE:List (List n0),pE c.m c.wide mE/\R=.ok (.fr (bE c.m c.wide mE)):=λq hq R hR=>
   fin (((c.ag.getD j []).map tU).set ((c.ag.getD j []).length-1) q) (λhn=>hq (hn.2 q (w4v (by rw[w0a];omega) _))) R (by
    grind [List.map_set,Jb])
  have c0:=w3o (cell / 20) (show(7:Int)≠0 by decide);have hw:¬way%6=1:=by omega
  rw?;rw[if_neg hw];rw?;rw[uW];rw?
  rw[if_pos (by rw[w0a];omega),MY (g:=L') _ (by
   intro w hw;obtain⟨s,hs,rfl⟩:=w0q.mp hw;have hl:=hc.st s hs;have:2^c.m<=2^1:=w0o (by decide) hm;unfold aB;rw?;exact⟨_,rfl⟩)]
  rw[show(c.ag.map aB).map L'=jQ c by unfold jQ;rw[w0t];rfl];rw?;rw[if_neg hw];rw?;rw[uD,if_pos (by omega)];rw?;rw[if_neg hw];rw?;rw[KD,if_pos fG,B6,w4e,uC];rw?;rcases(show way=0\/way=2\/way=3\/way=4\/way=5 by omega)with rfl|rfl|rfl|rfl|rfl
  .unfold JI;rw?;rw[Bi _ _ (by decide),Bj _ _ (by decide),Bk _ _ (by decide),Bl _ _ (by decide),Bm _ _ (by decide)];rw?;rw[qM];rw?;rw[qN];rw?;exact⟨[],.inl rfl,rfl⟩
  .rw[Bh _ _ (by decide),Bi _ _ (by decide)];unfold D4;rw?
   rw[if_pos fG,Dq B' (show(bY (jQ c) (j:Int)).bind (λws=>oT ws [bg p])=some (((c.ag.getD j []).map tU++[tU p]).map dP) by
    rw[B6,w4e,z9f (by rw[w0a];omega),w0x,<- Jb];rfl) (by rfl)]
   rw?;rw[Bk _ _ (by decide),Bl _ _ (by decide),Bm _ _ (by decide)];rw?;rw[qM];rw?;rw[qN];rw?
   exact fin _ (λhn=>by
    have:=hn.1
    grind) _ rfl
  .rw[Bh _ _ (by decide),Bi _ _ (by decide),Bj _ _ (by decide)];unfold D3;rw?;unfold bg bQ;rw?;rw[if_pos (by rw[w0a,(xN p hp).1];omega)];rw?;rw[if_pos fG];rw?;rw[Dq B' (nL _) (by rfl)];rw?;rw[Bl _ _ (by decide),Bm _ _ (by decide)];rw?;rw[qM];rw?;rw[qN];rw?;exact xb (p.1++[true],(p.2:Int)) (λhn=>absurd hn.1 (by rw[w1x,(xN p hp).1];simp)) _ (by unfold dP bQ;rw[w0x];rfl)
  .rw[Bh _ _ (by decide),Bi _ _ (by decide),Bj _ _ (by decide),Bk _ _ (by decide)];unfold D2;rw?;unfold bg bQ;rw?;rw[if_pos fG];rw?;rw[Dq B' (nL _) (by rfl)];rw?;rw[Bm _ _ (by decide)];rw?;rw[qM];rw?;rw[qN];rw?;exact xb (p.1,-1-cell / 20%7) (λhn=>absurd hn.2.1 (by omega)) _ rfl
  .rw[Bh _ _ (by decide),Bi _ _ (by decide),Bj _ _ (by decide),Bk _ _ (by decide),Bl _ _ (by decide)];unfold D1;rw?;unfold bg bQ;rw?;rw[uD];rw?;rw[if_pos fG];rw[Dq B' (nL _) (by rfl)];rw?;rw[qM];rw?;rw[qN];rw?;exact xb (p.1,(c.ag.length:Int)+cell / 20%7) (λhn=>absurd hn.2.2 (by omega)) _ rfl
def ym{m wide count s b:Nat}{t:List Bool}{r:Nat}(hm:m<=1)(hi:i<count)(hr:r<2^m):told (rg m wide count s b t) i r=o_ wide s t i/\(b=0\/m=0->nJ (rg m wide count s b t) i r=(i+1)%count):=by
 have e:(rg m wide count s b t).ag.getD i []=qS m wide count s b t i:=by
  show((List.range count).map _).getD i []=_;rw[List.getD_eq_getElem?_getD,w1i,w4p hi];rfl
 unfold told nJ;rw[e];unfold qS;rcases(show m=0\/m=1 by omega)with rfl|rfl
 .rw[show r=0 by simpa using hr];exact⟨rfl,λ_=>rfl⟩
 .rcases(show r=0\/r=1 by simp at hr;omega)with rfl|rfl
  .exact⟨rfl,λ_=>rfl⟩
  .exact⟨rfl,λh=>by
    rcases h with rfl|h
    .rfl
    .exact absurd h (by decide)⟩
def DR(m wide count s b)(t):(rg m wide count s b t).ag.length=count:=by
 show((List.range count).map _).length=_;rw[w0a,w0v]
def z95{wide:Nat}   (hm:m<=1)(ht:t=List.replicate wide false)(hc:(rg m wide count s b t).Og)(hI:(bf (fm (rg m wide count s b t) L) (kd (rg m wide count s b t) L 0) I).length=I):I=1:=by
 have hl:=DR m wide count s b t;have i3:=hc.pos
 have all:∀τ i j,i<count->j<count->kd (rg m wide count s b t) τ i=kd (rg m wide count s b t) τ j:=by
  intro τ
  induction τ with
  |zero=>intro i j _ _;rw[wL,wL]
  |succ τ ih=>
   intro i j hi hj;refine(wM hc (by rw[hl];exact hi) (by rw[hl];exact hj)).mpr λr hr=>⟨?_,?_⟩
   .rw[(ym hm hi hr).1,(ym hm hj hr).1];unfold o_;rw[ht];split<;>split<;>rfl
   grind [ye]
 have C:=D0 hc hI;have hT:=C.pos;rw[<- hI]
 have:∀x∈bf (fm (rg m wide count s b t) L) (kd (rg m wide count s b t) L 0) I,x=kd (rg m wide count s b t) L 0:=λx hx=>by
  obtain⟨i,hi,rfl⟩:=Qc (C.mem x hx);exact all L i 0 (by rwa [hl]at hi) (by omega)
 have nd:=C.nd;generalize bf (fm (rg m wide count s b t) L) (kd (rg m wide count s b t) L 0) I=T at hT this nd
 match T,hT with
 |[x],_=>rfl
 |x::y::r,_=>
  have e1:=this x (by simp);have e2:=this y (by simp);exact absurd (e1.trans e2.symm) (λz=>by subst z;simp at nd)
def dst(count s i:Nat):Nat:=if i<=s then s-i else count-i+s
def D6  (hi:i<count):(i+1)%count=if i+1=count then 0 else i+1:=by
 split
 .rename_i h;rw[h,Nat.mod_self]
 .exact Nat.mod_eq_of_lt (by omega)
def z96{m wide count s b:Nat}{t:List Bool}(hm:m<=1)(hs:s<count)(ht:t≠List.replicate wide false)(hb:b=0\/m=0)(hc:(rg m wide count s b t).Og):∀(n i j:Nat),i<count->j<count->dst count s i=n->(∀τ,kd (rg m wide count s b t) τ i=kd (rg m wide count s b t) τ j)->i=j:=by
 have hl:=DR m wide count s b t;have h2:0<2^m:=w2v m;intro n
 induction n with
 |zero=>
  intro i j hi hj hd h;have his:i=s:=by unfold dst at hd;split at hd<;>omega
  have:=((wM hc (by rw[hl];exact hi) (by rw[hl];exact hj)).mp (h 1) 0 h2).1
  simp_all [ym,o_]
 |succ n ih=>
  intro i j hi hj hd h
  have hn:∀τ,kd (rg m wide count s b t) τ ((i+1)%count)=kd (rg m wide count s b t) τ ((j+1)%count):=λτ=>by
   have:=((wM hc (by rw[hl];exact hi) (by rw[hl];exact hj)).mp (h (τ+1)) 0 h2).2
   rwa [(ym hm hi h2).2 hb,(ym hm hj h2).2 hb]at this
  have e:=ih _ _ (w4n _ (by omega)) (w4n _ (by omega)) (by
   rw[D6 hi];unfold dst at hd |-
   split at hd<;>split<;>split<;>omega) hn
  rw[D6 hi,D6 hj]at e;split at e<;>split at e<;>omega
def z97{wide:Nat}   (hm:m<=1)(hs:s<count)(ht:t≠List.replicate wide false)(hb:b=0\/m=0)(hc:(rg m wide count s b t).Og)(hS:lP (rg m wide count s b t) L)(hI:(bf (fm (rg m wide count s b t) L) (kd (rg m wide count s b t) L 0) I).length=I):I=count:=by
 have hl:=DR m wide count s b t;have h2:0<2^m:=w2v m;have C:=D0 hc hI
 have inj:∀i j,i<count->j<count->kd (rg m wide count s b t) L i=kd (rg m wide count s b t) L j->i=j:=λi j hi hj e=>
  z96 hm hs ht hb hc _ i j hi hj rfl λτ=>NY hc hS τ i j (by rw[hl];exact hi) (by rw[hl];exact hj) e
 have h0:kd (rg m wide count s b t) L 0∈bf (fm (rg m wide count s b t) L) (kd (rg m wide count s b t) L 0) I:=by
  obtain⟨z,hz⟩:=IY (fm (rg m wide count s b t) L) (kd (rg m wide count s b t) L 0) I;rw[hz];exact w1b ..
 have le:=C.len hc;rw[hl,hI]at le;generalize hT:bf (fm (rg m wide count s b t) L) (kd (rg m wide count s b t) L 0) I=T at C h0 hI
 have jQ:∀i,i<count->kd (rg m wide count s b t) L i∈T:=by
  intro i
  induction i with
  |zero=>exact λ_=>h0
  |succ i ih=>
   intro hi;have k:=ih (by omega);have kl:=C.mem _ k;have hr:rep (rg m wide count s b t) L (kd (rg m wide count s b t) L i)=i:=inj _ _ (by have:=tI kl;rwa [hl]at this) (by omega) (Qe kl);have jY:=hc.st _ (lq (c:=rg m wide count s b t) (i:=i) (by rw[hl];omega));refine C.cl _ k (told (rg m wide count s b t) i 0,kd (rg m wide count s b t) L (i+1)) ?_;unfold fm;rw[hr];refine w0q.mpr ⟨((rg m wide count s b t).ag.getD i []).getD 0 ([],0),?_,?_⟩
   .grind
   .have:=(ym (wide:=wide) (s:=s) (b:=b) (t:=t) hm (show i<count by omega) h2).2 hb;rw[D6 (by omega),if_neg (by omega)]at this;show(_,kd _ L (nJ (rg m wide count s b t) i 0))=_;rw[this];rfl
 have q:=wV T.length (l:=(List.range count).map λi=>T.idxOf (kd (rg m wide count s b t) L i)) (by
  grind [List.Pairwise.imp_of_mem,List.nodup_range,P9]) (λx hx=>by
  grind)
 rw[w0a,w0v,hI]at q;omega
def DC(K:Fg)(a:aP)(r:Nat->List W->FR):List S->SR:=
 (aq (aQ (ay (av eq2 (av bU (ar (r mS) (ae (af 0) (ae (dC (.int 4)) ah))) (dC (.int 3))) (dC (.int 1))))
  (aq (aF 5 (ar (r Cu) (ae (af 5) (ae (av bU (av dj (ar (r mS) (ae (af 0) (ae (dC (.int 4)) ah))) (dC (.int 3))) (dC (.int 6))) (ae (ar (r mS) (ae (af 0) (ae (dC (.int 5)) ah))) ah)))))
  (bN 9 (cA (ae (dC (.int 1)) (ae (dC (.int 1)) ah)))))
  (aQ (ay (av eq2 (af 6) (gm dq (dC (.int 1)))))
  (aL (dC (.bl true)))
  cB))
  (aL (gW (av eq2 (ar (r nN) (ae (dC (.int 0)) (ae (af 5) ah))) (eX 9 (dC (.int 0)))) (av eq2 (ar (r nN) (ae (dC (.int 1)) (ae (af 5) ah))) (eX 9 (dC (.int 1)))))))
def DB(K:Fg)(a:aP)(r:Nat->List W->FR):List S->SR:=
 (aq (aF 7 (dC (.int 0)))
  (aq (iV 8 (gN (cA (ae (dC (.int 1)) (ae (dC (.int 2)) (ae (dC (.int 4)) (ae (dC (.int 8)) ah))))))
  (Jo K a r))
  (aq (bN 9 (cA (ae (av i7 (dC (.int 2)) (cU i5 (ae (jW (av l4 (af 6) (dC (.int 16))) (av l4 (af 2) (dC (.int 6)))) ah))) (ae (dC (.int 0)) ah))))
  (aq (jX 9 (av i7 (dC (.int 2)) (cU i5 (ae (jW (av eq2 (eX 9 (dC (.int 0))) (dC (.int 2))) (av l4 (av bH (af 1) (af 7)) (dC (.int 4)))) ah))) (dC (.int 1)))
  (DC K a r)))))
theorem Y1(K)(a)(r):JK K a r =
 (aq (aF 1 (av bU (ar (r mS) (ae (af 0) (ae (dC (.int 0)) ah))) (dC (.int 2))))
  (aq (aF 2 (av bU (ar (r mS) (ae (af 0) (ae (dC (.int 1)) ah))) (dC (.int 13))))
  (aq (aF 3 (av bH (dC (.int 1)) (av bU (ar (r mS) (ae (af 0) (ae (dC (.int 2)) ah))) (dC (.int 20)))))
  (aq (aF 4 (ar (r mS) (ae (af 0) (ae (dC (.int 3)) ah))))
  (aq (aF 5 (ar (r CY) (ae (af 1) (ae (af 2) (ae (af 3) (ae (af 4) ah))))))
  (aq (aF 6 (af 3))
  (aq (aQ (ay (av j5 (dC (.bl true)) (av bh (av bh (av bh (av bh (af 5) (dC (.int 2))) (av bU (af 4) (af 3))) (dC (.int 0))) (dC (.int 0)))))
  (aF 6 (dC (.int 1)))
  cB)
  (aq (aQ (jU (ay (av eq2 (af 1) (dC (.int 1)))) (ay (av eq2 (av bU (av dj (af 4) (dC (.int 20))) (dC (.int 2))) (dC (.int 1)))))
  (aF 6 (gm dq (dC (.int 1))))
  cB)
  (DB K a r))))))))):=rfl
def yW(x){k:Nat}(h:0<k):∃m:Nat,x%(k:Int)=(m:Int)/\m<k:=by
 have h1:=w3o x (show(k:Int)≠0 by omega);have h2:=w3s x (show(0:Int)<(k:Int) by omega);exact⟨(x%(k:Int)).toNat,by omega,by omega⟩
def Y2(n)  (M:pb K mg a)(c)(hc:c.Og):∃(L I:Nat),lP c L/\(bf (fm c L) (kd c L 0) I).length=I /\
  run K a (n+123) nN [.int 0,aJ c]=.ok (.fr (.int (if 4<cN I\/6<c.wide then 2 else 0))) /\
  run K a (n+123) nN [.int 1,aJ c]=.ok (.fr (.int (if(4<cN I\/6<c.wide)\/4<c.m+cN I then 2 else 0))):=by
 obtain⟨L,I,ws,hS,hI,k1⟩:=XJ (K:=K) (a:=a) (n+116) c hc;have C:=D0 hc hI;have lo:=C.ok hc
 have Ca:(qt c L (bf (fm c L) (kd c L 0) I)).ag.length=I:=by
  show((bf (fm c L) (kd c L 0) I).map _).length=I;rw[w0a,hI]
 have lw:(qt c L (bf (fm c L) (kd c L 0) I)).wide=c.wide:=rfl;have lm:(qt c L (bf (fm c L) (kd c L 0) I)).m=c.m:=rfl;have k2:=TN (K:=K) (a:=a) (n+118) k1 lo.mo;have k3:=VN (K:=K) (a:=a) n lo k2;have k4:=Wv (K:=K) (a:=a) n lo k2;rw[Ca,lw]at k3 k4;rw[lm]at k4;refine⟨L,I,hS,hI,?_,?_⟩
 .split at k3
  .rename_i h;rw[if_pos h];exact LF M (n+121) (.inl ⟨rfl,k3⟩)
  .rename_i h;rw[if_neg h];obtain⟨w,k3⟩:=k3;exact XM (n+121) k3
 .split at k4
  .rename_i h;rw[if_pos h];exact LF M (n+121) (.inr ⟨rfl,k4⟩)
  .rename_i h;rw[if_neg h];obtain⟨w,k4⟩:=k4;exact XN (n+121) k4
def yn(u:Int):Int:=(if 1<u then 1 else 0)+(if 2<u then 1 else 0)+(if 4<u then 1 else 0)+(if 8<u then 1 else 0)
def Qh:∀I:Fin 21,0<I.val->(4<cN I.val↔16<I.val)/\(I.val<=16->yn (I.val:Int)=(cN I.val:Int)):=by decide +kernel
def xC(u:Int)(wide:Nat):Int:=2*(if 16<u\/6<(wide:Int)then 1 else 0)
def yU(u:Int)(m wide:Nat):Int:=2*(if xC u wide=2\/4<(m:Int)+yn u then 1 else 0)
def z4e(A C X)(m wide:Nat)(cnt u)(hm:m<=3)(hw:wide<=100):
  DB K a (run K a 148) [.fr A,.fr (.int (m:Int)),.fr (.int (wide:Int)),.fr (.int cnt),.fr C,.fr X,.fr (.int u),.no,.no,.no] =
  DC K a (run K a 148) [.fr A,.fr (.int (m:Int)),.fr (.int (wide:Int)),.fr (.int cnt),.fr C,.fr X,.fr (.int u),.fr (.int (yn u)),.fr (.int 8),.own none [.int (xC u wide),.int (yU u m wide)]]:=by
 unfold DB Jo;rw?;rw[pA];rw?;rw[pA];rw?;rw[pA];rw?;rw[pA];rw?;rw[Zs,Int.zero_add,show((((if 1<u then(1:Int)else 0)+if 2<u then 1 else 0)+if 4<u then 1 else 0)+if 8<u then 1 else 0)=yn u from rfl];unfold yU xC;generalize yn u=q;rw?
 by_cases h1:16<u
 .rw[if_pos h1];rw?;rw[show gG 2 1=some 1 from rfl];rw?;simp[h1]
 .rw[if_neg h1];rw?
  by_cases h2:6<(wide:Int)
  .rw[if_pos (by rw[if_pos h2];decide)];rw[show gG 2 1=some 1 from rfl];rw?;simp[h2]
  .rw[if_neg (by rw[if_neg h2];decide)];rw[show gG 2 1=some 1 from rfl];rw?;simp[h1,h2]
def Due(c:Mc)(u:Int)(wide:Nat):Prop:=run K a 148 nN [.int 0,aJ c]=.ok (.fr (.int (xC u wide)))/\run K a 148 nN [.int 1,aJ c]=.ok (.fr (.int (yU u c.m wide)))
def z4f(M:pb K mg a)(ns:List Int)(C)(wide)(cnt u q)(z)(c)(hc:c.Og)(hm:c.m<=1)(jt:c.ag.length<=20)(hu:u=-1\/u ≠ -1/\Due (K:=K) (a:=a) c u wide)(d):
  (DC K a (run K a 148) [.fr (.lst (ns.map .int)),.fr (.int (c.m:Int)),.fr (.int d),.fr (.int cnt),.fr C,.fr (aJ c),.fr (.int u),.fr (.int q),z,.own none [.int (xC u wide),.int (yU u c.m wide)]]).fn=.ok (.fr (.bl true)):=by
 unfold DC;rw?;rw[wQ 147 ns (by decide)];rw?
 by_cases h:ns.getD 4 0%3=1
 .rw[if_pos h];rw[wQ 147 ns (by decide)];rw?;rw[wQ 147 ns (by decide)];rw?;obtain⟨bF,hb,k1⟩:=V9 (K:=K) (a:=a) 147 c hc hm jt (ns.getD (Int.toNat 4) 0 / 3%6) (w3o _ (by decide)) (w3s _ (by decide)) (ns.getD (Int.toNat 5) 0);have b:=z4b (K:=K) (a:=a) 142 c.m c.wide (by omega) bF hb;have e0:=N4 M 146 (w0:=0) (m:=bE c.m c.wide bF) (.inl ⟨rfl,b.1⟩);have e1:=N4 M 146 (w0:=1) (m:=bE c.m c.wide bF) (.inr ⟨rfl,b.2⟩);simp only[Int.toNat]at k1;rw[k1];rw?;rw[e0];rw?;rw[e1];rw?
 .rw[if_neg h];rcases hu with rfl|⟨hu,h0,h1⟩
  .rw[if_pos (by decide)]
  .rw[if_neg hu,h0];rw?;rw[h1];rw?
theorem Qq:∀t:List Bool,(!(t.map W.bl).any λy=>mO y (.bl true))=decide (t=List.replicate t.length false)
 |[]=>rfl
 |b::t=>by
  have ih:=Qq t;rw[w0l,w2l,Bool.not_or,ih,show mO (W.bl b) (.bl true)=b by cases b<;>rfl];cases b<;>simp[w1s]
theorem Qi:∀t:List Bool,(t.map W.bl).all a_=true
 |[]=>rfl
 |b::t=>by rw[w0l,w2e,Qi t];rfl
def Q4(t):j5 (.bl true) (.tup (t.map .bl))=some (.bl (decide (t=List.replicate t.length false))):=by
 show(if a_ (.bl true)=true/\(t.map W.bl).all a_=true then some (W.bl (!(t.map W.bl).any λy=>mO y (.bl true)))else none)=_
 rw[if_pos ⟨rfl,Qi t⟩,Qq]
def P5  {wide:Nat}(hw:c.wide=wide)(h0:0<I)(h1:I<=20)(k0:run K a 148 nN [.int 0,aJ c]=.ok (.fr (.int (if 4<cN I\/6<c.wide then 2 else 0))))
  (k1:run K a 148 nN [.int 1,aJ c]=.ok (.fr (.int (if(4<cN I\/6<c.wide)\/4<c.m+cN I then 2 else 0)))):Due (K:=K) (a:=a) c (I:Int) wide:=by
 have a1:4<cN I↔16<I:=(Qh ⟨I,by omega⟩ h0).1;have a2:I<=16->yn (I:Int)=(cN I:Int):=(Qh ⟨I,by omega⟩ h0).2;subst hw;unfold Due yU xC
 grind
def y8o(M:pb K mg a)(ns)(hl:BS ns):run K a 149 JJ [.lst (ns.map .int)]=.ok (.fr (.bl true)):=by
 rw[z3g,Y1];rw?;rw[wQ 147 ns (by decide)];rw?;rw[wQ 147 ns (by decide)];rw?;rw[wQ 147 ns (by decide)];rw?;rw[wQ 147 ns (by decide)];rw?;obtain⟨m,hm,m1⟩:=yW (ns.getD 0 0) (k:=2) (by decide);obtain⟨wide,hw,w1⟩:=yW (ns.getD 1 0) (k:=13) (by decide);obtain⟨cnt,EI,c1⟩:=yW (ns.getD 2 0) (k:=20) (by decide);generalize ns.getD 3 0=cell;rw[show ns.getD 0 0%2=(m:Int)from hm,show ns.getD 1 0%13=(wide:Int)from hw,show 1+ns.getD 2 0%20=((cnt+1:Nat):Int) by rw[show ns.getD 2 0%20=(cnt:Int)from EI];omega];obtain⟨count,R5⟩:∃count,count=cnt+1:=⟨_,rfl⟩;rw[<- R5];obtain⟨s,hs,s1⟩:=yW cell (k:=count) (by omega);obtain⟨b,hb,b1⟩:=yW (cell / 20) (k:=2) (by decide);rw[Y0 146 cell (by omega) (by omega) (by omega) (by omega) hs hb];have tl:(tR cell wide).length=wide:=by unfold tR;rw[w0a,w0v]
 generalize tR cell wide=t at tl |-
 have og:=Q3 (m:=m) (wide:=wide) (count:=count) (s:=s) (b:=b) (t:=t) (by omega) (by omega) (by omega) (by omega) tl;have Ca:=DR m wide count s b t;rw?;rw[uW];rw?;rw[if_pos (show(0:Int)<(count:Int) by omega)];rw?;rw[hs,yl (by rw[Ca];exact s1)]
 rw[show(rg m wide count s b t).ag.getD s []=qS m wide count s b t s by
  show((List.range count).map _).getD s []=_
  grind]
 simp only[aB,qS,w0l,bg,bQ,o_,if_true];rw?;rw[Q4,tl];rw?
 have F:∀u:Int,(u=-1\/u ≠ -1/\Due (K:=K) (a:=a) (rg m wide count s b t) u wide)->(DB K a (run K a 148) [.fr (.lst (ns.map .int)),.fr (.int (m:Int)),.fr (.int (wide:Int)),.fr (.int (count:Int)),.fr (.int cell),.fr (aJ (rg m wide count s b t)),.fr (.int u),.no,.no,.no]).fn=.ok (.fr (.bl true)):=λu hu=>by
  rw[z4e _ _ _ m wide _ u (by omega) (by omega)];exact z4f M ns _ wide _ u _ _ (rg m wide count s b t) og (show m<=1 by omega) (by rw[Ca];omega) hu _
 obtain⟨L,I,hS,hI,k0,k1⟩:=Y2 (K:=K) (a:=a) 25 M (rg m wide count s b t) og;have l5:cell / 20%2=(b:Int):=hb;rw[l5]
 by_cases h2:m=1/\b=1
 .grind
 .have RZ:b=0\/m=0:=by omega
  have e:∀x y:FR,(if(m:Int)=1 then if(b:Int)=1 then x else y else y)=y:=λx y=>by
   split
   .rw[if_neg (by omega)]
   .rfl
  rw[e,e]
  by_cases ht:t=List.replicate wide false
  .rw[if_pos ht];have h1:=z95 (by omega) ht og hI;subst h1;exact F 1 (.inr ⟨by decide,P5 (I:=1) rfl (by decide) (by decide) k0 k1⟩)
  .rw[if_neg ht];have h1:=z97 (by omega) s1 ht RZ og hS hI;rw[h1]at k0 k1;exact F (count:Int) (.inr ⟨by omega,P5 rfl (by omega) (by omega) k0 k1⟩)
theorem walk{l:PySem.W.OpenLaw}{q:Program}{loose:List Str}{XP:(Str->Option Value)->Heap->Prop}{YP:World->Heap->Prop}{d:DefRec}{K:Params->Fg}{tabs:List (Addr×Str)}(hn:l.most=some 63)(sL:d.params.defaults=[])
  (hY:∀(w:World)(h:Heap),YP w h->(K w.params).In h)(hT:∀(w:World)(h:Heap),YP w h->∀P∈tabs.map (·.1),h.get? P=some (tabObj #[]))
  (hG:∀w:World,((D.dN (K w.params)).lookup mainGlobals).isSome=true)(zj:∀w:World,gL (K w.params)=true)(hd:tabs.all (λp=>tabs.lookup p.1==some p.2)=true)
  (hK:∀w:World,tabs.all (λp=>((D.dN (K w.params)).lookup p.1).isNone)=true)(hc:∀w:World,∀p∈tabs,∃c,codeHdIn (K w.params) c p.1=true)
  (F:∀(w:World)(mg:Str->Option Value)(fa:Addr)(h:Heap),(D.c8 (D.dN (K w.params)) tabs).In h->h.Ns mainGlobals mg->mg d.name=some (.ref fa) ->
   ∃fd:FuncData,(∀(s:Shared)(u:Value),BindsTo s fd ⟨[u],[]⟩ [("_law_script", u)])/\∀base:Heap,(D.c8 (D.dN (K w.params)) tabs).In base->base.Ns mainGlobals mg->BMain base mg->eC l.prog w (D.c8 (D.dN (K w.params)) tabs) mg base (eA l.prog w) 151 fa fd ["_law_script"] (lB (D.c8 (D.dN (K w.params)) tabs))):
  PySem.W.WalkO q loose XP YP l.row.toRowW d [] (λf vs=>PySem.call f vs):=
 L2.Xl (K:=λp=>D.c8 (D.dN (K p)) tabs) (tabs:=tabs) (n:=63) (k:=151) (x:="_law_script") (CX:=λw=>eA l.prog w) (sp:=λw=>lB (D.c8 (D.dN (K w.params)) tabs)) hn (by decide) sL ⟨rfl,by decide,by decide,rfl⟩ (λw h Y=>D.Fs (hG w) (D.Yh (hY w h Y))) F (λ_ _ a ns hl hb hS=>⟨a,ns,rfl,hS,⟨hl,hb⟩,λ_=>rfl⟩) (λ_ _ _ _ _ z=>z6f z)
  (λw=>D.VU (D.Vz (zj w)) hd) (λw h Y=>D.ZL (hY w h Y) (hT w h Y) (hc w)) (λw=>D.kF (hG w) (hK w))
end Q
open PySem PySem.W PyProof.Rows
set_option maxRecDepth 100000 in
set_option maxHeartbeats 0 in
theorem PySem.Challenge.cw_circuits_k68_made_refused_holds : PySem.Challenge.rw_circuits_k68_made_refused.Holds := by
 w_on; o_law; k_head; (case hw => w_witness2)
 k_fill
 refine Q.walk (l := PySem.Challenge.rw_circuits_k68_made_refused) (tabs := [(241, ("rarest" ++ ".<locals>.") ++ "<lambda>"), (286, ("small" ++ ".<locals>.") ++ "<lambda>")]) rfl rfl (fun w h Y => PySem.W.km_in_of Y) (fun w h Y => PySem.W.km_tabs_of Y) (fun w => by kernel_rfl) (fun w => by kernel_rfl) (by decide +kernel) (fun w => by kernel_rfl) (fun w => w2n.mpr ⟨⟨245, by kernel_rfl⟩, w2n.mpr ⟨⟨290, by kernel_rfl⟩, fun _ h => nomatch h⟩⟩) ?F
 case F =>
  intro w mg fa h KX G hmg;refine' Q.mk hmg ?zA ?zB ?zM ?zK 148 ?hL
  (case zA =>
   intro i h
   (iterate 49 (rcases i with _ | i; · exact Q.at_k KX G (D.ns_m (D.q2f (by k_is) (by kernel_rfl))) (D.q4p (D.q01 (by k_is) (by kernel_rfl))) (D.z87 (D.x6s (by k_is) (by kernel_rfl))) (D.z88 (by kernel_rfl)) fun _ _ _ _ _ _ => by first | exact Q.us1 fun _ => rfl | exact Q.us2 fun _ _ => rfl | exact Q.us3 fun _ _ _ => rfl | exact Q.us4 fun _ _ _ _ => rfl))
   exact absurd h (by omega))
  (case zB => constructor <;> first | exact mg_none_of KX G (D.ns_m (D.q2f (by k_is) (by kernel_rfl))) | exact ⟨_, mg_of KX G (D.ns_m (D.q2f (by k_is) (by kernel_rfl))), ⟨⟨_, (D.q4p (D.q01 (by k_is) (by kernel_rfl))), by kernel_rfl⟩⟩⟩)
  (case zM => constructor <;> first | trivial | exact mg_of KX G (D.ns_m (D.q2f (by k_is) (by kernel_rfl))) | exact D.no_m (by kernel_rfl) D.y69 | kernel_rfl)
  (case zK => exact w2n.mpr ⟨Q.mk_k (st := Q.s8 27) KX G (D.ns_m (D.q2f (by k_is) (by kernel_rfl))) (D.q4p (D.q01 (by k_is) (by kernel_rfl))) rfl (show codeHdIn _ _ 241 = true by kernel_rfl) (w0j _ (by simp; rfl)), w2n.mpr ⟨Q.mk_k (st := Q.s8 34) KX G (D.ns_m (D.q2f (by k_is) (by kernel_rfl))) (D.q4p (D.q01 (by k_is) (by kernel_rfl))) rfl (show codeHdIn _ _ 286 = true by kernel_rfl) (w0j _ (by simp; rfl)), fun _ h => nomatch h⟩⟩)
  (case hL => exact fun a M ns hl => Q.y8o M ns hl)
